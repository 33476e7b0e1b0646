import PyProof.Rows.All
import Wide.All
import OpenK.AllK
import Wide.FinOn
import Lean
import PyProof.EqAt
import PyProof.EqKinds
import PyProof.TupleCall
import PySem.Challenge.RW_noshortring_k55_webs_spliced
noncomputable section
set_option Elab.async false
set_option linter.all false
set_option maxRecDepth 100000
namespace L2
open PySem PySem.Spec PyProof.Rows
abbrev JL:=Sum Int Str
def Ss:JL→Value→Bool
 | .inl k,v => Value.isInt k v
 | .inr x,v => Value.isStrOf x v
def Xy (w:World):JL→Int
 | .inl k => hashInt k
 | .inr x => hashStr w x
theorem Al:∀ {k:JL} {v:Value},Ss k v = true→(∃ i t,k = Sum.inl i∧v = Value.int i t)∨(∃ x t,k = Sum.inr x∧v = Value.str x t)
 | .inl i,v,h => by
  obtain ⟨t,e⟩:=Value.isInt_shape (k:=i) (v:=v) h
  exact .inl ⟨i,t,rfl,e⟩
 | .inr x,v,h => by
  obtain ⟨t,e⟩:=Value.isStrOf_shape (x:=x) (v:=v) h
  exact .inr ⟨x,t,rfl,e⟩
theorem Tm (a b:Int):decide ((Sum.inl a:JL) = Sum.inl b) = (a == b):=by
 by_cases e:a = b
 ·subst e; simp
 ·have h:¬ (Sum.inl a:JL) = Sum.inl b:=fun q => e (Sum.inl.inj q)
  rw [decide_eq_false h]
  exact (beq_eq_false_iff_ne.mpr e).symm
theorem Tn (a b:Str):decide ((Sum.inr a:JL) = Sum.inr b) = decide (a = b):=by
 by_cases e:a = b
 ·subst e; simp
 ·have h:¬ (Sum.inr a:JL) = Sum.inr b:=fun q => e (Sum.inr.inj q)
  rw [decide_eq_false h,decide_eq_false e]
theorem To (a:Int) (b:Str):decide ((Sum.inl a:JL) = Sum.inr b) = false:=decide_eq_false (fun q => nomatch q)
theorem Tp (a:Str) (b:Int):decide ((Sum.inr a:JL) = Sum.inl b) = false:=decide_eq_false (fun q => nomatch q)
def IA (prog:Program) (w:World):PySem.KeyKind prog w JL where
 is:=Ss
 hash:=Xy w
 inj:=fun v a b ha hb => by
  rcases Al ha with ⟨i,t,rfl,rfl⟩ | ⟨x,t,rfl,rfl⟩
  ·rcases Al hb with ⟨j,u,rfl,e⟩ | ⟨y,u,rfl,e⟩
   ·injection e with e1 _; rw [e1]
   ·exact nomatch e
  ·rcases Al hb with ⟨j,u,rfl,e⟩ | ⟨y,u,rfl,e⟩
   ·exact nomatch e
   ·injection e with e1 _; rw [e1]
 byValue:=fun k v h => by
  rcases Al h with ⟨i,t,rfl,rfl⟩ | ⟨x,t,rfl,rfl⟩ <;> rfl
 pyHash:=fun hv h => by
  rcases Al hv with ⟨i,t,rfl,rfl⟩ | ⟨x,t,rfl,rfl⟩
  ·exact wpAny_pyHash_int h
  ·exact wpAny_pyHash_str h
 eqBool:=fun hu hv h => by
  rcases Al hu with ⟨i,t,rfl,rfl⟩ | ⟨x,t,rfl,rfl⟩
  ·rcases Al hv with ⟨j,u,rfl,rfl⟩ | ⟨y,u,rfl,rfl⟩
   ·rw [Tm] at h; exact wpAny_eqBool_int h
   ·rw [To] at h; exact SeqAt.EqAt.int_str i t y u _ _ _ _ h
  ·rcases Al hv with ⟨j,u,rfl,rfl⟩ | ⟨y,u,rfl,rfl⟩
   ·rw [Tp] at h; exact SeqAt.EqAt.str_int x t j u _ _ _ _ h
   ·rw [Tn] at h; exact wpAny_eqBool_str h
 «strs»:=fun k x t v h => by
  rcases Al h with ⟨i,u,rfl,e⟩ | ⟨y,u,rfl,e⟩
  ·exact nomatch e
  ·injection e with e1 _
   subst e1
   cases v <;> rfl
inductive V where
 | non | bl (b:Bool) | int (i:Int) | str (x:Str) | byt (b:Array UInt8) | flt (b:UInt64) | ref (a:Addr) | ty (n:String)
 deriving DecidableEq
def RelV:V→Value→Prop
 | .non,u => u = Value.none
 | .bl b,u => u = Value.bool b
 | .int i,u => ∃ t,u = Value.int i t
 | .str x,u => ∃ t,u = Value.str x t
 | .byt b,u => ∃ t,u = Value.bytes b t
 | .flt b,u => ∃ t,u = Value.float b t
 | .ref a,u => u = Value.ref a
 | .ty n,u => u = Value.type n
abbrev Vals:List V→List Value→Prop:=Paired RelV
theorem Vals.length {xs:List V} {us:List Value} (r:Vals xs us):xs.length = us.length:=Paired.length r
theorem Vals.get:∀ {xs:List V} {us:List Value} {i:Nat} {x:V},Vals xs us→xs[i]? = some x→∃ u,us[i]? = some u∧RelV x u
 | _,_,_,_,.nil,e => by simp at e
 | _,_,0,_,.cons r _,e => by simp at e; subst e; exact ⟨_,rfl,r⟩
 | _,_,i + 1,x,.cons _ t,e => by
  obtain ⟨u,h1,h2⟩:=Vals.get (i:=i) (x:=x) t (by simpa using e)
  exact ⟨u,by simpa using h1,h2⟩
theorem Vals.set {x:V} {u:Value} (r:RelV x u):∀ {xs:List V} {us:List Value} (i:Nat),Vals xs us→Vals (xs.set i x) (us.set i u)
 | _,_,_,.nil => .nil
 | _,_,0,.cons _ t => .cons r t
 | _,_,i + 1,.cons q t => .cons q (Vals.set r i t)
theorem Vals.append:∀ {xs ys:List V} {us ws:List Value},Vals xs us→Vals ys ws→Vals (xs ++ ys) (us ++ ws)
 | _,_,_,_,.nil,s => s
 | _,_,_,_,.cons r t,s => .cons r (Vals.append t s)
theorem Vals.take:∀ {xs:List V} {us:List Value} (n:Nat),Vals xs us→Vals (xs.take n) (us.take n)
 | _,_,0,_ => .nil
 | _,_,_ + 1,.nil => .nil
 | _,_,n + 1,.cons r t => .cons r (Vals.take n t)
theorem Vals.drop:∀ {xs:List V} {us:List Value} (n:Nat),Vals xs us→Vals (xs.drop n) (us.drop n)
 | _,_,0,r => r
 | _,_,_ + 1,.nil => .nil
 | _,_,n + 1,.cons _ t => Vals.drop n t
def RelO:Option V→Option Value→Prop
 | some v,some u => RelV v u
 | none,none => True
 | _,_ => False
def KV {κ:Type}:List (κ × V)→List (κ × Value)→Prop:=Paired fun (p:κ × V) (q:κ × Value) => p.1 = q.1∧RelV p.2 q.2
def kV:JL→V
 | .inl i => .int i
 | .inr x => .str x
inductive HO where
 /-- a list -/
 | lst (xs:List V)
 /-- a tuple (never changes) -/
 | tup (xs:List V)
 /-- a dict whose keys are ints and texts; one whose keys are tuples of ints and texts (the empty one is both) -/
 | dK (kvs:List (JL × V)) | dT (kvs:List (List JL × V))
 /-- a set of ints: its members,its size -/
 | set (S:Int→Bool) (n:Nat)
 /-- an instance of the class at C,its dict at dx,its attributes -/
 | ins (C dx:Addr) (fs:List (Str × V))
 /-- the dict of the instance at x -/
 | own (x:Addr)
 /-- the dict of an exception -/
 | xd (fs:List (Str × V))
 /-- a bound method,f of x -/
 | met (f x:Addr)
 /-- a range object lo,lo + 1,.. below hi -/
 | rng (lo hi:Int)
 /-- a thing that is known to the object (the script; a dict while a loop walks it): read,never written while it is so -/
 | frz (o:Obj) (u:HO)
 /-- a code object's table -/
 | tbl (ps:Array Value)
 /-- any other thing,by what is true of its one object (a def of one's own: SetO a S n:=HO.ext fun h => ..) -/
 | ext (φ:Heap→Prop)
abbrev Hp:=Addr→Option HO
def upd (H:Hp) (a:Addr) (o:HO):Hp:=fun b => if b = a then some o else H b
theorem AG {H:Hp} {a:Addr} {o:HO}:upd H a o a = some o:=by unfold upd; rw [if_pos rfl]
theorem AI {H:Hp} {a b:Addr} {o:HO} (h:b≠a):upd H a o b = H b:=by unfold upd; rw [if_neg h]
theorem Lh {H:Hp} {a:Addr} {o u:HO}:upd (upd H a o) a u = upd H a u:=by
 funext b; unfold upd; split <;> rfl
theorem AR {H:Hp} {a b:Addr} {o:HO} (h:H a = some o) (h':H b = none):a≠b:=by
 intro e; subst e; rw [h] at h'; cases h'
section
variable (P:Program) (w:World)
def ObjOk (H:Hp) (h:Heap) (a:Addr):HO→Prop
 | .lst xs => xs.length≤sizeLine∧∃ (its:List Value) (n:Nat),Vals xs its∧h.get? a = some { cls:=.type "list",data:=.seq its.toArray n }
 | .tup xs => xs.length≤sizeLine∧∃ its:List Value,Vals xs its∧IsTup h a its.toArray
 | .dK kvs => kvs.length≤sizeLine∧(a == sysModules) = false∧∃ vs,KV kvs vs∧h.DictOf (IA P w) a vs
 | .dT kvs => kvs.length≤sizeLine∧(a == sysModules) = false∧∃ xs:List (List JL × Addr × Value),
   Paired (fun (p:List JL × V) (q:List JL × Addr × Value) => p.1 = q.1∧H q.2.1 = some (.tup (p.1.map kV))∧RelV p.2 q.2.2) kvs xs ∧
   ∃ o es ep,h.get? a = some o∧o.ExactDict∧o.data = .dict es ep∧es.toList = xs.map (entryOfKey (tupleKind (IA P w)))∧(xs.map (·.1)).Nodup
 | .set S n => h.SetOf (intKind P w) a S n
 | .ins C dx fs => H dx = some (.own a)∧fs.length≤1000∧dx≠a∧h.get? a = some (PySem.W.instObj C dx) ∧
   ∃ mA,h.Ns1 dx mA∧(∀ f,RelO (fs.lookup f) (mA f))∧PySem.Within mA (fs.map (·.1))
 | .own _ => ∃ o,h.get? a = some o
 | .xd fs => ∃ mA,h.Ns1 a mA∧∀ f,RelO (fs.lookup f) (mA f)
 | .rng lo hi => ∃ t u v,h.get? a = some { cls:=.type "range",data:=.fields #[.int lo t,.int hi u,.int 1 v] }
 | .frz o u => h.get? a = some o∧ObjOk H h a u
 | .tbl ps => h.get? a = some { cls:=.none,data:=.fields ps }
 | .met f x => h.get? a = some (PySem.W.methodObj (.ref f) (.ref x))
 | .ext φ => φ h∧(∃ o,h.get? a = some o)∧∀ h1 h2:Heap,φ h1→(∀ o,h1.get? a = some o→h2.get? a = some o)→φ h2
def HOk (H:Hp) (h:Heap):Prop:=∀ a o,H a = some o→ObjOk P w H h a o
end
section
variable {P:Program} {w:World} {H H':Hp} {h h':Heap} {a:Addr} {o:HO}
theorem ObjOk.lt (x:ObjOk P w H h a o):a < h.objs.size:=by
 cases o with
 | lst xs => obtain ⟨_,_,_,_,e⟩:=x; exact Heap.lt_size e
 | tup xs => obtain ⟨_,_,_,p⟩:=x; exact p.lt
 | dK kvs => obtain ⟨_,_,_,_,o,_,_,e,_⟩:=x; exact Heap.lt_size e
 | dT kvs => obtain ⟨_,_,_,_,o,_,_,e,_⟩:=x; exact Heap.lt_size e
 | set S n => obtain ⟨o,_,_,_,e,_⟩:=x; exact Heap.lt_size e
 | ins C dx fs => obtain ⟨_,_,_,e,_⟩:=x; exact Heap.lt_size e
 | own y => obtain ⟨_,e⟩:=x; exact Heap.lt_size e
 | xd fs => obtain ⟨_,⟨_,_,_,e,_⟩,_⟩:=x; exact Heap.lt_size e
 | rng lo hi => obtain ⟨_,_,_,e⟩:=x; exact Heap.lt_size e
 | frz ob u => obtain ⟨e,_⟩:=x; exact Heap.lt_size e
 | tbl ps => exact Heap.lt_size (show h.get? a = some _ from x)
 | met f y => exact Heap.lt_size (show h.get? a = some _ from x)
 | ext φ => obtain ⟨_,⟨_,e⟩,_⟩:=x; exact Heap.lt_size e
theorem Paired.mapP {α β:Type} {F G:α→β→Prop}:∀ {l₁:List α} {l₂:List β},Paired F l₁ l₂→(∀ a b,F a b→G a b)→Paired G l₁ l₂
 | _,_,.nil,_ => .nil
 | _,_,.cons r t,f => .cons (f _ _ r) (Paired.mapP t f)
theorem ObjOk.stay (x:ObjOk P w H h a o) (k:∀ b u,(b = a∨H b = some (.own a))→h.get? b = some u→h'.get? b = some u)
  (ho:∀ b,H b = some (.own a)→H' b = some (.own a)) (ht:∀ b xs,H b = some (.tup xs)→H' b = some (.tup xs)):ObjOk P w H' h' a o:=by
 induction o with
 | lst xs => obtain ⟨z,its,n,r,e⟩:=x; exact ⟨z,its,n,r,k _ _ (.inl rfl) e⟩
 | tup xs => obtain ⟨z,its,r,ob,e,c⟩:=x; exact ⟨z,its,r,ob,k _ _ (.inl rfl) e,c⟩
 | dK kvs => obtain ⟨z,y,vs,r,ob,es,ep,e,c⟩:=x; exact ⟨z,y,vs,r,ob,es,ep,k _ _ (.inl rfl) e,c⟩
 | dT kvs =>
  obtain ⟨z,y,xs,r,ob,es,ep,e,c⟩:=x
  exact ⟨z,y,xs,Paired.mapP r fun p q z => ⟨z.1,ht _ _ z.2.1,z.2.2⟩,ob,es,ep,k _ _ (.inl rfl) e,c⟩
 | set S n => obtain ⟨ob,es,ep,t,e,c⟩:=x; exact ⟨ob,es,ep,t,k _ _ (.inl rfl) e,c⟩
 | ins C dx fs =>
  obtain ⟨d,z,ne,e,mA,⟨od,es,ep,e2,c⟩,r⟩:=x
  exact ⟨ho _ d,z,ne,k _ _ (.inl rfl) e,mA,⟨od,es,ep,k _ _ (.inr d) e2,c⟩,r⟩
 | own y => obtain ⟨ob,e⟩:=x; exact ⟨ob,k _ _ (.inl rfl) e⟩
 | xd fs => obtain ⟨mA,⟨od,es,ep,e,c⟩,r⟩:=x; exact ⟨mA,⟨od,es,ep,k _ _ (.inl rfl) e,c⟩,r⟩
 | rng lo hi => obtain ⟨t,u,v,e⟩:=x; exact ⟨t,u,v,k _ _ (.inl rfl) e⟩
 | frz ob u ih => obtain ⟨e,q⟩:=x; exact ⟨k _ _ (.inl rfl) e,ih q⟩
 | tbl ps =>
  have e:h.get? a = some { cls:=.none,data:=.fields ps }:=x
  show h'.get? a = some { cls:=.none,data:=.fields ps }
  exact k a _ (.inl rfl) e
 | met f y =>
  have e:h.get? a = some (PySem.W.methodObj (.ref f) (.ref y)):=x
  show h'.get? a = some (PySem.W.methodObj (.ref f) (.ref y))
  exact k a _ (.inl rfl) e
 | ext φ => obtain ⟨p,⟨o,e⟩,st⟩:=x; exact ⟨st _ _ p fun o q => k _ _ (.inl rfl) q,⟨o,k _ _ (.inl rfl) e⟩,st⟩
theorem HOk.lt (x:HOk P w H h) (e:H a = some o):a < h.objs.size:=(x a o e).lt
theorem HOk.fresh (x:HOk P w H h) (e:h.objs.size≤a):H a = none:=by
 cases q:H a with
 | none => rfl
 | some u => exact absurd (Nat.lt_of_lt_of_le (x.lt q) e) (Nat.lt_irrefl _)
theorem HOk.kept (x:HOk P w H h) (k:∀ b u,h.get? b = some u→h'.get? b = some u):HOk P w H h':=fun a o e =>
 (x a o e).stay (fun b u _ q => k b u q) (fun _ q => q) fun _ _ q => q
theorem HOk.laid (x:HOk P w H h) (k:∀ b u,h.get? b = some u→h'.get? b = some u) (hp:h.objs.size≤a) (new:ObjOk P w (upd H a o) h' a o):HOk P w (upd H a o) h':=fun b u e => by
 have hn:=x.fresh hp
 by_cases hb:b = a
 ·subst hb; rw [AG] at e; cases e; exact new
 ·rw [AI hb] at e
  exact (x b u e).stay (fun c v _ q => k c v q) (fun c q => by rw [AI (AR q hn)]; exact q) fun c xs q => by rw [AI (AR q hn)]; exact q
end
def Rd (H:Hp) (a:Addr) (u:HO):Prop:=H a = some u∨∃ o,H a = some (.frz o u)
theorem Rd.ok {P:Program} {w:World} {H:Hp} {h:Heap} {a:Addr} {u:HO} (r:Rd H a u) (x:HOk P w H h):ObjOk P w H h a u:=by
 rcases r with r | ⟨o,r⟩
 ·exact x a u r
 ·obtain ⟨_,q⟩:=x a _ r
  exact q
def Xj:Option HO→Prop
 | some (.lst _) => True
 | some (.dK _) => True
 | some (.dT _) => True
 | some (.set _ _) => True
 | some (.ins _ _ _) => True
 | some (.ext _) => True
 | _ => False
section
variable {P:Program} {w:World} {H:Hp} {h h':Heap} {x e:Addr} {o':HO}
theorem HOk.write (ok:HOk P w H h) (mu:Xj (H x)) (he:e = x∨H e = some (.own x)) (k:∀ b u,b≠e→h.get? b = some u→h'.get? b = some u) (heo:∃ u,h'.get? e = some u)
  (new:ObjOk P w (upd H x o') h' x o'):HOk P w (upd H x o') h':=fun b u q => by
 have nown:∀ c y,H c = some (.own y)→c≠x:=fun c y r z => by subst z; rw [r] at mu; exact mu
 have ntup:∀ c xs,H c = some (.tup xs)→c≠x:=fun c xs r z => by subst z; rw [r] at mu; exact mu
 by_cases hb:b = x
 ·subst hb; rw [AG] at q; cases q; exact new
 ·rw [AI hb] at q
  by_cases hbe:b = e
  ·have q':H b = some (.own x):=by
    rcases he with z | z
    ·exact absurd (hbe.trans z) hb
    ·rw [hbe]; exact z
   rw [q] at q'; cases q'
   obtain ⟨v,hv⟩:=heo
   exact ⟨v,by rw [hbe]; exact hv⟩
  ·refine (ok b u q).stay (fun c v hc r => k c v ?_ r) (fun c r => by rw [AI (nown c b r)]; exact r) fun c xs r => by rw [AI (ntup c xs r)]; exact r
   rcases hc with rfl | hc
   ·exact hbe
   ·rintro rfl
    rcases he with z | z
    ·exact nown c b hc z
    ·rw [hc] at z; cases z; exact hb rfl
end
structure Un (fs ex:List Addr) (H H':Hp) (h h':Heap):Prop where
 keep:∀ b o,h.get? b = some o→H b = none→b ∉ fs→b ∉ ex→h'.get? b = some o
 slot:∀ b o,h.get? b = some o→H b = none→b∈fs→b ∉ ex→∃ sl,h'.get? b = some { o with slots:=sl }
 free:∀ b o,h.get? b = some o→H b = none→b ∉ ex→H' b = none
 there:∀ b o,h.get? b = some o→b ∉ ex→∃ o',h'.get? b = some o'
 tups:∀ b xs,H b = some (.tup xs)→H' b = some (.tup xs)
 frzs:∀ b o u,H b = some (.frz o u)→H' b = some (.frz o u)
 tbls:∀ b ps,H b = some (.tbl ps)→∃ more,H' b = some (.tbl (ps ++ more))
section
variable {fs fs' ex ex':List Addr} {H H1 H2:Hp} {h h1 h2 h':Heap} {a x e:Addr} {o:HO}
theorem Un.any (u:Un fs ex H H1 h h1) {b:Addr} {ob:Obj} (q:h.get? b = some ob) (n:H b = none) (hx:b ∉ ex):∃ sl,h1.get? b = some { ob with slots:=sl }:=by
 by_cases hb:b∈fs
 ·exact u.slot b ob q n hb hx
 ·exact ⟨ob.slots,u.keep b ob q n hb hx⟩
theorem Un.kept (k:∀ b u,h.get? b = some u→h'.get? b = some u):Un fs ex H H h h' :=
 ⟨fun b ob q _ _ _ => k b ob q,fun b ob q _ _ _ => ⟨ob.slots,k b ob q⟩,fun _ _ _ n _ => n,fun b ob q _ => ⟨ob,k b ob q⟩,fun _ _ q => q,fun _ _ _ q => q,fun _ ps q => ⟨#[],by rw [q]; simp⟩⟩
theorem Un.refl:Un fs ex H H h h:=Un.kept fun _ _ q => q
theorem Un.laid (k:∀ b u,h.get? b = some u→h'.get? b = some u) (hp:h.objs.size≤a) (hn:H a = none):Un fs ex H (upd H a o) h h' where
 keep:=fun b u q _ _ _ => k b u q
 slot:=fun b u q _ _ _ => ⟨u.slots,k b u q⟩
 free:=fun b u q n _ => by rw [AI (Nat.ne_of_lt (Nat.lt_of_lt_of_le (Heap.lt_size q) hp))]; exact n
 there:=fun b u q _ => ⟨u,k b u q⟩
 tups:=fun b xs q => by rw [AI (AR q hn)]; exact q
 frzs:=fun b u xs q => by rw [AI (AR q hn)]; exact q
 tbls:=fun b ps q => ⟨#[],by rw [AI (AR q hn),q]; simp⟩
theorem Un.write (mu:Xj (H x)) (he:e = x∨H e = some (.own x)) (k:∀ b u,b≠e→h.get? b = some u→h'.get? b = some u) (heo:∃ u,h'.get? e = some u):Un fs ex H (upd H x o) h h':=by
 have hx:∀ b,H b = none→b≠x:=fun b n z => by subst z; rw [n] at mu; exact mu
 have hb:∀ b,H b = none→b≠e:=fun b n z => by
  subst z
  rcases he with r | r
  ·exact hx b n r
  ·rw [n] at r; cases r
 have hm:∀ b u,H b = some u→¬ Xj (some u)→b≠x:=fun b u q nm z => by subst z; rw [q] at mu; exact nm mu
 refine ⟨fun b u q n _ _ => k b u (hb b n) q,fun b u q n _ _ => ⟨u.slots,k b u (hb b n) q⟩,fun b u q n _ => by rw [AI (hx b n)]; exact n,fun b u q _ => ?_,
  fun b xs q => by rw [AI (hm b _ q fun z => z)]; exact q,fun b u xs q => by rw [AI (hm b _ q fun z => z)]; exact q,fun b ps q => ⟨#[],by rw [AI (hm b _ q fun z => z),q]; simp⟩⟩
 by_cases hbe:b = e
 ·subst hbe; exact heo
 ·exact ⟨u,k b u hbe q⟩
end
def Xl (h:Heap) (H:Hp):List Addr:=(List.range h.objs.size).filter fun a => (H a).isSome
def IB (h:Heap) (H:Hp):Heap:=PySem.W.hideAll h (Xl h H)
theorem Ms (h:Heap) (H:Hp):(IB h H).objs.size = h.objs.size:=PySem.W.hideAll_size _ _
theorem Nn {h:Heap} {H:Hp} {b:Addr} {o:Obj} (e:h.get? b = some o) (n:H b = none):(IB h H).get? b = some o :=
 PySem.W.hideAll_get _ e fun hm => by
  have q:(H b).isSome = true:=(List.mem_filter.mp hm).2
  rw [n] at q; simp at q
theorem Qz {h:Heap} {H:Hp} {b:Addr} {o:Obj} (e:(IB h H).get? b = some o):h.get? b = some o∧H b = none:=by
 have e':h.get? b = some o:=PySem.W.of_hideAll (Xl h H) e
 refine ⟨e',?_⟩
 cases q:H b with
 | none => rfl
 | some x =>
  have hm:b∈Xl h H:=List.mem_filter.mpr ⟨List.mem_range.mpr (Heap.lt_size e'),by simp [q]⟩
  have z:(IB h H).get? b = none:=PySem.W.hideAll_none (Xl h H) hm
  rw [z] at e; cases e
structure Mod (K:PySem.W.Frag) (mg:Str→Option Value) (base:Heap):Prop where
 kin:K.In base
 glob:base.Ns mainGlobals mg
 blt:∃ mb,base.Ns builtinsNs mb∧∀ x:Str,x≠"__name__"→mb x = bootBuiltins x
 nolimit:base.NoLimit
structure Cx where
 prog:Program
 w:World
 K:PySem.W.Frag
 mg:Str→Option Value
 base:Heap
 A:Around
 N:List Str
 s₀:Shared
 H₀:Hp
 env:Env
 outer:List Env
 stack:List Env
 ex:List Addr
 fn:Str→Bool
 calm:Bool
 pn:List (Addr × Obj)
 xe:Value→Shared→Prop
def Ej (l:List Env):List Addr:=l.filterMap (·.frame)
abbrev Cx.fs (X:Cx):List Addr:=Ej X.outer
def Vj (sc:Scope) (x:Str):Prop:=sc.names.lookup x = some .local∨sc.names.lookup x = some .cell∨sc.names.lookup x = some .free
def Qt (sc:Scope) (x:Str):Prop:=sc.names.lookup x = some .local∨sc.names.lookup x = some .cell
def Xz (env:Env) (h:Heap) (m:Str→Option Value) (x:Str) (u:Value):Prop :=
 (env.kindOf x = some .local∧m x = some u)∨((env.kindOf x = some .cell∨env.kindOf x = some .free)∧∃ c,env.cells.lookup x = some c∧h.IsCell c (some u))
structure Cx.Ok (X:Cx):Prop where
 mod:Mod X.K X.mg X.base
 kind:X.env.scope.kind = .function
 glob:X.env.globals = mainGlobals
 blt:X.env.builtins = builtinsNs
 above:X.s₀.heap.objs.size≤X.env.locals
 inj:∀ x y c,X.env.cells.lookup x = some c→X.env.cells.lookup y = some c→x = y
 has:∀ x,(X.env.kindOf x = some .cell∨X.env.kindOf x = some .free)→∃ c,X.env.cells.lookup x = some c
 cab:∀ x c,X.fn x = true→X.env.cells.lookup x = some c→X.s₀.heap.objs.size≤c
 hd:X.calm = true→X.A.handled = none
 frames:X.A.frames = some X.stack
 stk:X.stack = X.outer∨(X.stack = X.env :: X.outer∧X.env.frame = some X.env.locals)
 exf:∀ b∈X.ex,b≠X.env.locals∧∀ x c,X.env.cells.lookup x = some c→c≠b
 bs:∀ b o,X.base.get? b = some o→X.s₀.heap.get? b = some o∧X.H₀ b = none
 bsz:X.base.objs.size≤X.s₀.heap.objs.size
 noex:∀ b o,X.base.get? b = some o→b ∉ X.ex
 exfs:∀ b∈X.ex,b ∉ X.fs
 funs:X.s₀.heap.FunFrames X.base X.outer
 frf:∀ b∈X.fs,X.H₀ b = none
structure Inv (X:Cx) (pins:List (Addr × Obj)) (σ:List (Option V)) (H:Hp) (s:Shared):Prop where
 ok:X.Ok
 os:s.os = X.s₀.os
 bare:AllBare s.gens
 base:Un X.fs X.ex X.H₀ H X.s₀.heap s.heap
 loc:∃ m,s.heap.Ns X.env.locals m∧∀ (i:Nat) (x:Str) (v:V),X.N[i]? = some x→σ[i]? = some (some v)→Vj X.env.scope x→∃ u,RelV v u∧Xz X.env s.heap m x u
 cell:∀ x c,X.env.cells.lookup x = some c→∃ v,s.heap.IsCell c v
 free:H X.env.locals = none
 freeC:∀ x c,X.env.cells.lookup x = some c→H c = none
 pin:∀ p∈X.pn ++ pins,s.heap.get? p.1 = some p.2∧H p.1 = none∧p.1≠X.env.locals∧p.1 ∉ X.fs∧∀ v,p.2.data≠.cell v
 hok:HOk X.prog X.w H s.heap
 len:σ.length = X.N.length
section
variable {X:Cx} {pins:List (Addr × Obj)} {σ:List (Option V)} {H H':Hp} {s:Shared} {h':Heap}
theorem Cx.Ok.nofr (ok:X.Ok) {b:Addr} {o:Obj} (e:X.base.get? b = some o):b ∉ X.fs:=fun hb => by
 have:=(ok.funs.mem hb).1
 rw [e] at this; cases this
theorem Inv.bs (I:Inv X pins σ H s):∀ b o,X.base.get? b = some o→s.heap.get? b = some o∧H b = none:=fun b o e =>
 ⟨I.base.keep b o (I.ok.bs b o e).1 (I.ok.bs b o e).2 (I.ok.nofr e) (I.ok.noex b o e),I.base.free b o (I.ok.bs b o e).1 (I.ok.bs b o e).2 (I.ok.noex b o e)⟩
theorem Inv.bk (I:Inv X pins σ H s):∀ b o,X.base.get? b = some o→s.heap.get? b = some o:=fun b o e => (I.bs b o e).1
theorem Inv.mod (I:Inv X pins σ H s):Mod X.K X.mg X.base:=I.ok.mod
theorem Inv.kIn (I:Inv X pins σ H s):X.K.In s.heap:=I.ok.mod.kin.keeps I.bk
theorem Inv.lt (I:Inv X pins σ H s):X.env.locals < s.heap.objs.size:=let ⟨_,hn,_⟩:=I.loc; hn.lt
theorem Inv.sz (I:Inv X pins σ H s):X.s₀.heap.objs.size≤s.heap.objs.size:=Nat.le_trans I.ok.above (Nat.le_of_lt I.lt)
theorem Inv.nofs (I:Inv X pins σ H s) {a:Addr} (h:s.heap.objs.size≤a):a ∉ X.fs:=fun hb => by
 obtain ⟨_,o,ho,_⟩:=I.ok.funs.mem hb
 exact absurd (Nat.lt_of_lt_of_le (Heap.lt_size ho) (Nat.le_trans I.sz h)) (Nat.lt_irrefl _)
theorem Inv.cne (I:Inv X pins σ H s):∀ x c,X.env.cells.lookup x = some c→c≠X.env.locals:=fun x c e z => by
 obtain ⟨v,o,ho,hd⟩:=I.cell x c e
 obtain ⟨m,⟨o',es,ep,ho',hd',_⟩,_⟩:=I.loc
 rw [z,ho'] at ho; cases ho; rw [hd'] at hd; cases hd
theorem Inv.funs (I:Inv X pins σ H s):s.heap.FunFrames X.base X.outer:=by
 have all:∀ (l:List Env),(∀ b∈Ej l,b∈X.fs)→X.s₀.heap.FunFrames X.base l→s.heap.FunFrames X.base l:=by
  intro l
  induction l with
  | nil => intro _ _; trivial
  | cons env r ih =>
   intro hs hl
   obtain ⟨hk,⟨L,o,hf,hn,ho,hd⟩,hr⟩:=hl
   have hL:L∈X.fs:=hs L (by unfold Ej; rw [List.filterMap_cons,hf]; exact List.mem_cons_self)
   obtain ⟨sl,e⟩:=I.base.slot L o ho (I.ok.frf L hL) hL fun z => I.ok.exfs L z hL
   exact ⟨hk,⟨L,_,hf,hn,e,hd⟩,ih (fun b hb => hs b (by unfold Ej; rw [List.filterMap_cons,hf]; exact List.mem_cons_of_mem _ hb)) hr⟩
 exact all X.outer (fun _ hb => hb) I.ok.funs
theorem Inv.stack (I:Inv X pins σ H s):s.heap.FunFrames X.base X.stack:=by
 rcases I.ok.stk with e | ⟨e,hf⟩
 ·rw [e]; exact I.funs
 ·rw [e]
  obtain ⟨m,hn,_⟩:=I.loc
  refine .cons (by rw [I.ok.kind]; decide) hf hn ?_ I.funs
  exact Heap.get?_none_of_le (Nat.le_trans I.ok.bsz I.ok.above)
theorem Inv.stkSub (I:Inv X pins σ H s):∀ b∈Ej X.stack,b∈X.env.locals :: X.fs:=fun b hb => by
 rcases I.ok.stk with e | ⟨e,hf⟩
 ·rw [e] at hb; exact List.mem_cons_of_mem _ hb
 ·rw [e] at hb
  unfold Ej at hb
  rw [List.filterMap_cons,hf] at hb
  exact hb
theorem Inv.stkFree (I:Inv X pins σ H s):∀ b∈Ej X.stack,H b = none:=fun b hb => by
 rcases List.mem_cons.mp (I.stkSub b hb) with e | hb
 ·rw [e]; exact I.free
 ·obtain ⟨_,o,ho,_⟩:=I.ok.funs.mem hb
  exact I.base.free b o ho (I.ok.frf b hb) fun z => I.ok.exfs b z hb
theorem Inv.step {g':Array GenState} {t':Nat} {d':Drawn} {ch:List Addr} (I:Inv X pins σ H s)
  (hch:∀ b∈ch,(b∈X.ex∨X.s₀.heap.objs.size≤b)∧b≠X.env.locals∧(∀ x c,X.env.cells.lookup x = some c→c≠b)∧∀ p∈X.pn ++ pins,p.1≠b)
  (keep:∀ b o,b≠X.env.locals→b ∉ X.fs→b ∉ ch→s.heap.get? b = some o→H b = none→h'.get? b = some o)
  (slot:∀ b o,b≠X.env.locals→b∈X.fs→b ∉ ch→s.heap.get? b = some o→H b = none→∃ sl,h'.get? b = some { o with slots:=sl }) (free:∀ b o,b ∉ ch→s.heap.get? b = some o→H b = none→H' b = none)
  (there:∀ b o,b ∉ ch→s.heap.get? b = some o→∃ o',h'.get? b = some o')
  (tups:∀ b xs,H b = some (.tup xs)→H' b = some (.tup xs)) (frzs:∀ b o u,H b = some (.frz o u)→H' b = some (.frz o u)) (tbls:∀ b ps,H b = some (.tbl ps)→∃ more,H' b = some (.tbl (ps ++ more)))
  (ns:∀ m,s.heap.Ns X.env.locals m→h'.Ns X.env.locals m) (hok:HOk X.prog X.w H' h') (hg:AllBare g') :
  Inv X pins σ H' { s with heap:=h',gens:=g',drawn:=d',toks:=t' }:=by
 have neL:∀ b o,X.s₀.heap.get? b = some o→b≠X.env.locals:=fun b o e => Nat.ne_of_lt (Nat.lt_of_lt_of_le (Heap.lt_size e) I.ok.above)
 have neC:∀ b o,X.s₀.heap.get? b = some o→b ∉ X.ex→b ∉ ch:=fun b o e hx hb => by
  rcases (hch b hb).1 with z | z
  ·exact hx z
  ·exact absurd (Nat.lt_of_lt_of_le (Heap.lt_size e) z) (Nat.lt_irrefl _)
 have cellK:∀ x c,X.env.cells.lookup x = some c→∀ v,s.heap.IsCell c v→h'.IsCell c v:=fun x c e v ⟨o,ho,hd⟩ => by
  have nch:c ∉ ch:=fun z => (hch c z).2.2.1 x c e rfl
  by_cases hc:c∈X.fs
  ·obtain ⟨sl,q⟩:=slot c o (I.cne x c e) hc nch ho (I.freeC x c e)
   exact ⟨_,q,hd⟩
  ·exact ⟨o,keep c o (I.cne x c e) hc nch ho (I.freeC x c e),hd⟩
 refine ⟨I.ok,I.os,hg,⟨fun b o e n hb hx => ?_,fun b o e n hb hx => ?_,fun b o e n hx => ?_,fun b o e hx => ?_,fun b xs e => tups b xs (I.base.tups b xs e),fun b o xs e => frzs b o xs (I.base.frzs b o xs e),fun b ps e => ?_⟩,?_,fun x c e => ?_,?_,fun x c e => ?_,fun p hp => ?_,hok,I.len⟩
 ·exact keep b o (neL b o e) hb (neC b o e hx) (I.base.keep b o e n hb hx) (I.base.free b o e n hx)
 ·obtain ⟨sl,e1⟩:=I.base.slot b o e n hb hx
  obtain ⟨sl',e2⟩:=slot b _ (neL b o e) hb (neC b o e hx) e1 (I.base.free b o e n hx)
  exact ⟨sl',e2⟩
 ·obtain ⟨o',e1⟩:=I.base.there b o e hx
  exact free b o' (neC b o e hx) e1 (I.base.free b o e n hx)
 ·obtain ⟨o',e1⟩:=I.base.there b o e hx
  exact there b o' (neC b o e hx) e1
 ·obtain ⟨m1,e1⟩:=I.base.tbls b ps e
  obtain ⟨m2,e2⟩:=tbls b _ e1
  exact ⟨m1 ++ m2,by rw [e2,Array.append_assoc]⟩
 ·obtain ⟨m,hn,hl⟩:=I.loc
  refine ⟨m,ns m hn,fun i x v e1 e2 e3 => ?_⟩
  obtain ⟨u,r,l⟩:=hl i x v e1 e2 e3
  refine ⟨u,r,?_⟩
  rcases l with l | ⟨k,c,e,z⟩
  ·exact .inl l
  ·exact .inr ⟨k,c,e,cellK x c e _ z⟩
 ·obtain ⟨v,z⟩:=I.cell x c e
  exact ⟨v,cellK x c e v z⟩
 ·obtain ⟨m,⟨o,_,_,ho,_⟩,_⟩:=I.loc
  exact free _ o (fun z => (hch _ z).2.1 rfl) ho I.free
 ·obtain ⟨v,o,ho,hd⟩:=I.cell x c e
  exact free c o (fun z => (hch c z).2.2.1 x c e rfl) ho (I.freeC x c e)
 ·obtain ⟨e,n,ne,nf,d⟩:=I.pin p hp
  have nch:p.1 ∉ ch:=fun z => (hch p.1 z).2.2.2 p hp rfl
  exact ⟨keep p.1 p.2 ne nf nch e n,free p.1 p.2 nch e n,ne,nf,d⟩
theorem Inv.un {t':Nat} (I:Inv X pins σ H s) (u:Un X.fs [] H H' s.heap h') (hok:HOk X.prog X.w H' h'):Inv X pins σ H' { s with heap:=h',toks:=t' }:=by
 obtain ⟨m,⟨o,es,ep,ho,r⟩,_⟩:=id I.loc
 obtain ⟨sl,hL⟩:=u.any ho I.free (by simp)
 exact I.step (g':=s.gens) (d':=s.drawn) (ch:=[]) (fun _ z => nomatch z) (fun b o _ hb _ e n => u.keep b o e n hb (by simp)) (fun b o _ hb _ e n => u.slot b o e n hb (by simp)) (fun b o _ e n => u.free b o e n (by simp)) (fun b o _ e => u.there b o e (by simp)) u.tups u.frzs u.tbls (fun m' hm => by
  obtain ⟨o',es',ep',ho',r'⟩:=hm
  rw [ho] at ho'; cases ho'
  exact ⟨_,es',ep',hL,r'⟩) hok I.bare
theorem Inv.call {g':Array GenState} {t':Nat} {d':Drawn} {ch:List Addr} (I:Inv X pins σ H s) (u:Un (Ej X.stack) ch H H' s.heap h') (hok:HOk X.prog X.w H' h') (hg:AllBare g')
  (hch:∀ b∈ch,(b∈X.ex∨X.s₀.heap.objs.size≤b)∧b≠X.env.locals∧(∀ x c,X.env.cells.lookup x = some c→c≠b)∧∀ p∈X.pn ++ pins,p.1≠b) :
  Inv X pins σ H' { s with heap:=h',gens:=g',drawn:=d',toks:=t' }:=by
 obtain ⟨m,⟨o,es,ep,ho,r⟩,_⟩:=id I.loc
 obtain ⟨sl,hL⟩:=u.any ho I.free fun z => (hch _ z).2.1 rfl
 exact I.step (ch:=ch) hch (fun b o hL hb hc e n => u.keep b o e n (fun z => (List.mem_cons.mp (I.stkSub b z)).elim hL hb) hc) (fun b o _ _ hc e n => u.any e n hc) (fun b o hc e n => u.free b o e n hc) (fun b o hc e => u.there b o e hc) u.tups u.frzs u.tbls (fun m' hm => by
  obtain ⟨o',es',ep',ho',r'⟩:=hm
  rw [ho] at ho'; cases ho'
  exact ⟨_,es',ep',hL,r'⟩) hok hg
theorem Inv.turned {t':Nat} {it:Addr} (I:Inv X pins σ H s) (k:∀ b o,b≠it→s.heap.get? b = some o→h'.get? b = some o) (hn:H it = none) (hL:it≠X.env.locals)
  (h1:it∈X.ex∨X.s₀.heap.objs.size≤it) (h2:∀ x c,X.env.cells.lookup x = some c→c≠it) (h3:∀ p∈X.pn ++ pins,p.1≠it):Inv X pins σ H { s with heap:=h',toks:=t' }:=by
 have nit:∀ b u,H b = some u→b≠it:=fun b u e z => by rw [z,hn] at e; cases e
 refine I.step (g':=s.gens) (d':=s.drawn) (ch:=[it]) (fun b hb => ?_) (fun b o _ _ hc e _ => k b o (fun z => hc (by simp [z])) e) (fun b o _ _ hc e _ => ⟨o.slots,k b o (fun z => hc (by simp [z])) e⟩) (fun _ _ _ _ n => n)
  (fun b o hc e => ⟨o,k b o (fun z => hc (by simp [z])) e⟩) (fun _ _ e => e) (fun _ _ _ e => e) (fun b ps e => ⟨#[],by rw [e]; simp⟩) (fun m hm => ?_) (fun b u e => ?_) I.bare
 ·have e:b = it:=by simpa using hb
  subst e
  exact ⟨h1,hL,h2,h3⟩
 ·obtain ⟨o,es,ep,ho,r⟩:=hm
  exact ⟨o,es,ep,k _ o (Ne.symm hL) ho,r⟩
 ·refine (I.hok b u e).stay (fun c v hc q => k c v ?_ q) (fun _ q => q) fun _ _ q => q
  rcases hc with z | z
  ·rw [z]; exact nit b u e
  ·exact nit c _ z
theorem Inv.tok (I:Inv X pins σ H s) (t:Nat):Inv X pins σ H { s with toks:=t }:=I.un (h':=s.heap) (t':=t) Un.refl I.hok
theorem Inv.kept {t':Nat} (I:Inv X pins σ H s) (k:∀ b u,s.heap.get? b = some u→h'.get? b = some u):Inv X pins σ H { s with heap:=h',toks:=t' }:=I.un (Un.kept k) (I.hok.kept k)
theorem Inv.laid {a:Addr} {o:HO} {t':Nat} (I:Inv X pins σ H s) (k:∀ b u,s.heap.get? b = some u→h'.get? b = some u) (hp:s.heap.objs.size≤a) (new:ObjOk X.prog X.w (upd H a o) h' a o) :
  Inv X pins σ (upd H a o) { s with heap:=h',toks:=t' }:=I.un (Un.laid k hp (I.hok.fresh hp)) (I.hok.laid k hp new)
theorem Inv.write {x e:Addr} {o:HO} {t':Nat} (I:Inv X pins σ H s) (mu:Xj (H x)) (he:e = x∨H e = some (.own x)) (k:∀ b u,b≠e→s.heap.get? b = some u→h'.get? b = some u) (heo:∃ u,h'.get? e = some u)
  (new:ObjOk X.prog X.w (upd H x o) h' x o):Inv X pins σ (upd H x o) { s with heap:=h',toks:=t' }:=I.un (Un.write mu he k heo) (I.hok.write mu he k heo new)
theorem Inv.weak {σ':List (Option V)} (I:Inv X pins σ H s) (hl:σ'.length = σ.length) (w:∀ (i:Nat) v,σ'[i]? = some (some v)→σ[i]? = some (some v)):Inv X pins σ' H s :=
 ⟨I.ok,I.os,I.bare,I.base,let ⟨m,hn,hl'⟩:=I.loc; ⟨m,hn,fun i x v e1 e2 e3 => hl' i x v e1 (w i v e2) e3⟩,I.cell,I.free,I.freeC,I.pin,I.hok,hl.trans I.len⟩
theorem Inv.pins_of {pins':List (Addr × Obj)} (I:Inv X pins σ H s) (h:∀ p∈pins',s.heap.get? p.1 = some p.2∧H p.1 = none∧p.1≠X.env.locals∧p.1 ∉ X.fs∧∀ v,p.2.data≠.cell v):Inv X pins' σ H s :=
 ⟨I.ok,I.os,I.bare,I.base,I.loc,I.cell,I.free,I.freeC,fun p hp => (List.mem_append.mp hp).elim (fun z => I.pin p (List.mem_append_left _ z)) (h p),I.hok,I.len⟩
theorem Fm {N:List Str} (hN:N.Nodup) {i j:Nat} {x:Str} (a:N[i]? = some x) (b:N[j]? = some x):i = j:=by
 obtain ⟨h1,e1⟩:=List.getElem?_eq_some_iff.mp a
 obtain ⟨h2,e2⟩:=List.getElem?_eq_some_iff.mp b
 exact (List.getElem_inj hN).mp (e1.trans e2.symm)
theorem HH {M:Model} {A:Around} {E:Value→Shared→Prop} {i:Nat} {x:Str} {v:V} {u:Value} {Q:Unit→Shared→Prop} (I:Inv X pins σ H s) (hN:X.N.Nodup) (hi:X.N[i]? = some x) (hx:Qt X.env.scope x) (r:RelV v u)
  (h:∀ s',Inv X pins (σ.set i (some v)) H s'→(∃ a,Heap.SameBut a s.heap s'.heap∧(a = X.env.locals∨X.env.cells.lookup x = some a))→Q () s') (hf:X.fn x = true∨X.env.scope.names.lookup x = some .local:=by first | exact .inl rfl | exact .inr rfl | assumption):wpAny M A (storeName X.env x u) Q E s:=by
 obtain ⟨m,hn,hl⟩:=id I.loc
 have hcls:(X.env.scope.kind == .class || (X.env.scope.kind == .module && X.env.locals != X.env.globals)) = false:=by rw [I.ok.kind]; rfl
 have hiσ:i < σ.length:=by rw [I.len]; exact (List.getElem?_eq_some_iff.mp hi).1
 have cne:=I.cne
 have tracked:∀ {a:Addr} {h':Heap},(∃ o,s.heap.get? a = some o∧H a = none)→Heap.SameBut a s.heap h'→HOk X.prog X.w H h':=fun {a h'} ha hs b ob e => by
  obtain ⟨_,_,hfree⟩:=ha
  refine (I.hok b ob e).stay (fun c w' hc q => (hs.2 c ?_).trans q) (fun _ q => q) fun _ _ q => q
  rintro rfl
  rcases hc with rfl | hc
  ·rw [hfree] at e; cases e
  ·rw [hfree] at hc; cases hc
 rcases hx with hk | hk
 ·refine wpAny_storeName_local hk hn (fun h' hn' hs => ?_) hcls
  obtain ⟨oL,_,_,hoL,_⟩:=id hn
  refine h _ ⟨I.ok,I.os,I.bare,⟨fun b o e n hb hx => ?_,fun b o e n hb hx => ?_,I.base.free,fun b o e hx => ?_,I.base.tups,I.base.frzs,I.base.tbls⟩,⟨_,hn',fun j y v' e1 e2 e3 => ?_⟩,fun y c e => ?_,I.free,I.freeC,fun p hp => ?_,tracked ⟨oL,hoL,I.free⟩ hs,by simpa using I.len⟩ ⟨_,hs,.inl rfl⟩
  ·exact (hs.2 b (Nat.ne_of_lt (Nat.lt_of_lt_of_le (Heap.lt_size e) I.ok.above))).trans (I.base.keep b o e n hb hx)
  ·obtain ⟨sl,e1⟩:=I.base.slot b o e n hb hx
   exact ⟨sl,(hs.2 b (Nat.ne_of_lt (Nat.lt_of_lt_of_le (Heap.lt_size e) I.ok.above))).trans e1⟩
  ·obtain ⟨o',e1⟩:=I.base.there b o e hx
   exact ⟨o',(hs.2 b (Nat.ne_of_lt (Nat.lt_of_lt_of_le (Heap.lt_size e) I.ok.above))).trans e1⟩
  ·by_cases hj:j = i
   ·subst hj
    rw [hi] at e1; cases e1
    rw [List.getElem?_set_self hiσ] at e2
    cases e2
    exact ⟨u,r,.inl ⟨hk,by simp⟩⟩
   ·rw [List.getElem?_set_ne (Ne.symm hj)] at e2
    obtain ⟨u',r',q⟩:=hl j y v' e1 e2 e3
    refine ⟨u',r',?_⟩
    rcases q with ⟨k,e⟩ | ⟨k,c,e,z⟩
    ·refine .inl ⟨k,?_⟩
     have:y≠x:=fun e => hj (Fm hN e1 (e ▸ hi))
     simp [this,e]
    ·exact .inr ⟨k,c,e,z.sameBut hs (cne y c e)⟩
  ·obtain ⟨w',z⟩:=I.cell y c e
   exact ⟨w',z.sameBut hs (cne y c e)⟩
  ·obtain ⟨e,n,ne,nf,d⟩:=I.pin p hp
   exact ⟨(hs.2 p.1 ne).trans e,n,ne,nf,d⟩
 ·have hfn:X.fn x = true:=by
   rcases hf with z | z
   ·exact z
   ·rw [z] at hk; cases hk
  obtain ⟨c,hc⟩:=I.ok.has x (.inl hk)
  obtain ⟨w',z⟩:=I.cell x c hc
  refine wpAny_storeName_cell I.ok.kind hk hc z (fun h' hc' hs => ?_)
  obtain ⟨oc,hoc,hocd⟩:=id z
  refine h { s with heap:=h' } ⟨I.ok,I.os,I.bare,⟨fun b o e n hb hx => ?_,fun b o e n hb hx => ?_,I.base.free,fun b o e hx => ?_,I.base.tups,I.base.frzs,I.base.tbls⟩,⟨m,hn.sameBut hs (Ne.symm (cne x c hc)),fun j y v' e1 e2 e3 => ?_⟩,fun y c' e => ?_,I.free,I.freeC,fun p hp => ?_,tracked ⟨oc,hoc,I.freeC x c hc⟩ hs,by simpa using I.len⟩ ⟨c,hs,.inr hc⟩
  ·exact (hs.2 b (Nat.ne_of_lt (Nat.lt_of_lt_of_le (Heap.lt_size e) (I.ok.cab x c hfn hc)))).trans (I.base.keep b o e n hb hx)
  ·obtain ⟨sl,e1⟩:=I.base.slot b o e n hb hx
   exact ⟨sl,(hs.2 b (Nat.ne_of_lt (Nat.lt_of_lt_of_le (Heap.lt_size e) (I.ok.cab x c hfn hc)))).trans e1⟩
  ·obtain ⟨o',e1⟩:=I.base.there b o e hx
   exact ⟨o',(hs.2 b (Nat.ne_of_lt (Nat.lt_of_lt_of_le (Heap.lt_size e) (I.ok.cab x c hfn hc)))).trans e1⟩
  ·by_cases hj:j = i
   ·subst hj
    rw [hi] at e1; cases e1
    rw [List.getElem?_set_self hiσ] at e2
    cases e2
    exact ⟨u,r,.inr ⟨.inl hk,c,hc,hc'⟩⟩
   ·rw [List.getElem?_set_ne (Ne.symm hj)] at e2
    obtain ⟨u',r',q⟩:=hl j y v' e1 e2 e3
    refine ⟨u',r',?_⟩
    rcases q with q | ⟨k,c',e,z'⟩
    ·exact .inl q
    ·refine .inr ⟨k,c',e,z'.sameBut hs ?_⟩
     rintro rfl
     exact hj (Fm hN e1 (I.ok.inj _ _ _ e hc ▸ hi))
  ·by_cases hcc:c' = c
   ·subst hcc; exact ⟨_,hc'⟩
   ·obtain ⟨w2,z2⟩:=I.cell y c' e
    exact ⟨w2,z2.sameBut hs hcc⟩
  ·obtain ⟨e,n,ne,nf,d⟩:=I.pin p hp
   refine ⟨(hs.2 p.1 ?_).trans e,n,ne,nf,d⟩
   intro q
   rw [q,hoc] at e
   have q':oc = p.2:=Option.some.inj e
   exact d w' (by rw [← q']; exact hocd)
theorem Fn {M:Model} {A:Around} {E:Value→Shared→Prop} {i:Nat} {x:Str} {v:V} {u:Value} {Q:Unit→Shared→Prop} (I:Inv X pins σ H s) (hN:X.N.Nodup) (hi:X.N[i]? = some x) (hx:Qt X.env.scope x) (r:RelV v u)
  (h:∀ s',Inv X pins (σ.set i (some v)) H s'→Q () s') (hf:X.fn x = true∨X.env.scope.names.lookup x = some .local:=by first | exact .inl rfl | exact .inr rfl | assumption):wpAny M A (storeName X.env x u) Q E s :=
 HH I hN hi hx r (fun s' I' _ => h s' I') hf
theorem Inv.call' {s':Shared} {ch:List Addr} (I:Inv X pins σ H s) (ho:s'.os = s.os) (u:Un (Ej X.stack) ch H H' s.heap s'.heap) (hok:HOk X.prog X.w H' s'.heap) (hg:AllBare s'.gens)
  (hch:∀ b∈ch,(b∈X.ex∨X.s₀.heap.objs.size≤b)∧b≠X.env.locals∧(∀ x c,X.env.cells.lookup x = some c→c≠b)∧∀ p∈X.pn ++ pins,p.1≠b):Inv X pins σ H' s':=by
 obtain ⟨h',g',d',t',o'⟩:=s'
 have e:o' = s.os:=ho
 subst e
 exact I.call (g':=g') (t':=t') (d':=d') u hok hg hch
end
abbrev XK:=Value→Option Addr→Hp→Prop
abbrev St:=List (Option V)
abbrev VK:=V→Hp→Prop
abbrev TE:=St→Hp→VK→Prop
abbrev TT:=St→Hp→(Bool→Hp→Prop)→Prop
abbrev TA:=St→Hp→(List V→Hp→Prop)→Prop
structure Ends where
 nx:St→Hp→Prop
 rt:VK
 bk:St→Hp→Prop:=fun _ _ => False
 ct:St→Hp→Prop:=fun _ _ => False
abbrev TS:=Ends→St→Hp→Prop
def EP (X:Cx) (pins:List (Addr × Obj)) (σ:St) (Q:VK) (u:Value) (s':Shared):Prop:=∃ v H',Inv X pins σ H' s'∧RelV v u∧Q v H'
def TP (X:Cx) (pins:List (Addr × Obj)) (σ:St) (Q:Bool→Hp→Prop) (b:Bool) (s':Shared):Prop:=∃ H',Inv X pins σ H' s'∧Q b H'
def AP (X:Cx) (pins:List (Addr × Obj)) (σ:St) (Q:List V→Hp→Prop) (us:List Value) (s':Shared):Prop:=∃ vs H',Inv X pins σ H' s'∧Vals vs us∧Q vs H'
def SP (X:Cx) (pins:List (Addr × Obj)) (D:Ends) (f:Flow) (s':Shared):Prop :=
 match f with
 | .next => ∃ σ' H',Inv X pins σ' H' s'∧D.nx σ' H'
 | .brk => ∃ σ' H',Inv X pins σ' H' s'∧D.bk σ' H'
 | .cont => ∃ σ' H',Inv X pins σ' H' s'∧D.ct σ' H'
 | .ret u => ∃ v σ' H',Inv X pins σ' H' s'∧RelV v u∧D.rt v H'
def PE (X:Cx) (e:Expr) (t:TE):Prop :=
 ∀ (pins:List (Addr × Obj)) (s:Shared) (σ:St) (H:Hp) (Q:VK),Inv X pins σ H s→t σ H Q→wpAny (model X.prog X.w) X.A (eval e X.env) (EP X pins σ Q) X.xe s
def PT (X:Cx) (e:Expr) (t:TT):Prop :=
 ∀ (pins:List (Addr × Obj)) (s:Shared) (σ:St) (H:Hp) (Q:Bool→Hp→Prop),Inv X pins σ H s→t σ H Q→wpAny (model X.prog X.w) X.A (isTrue e X.env (eval e X.env)) (TP X pins σ Q) X.xe s
def PW (X:Cx) (e:Expr) (t:TT):Prop :=
 ∀ (whole:Sem Value) (pins:List (Addr × Obj)) (s:Shared) (σ:St) (H:Hp) (Q:Bool→Hp→Prop),Inv X pins σ H s→t σ H Q→wpAny (model X.prog X.w) X.A (isTrue e X.env whole) (TP X pins σ Q) X.xe s
theorem PW.pt {X:Cx} {e:Expr} {t:TT} (h:PW X e t):PT X e t:=h _
def PA (X:Cx) (es:List Expr) (t:TA):Prop :=
 ∀ (pos:Pos) (pins:List (Addr × Obj)) (s:Shared) (σ:St) (H:Hp) (Q:List V→Hp→Prop),Inv X pins σ H s→t σ H Q→wpAny (model X.prog X.w) X.A (spliced (backTo pos (starEach es X.env))) (AP X pins σ Q) X.xe s
def PS (X:Cx) (st:Stmt) (t:TS):Prop :=
 ∀ (pins:List (Addr × Obj)) (s:Shared) (σ:St) (H:Hp) (D:Ends),Inv X pins σ H s→t D σ H→wpAny (model X.prog X.w) X.A (exec st X.env) (SP X pins D) X.xe s
def PSs (X:Cx) (st:List Stmt) (t:TS):Prop :=
 ∀ (pins:List (Addr × Obj)) (s:Shared) (σ:St) (H:Hp) (D:Ends),Inv X pins σ H s→t D σ H→wpAny (model X.prog X.w) X.A (execs st X.env) (SP X pins D) X.xe s
theorem Ap {α:Type} {t:Sem α} {Q Q':α→Shared→Prop} {M:Model} {A:Around} {E:Value→Shared→Prop} {s:Shared} (h:wpAny M A t Q E s) (hQ:∀ a s,Q a s→Q' a s):wpAny M A t Q' E s:=wpAny_mono h hQ fun _ _ x => x
section
variable {X:Cx}
def Vn (i:Nat):TE:=fun σ H Q => ∃ v,σ[i]? = some (some v)∧Q v H
def tC (v:V):TE:=fun _ H Q => Q v H
theorem No {i:Nat} {x:Str} {pos:Pos} (hN:X.N[i]? = some x) (hv:Vj X.env.scope x) (hd:(x == ("__debug__" : Str)) = false:=by decide) (hcd:(x == ("__classdict__" : Str)) = false:=by decide):PE X (.Name x pos) (Vn i):=by
 intro pins s σ H Q I h
 obtain ⟨v,e,h⟩:=h
 obtain ⟨m,hn,hl⟩:=I.loc
 obtain ⟨u,r,l⟩:=hl i x v hN e hv
 have fin:EP X pins σ Q u s:=⟨v,H,I,r,h⟩
 rcases l with ⟨hk,hm⟩ | ⟨hk,c,hc,hcell⟩
 ·exact wpAny_Name (wpAny_loadName_local I.ok.kind hk hn hm fin) hd
 ·rcases hk with hk | hk
  ·exact wpAny_Name (wpAny_loadName_cell I.ok.kind hk hc hcell fin) hd
  ·exact wpAny_Name (wpAny_loadName_free I.ok.kind hk hc hcell fin hcd) hd
theorem IC {i j pos}:PE X (.Constant (.int i) j pos) (tC (.int i)):=fun _ _ _ H _ I h => wpAny_Constant_int ⟨.int i,H,I.tok _,⟨_,rfl⟩,h⟩
theorem Np {b j pos}:PE X (.Constant (.bool b) j pos) (tC (.bl b)):=fun _ _ _ H _ I h => Constant_bool ⟨.bl b,H,I,rfl,h⟩
theorem Tq {j pos}:PE X (.Constant .none j pos) (tC .non):=fun _ _ _ H _ I h => Constant_none ⟨.non,H,I,rfl,h⟩
theorem Bb {x j pos}:PE X (.Constant (.str x) j pos) (tC (.str x)):=fun _ _ _ H _ I h => Calls.Constant_str ⟨.str x,H,I.tok _,⟨_,rfl⟩,h⟩
def Gl (X:Cx) (x:Str):Prop:=X.env.kindOf x = some .globalImplicit
theorem DX {E:Value→Shared→Prop} {pins:List (Addr × Obj)} {s:Shared} {σ:St} {H:Hp} {x:Str} {u:Value} {pos:Pos} {Q:Value→Shared→Prop} (I:Inv X pins σ H s) (hg:Gl X x) (hm:X.mg x = some u) (h:Q u s)
  (hd:(x == ("__debug__" : Str)) = false:=by decide):wpAny (model X.prog X.w) X.A (eval (.Name x pos) X.env) Q E s :=
 Calls.Name_function_global I.ok.kind hg (Calls.loadGlobal_global (by rw [I.ok.glob]; exact I.mod.glob.keeps I.bk) hm h) hd
theorem ID {E:Value→Shared→Prop} {pins:List (Addr × Obj)} {s:Shared} {σ:St} {H:Hp} {x:Str} {u:Value} {pos:Pos} {Q:Value→Shared→Prop} (I:Inv X pins σ H s) (hg:Gl X x) (hm:X.mg x = none) (hv:bootBuiltins x = some u) (h:Q u s)
  (hn:x≠"__name__":=by decide) (hd:(x == ("__debug__" : Str)) = false:=by decide):wpAny (model X.prog X.w) X.A (eval (.Name x pos) X.env) Q E s:=by
 obtain ⟨mb,h1,h2⟩:=I.mod.blt
 exact Calls.Name_function_global I.ok.kind hg (Calls.loadGlobal_builtin (by rw [I.ok.glob]; exact I.mod.glob.keeps I.bk) hm (by rw [I.ok.blt]; exact h1.keeps I.bk) ((h2 x hn).trans hv) h) hd
theorem Bg {x:Str} {v:V} {u:Value} {pos:Pos} (hg:Gl X x) (hm:X.mg x = some u) (r:RelV v u) (hd:(x == ("__debug__" : Str)) = false:=by decide):PE X (.Name x pos) (tC v) :=
 fun _ _ _ H _ I h => DX I hg hm ⟨v,H,I,r,h⟩ hd
theorem Li {x:Str} {v:V} {u:Value} {pos:Pos} (hg:Gl X x) (hm:X.mg x = none) (hv:bootBuiltins x = some u) (r:RelV v u) (hn:x≠"__name__":=by decide) (hd:(x == ("__debug__" : Str)) = false:=by decide):PE X (.Name x pos) (tC v) :=
 fun _ _ _ H _ I h => ID I hg hm hv ⟨v,H,I,r,h⟩ hn hd
variable {a b:Expr} {ta tb:TE} {pos:Pos}
variable {tA tB':TT} {rest:List Expr}
def YA (t u:TT):TT:=fun σ H Q => t σ H fun c H1 => if c = true then u σ H1 Q else Q false H1
def ZF (t u:TT):TT:=fun σ H Q => t σ H fun c H1 => if c = true then Q true H1 else u σ H1 Q
def YB (t:TT):TT:=fun σ H Q => t σ H fun c H1 => Q (!c) H1
theorem RA (ha:PT X a tA):PW X (.BoolOp .And [a] pos) tA:=by
 intro wh pins s σ H Q I h
 refine isTrue_and (Ap (ha pins s σ H Q I h) fun c s1 e => ?_)
 cases c with
 | true => exact isTrue_and_nil e
 | false => exact e
theorem Nq (ha:PT X a tA):PW X (.BoolOp .Or [a] pos) tA:=by
 intro wh pins s σ H Q I h
 refine isTrue_or (Ap (ha pins s σ H Q I h) fun c s1 e => ?_)
 cases c with
 | false => exact isTrue_or_nil e
 | true => exact e
theorem Tr (ha:PT X a tA) (hb:PW X (.BoolOp .And (b :: rest) pos) tB'):PW X (.BoolOp .And (a :: b :: rest) pos) (YA tA tB'):=by
 intro wh pins s σ H Q I h
 refine isTrue_and (Ap (ha pins s σ H _ I h) fun c s1 ⟨H1,I1,q1⟩ => ?_)
 cases c with
 | true => exact hb wh pins s1 σ H1 Q I1 q1
 | false => exact ⟨H1,I1,q1⟩
theorem Su (ha:PT X a tA) (hb:PW X (.BoolOp .Or (b :: rest) pos) tB'):PW X (.BoolOp .Or (a :: b :: rest) pos) (ZF tA tB'):=by
 intro wh pins s σ H Q I h
 refine isTrue_or (Ap (ha pins s σ H _ I h) fun c s1 ⟨H1,I1,q1⟩ => ?_)
 cases c with
 | true => exact ⟨H1,I1,q1⟩
 | false => exact hb wh pins s1 σ H1 Q I1 q1
theorem Nr (ha:PT X a tA):PT X (.UnaryOp .Not a pos) (YB tA):=by
 intro pins s σ H Q I h
 exact isTrue_not (ha pins s σ H (fun c H1 => Q (!c) H1) I h)
def Vo (ta tb:TE):TE:=fun σ H Q => ta σ H fun x H1 => ∃ c,x = .bl c∧if c = true then tb σ H1 Q else Q (.bl false) H1
def Vp (ta:TE):TE:=fun σ H Q => ta σ H fun x H1 => ∃ c,x = .bl c∧Q (.bl (!c)) H1
theorem Ts {op} {t:TE} (h:PE X a t):PE X (.BoolOp op [a] pos) t:=fun pins s σ H Q I hw => BoolOp_one (h pins s σ H Q I hw)
theorem Tt (ha:PE X a ta) (hb:PE X (.BoolOp .And (b :: rest) pos) tb):PE X (.BoolOp .And (a :: b :: rest) pos) (Vo ta tb):=by
 intro pins s σ H Q I h
 refine BoolOp_and (Ap (ha pins s σ H _ I h) fun v s1 ⟨x,H1,I1,r1,q1⟩ => ?_)
 obtain ⟨c,rfl,q1⟩:=q1
 cases r1
 refine wpAny_truthy_bool ?_
 cases c with
 | true => exact hb pins s1 σ H1 Q I1 q1
 | false => exact ⟨.bl false,H1,I1,rfl,q1⟩
theorem Tu (ha:PE X a ta):PE X (.UnaryOp .Not a pos) (Vp ta):=by
 intro pins s σ H Q I h
 refine UnaryOp_ (Ap (ha pins s σ H _ I h) fun v s1 ⟨x,H1,I1,r1,q1⟩ => ?_)
 obtain ⟨c,rfl,q1⟩:=q1
 cases r1
 exact not_of (wpAny_truthy_bool ⟨.bl (!c),H1,I1,rfl,q1⟩)
def ZG (t:TT) (ta tb:TE):TE:=fun σ H Q => t σ H fun c H1 => if c = true then ta σ H1 Q else tb σ H1 Q
theorem Nt {c:Expr} (hc:PT X c tA) (ha:PE X a ta) (hb:PE X b tb):PE X (.IfExp c a b pos) (ZG tA ta tb):=by
 intro pins s σ H Q I h
 refine wpAny_IfExp (Ap (hc pins s σ H _ I h) fun d s1 ⟨H1,I1,q1⟩ => ?_)
 cases d with
 | true => exact ha pins s1 σ H1 Q I1 q1
 | false => exact hb pins s1 σ H1 Q I1 q1
end
def SqL (K:PySem.W.Frag) (H:Hp) (a:Addr) (xs:List V):Prop :=
 Rd H a (.lst xs) ∨
  ∃ (o:Obj) (its:Array Value) (n:Nat),K.lookup a = some o∧o.cls = .type "list"∧o.dict = none∧o.data = .seq its n∧its.size≤sizeLine∧Vals xs its.toList
def IE (K:PySem.W.Frag) (H:Hp) (a:Addr) (xs:List V):Prop :=
 Rd H a (.tup xs) ∨
  ∃ (o:Obj) (its:Array Value) (n:Nat),K.lookup a = some o∧o.cls = .type "tuple"∧o.data = .seq its n∧its.size≤sizeLine∧Vals xs its.toList
def YC:Value→Option V
 | .none => some .non
 | .bool b => some (.bl b)
 | .int i _ => some (.int i)
 | .str x _ => some (.str x)
 | .bytes b _ => some (.byt b)
 | .float b _ => some (.flt b)
 | .ref a => some (.ref a)
 | .type n => some (.ty n)
 | _ => none
theorem RelV.abs {x:V} {u:Value} (r:RelV x u):YC u = some x:=by
 cases x with
 | non => cases r; rfl
 | bl _ => cases r; rfl
 | int _ => obtain ⟨t,rfl⟩:=r; rfl
 | str _ => obtain ⟨t,rfl⟩:=r; rfl
 | byt _ => obtain ⟨t,rfl⟩:=r; rfl
 | flt _ => obtain ⟨t,rfl⟩:=r; rfl
 | ref _ => cases r; rfl
 | ty _ => cases r; rfl
theorem RelV.inj {x y:V} {u:Value} (r:RelV x u) (q:RelV y u):x = y:=Option.some.inj (r.abs.symm.trans q.abs)
theorem Vals.inj:∀ {xs ys:List V} {us:List Value},Vals xs us→Vals ys us→xs = ys
 | _,_,_,.nil,.nil => rfl
 | _,_,_,.cons r t,.cons r' t' => by rw [r.inj r',Vals.inj t t']
section
variable {X:Cx} {pins:List (Addr × Obj)} {σ:St} {H:Hp} {s:Shared} {a:Addr} {xs ys:List V}
theorem SqL.of {K:PySem.W.Frag} (h:H a = some (.lst xs)):SqL K H a xs:=.inl (.inl h)
theorem Inv.list (I:Inv X pins σ H s) (h:SqL X.K H a xs):∃ its:List Value,Vals xs its∧PlainL s.heap a its.toArray∧xs.length≤sizeLine:=by
 rcases h with h | ⟨o,its,n,hk,hc,hd,hs,hz,r⟩
 ·obtain ⟨z,its,n,r,e⟩:=h.ok I.hok
  exact ⟨its,r,⟨_,n,e,rfl,rfl,rfl⟩,z⟩
 ·refine ⟨its.toList,r,⟨o,n,I.kIn a o hk,hc,hd,by simpa using hs⟩,?_⟩
  have e:=r.length
  simp only [Array.length_toList] at e
  omega
theorem Inv.tuple (I:Inv X pins σ H s) (h:IE X.K H a xs):∃ its:List Value,Vals xs its∧IsTup s.heap a its.toArray∧xs.length≤sizeLine:=by
 rcases h with h | ⟨o,its,n,hk,hc,hs,hz,r⟩
 ·obtain ⟨z,its,r,p⟩:=h.ok I.hok
  exact ⟨its,r,p,z⟩
 ·refine ⟨its.toList,r,⟨o,I.kIn a o hk,hc,n,by simpa using hs⟩,?_⟩
  have e:=r.length
  simp only [Array.length_toList] at e
  omega
theorem Inv.list_inj (I:Inv X pins σ H s) (h:SqL X.K H a xs) (h':SqL X.K H a ys):xs = ys:=by
 obtain ⟨its,r,⟨o,n,e,_,_,d⟩,_⟩:=I.list h
 obtain ⟨its',r',⟨o',n',e',_,_,d'⟩,_⟩:=I.list h'
 rw [e] at e'; cases e'
 rw [d] at d'
 injection d' with d1 _
 have:its = its':=by simpa using congrArg Array.toList d1
 subst this
 exact r.inj r'
theorem Inv.tuple_inj (I:Inv X pins σ H s) (h:IE X.K H a xs) (h':IE X.K H a ys):xs = ys:=by
 obtain ⟨its,r,⟨o,e,_,n,d⟩,_⟩:=I.tuple h
 obtain ⟨its',r',⟨o',e',_,n',d'⟩,_⟩:=I.tuple h'
 rw [e] at e'; cases e'
 rw [d] at d'
 injection d' with d1 _
 have:its = its':=by simpa using congrArg Array.toList d1
 subst this
 exact r.inj r'
end
section
variable {X:Cx} {pins:List (Addr × Obj)} {σ:St} {H:Hp} {s:Shared} {E:Value→Shared→Prop}
end
section
variable {X:Cx} {st:Stmt} {rest:List Stmt} {t u:TS} {e:Expr} {te:TE} {pos:Pos}
def Vq:TS:=fun D σ H => D.nx σ H
def YD (t u:TS):TS:=fun D σ H => t { D with nx:=u D } σ H
theorem Dz:PSs X [] Vq:=fun _ _ σ H _ I h => wpAny_execs_nil ⟨σ,H,I,h⟩
theorem BQ (h1:PS X st t) (h2:PSs X rest u):PSs X (st :: rest) (YD t u):=by
 intro pins s σ H D I h
 refine wpAny_execs_cons (Ap (h1 pins s σ H { D with nx:=u D } I h) fun f s1 q => ?_)
 cases f with
 | next =>
  obtain ⟨σ',H',I',q⟩:=q
  exact h2 pins s1 σ' H' D I' q
 | ret v => exact q
 | brk => exact q
 | cont => exact q
theorem Bh (h1:PS X st t):PSs X [st] t:=by
 intro pins s σ H D I h
 refine wpAny_execs_cons (Ap (h1 pins s σ H D I h) fun f s1 q => ?_)
 cases f with
 | next => exact wpAny_execs_nil q
 | ret v => exact q
 | brk => exact q
 | cont => exact q
theorem Inv.quiet {pins:List (Addr × Obj)} {σ:St} {H:Hp} {s:Shared} (I:Inv X pins σ H s):interactive X.env = false:=by simp [interactive,I.ok.kind]
def Vr (te:TE):TS:=fun D σ H => te σ H fun _ H1 => D.nx σ H1
theorem RB (he:PE X e te) (hs:swapsWith e none pos.line X.env = pure false:=by rfl):PS X (.Expr e pos) (Vr te):=by
 intro pins s σ H D I h
 exact wpAny_Expr_any (Ap (he pins s σ H _ I h) fun v s1 ⟨x,H1,I1,r1,q1⟩ => ⟨σ,H1,I1,q1⟩) I.quiet hs
def YE (te:TE):TS:=fun D σ H => te σ H D.rt
theorem DL (he:PE X e te):PS X (.Return (some e) pos) (YE te):=by
 intro pins s σ H D I h
 exact wpAny_Return_some (Ap (he pins s σ H _ I h) fun v s1 ⟨x,H1,I1,r1,q1⟩ => ⟨x,σ,H1,I1,r1,q1⟩)
def YF (c:TT) (t u:TS):TS:=fun D σ H => c σ H fun b H1 => if b = true then t D σ H1 else u D σ H1
theorem JO {c:Expr} {a b:List Stmt} {tc:TT} (hc:PT X c tc) (ha:PSs X a t) (hb:PSs X b u):PS X (.If c a b pos) (YF tc t u):=by
 intro pins s σ H D I h
 refine wpAny_If (Ap (hc pins s σ H _ I h) fun d s1 ⟨H1,I1,q1⟩ => ?_)
 cases d with
 | true => exact ha pins s1 σ H1 D I1 q1
 | false => exact hb pins s1 σ H1 D I1 q1
end
abbrev TG:=V→St→Hp→(St→Hp→Prop)→Prop
abbrev RC:=List V→St→Hp→(St→Hp→Prop)→Prop
def PG (X:Cx) (target:Expr) (t:TG):Prop :=
 ∀ (pins:List (Addr × Obj)) (s:Shared) (σ:St) (H:Hp) (v:V) (u:Value) (Q:St→Hp→Prop),Inv X pins σ H s→RelV v u→t v σ H Q →
  wpAny (model X.prog X.w) X.A (assign target X.env u) (fun _ s' => ∃ σ' H',Inv X pins σ' H' s'∧Q σ' H') X.xe s
def Vs (X:Cx) (ts:List Expr) (t:RC):Prop :=
 ∀ (pins:List (Addr × Obj)) (s:Shared) (σ:St) (H:Hp) (vs:List V) (us:List Value) (Q:St→Hp→Prop),Inv X pins σ H s→Vals vs us→t vs σ H Q →
  wpAny (model X.prog X.w) X.A (assignInOrder ((assignEach ts X.env).map (·.2)) us) (fun _ s' => ∃ σ' H',Inv X pins σ' H' s'∧Q σ' H') X.xe s
abbrev Tv:=V→V→V→Hp→(Hp→Prop)→Prop
def Vt (X:Cx) (t:Tv):Prop :=
 ∀ (pins:List (Addr × Obj)) (s:Shared) (σ:St) (H:Hp) (o i v:V) (ov iv u:Value) (Q:Hp→Prop),Inv X pins σ H s→RelV o ov→RelV i iv→RelV v u→t o i v H Q →
  wpAny (model X.prog X.w) X.A (setItem ov iv u) (fun _ s' => ∃ H',Inv X pins σ H' s'∧Q H') X.xe s
section
variable {X:Cx} {pos:Pos}
def Sv (i:Nat):TG:=fun v σ H Q => Q (σ.set i (some v)) H
theorem EC {i:Nat} {x:Str} (hN:X.N.Nodup) (hi:X.N[i]? = some x) (hx:Qt X.env.scope x) (hf:X.fn x = true∨X.env.scope.names.lookup x = some .local:=by first | exact .inl rfl | exact .inr rfl | assumption):PG X (.Name x pos) (Sv i):=by
 intro pins s σ H v u Q I r h
 exact wpAny_assign_Name (Fn I hN hi hx r (fun s' I' => ⟨_,H,I',h⟩) hf)
def YG:RC:=fun vs σ H Q => vs = []∧Q σ H
def Vu (t:TG) (u:RC):RC:=fun vs σ H Q => ∃ v r,vs = v :: r∧t v σ H fun σ' H' => u r σ' H' Q
theorem Lj:Vs X [] YG:=by
 intro pins s σ H vs us Q I r h
 obtain ⟨e,h⟩:=h
 subst e
 cases r
 exact assignInOrder_nil ⟨σ,H,I,h⟩
theorem ED {e:Expr} {es:List Expr} {t:TG} {u:RC} (h1:PG X e t) (h2:Vs X es u)
  (hs:(assignEach (e :: es) X.env).map (·.2) = assign e X.env :: (assignEach es X.env).map (·.2):=by rfl):Vs X (e :: es) (Vu t u):=by
 intro pins s σ H vs us Q I r h
 obtain ⟨v,vr,e1,h⟩:=h
 subst e1
 cases r with
 | cons r rr =>
  rw [hs]
  refine assignInOrder_cons (Ap (h1 pins s σ H _ _ _ I r h) fun _ s1 ⟨σ1,H1,I1,q1⟩ => ?_)
  exact h2 pins s1 σ1 H1 _ _ Q I1 rr q1
def YH (K:PySem.W.Frag) (n:Nat) (t:RC):TG:=fun v σ H Q => ∃ a xs,v = .ref a∧IE K H a xs∧xs.length = n∧t xs σ H Q
theorem Tw {es:List Expr} {k:Nat} {t:RC} {n:Nat} (hc:X.calm = true) (h:Vs X es t)
  (hn:(assignEach es X.env).length = n:=by rfl) (hst:(assignEach es X.env).findIdx? (·.1) = none:=by rfl):PG X (.Tuple es k pos) (YH X.K n t):=by
 intro pins s σ H v u Q I r hw
 obtain ⟨a,xs,e1,hq,hl,hw⟩:=hw
 subst e1
 cases r
 obtain ⟨its,rv,ht,hz⟩:=I.tuple hq
 refine assign_Tuple_tuple (I.ok.hd hc) ht (by simp [hn,← hl,rv.length]) hst fun h' hx => ?_
 have I1:Inv X pins σ H { s with heap:=h' }:=I.kept (t':=s.toks) fun b o e => hx b o (Nat.ne_of_lt (Heap.lt_size e)) e
 exact h pins _ σ H xs _ Q I1 (by simpa using rv) hw
def YI (to ti:TE) (t:Tv):TG:=fun v σ H Q => to σ H fun o H1 => ti σ H1 fun i H2 => t o i v H2 fun H3 => Q σ H3
theorem Ty {o i:Expr} {to ti:TE} {t:Tv} (ho:PE X o to) (hi:PE X i ti) (hs:Vt X t)
  (ha:∀ v,assign (.Subscript o i pos) X.env v = (do
   let ov ← holding [v] (eval o X.env)
   let iv ← holding [v,ov] (eval i X.env)
   standAt pos
   holding [v,ov,iv] (setItem ov iv v)
   release [v,ov,iv] []):=by intro _; rfl):PG X (.Subscript o i pos) (YI to ti t):=by
 intro pins s σ H v u Q I r h
 rw [ha]
 refine wpAny_bind (wpAny_holding (Ap (ho pins s σ H _ I h) fun ov s1 ⟨x,H1,I1,r1,q1⟩ => ?_))
 refine wpAny_bind (wpAny_holding (Ap (hi pins s1 σ H1 _ I1 q1) fun iv s2 ⟨y,H2,I2,r2,q2⟩ => ?_))
 refine wpAny_bind (wpAny_standAt (wpAny_bind (wpAny_holding (Ap (hs pins s2 σ H2 x y v ov iv u _ I2 r1 r2 r q2) fun _ s3 ⟨H3,I3,q3⟩ => ?_))))
 exact wpAny_release ⟨σ,H3,I3,q3⟩
def Vv (te:TE) (g:TG):TS:=fun D σ H => te σ H fun x H1 => g x σ H1 D.nx
theorem Nu {tg e:Expr} {te:TE} {g:TG} (he:PE X e te) (hg:PG X tg g) (hs:swapsWithSole [tg] e pos.line X.env = pure false:=by rfl) (hw:swappedStores [tg] e X.env = pure none:=by rfl)
  (h1:(assignEach [tg] X.env).map (·.2) = [assign tg X.env]:=by rfl):PS X (.Assign [tg] e pos) (Vv te g):=by
 intro pins s σ H D I h
 refine wpAny_Assign_stores (Ap (he pins s σ H _ I h) fun v s1 ⟨x,H1,I1,r1,q1⟩ => ?_) hs hw
 rw [h1]
 exact Ap (hg pins s1 σ H1 x v _ I1 r1 q1) fun _ s2 q => q
theorem IF {i:Nat} {x:Str} {e:Expr} {te:TE} {pos':Pos} (hN:X.N.Nodup) (hi:X.N[i]? = some x) (hx:Qt X.env.scope x) (he:PE X e te) (hs:swapsWith e (some (.Name x pos')) pos.line X.env = pure false:=by rfl) (hf:X.fn x = true∨X.env.scope.names.lookup x = some .local:=by first | exact .inl rfl | exact .inr rfl | assumption) :
  PS X (.Assign [.Name x pos'] e pos) (Vv te (Sv i)):=by
 intro pins s σ H D I h
 refine wpAny_Assign_Name (Ap (he pins s σ H _ I h) fun v s1 ⟨y,H1,I1,r1,q1⟩ => ?_) hs
 exact Fn I1 hN hi hx r1 (fun s2 I2 => ⟨_,H1,I2,q1⟩) hf
end
section
variable {X:Cx} {pos:Pos}
end
structure It where
 go:Nat→Hp→Prop
 yld:Nat→Hp→V→Hp→Prop
 stop:Nat→Hp→Prop
def Gy (X:Cx) (pins:List (Addr × Obj)) (H:Hp) (b:Addr):Prop :=
 H b = none∧b≠X.env.locals∧b ∉ X.fs∧(b∈X.ex∨X.s₀.heap.objs.size≤b)∧(∀ x c,X.env.cells.lookup x = some c→c≠b)∧∀ p∈X.pn ++ pins,p.1≠b
theorem Inv.fpOk {X:Cx} {pins:List (Addr × Obj)} {σ:St} {H H':Hp} {s:Shared} {b:Addr} (I:Inv X pins σ H s) (hb:s.heap.objs.size≤b) (hn:H' b = none):Gy X pins H' b:=by
 refine ⟨hn,Nat.ne_of_gt (Nat.lt_of_lt_of_le I.lt hb),I.nofs hb,.inr (Nat.le_trans I.sz hb),fun x c e z => ?_,fun p hp z => ?_⟩
 ·obtain ⟨v,q⟩:=I.cell x c e
  exact absurd (Nat.lt_of_lt_of_le q.lt (by rw [z]; exact hb)) (Nat.lt_irrefl _)
 ·exact absurd (Nat.lt_of_lt_of_le (Heap.lt_size (I.pin p hp).1) (by rw [z]; exact hb)) (Nat.lt_irrefl _)
structure Turn (P:Program) (w:World) (K:PySem.W.Frag) (tg:Expr) (J:It) (fp:List Addr) (it:Addr) (tn:Nat→Heap→Prop):Prop where
 mem:it∈fp
 obj:∀ i h,tn i h→∀ b∈fp,∃ o,h.get? b = some o∧∀ v,o.data≠.cell v
 keep:∀ i h h',tn i h→(∀ b∈fp,∀ o,h.get? b = some o→h'.get? b = some o)→tn i h'
 item:∀ (X:Cx),X.prog = P→X.w = w→X.K = K→X.calm = true→∀ (i:Nat) (pins:List (Addr × Obj)) (s:Shared) (σ:St) (H:Hp) (E:Value→Shared→Prop),Inv X pins σ H s→(∀ b∈fp,Gy X pins H b)→tn i s.heap→J.go i H →
  wpAny (model P w) X.A (pyNext (.ref it)) (fun r s1 => ∃ u,r = some u ∧
   wpAny (model P w) X.A (letOwnedTupleGo tg (.ref it) u) (fun _ s2 => ∃ x H',Inv X pins σ H' s2∧RelV x u∧J.yld i H x H'∧tn (i + 1) s2.heap∧∀ b∈fp,H' b = none) E s1) E s
 done:∀ (X:Cx),X.prog = P→X.w = w→X.K = K→X.calm = true→∀ (i:Nat) (pins:List (Addr × Obj)) (s:Shared) (σ:St) (H:Hp) (E:Value→Shared→Prop),Inv X pins σ H s→(∀ b∈fp,Gy X pins H b)→tn i s.heap→J.stop i H →
  wpAny (model P w) X.A (pyNext (.ref it)) (fun r s1 => r = none∧Inv X pins σ H s1) E s
 self:∀ (A:Around) (i:Nat) (s:Shared) (Q:Value→Shared→Prop) (E:Value→Shared→Prop),tn i s.heap→Q (.ref it) s→wpAny (model P w) A (pyIter (.ref it)) Q E s
abbrev TI:=St→Hp→(It→Hp→Prop)→Prop
def Ys (X:Cx) (pins:List (Addr × Obj)) (σ:St) (tg:Expr) (R:It→Hp→Prop) (itv:Value) (s2:Shared):Prop :=
 ∃ (it:Addr) (fp:List Addr) (tn:Nat→Heap→Prop) (J:It) (H':Hp),itv = .ref it∧Inv X pins σ H' s2∧Turn X.prog X.w X.K tg J fp it tn∧tn 0 s2.heap∧(∀ b∈fp,Gy X pins H' b)∧R J H'
def PI (X:Cx) (tg iter:Expr) (wi:TI):Prop :=
 ∀ (pins:List (Addr × Obj)) (s:Shared) (σ:St) (H:Hp) (R:It→Hp→Prop),Inv X pins σ H s→wi σ H R →
  wpAny (model X.prog X.w) X.A (eval iter X.env) (fun v s1 => wpAny (model X.prog X.w) X.A (pyIter v) (Ys X pins σ tg R) X.xe s1) X.xe s
theorem Nv {M:Model} {A:Around} {E:Value→Shared→Prop} {s:Shared} {tg:Expr} {it:Addr} {u:Value} {o:Obj} {n:String} {vs:Array Value} {Q:Unit→Shared→Prop} (ho:s.heap.get? it = some o) (hc:o.cls = .type n) (hd:o.data = .fields vs)
    (hn:["enumerate","zip","dict_itemiterator","dict_reverseitemiterator","odict_iterator","itertools.zip_longest","itertools.pairwise"].contains n = false) (hQ:Q () s):wpAny M A (letOwnedTupleGo tg (.ref it) u) Q E s:=by
  unfold letOwnedTupleGo
  cases tg <;> first
    | exact wpAny_pure hQ
    | (cases u <;> first
        | exact wpAny_pure hQ
        | (refine wpAny_bind (wpAny_load ho ?_)
           rw [hc,hd]
           show wpAny M A (if (["enumerate","zip","dict_itemiterator","dict_reverseitemiterator","odict_iterator","itertools.zip_longest","itertools.pairwise"].contains n && vs[0]? == some (rawInt _)) = true then _ else _) Q E s
           rw [if_neg (by intro h; rw [hn,Bool.false_and] at h; cases h)]
           exact wpAny_pure hQ))
def YJ (K:PySem.W.Frag) (a:Addr):It :=
 ⟨fun i H => ∃ xs x,SqL K H a xs∧xs[i]? = some x,fun i H x H' => H' = H∧∀ xs,SqL K H a xs→xs[i]? = some x,fun i H => ∃ xs,SqL K H a xs∧xs.length≤i⟩
def YK (K:PySem.W.Frag) (a:Addr):It :=
 ⟨fun i H => ∃ xs x,IE K H a xs∧xs[i]? = some x,fun i H x H' => H' = H∧∀ xs,IE K H a xs→xs[i]? = some x,fun i H => ∃ xs,IE K H a xs∧xs.length≤i⟩
def Xm (lo:Int) (n:Nat):It:=⟨fun i _ => i < n,fun i H x H' => H' = H∧x = .int (lo + i),fun i _ => n≤i⟩
theorem Mt {P:Program} {w:World} {K:PySem.W.Frag} {tg:Expr} (a it:Addr):Turn P w K tg (YJ K a) [it] it (fun i h => h.IsListIter it a i) where
 mem:=by simp
 obj:=fun i h st b hb => by
  have e:b = it:=by simpa using hb
  subst e
  obtain ⟨o,e,c,d⟩:=st
  exact ⟨o,e,fun v z => by rw [d] at z; cases z⟩
 keep:=fun i h h' st k => st.at fun o e => k it (by simp) o e
 item:=by
  intro X hP hw hK hc i pins s σ H E I hf st hg
  subst hP hw hK
  obtain ⟨xs,x,hq,hx⟩:=hg
  obtain ⟨its,rv,p,hz⟩:=I.list hq
  obtain ⟨u,hu,ru⟩:=rv.get hx
  obtain ⟨f0,f1,f2,f3,f4,f5⟩:=hf it (by simp)
  refine wpAny_pyNext_list_item st p.isList (x:=u) (by simpa using hu) fun h' st' sb => ?_
  have I1:Inv X pins σ H { s with heap:=h' }:=I.turned (t':=s.toks) (fun b o hb e => (sb.2 b hb).trans e) f0 f1 f3 f4 f5
  obtain ⟨o,e,c,d⟩:=id st'
  exact ⟨u,rfl,Nv (s:={ s with heap:=h' }) e c d (by decide) ⟨x,H,I1,ru,⟨rfl,fun ys hy => by rw [I.list_inj hy hq]; exact hx⟩,st',fun b hb => (hf b hb).1⟩⟩
 done:=by
  intro X hP hw hK hc i pins s σ H E I hf st hg
  subst hP hw hK
  obtain ⟨xs,hq,hx⟩:=hg
  obtain ⟨its,rv,p,hz⟩:=I.list hq
  obtain ⟨f0,f1,f2,f3,f4,f5⟩:=hf it (by simp)
  have hl:=rv.length
  exact wpAny_pyNext_list_end (I.ok.hd hc) st p.isList (by simp; omega) fun h' eb => ⟨rfl,I.turned (t':=s.toks) (fun b o hb e => eb b o hb e) f0 f1 f3 f4 f5⟩
 self:=fun _ _ _ _ _ st h => wpAny_pyIter_listiter st h
theorem KT {P:Program} {w:World} {K:PySem.W.Frag} {tg:Expr} (a it:Addr):Turn P w K tg (YK K a) [it] it (fun i h => h.IsTupleIter it a i) where
 mem:=by simp
 obj:=fun i h st b hb => by
  have e:b = it:=by simpa using hb
  subst e
  obtain ⟨o,e,c,d⟩:=st
  exact ⟨o,e,fun v z => by rw [d] at z; cases z⟩
 keep:=fun i h h' st k => st.at fun o e => k it (by simp) o e
 item:=by
  intro X hP hw hK hc i pins s σ H E I hf st hg
  subst hP hw hK
  obtain ⟨xs,x,hq,hx⟩:=hg
  obtain ⟨its,rv,p,hz⟩:=I.tuple hq
  obtain ⟨u,hu,ru⟩:=rv.get hx
  obtain ⟨f0,f1,f2,f3,f4,f5⟩:=hf it (by simp)
  refine wpAny_pyNext_tuple_item st (show s.heap.IsTuple a its.toArray from p) (x:=u) (by simpa using hu) fun h' st' sb => ?_
  have I1:Inv X pins σ H { s with heap:=h' }:=I.turned (t':=s.toks) (fun b o hb e => (sb.2 b hb).trans e) f0 f1 f3 f4 f5
  obtain ⟨o,e,c,d⟩:=id st'
  exact ⟨u,rfl,Nv (s:={ s with heap:=h' }) e c d (by decide) ⟨x,H,I1,ru,⟨rfl,fun ys hy => by rw [I.tuple_inj hy hq]; exact hx⟩,st',fun b hb => (hf b hb).1⟩⟩
 done:=by
  intro X hP hw hK hc i pins s σ H E I hf st hg
  subst hP hw hK
  obtain ⟨xs,hq,hx⟩:=hg
  obtain ⟨its,rv,p,hz⟩:=I.tuple hq
  obtain ⟨f0,f1,f2,f3,f4,f5⟩:=hf it (by simp)
  have hl:=rv.length
  exact wpAny_pyNext_tuple_end (I.ok.hd hc) st (show s.heap.IsTuple a its.toArray from p) (by simp; omega) fun h' eb => ⟨rfl,I.turned (t':=s.toks) (fun b o hb e => eb b o hb e) f0 f1 f3 f4 f5⟩
 self:=fun _ _ _ _ _ st h => wpAny_pyIter_tupleiter st h
theorem KU {P:Program} {w:World} {K:PySem.W.Frag} {tg:Expr} (it:Addr) (lo:Int) (n:Nat):Turn P w K tg (Xm lo n) [it] it (fun i h => IsRangeIter h it (lo + (i:Nat) * 1) ((n:Int) - (i:Nat)) 1) where
 mem:=by simp
 obj:=fun i h st b hb => by
  have e:b = it:=by simpa using hb
  subst e
  exact ⟨_,st,fun v z => by
   have z':Data.fields _ = Data.cell v:=z
   cases z'⟩
 keep:=fun i h h' st k => k it (by simp) _ st
 item:=by
  intro X hP hw hK hc i pins s σ H E I hf st hg
  subst hP hw hK
  obtain ⟨f0,f1,f2,f3,f4,f5⟩:=hf it (by simp)
  have W:=Walks.range (prog:=X.prog) (w:=X.w) (I.ok.hd hc) it lo 1 n
  refine W.item i s _ _ hg st fun v h' tk hv st' kk => ?_
  obtain ⟨t,rfl⟩:=hv
  have I1:Inv X pins σ H { s with heap:=h',toks:=tk }:=I.turned (fun b o hb e => kk b o (by simpa using hb) e) f0 f1 f3 f4 f5
  refine ⟨_,rfl,Nv (s:={ s with heap:=h',toks:=tk }) (n:="range_iterator") st' rfl rfl (by decide) ⟨.int (lo + i),H,I1,⟨t,?_⟩,⟨rfl,rfl⟩,st',fun b hb => (hf b hb).1⟩⟩
  rw [Int.mul_one]
 done:=by
  intro X hP hw hK hc i pins s σ H E I hf st hg
  subst hP hw hK
  obtain ⟨f0,f1,f2,f3,f4,f5⟩:=hf it (by simp)
  exact wpAny_pyNext_range_end (I.ok.hd hc) st (by have:n≤i:=hg; omega) fun h' eb => ⟨rfl,I.turned (t':=s.toks) (fun b o hb e => eb b o hb e) f0 f1 f3 f4 f5⟩
 self:=fun _ _ _ _ _ st h => wpAny_pyIter_rangeiter st h
section
variable {X:Cx} {tg:Expr}
def Vw (K:PySem.W.Frag) (tl:TE):TI:=fun σ H R => tl σ H fun x H1 => ∃ a,x = .ref a∧(∃ xs,SqL K H1 a xs)∧R (YJ K a) H1
def YL (K:PySem.W.Frag) (tl:TE):TI:=fun σ H R => tl σ H fun x H1 => ∃ a,x = .ref a∧(∃ xs,IE K H1 a xs)∧R (YK K a) H1
theorem RD {l:Expr} {tl:TE} (hl:PE X l tl):PI X tg l (Vw X.K tl):=by
 intro pins s σ H R I h
 refine Ap (hl pins s σ H _ I h) fun v s1 ⟨x,H1,I1,r1,q1⟩ => ?_
 obtain ⟨a,e,⟨xs,hq⟩,q⟩:=q1
 subst e
 cases r1
 obtain ⟨its,rv,p,hz⟩:=I1.list hq
 refine wpAny_pyIter_list p.isList ?_
 refine ⟨s1.heap.objs.size,[s1.heap.objs.size],_,_,H1,rfl,I1.kept (t':=s1.toks) fun b o e => Heap.get?_push_of_some _ e,Mt a _,⟨_,Heap.get?_push_size _ rfl,rfl,rfl⟩,fun b hb => ?_,q⟩
 have e:b = s1.heap.objs.size:=by simpa using hb
 subst e
 exact I1.fpOk (Nat.le_refl _) (I1.hok.fresh (Nat.le_refl _))
theorem Tz {l:Expr} {tl:TE} (hl:PE X l tl):PI X tg l (YL X.K tl):=by
 intro pins s σ H R I h
 refine Ap (hl pins s σ H _ I h) fun v s1 ⟨x,H1,I1,r1,q1⟩ => ?_
 obtain ⟨a,e,⟨xs,hq⟩,q⟩:=q1
 subst e
 cases r1
 obtain ⟨its,rv,p,hz⟩:=I1.tuple hq
 refine wpAny_pyIter_tuple (show s1.heap.IsTuple a its.toArray from p) ?_
 refine ⟨s1.heap.objs.size,[s1.heap.objs.size],_,_,H1,rfl,I1.kept (t':=s1.toks) fun b o e => Heap.get?_push_of_some _ e,KT a _,⟨_,Heap.get?_push_size _ rfl,rfl,rfl⟩,fun b hb => ?_,q⟩
 have e:b = s1.heap.objs.size:=by simpa using hb
 subst e
 exact I1.fpOk (Nat.le_refl _) (I1.hok.fresh (Nat.le_refl _))
theorem Nw {pins:List (Addr × Obj)} {σ:St} {H:Hp} {s:Shared} {R:It→Hp→Prop} {E:Value→Shared→Prop} {lo hi:Int} {t u v:Tok} {tk:Nat} (I:Inv X pins σ H s) (h1 : -(2 ^ 62)≤lo) (h2:lo < 2 ^ 62) (h3 : -(2 ^ 62)≤hi) (h4:hi < 2 ^ 62)
  (q:R (Xm lo (hi - lo).toNat) H):wpAny (model X.prog X.w) X.A (pyIter (.ref s.heap.objs.size)) (Ys X pins σ tg R) E { s with heap:=s.heap.push { cls:=.type "range",data:=.fields #[.int lo t,.int hi u,.int 1 v] },toks:=tk }:=by
 refine wpAny_pyIter_range (IsRange.new ..) (small_one h1 h2 h3 h4) ?_
 have I1:Inv X pins σ H { s with heap:=s.heap.push { cls:=.type "range",data:=.fields #[.int lo t,.int hi u,.int 1 v] },toks:=tk }:=I.kept fun b o e => Heap.get?_push_of_some _ e
 refine ⟨(s.heap.push { cls:=.type "range",data:=.fields #[.int lo t,.int hi u,.int 1 v] }).objs.size,[(s.heap.push { cls:=.type "range",data:=.fields #[.int lo t,.int hi u,.int 1 v] }).objs.size],_,_,H,rfl,
  I1.kept (t':=tk) fun b o e => Heap.get?_push_of_some _ e,KU _ lo (hi - lo).toNat,?_,fun b hb => ?_,q⟩
 ·have e1:lo + ((0:Nat):Int) * 1 = lo:=by simp
  have e2:(((hi - lo).toNat:Nat):Int) - ((0:Nat):Int) = Builtin.Range.rangeSize lo hi 1:=by rw [rangeSize_one]; split <;> omega
  show IsRangeIter _ _ (lo + ((0:Nat):Int) * 1) ((((hi - lo).toNat:Nat):Int) - ((0:Nat):Int)) 1
  rw [e1,e2]
  exact Heap.get?_push_size _ rfl
 ·have e:b = (s.heap.push { cls:=.type "range",data:=.fields #[.int lo t,.int hi u,.int 1 v] }).objs.size:=by simpa using hb
  subst e
  exact I1.fpOk (Nat.le_refl _) (I1.hok.fresh (Nat.le_refl _))
def Vx (ta:TA):TI:=fun σ H R => ta σ H fun vs H1 => ∃ j:Int,vs = [.int j]∧-(2 ^ 62)≤j∧j < 2 ^ 62∧R (Xm 0 j.toNat) H1
theorem Mu {a:Expr} {ta:TA} {p pos:Pos} (hg:Gl X "range") (hm:X.mg "range" = none) (ha:PA X [a] ta) (hs:starEach [a] X.env = [(false,eval a X.env)]:=by rfl):PI X tg (.Call (.Name "range" p) [a] [] pos) (Vx ta):=by
 intro pins s σ H R I h
 refine Call_ (ID I hg hm boot_range (PyProof.Rows.callWith_type1 (Ap (ha pos pins s σ H _ I h) fun us s1 ⟨vs,H1,I1,r1,q1⟩ => ?_) hs rfl))
 obtain ⟨j,e,q1,q2,q⟩:=q1
 subst e
 cases r1 with
 | cons r rr =>
  cases rr
  obtain ⟨t,rfl⟩:=r
  exact call_range_1 (Nw I1 (by omega) (by omega) q1 q2 (by simpa using q))
def YM (wi:TI) (g:TG) (tb:TS):TS:=fun D σ H => wi σ H fun J H1 => ∃ W:Nat→Nat→St→Hp→Prop,(∃ m,W 0 m σ H1)∧∀ i m σ H,W i m σ H →
 (J.stop i H∧D.nx σ H)∨(J.go i H∧∃ N:St→Hp→Prop,(∀ σ' H',N σ' H'→∃ m',m' < m∧W (i + 1) m' σ' H')∧∀ x H',J.yld i H x H'→g x σ H' fun σ2 H2 => tb { D with nx:=N,ct:=N,bk:=D.nx } σ2 H2)
def Fo (fp:List Addr) (h:Heap):List (Addr × Obj):=fp.filterMap fun b => (h.get? b).map fun o => (b,o)
theorem Ch {fp:List Addr} {h:Heap} {b:Addr} {o:Obj} (hb:b∈fp) (e:h.get? b = some o):(b,o)∈Fo fp h:=List.mem_filterMap.mpr ⟨b,hb,by rw [e]; rfl⟩
theorem Mv {fp:List Addr} {h:Heap} {p:Addr × Obj} (hp:p∈Fo fp h):p.1∈fp∧h.get? p.1 = some p.2:=by
 obtain ⟨b,hb,e⟩:=List.mem_filterMap.mp hp
 cases q:h.get? b with
 | none => rw [q] at e; cases e
 | some o =>
  rw [q] at e
  have e':(b,o) = p:=Option.some.inj e
  subst e'
  exact ⟨hb,q⟩
theorem Inv.pinned {pins:List (Addr × Obj)} {σ:St} {H:Hp} {s:Shared} {fp:List Addr} (I:Inv X pins σ H s) (hf:∀ b∈fp,Gy X pins H b) (ho:∀ b∈fp,∃ o,s.heap.get? b = some o∧∀ v,o.data≠.cell v):Inv X (pins ++ Fo fp s.heap) σ H s :=
 I.pins_of fun p hp => (List.mem_append.mp hp).elim (fun z => I.pin p (List.mem_append_right _ z)) fun z => by
  obtain ⟨hb,e⟩:=Mv z
  obtain ⟨f0,f1,f2,_⟩:=hf p.1 hb
  obtain ⟨o,e',d⟩:=ho p.1 hb
  rw [e] at e'; cases e'
  exact ⟨e,f0,f1,f2,d⟩
theorem Inv.unpinned {pins pl:List (Addr × Obj)} {σ:St} {H:Hp} {s:Shared} (I:Inv X (pins ++ pl) σ H s):Inv X pins σ H s:=I.pins_of fun p hp => I.pin p (List.mem_append_right _ (List.mem_append_left _ hp))
theorem UA {iter:Expr} {body:List Stmt} {wi:TI} {g:TG} {tb:TS} {pos:Pos} (hp:PassesOwn (model X.prog X.w) X.A X.env X.xe) (hc:X.calm = true) (hi:PI X tg iter wi) (hg:PG X tg g) (hb:PSs X body tb)
  (hs:∀ x,foldedSetIterable iter X.env x = pure x:=by intro _; rfl):PS X (.For tg iter body [] pos) (YM wi g tb):=by
 intro pins s σ H D I h
 refine wpAny_For (Ap (hi pins s σ H _ I h) fun v s1 h1 => Ap h1 fun itv s2 h2 => ?_) hs
 obtain ⟨it,fp,tn,J,H2,e,I2,T,st2,f2,W,⟨m0,w0⟩,turn⟩:=h2
 subst e
 have stat:∀ {H':Hp},(∀ b∈fp,H' b = none)→∀ b∈fp,Gy X pins H' b:=fun hn b hb => ⟨hn b hb,(f2 b hb).2⟩
 refine codeAny_forLoop_any (fun n s' => ∃ i σ' H',Inv X pins σ' H' s'∧tn i s'.heap∧(∀ b∈fp,H' b = none)∧W i n σ' H') ?_ m0 ⟨0,σ,H2,I2,st2,fun b hb => (f2 b hb).1,w0⟩
 rintro n s3 ⟨i,σ3,H3,I3,st3,fr3,w3⟩
 rcases turn i n σ3 H3 w3 with ⟨stop,qn⟩ | ⟨go,N,hN,step⟩
 ·refine wpAny_passesOwn hp (Ap (T.done X rfl rfl rfl hc i pins s3 σ3 H3 X.xe I3 (stat fr3) st3 stop) fun r s4 ⟨hr,I4⟩ => ?_)
  subst hr
  exact wpAny_execs_nil ⟨σ3,H3,I4,qn⟩
 ·refine wpAny_passesOwn hp (Ap (T.item X rfl rfl rfl hc i pins s3 σ3 H3 X.xe I3 (stat fr3) st3 go) fun r s4 ⟨u,hr,h4⟩ => ?_)
  subst hr
  refine wpAny_passesOwn hp (Ap h4 fun _ s5 ⟨x,H5,I5,r5,y5,st5,fr5⟩ => ?_)
  have I5':=I5.pinned (stat fr5) (T.obj _ _ st5)
  refine wpAny_passesOwn hp (Ap (hg _ s5 σ3 H5 x u _ I5' r5 (step x H5 y5)) fun _ s6 ⟨σ6,H6,I6,q6⟩ => ?_)
  refine wpAny_passesOwn hp (Ap (hb _ s6 σ6 H6 _ I6 q6) fun f s7 q7 => ?_)
  have again:∀ {σ7:St} {H7:Hp},Inv X (pins ++ Fo fp s5.heap) σ7 H7 s7→N σ7 H7→∃ m,m < n∧∃ i σ' H',Inv X pins σ' H' s7∧tn i s7.heap∧(∀ b∈fp,H' b = none)∧W i m σ' H':=fun {σ7 H7} I7 n7 => by
   obtain ⟨m',hm,w7⟩:=hN σ7 H7 n7
   refine ⟨m',hm,i + 1,σ7,H7,I7.unpinned,T.keep _ _ _ st5 fun b hb o e => (I7.pin (b,o) (List.mem_append_right _ (List.mem_append_right _ (Ch hb e)))).1,fun b hb => ?_,w7⟩
   obtain ⟨o,e,d⟩:=T.obj _ _ st5 b hb
   exact (I7.pin (b,o) (List.mem_append_right _ (List.mem_append_right _ (Ch hb e)))).2.1
  cases f with
  | next => obtain ⟨σ7,H7,I7,n7⟩:=q7; exact again I7 n7
  | cont => obtain ⟨σ7,H7,I7,n7⟩:=q7; exact again I7 n7
  | brk => obtain ⟨σ7,H7,I7,q7⟩:=q7; exact ⟨σ7,H7,I7.unpinned,q7⟩
  | ret v => obtain ⟨x7,σ7,H7,I7,r7,q7⟩:=q7; exact ⟨x7,σ7,H7,I7.unpinned,r7,q7⟩
end
abbrev R2:=V→V→Hp→VK→Prop
def DJ (X:Cx) (f:Value→Value→Sem Value) (r:R2):Prop :=
 ∀ (pins:List (Addr × Obj)) (s:Shared) (σ:St) (H:Hp) (x y:V) (v u:Value) (Q:VK),Inv X pins σ H s→RelV x v→RelV y u→r x y H Q →
  wpAny (model X.prog X.w) X.A (f v u) (EP X pins σ Q) X.xe s
def Xn (X:Cx) (f:Value→Sem Value) (r:V→Hp→VK→Prop):Prop :=
 ∀ (pins:List (Addr × Obj)) (s:Shared) (σ:St) (H:Hp) (x:V) (v:Value) (Q:VK),Inv X pins σ H s→RelV x v→r x H Q →
  wpAny (model X.prog X.w) X.A (f v) (EP X pins σ Q) X.xe s
def BR (X:Cx) (f:Value) (r:List V→Hp→VK→Prop):Prop :=
 ∀ (pins:List (Addr × Obj)) (s:Shared) (σ:St) (H:Hp) (xs:List V) (us:List Value) (Q:VK),Inv X pins σ H s→Vals xs us→r xs H Q →
  wpAny (model X.prog X.w) X.A (call f us) (EP X pins σ Q) X.xe s
def YN (X:Cx) (r:V→Hp→(Bool→Hp→Prop)→Prop):Prop :=
 ∀ (pins:List (Addr × Obj)) (s:Shared) (σ:St) (H:Hp) (x:V) (v:Value) (Q:Bool→Hp→Prop),Inv X pins σ H s→RelV x v→r x H Q →
  wpAny (model X.prog X.w) X.A (truthy v) (TP X pins σ Q) X.xe s
def Vy (r:R2) (ta tb:TE):TE:=fun σ H Q => ta σ H fun x H1 => tb σ H1 fun y H2 => r x y H2 Q
def ZH (r:V→Hp→VK→Prop) (ta:TE):TE:=fun σ H Q => ta σ H fun x H1 => r x H1 Q
def rI (C:Int→Int→Prop) (g:Int→Int→V):R2:=fun x y H Q => ∃ i j,x = .int i∧y = .int j∧C i j∧Q (g i j) H
def Qu (g:Int→Int→V):R2:=fun x y H Q => ∃ i j,x = .int i∧y = .int j∧Q (g i j) H
def rU (g:Int→V):V→Hp→VK→Prop:=fun x H Q => ∃ i,x = .int i∧Q (g i) H
section
variable {X:Cx} {a b c:Expr} {ta tb tc:TE} {pos:Pos}
theorem UB (ha:PE X a ta) (hb:PE X b tb) {pins:List (Addr × Obj)} {s:Shared} {σ:St} {H:Hp} {R:V→V→Hp→Prop} (I:Inv X pins σ H s)
  (h:ta σ H fun x H1 => tb σ H1 fun y H2 => R x y H2) {Q:Value→Shared→Prop} {f:Value→Value→Sem Value}
  (hf:∀ v u s2 x y H2,Inv X pins σ H2 s2→RelV x v→RelV y u→R x y H2→wpAny (model X.prog X.w) X.A (f v u) Q X.xe s2) :
  wpAny (model X.prog X.w) X.A (eval a X.env) (fun v s₁ => wpAny (model X.prog X.w) X.A (eval b X.env) (fun u s₂ => wpAny (model X.prog X.w) X.A (f v u) Q X.xe s₂) X.xe s₁) X.xe s:=by
 refine Ap (ha pins s σ H _ I h) fun v s1 ⟨x,H1,I1,r1,q1⟩ => ?_
 refine Ap (hb pins s1 σ H1 _ I1 q1) fun u s2 ⟨y,H2,I2,r2,q2⟩ => ?_
 exact hf v u s2 x y H2 I2 r1 r2 q2
theorem Sw {op:Operator} {r:R2} (ho:DJ X (binaryOp op) r) (ha:PE X a ta) (hb:PE X b tb):PE X (.BinOp a op b pos) (Vy r ta tb):=by
 intro pins s σ H Q I h
 exact wpAny_BinOp (UB ha hb I h fun v u s2 x y H2 I2 rx ry q => ho pins s2 σ H2 x y v u Q I2 rx ry q)
theorem Sx {op:UnaryOp} {r:V→Hp→VK→Prop} (ho:Xn X (unaryOp op) r) (ha:PE X a ta):PE X (.UnaryOp op a pos) (ZH r ta):=by
 intro pins s σ H Q I h
 exact UnaryOp_ (Ap (ha pins s σ H _ I h) fun v s1 ⟨x,H1,I1,r1,q1⟩ => ho pins s1 σ H1 x v Q I1 r1 q1)
theorem Xo {f:Value→Value→Sem Value} {C:Int→Int→Prop} {g:Int→Int→Int}
  (rule:∀ (i j:Int) (t u:Tok) (s:Shared) (Q:Value→Shared→Prop) (E:Value→Shared→Prop),C i j→Q (.int (g i j) s.toks) { s with toks:=s.toks + 1 }→wpAny (model X.prog X.w) X.A (f (.int i t) (.int j u)) Q E s) :
  DJ X f (rI C fun i j => .int (g i j)):=by
 intro pins s σ H x y v u Q I rx ry h
 obtain ⟨i,j,rfl,rfl,hc,q⟩:=h
 obtain ⟨t,rfl⟩:=rx
 obtain ⟨t',rfl⟩:=ry
 exact rule i j t t' s _ _ hc ⟨.int (g i j),H,I.tok _,⟨_,rfl⟩,q⟩
theorem Vz {f:Value→Value→Sem Value} {g:Int→Int→Int}
  (rule:∀ (i j:Int) (t u:Tok) (s:Shared) (Q:Value→Shared→Prop) (E:Value→Shared→Prop),Q (.int (g i j) s.toks) { s with toks:=s.toks + 1 }→wpAny (model X.prog X.w) X.A (f (.int i t) (.int j u)) Q E s) :
  DJ X f (Qu fun i j => .int (g i j)):=by
 intro pins s σ H x y v u Q I rx ry h
 obtain ⟨i,j,rfl,rfl,q⟩:=h
 obtain ⟨t,rfl⟩:=rx
 obtain ⟨t',rfl⟩:=ry
 exact rule i j t t' s _ _ ⟨.int (g i j),H,I.tok _,⟨_,rfl⟩,q⟩
theorem RE {f:Value→Value→Sem Value} {g:Int→Int→Bool}
  (rule:∀ (i j:Int) (t u:Tok) (s:Shared) (Q:Value→Shared→Prop) (E:Value→Shared→Prop),Q (.bool (g i j)) s→wpAny (model X.prog X.w) X.A (f (.int i t) (.int j u)) Q E s) :
  DJ X f (Qu fun i j => .bl (g i j)):=by
 intro pins s σ H x y v u Q I rx ry h
 obtain ⟨i,j,rfl,rfl,q⟩:=h
 obtain ⟨t,rfl⟩:=rx
 obtain ⟨t',rfl⟩:=ry
 exact rule i j t t' s _ _ ⟨.bl (g i j),H,I,rfl,q⟩
def WB (i j:Int):Prop:=0 < j∧j < 1073741824
def WC (i j:Int):Prop:=0≤j∧j≤1000000∧i.natAbs < 2 ^ 64
def CMul (i j:Int):Prop:=(-(2 ^ 64) < i∧i < 2 ^ 64)∨(-(2 ^ 64) < j∧j < 2 ^ 64)
theorem CMul.ok {i j:Int} (h:CMul i j):IntMulOk i j:=by
 rcases h with ⟨h1,h2⟩ | ⟨h1,h2⟩
 ·exact .of_left (intBits_le_64 h1 h2)
 ·exact .of_right (intBits_le_64 h1 h2)
theorem Dp:DJ X (binaryOp .Add) (Qu fun i j => .int (i + j)):=Vz fun _ _ _ _ _ _ _ q => add_int q
theorem UC:DJ X (binaryOp .Sub) (Qu fun i j => .int (i - j)):=Vz fun _ _ _ _ _ _ _ q => sub_int q
theorem UD:DJ X (binaryOp .Mult) (rI CMul fun i j => .int (i * j)):=Xo fun _ _ _ _ _ _ _ hc q => mul_int q hc.ok
theorem RF:DJ X (binaryOp .FloorDiv) (rI WB fun i j => .int (i / j)):=Xo fun i j _ _ _ _ _ hc q => by
 have h1:(0:Int) < j:=hc.1
 have h2:j < 1073741824:=hc.2
 exact floordiv_int (by omega) (by rw [Int.fdiv_eq_ediv_of_nonneg i (by omega)]; exact q) (.inl (PyProof.noPylong_small (by omega)))
theorem UE:DJ X (binaryOp .Mod) (rI (fun _ j => 0 < j) fun i j => .int (i % j)):=Xo fun i j _ _ _ _ _ hc q => by
 have h1:(0:Int) < j:=hc
 exact mod_int' (by omega) (by rw [Int.fmod_eq_emod_of_nonneg i (by omega)]; exact q)
theorem UF:DJ X (binaryOp .Pow) (rI WC fun i j => .int (i ^ j.toNat)):=Xo fun _ _ _ _ _ _ _ hc q => pow_int_small hc.1 hc.2.1 hc.2.2 q
theorem ZI {f:Value→Sem Value} {g:Int→Int}
  (rule:∀ (i:Int) (t:Tok) (s:Shared) (Q:Value→Shared→Prop) (E:Value→Shared→Prop),Q (.int (g i) s.toks) { s with toks:=s.toks + 1 }→wpAny (model X.prog X.w) X.A (f (.int i t)) Q E s) :
  Xn X f (rU fun i => .int (g i)):=by
 intro pins s σ H x v Q I rx h
 obtain ⟨i,rfl,q⟩:=h
 obtain ⟨t,rfl⟩:=rx
 exact rule i t s _ _ ⟨.int (g i),H,I.tok _,⟨_,rfl⟩,q⟩
theorem Ny:Xn X (unaryOp .USub) (rU fun i => .int (-i)):=ZI fun _ _ _ _ _ q => neg_int q
end
def WD:V→V→Bool
 | .non,.non => true | .non,.int _ => true | .int _,.non => true | .non,.bl _ => true | .bl _,.non => true | .non,.str _ => true | .str _,.non => true
 | .int _,.int _ => true | .bl _,.bl _ => true | .str _,.str _ => true | .byt _,.byt _ => true
 | .int _,.str _ => true | .str _,.int _ => true | .bl _,.str _ => true | .str _,.bl _ => true
 | _,_ => false
def YO:R2:=fun x y H Q => WD x y = true∧Q (.bl (decide (x = y))) H
def Yt:R2:=fun x y H Q => WD x y = true∧Q (.bl (!decide (x = y))) H
theorem Lk {i j:Int}:decide (V.int i = V.int j) = (i == j):=by
 rw [Bool.eq_iff_iff]
 simp
theorem Nz {i j:Bool}:decide (V.bl i = V.bl j) = (i == j):=by
 rw [Bool.eq_iff_iff]
 simp
theorem IG {i j:Str}:decide (V.str i = V.str j) = (i == j):=by
 rw [Bool.eq_iff_iff]
 simp
theorem Ll {i j:Array UInt8}:decide (V.byt i = V.byt j) = (i.toList == j.toList):=by
 rw [Bool.eq_iff_iff]
 cases i
 cases j
 simp
section
variable {X:Cx} {a b c:Expr} {ta tb tc:TE} {pos:Pos}
theorem AY {pins:List (Addr × Obj)} {σ:St} {H:Hp} {s:Shared} {Q:VK} {k k':Bool} (I:Inv X pins σ H s) (q:Q (.bl k) H) (e:k = k'):EP X pins σ Q (.bool k') s:=by
 subst e
 exact ⟨.bl k,H,I,rfl,q⟩
theorem HI:DJ X (compareOp .Eq) YO:=by
 intro pins s σ H x y v u Q I rx ry h
 obtain ⟨hs,q⟩:=h
 cases x with
 | non =>
  cases rx
  cases y with
  | non => cases ry; exact PySem.EqNone.eq_none_none (AY I q (by simp))
  | bl j => cases ry; exact PySem.EqNone.eq_none_bool (AY I q (by simp))
  | int j => obtain ⟨t',rfl⟩:=ry; exact PySem.EqNone.eq_none_int (AY I q (by simp))
  | str j => obtain ⟨t',rfl⟩:=ry; exact PySem.EqNone.eq_none_str (AY I q (by simp))
  | _ => exact absurd (show false = true from hs) Bool.false_ne_true
 | bl i =>
  cases rx
  cases y with
  | non => cases ry; exact PySem.EqNone.eq_bool_none (AY I q (by simp))
  | bl j => cases ry; exact eq_bool (AY I q Nz)
  | str j => obtain ⟨t',rfl⟩:=ry; exact PySem.EqMixed.eq_bool_str (AY I q (by simp))
  | _ => exact absurd (show false = true from hs) Bool.false_ne_true
 | int i =>
  obtain ⟨t,rfl⟩:=rx
  cases y with
  | non => cases ry; exact PySem.EqNone.eq_int_none (AY I q (by simp))
  | int j => obtain ⟨t',rfl⟩:=ry; exact eq_int (AY I q Lk)
  | str j => obtain ⟨t',rfl⟩:=ry; exact PySem.EqMixed.eq_int_str (AY I q (by simp))
  | _ => exact absurd (show false = true from hs) Bool.false_ne_true
 | str i =>
  obtain ⟨t,rfl⟩:=rx
  cases y with
  | non => cases ry; exact PySem.EqNone.eq_str_none (AY I q (by simp))
  | bl j => cases ry; exact PySem.EqMixed.eq_str_bool (AY I q (by simp))
  | int j => obtain ⟨t',rfl⟩:=ry; exact PySem.EqMixed.eq_str_int (AY I q (by simp))
  | str j => obtain ⟨t',rfl⟩:=ry; exact eq_str (AY I q IG)
  | _ => exact absurd (show false = true from hs) Bool.false_ne_true
 | byt i =>
  obtain ⟨t,rfl⟩:=rx
  cases y with
  | byt j => obtain ⟨t',rfl⟩:=ry; exact PySem.W.eq_bytes (AY I q Ll)
  | _ => exact absurd (show false = true from hs) Bool.false_ne_true
 | _ => cases y <;> exact absurd (show false = true from hs) Bool.false_ne_true
theorem OA:DJ X (compareOp .NotEq) Yt:=by
 intro pins s σ H x y v u Q I rx ry h
 obtain ⟨hs,q⟩:=h
 cases x with
 | non =>
  cases rx
  cases y with
  | non => cases ry; exact PySem.EqNone.ne_none_none (AY I q (by simp))
  | bl j => cases ry; exact PySem.EqNone.ne_none_bool (AY I q (by simp))
  | int j => obtain ⟨t',rfl⟩:=ry; exact PySem.EqNone.ne_none_int (AY I q (by simp))
  | str j => obtain ⟨t',rfl⟩:=ry; exact PySem.EqNone.ne_none_str (AY I q (by simp))
  | _ => exact absurd (show false = true from hs) Bool.false_ne_true
 | bl i =>
  cases rx
  cases y with
  | non => cases ry; exact PySem.EqNone.ne_bool_none (AY I q (by simp))
  | bl j => cases ry; exact ne_bool (AY I q (congrArg not Nz))
  | str j => obtain ⟨t',rfl⟩:=ry; exact PySem.EqMixed.ne_bool_str (AY I q (by simp))
  | _ => exact absurd (show false = true from hs) Bool.false_ne_true
 | int i =>
  obtain ⟨t,rfl⟩:=rx
  cases y with
  | non => cases ry; exact PySem.EqNone.ne_int_none (AY I q (by simp))
  | int j => obtain ⟨t',rfl⟩:=ry; exact ne_int (AY I q (congrArg not Lk))
  | str j => obtain ⟨t',rfl⟩:=ry; exact PySem.EqMixed.ne_int_str (AY I q (by simp))
  | _ => exact absurd (show false = true from hs) Bool.false_ne_true
 | str i =>
  obtain ⟨t,rfl⟩:=rx
  cases y with
  | non => cases ry; exact PySem.EqNone.ne_str_none (AY I q (by simp))
  | bl j => cases ry; exact PySem.EqMixed.ne_str_bool (AY I q (by simp))
  | int j => obtain ⟨t',rfl⟩:=ry; exact PySem.EqMixed.ne_str_int (AY I q (by simp))
  | str j => obtain ⟨t',rfl⟩:=ry; exact ne_str (AY I q (congrArg not IG))
  | _ => exact absurd (show false = true from hs) Bool.false_ne_true
 | byt i =>
  obtain ⟨t,rfl⟩:=rx
  cases y with
  | byt j => obtain ⟨t',rfl⟩:=ry; exact PySem.W.ne_bytes (AY I q (congrArg not Ll))
  | _ => exact absurd (show false = true from hs) Bool.false_ne_true
 | _ => cases y <;> exact absurd (show false = true from hs) Bool.false_ne_true
theorem Sy:DJ X (compareOp .Lt) (Qu fun i j => .bl (decide (i < j))):=RE fun _ _ _ _ _ _ _ q => lt_int q
theorem OB:DJ X (compareOp .LtE) (Qu fun i j => .bl (decide (i≤j))):=RE fun _ _ _ _ _ _ _ q => le_int q
theorem Sz:DJ X (compareOp .Gt) (Qu fun i j => .bl (decide (j < i))):=RE fun _ _ _ _ _ _ _ q => gt_int q
theorem TB:DJ X (compareOp .GtE) (Qu fun i j => .bl (decide (j≤i))):=RE fun _ _ _ _ _ _ _ q => ge_int q
theorem Ad (b:Expr) {op:CmpOp} (h:op≠.In:=by decide) (h2:op≠.NotIn:=by decide):behindInMarks op b = false:=by
 have e1:(op == CmpOp.In) = false:=by cases op <;> first | rfl | exact absurd rfl h
 have e2:(op == CmpOp.NotIn) = false:=by cases op <;> first | rfl | exact absurd rfl h2
 cases b <;> simp [behindInMarks,e1,e2]
theorem RG {op:CmpOp} {r:R2} (ho:DJ X (compareOp op) r) (ha:PE X a ta) (hb:PE X b tb) (hm:behindInMarks op b = false):PE X (.Compare a [op] [b] pos) (Vy r ta tb):=by
 intro pins s σ H Q I h
 exact wpAny_Compare1 (UB ha hb I h fun v u s2 x y H2 I2 rx ry q => ho pins s2 σ H2 x y v u Q I2 rx ry q) hm
def WF (t:TE):TT:=fun σ H Q => t σ H fun x H' => ∃ k,x = .bl k∧Q k H'
theorem EE {op:CmpOp} {r:R2} (ho:DJ X (compareOp op) r) (ha:PE X a ta) (hb:PE X b tb) (hm:behindInMarks op b = false):PT X (.Compare a [op] [b] pos) (WF (Vy r ta tb)):=by
 intro pins s σ H Q I h
 refine wpAny_isTrue_Compare1 (Ap (ha pins s σ H _ I h) fun v s1 ⟨x,H1,I1,r1,q1⟩ => Ap (hb pins s1 σ H1 _ I1 q1) fun u s2 ⟨y,H2,I2,r2,q2⟩ =>
  Ap (ho pins s2 σ H2 x y v u _ I2 r1 r2 q2) fun c s3 ⟨z,H3,I3,r3,k,e,q3⟩ => ?_) hm
 subst e
 cases r3
 exact wpAny_truthy_bool ⟨H3,I3,q3⟩
def UG (r r':R2) (ta tb tc:TE):TE:=fun σ H Q => ta σ H fun x H1 => tb σ H1 fun y H2 => r x y H2 fun z H3 => ∃ k,z = .bl k ∧
 (if k = true then tc σ H3 fun w' H4 => r' y w' H4 Q else Q (.bl false) H3)
theorem OC {op op':CmpOp} {r r':R2} (ho:DJ X (compareOp op) r) (ho':DJ X (compareOp op') r') (ha:PE X a ta) (hb:PE X b tb) (hc:PE X c tc)
  (hm:lastMarks [op,op'] [b,c] = false:=by with_unfolding_all rfl):PE X (.Compare a [op,op'] [b,c] pos) (UG r r' ta tb tc):=by
 intro pins s σ H Q I h
 refine Compare_chain (Ap (ha pins s σ H _ I h) fun v s1 ⟨x,H1,I1,r1,q1⟩ => chain_link (Ap (hb pins s1 σ H1 _ I1 q1) fun u s2 ⟨y,H2,I2,r2,q2⟩ =>
  Ap (ho pins s2 σ H2 x y v u _ I2 r1 r2 q2) fun d s3 ⟨z,H3,I3,r3,k,e,q3⟩ => ?_)) hm
 subst e
 cases r3
 refine wpAny_truthy_bool ?_
 cases k with
 | false => exact ite_ff ⟨.bl false,H3,I3,rfl,q3⟩
 | true => exact ite_tt (chain_last (Ap (hc pins s3 σ H3 _ I3 q3) fun w' s4 ⟨z',H4,I4,r4,q4⟩ => ho' pins s4 σ H4 y z' u w' Q I4 r2 r4 q4))
def UH (K:PySem.W.Frag) (x:V) (H:Hp) (k:Bool):Prop :=
 match x with
 | .non => k = false
 | .bl b => k = b
 | .int i => k = (i != 0)
 | .str y => y.length≤sizeLine∧k = ((y.length:Int) != 0)
 | .byt y => y.size≤sizeLine∧k = ((y.size:Int) != 0)
 | .ref p => (∃ xs,SqL K H p xs∧k = !xs.isEmpty)∨(∃ xs,IE K H p xs∧k = !xs.isEmpty)∨∃ kvs,H p = some (.dK kvs)∧k = !kvs.isEmpty
 | _ => False
theorem KW {κ:Type} {kvs:List (κ × V)} {vs:List (κ × Value)} (r:KV kvs vs):(!vs.isEmpty) = !kvs.isEmpty:=by
 cases r <;> rfl
theorem Fp {xs:List V} {its:List Value} (r:Vals xs its):(!its.toArray.isEmpty) = !xs.isEmpty:=by
 cases r <;> simp
theorem Ek:(sizeLine:Nat) < 2 ^ 63:=by rw [sizeLine_eq]; decide
theorem UI:YN X (fun x H Q => ∃ k,UH X.K x H k∧Q k H):=by
 intro pins s σ H x v Q I rx h
 obtain ⟨k,e,q⟩:=h
 have hl:=Ek
 have hs:sizeLine = 16777216:=sizeLine_eq
 cases x with
 | non =>
  cases rx
  have e':k = false:=e
  subst e'
  exact truthy_none ⟨H,I,q⟩
 | bl b =>
  cases rx
  have e':k = b:=e
  subst e'
  exact wpAny_truthy_bool ⟨H,I,q⟩
 | int i =>
  obtain ⟨t,rfl⟩:=rx
  have e':k = (i != 0):=e
  subst e'
  exact PySem.P.truthy_int ⟨H,I,q⟩
 | str y =>
  obtain ⟨t,rfl⟩:=rx
  obtain ⟨hy,e'⟩:y.length≤sizeLine∧k = ((y.length:Int) != 0):=e
  subst e'
  exact PySem.P.truthy_str (by omega) ⟨H,I.tok _,q⟩
 | byt y =>
  obtain ⟨t,rfl⟩:=rx
  obtain ⟨hy,e'⟩:y.size≤sizeLine∧k = ((y.size:Int) != 0):=e
  subst e'
  exact PySem.W.truthy_bytes (by omega) ⟨H,I.tok _,q⟩
 | ref p =>
  cases rx
  have e':(∃ xs,SqL X.K H p xs∧k = !xs.isEmpty)∨(∃ xs,IE X.K H p xs∧k = !xs.isEmpty)∨∃ kvs,H p = some (.dK kvs)∧k = !kvs.isEmpty:=e
  rcases e' with ⟨xs,hx,e'⟩ | ⟨xs,hx,e'⟩ | ⟨kvs,hx,e'⟩
  ·subst e'
   obtain ⟨its,r,pl,hz⟩:=I.list hx
   have hlen:=r.length
   exact wpAny_truthy_list pl.isList (by simp only [List.size_toArray]; omega) ⟨H,I.tok _,by rw [Fp r]; exact q⟩
  ·subst e'
   obtain ⟨its,r,pl,hz⟩:=I.tuple hx
   have hlen:=r.length
   exact truthy_tuple pl (by simp only [List.size_toArray]; omega) ⟨H,I.tok _,by rw [Fp r]; exact q⟩
  ·subst e'
   obtain ⟨hz,hS,vs,r,m⟩:kvs.length≤sizeLine∧(p == sysModules) = false∧∃ vs,KV kvs vs∧s.heap.DictOf (IA X.prog X.w) p vs:=I.hok p _ hx
   have hlen:kvs.length = vs.length:=Paired.length r
   exact wpAny_truthy_dict hS m (by omega) ⟨H,I.tok _,by rw [KW r]; exact q⟩
 | _ => exact (show False from e).elim
theorem JP (ha:PE X a ta) (he:∀ whole,isTrue a X.env whole = (do let v ← whole; standAt a.pos; holding [v] (truthy v))) :
  PT X a (fun σ H Q => ta σ H fun x H' => ∃ k,UH X.K x H' k∧Q k H'):=by
 intro pins s σ H Q I h
 exact isTrue_plain (Ap (ha pins s σ H _ I h) fun v s1 ⟨x,H1,I1,r1,q1⟩ => UI pins s1 σ H1 x v Q I1 r1 q1) (he _)
theorem Fq {x:V} {us:List Value} (r:Vals [x] us):∃ u,us = [u]∧RelV x u:=by
 cases r with
 | cons r1 r2 => cases r2; exact ⟨_,rfl,r1⟩
theorem JQ {x y:V} {us:List Value} (r:Vals [x,y] us):∃ u w',us = [u,w']∧RelV x u∧RelV y w':=by
 cases r with
 | cons r1 r2 =>
  cases r2 with
  | cons r3 r4 => cases r4; exact ⟨_,_,rfl,r1,r3⟩
theorem Mw (hc:X.calm = true):BR X (.builtin "max") (fun xs H Q => ∃ i j,xs = [.int i,.int j]∧Q (.int (if j > i then j else i)) H):=by
 intro pins s σ H xs us Q I r h
 obtain ⟨i,j,rfl,q⟩:=h
 obtain ⟨u,w',rfl,⟨t,rfl⟩,⟨t',rfl⟩⟩:=JQ r
 refine max_two_ints (I.ok.hd hc) fun h' tk k => ⟨_,H,I.kept k,?_,q⟩
 by_cases hj:j > i
 ·rw [if_pos hj,if_pos hj]; exact ⟨_,rfl⟩
 ·rw [if_neg hj,if_neg hj]; exact ⟨_,rfl⟩
theorem Mx (hc:X.calm = true):BR X (.builtin "min") (fun xs H Q => ∃ i j,xs = [.int i,.int j]∧Q (.int (if j < i then j else i)) H):=by
 intro pins s σ H xs us Q I r h
 obtain ⟨i,j,rfl,q⟩:=h
 obtain ⟨u,w',rfl,⟨t,rfl⟩,⟨t',rfl⟩⟩:=JQ r
 refine min_two_ints (I.ok.hd hc) fun h' tk k => ⟨_,H,I.kept k,?_,q⟩
 by_cases hj:j < i
 ·rw [if_pos hj,if_pos hj]; exact ⟨_,rfl⟩
 ·rw [if_neg hj,if_neg hj]; exact ⟨_,rfl⟩
theorem My:BR X (.type "int") (fun xs H Q => (∃ i,xs = [.int i]∧Q (.int i) H)∨∃ k,xs = [.bl k]∧Q (.int (if k then 1 else 0)) H):=by
 intro pins s σ H xs us Q I r h
 rcases h with ⟨i,rfl,q⟩ | ⟨k,rfl,q⟩
 ·obtain ⟨u,rfl,t,rfl⟩:=Fq r
  exact call_int_int ⟨.int i,H,I,⟨_,rfl⟩,q⟩
 ·obtain ⟨u,rfl,r1⟩:=Fq r
  cases r1
  exact call_int_bool ⟨.int (if k then 1 else 0),H,I.tok _,⟨_,rfl⟩,q⟩
end
structure ObjM (h:Heap) (x dx C:Addr) (mA:Str→Option Value):Prop where
 obj:h.get? x = some (PySem.W.instObj C dx)
 ns:h.Ns1 dx mA
 ne:dx≠x
theorem HJ {h:Heap} {dx:Addr} {mA:Str→Option Value} (n:h.Ns1 dx mA):∃ od,h.get? dx = some od∧∀ name,PySem.W.lookIn name od = some (mA name):=by
 obtain ⟨o,es,ep,ho,hd,hk,_,hm⟩:=n
 refine ⟨o,ho,fun name => ?_⟩
 have e:=hm name
 unfold nsFind findBy at e
 rw [← Array.find?_toList] at e
 unfold PySem.W.lookIn
 rw [hd]
 dsimp only
 split
 ·rename_i y q
  rw [q] at e
  exact congrArg some e
 ·rename_i q
  rw [q] at e
  have a:es.toList.any (·.refKey) = false:=by
   rw [List.any_eq_false]
   intro y hy
   obtain ⟨z,t,hkey⟩:=hk y (Array.mem_toList_iff.mp hy)
   simp [DictEntry.refKey,hkey]
  have a':¬ es.toList.any (·.refKey) = true:=by rw [a]; exact Bool.false_ne_true
  rw [if_neg a']
  exact congrArg some e
theorem ObjM.look {h:Heap} {x dx C:Addr} {mA:Str→Option Value} (I:ObjM h x dx C mA):∃ od,PySem.W.InstAt h x (PySem.W.instObj C dx) C (some od)∧∀ name,PySem.W.lookIn name od = some (mA name) :=
 let ⟨od,ho,hl⟩:=HJ I.ns
 ⟨od,⟨I.obj,rfl,rfl,ho⟩,hl⟩
section
variable {prog:Program} {w:World} {A:Around} {E:Value→Shared→Prop} {s:Shared} {K:PySem.W.Frag} {x dx C f:Addr} {mA:Str→Option Value} {name:Str} {v:Value}
theorem RH {expr:Bool} {Q:Value→Shared→Prop} (X:K.In s.heap) (I:ObjM s.heap x dx C mA) (hg:PySem.W.plainGet K C name = true) (hh:PySem.W.hasDictIn K C = true)
  (ha:PySem.W.findIn K (.ref C) name = some none) (hv:mA name = some v) (hv':PySem.W.handedIn v = true) (h:Q v { s with toks:=s.toks + 1 }) :
  wpAny (model prog w) A (getAttr (.ref x) name expr) Q E s:=by
 obtain ⟨od,J,hl⟩:=I.look
 exact PySem.W.get_value X J (PySem.W.plainGet_of hg).1 (PySem.W.findObj_own hh ha rfl (by rw [hl,hv])) hv' h
end
def Fs (f:Str) (v:V):List (Str × V)→List (Str × V)
 | [] => [(f,v)]
 | (g,x) :: r => if g = f then (g,v) :: r else (g,x) :: Fs f v r
theorem FN (f g:Str) (v:V):∀ fs:List (Str × V),(Fs f v fs).lookup g = if g = f then some v else fs.lookup g
 | [] => by
  show List.lookup g [(f,v)] = _
  by_cases h:g = f
  ·have hb:(g == f) = true:=beq_iff_eq.mpr h
   simp only [List.lookup,hb,if_pos h]
  ·have hb:(g == f) = false:=beq_eq_false_iff_ne.mpr h
   simp only [List.lookup,hb,if_neg h]
 | (k,x) :: r => by
  have ih:=FN f g v r
  rw [show Fs f v ((k,x) :: r) = (if k = f then (k,v) :: r else (k,x) :: Fs f v r) from rfl]
  by_cases hk:k = f
  ·rw [if_pos hk]
   by_cases h:g = k
   ·have hb:(g == k) = true:=beq_iff_eq.mpr h
    simp only [List.lookup,hb,if_pos (h.trans hk)]
   ·have hb:(g == k) = false:=beq_eq_false_iff_ne.mpr h
    simp only [List.lookup,hb,if_neg (fun e:g = f => h (e.trans hk.symm))]
  ·rw [if_neg hk]
   by_cases h:g = k
   ·have hb:(g == k) = true:=beq_iff_eq.mpr h
    simp only [List.lookup,hb,if_neg (fun e:g = f => hk (h.symm.trans e))]
   ·have hb:(g == k) = false:=beq_eq_false_iff_ne.mpr h
    simp only [List.lookup,hb]
    exact ih
theorem El (f:Str) (v:V):∀ fs:List (Str × V),f∈(Fs f v fs).map (·.1)∧∀ g,g∈fs.map (·.1)→g∈(Fs f v fs).map (·.1)
 | [] => ⟨by simp [Fs],fun g h => by simp at h⟩
 | (k,x) :: r => by
  obtain ⟨i1,i2⟩:=El f v r
  rw [show Fs f v ((k,x) :: r) = (if k = f then (k,v) :: r else (k,x) :: Fs f v r) from rfl]
  by_cases hk:k = f
  ·rw [if_pos hk]
   subst hk
   exact ⟨by simp,fun g h => by simpa using h⟩
  ·rw [if_neg hk]
   refine ⟨?_,fun g h => ?_⟩
   ·rw [List.map_cons]
    exact List.mem_cons_of_mem _ i1
   ·rw [List.map_cons] at h ⊢
    rcases List.mem_cons.mp h with e | e
    ·exact List.mem_cons.mpr (.inl e)
    ·exact List.mem_cons_of_mem _ (i2 g e)
theorem RelO.some_of {v:V} {o:Option Value} (r:RelO (some v) o):∃ u,o = some u∧RelV v u:=by
 cases o with
 | none => exact (show False from r).elim
 | some u => exact ⟨u,rfl,r⟩
theorem Mz {v:V} {u:Value} (r:RelV v u):PySem.W.handedIn u = true:=by
 cases v with
 | non => cases (show u = Value.none from r); rfl
 | bl b => cases (show u = Value.bool b from r); rfl
 | int i => obtain ⟨t,e⟩:=(show ∃ t,u = Value.int i t from r); cases e; rfl
 | str x => obtain ⟨t,e⟩:=(show ∃ t,u = Value.str x t from r); cases e; rfl
 | byt b => obtain ⟨t,e⟩:=(show ∃ t,u = Value.bytes b t from r); cases e; rfl
 | flt b => obtain ⟨t,e⟩:=(show ∃ t,u = Value.float b t from r); cases e; rfl
 | ref a => cases (show u = Value.ref a from r); rfl
 | ty n => cases (show u = Value.type n from r); rfl
section
variable {P:Program} {w:World} {H H':Hp} {h h':Heap} {a C dx:Addr} {fs fs':List (Str × V)}
theorem Lm (hok:HOk P w H h) (e:H a = some (.ins C dx fs)):∃ mA,ObjM h a dx C mA∧(∀ f,RelO (fs.lookup f) (mA f))∧PySem.Within mA (fs.map (·.1))∧fs.length≤1000∧H dx = some (.own a):=by
 obtain ⟨d,z,ne,ob,mA,n,r,q⟩:=(show ObjOk P w H h a (.ins C dx fs) from hok a _ e)
 exact ⟨mA,⟨ob,n,ne⟩,r,q,z,d⟩
end
structure Cls (K:PySem.W.Frag) (C:Addr):Prop where
 pg:PySem.W.plainGet K C Str.empty = true
 hd:PySem.W.hasDictIn K C = true
 po:PySem.W.plainOver K C = true
 sa:PySem.W.findIn K (.ref C) "__setattr__" = some (some (.builtin "object.__setattr__"))
theorem Cls.get {K:PySem.W.Frag} {C:Addr} (c:Cls K C) (f:Str):PySem.W.plainGet K C f = true:=c.pg
def OD (K:PySem.W.Frag) (C:Addr) (f:Str):Prop:=PySem.W.findIn K (.ref C) f = some none
structure Con (K:PySem.W.Frag) (C:Addr) (f:Str) (v:V) (u:Value):Prop where
 at_:PySem.W.findIn K (.ref C) f = some (some u)
 rel:RelV v u
 get:PySem.W.specialIn K u "__get__" = some none
 cp:PySem.W.copiedNames.contains f = false
structure Meth (K:PySem.W.Frag) (C:Addr) (m:Str) (f:Addr):Prop where
 at_:PySem.W.findIn K (.ref C) m = some (some (.ref f))
 fn:PySem.W.isFn K (.ref f) = true
 kp:PySem.W.keepIn K (.ref f) = true
section
variable {X:Cx} {pins:List (Addr × Obj)} {σ:St} {H:Hp} {s:Shared} {a C dx:Addr} {fs:List (Str × V)} {f:Str} {v:V} {A:Around} {E:Value→Shared→Prop}
theorem KY {b:Bool} {Q:Value→Shared→Prop} (I:Inv X pins σ H s) (e:H a = some (.ins C dx fs)) (c:Cls X.K C) (n:OD X.K C f) (l:fs.lookup f = some v)
  (h:∀ u s',Inv X pins σ H s'→RelV v u→Q u s'):wpAny (model X.prog X.w) A (getAttr (.ref a) f b) Q E s:=by
 obtain ⟨mA,O,r,_,_,_⟩:=Lm I.hok e
 obtain ⟨u,hu,ru⟩:=RelO.some_of (v:=v) (o:=mA f) (by rw [← l]; exact r f)
 exact RH I.kIn O (c.get f) c.hd n hu (Mz ru) (h u _ (I.tok _) ru)
theorem Ln {prog:Program} {w:World} {env:Env} {e:Expr} {f:Str} {pos:Pos} {s:Shared} {Q:Value→Shared→Prop} (hb:attributeBase e f env (eval e env) = eval e env)
  (h:wpAny (model prog w) A (eval e env) (fun o s₁ => wpAny (model prog w) A (getAttr o f true) Q E s₁) E s):wpAny (model prog w) A (eval (.Attribute e f pos) env) Q E s :=
 Attribute_any_ h (by rw [arm_eval_Attribute,hb])
end
def YQ (K:PySem.W.Frag) (ta:TE) (f:Str):TE:=fun σ H Q => ta σ H fun x H1 => ∃ a C dx fs v,x = .ref a∧H1 a = some (.ins C dx fs)∧Cls K C∧OD K C f∧fs.lookup f = some v∧Q v H1
section
variable {X:Cx} {o e value:Expr} {f:Str} {pos pos' tpos:Pos} {ta tv:TE}
theorem KZ (he:PE X e ta) (hb:attributeBase e f X.env (eval e X.env) = eval e X.env):PE X (.Attribute e f pos) (YQ X.K ta f):=by
 intro pins s σ H Q I h
 refine Ln hb (Ap (he pins s σ H _ I h) fun u s1 ⟨x,H1,I1,rx,a,C,dx,fs,v,ex,ea,c,n,l,q⟩ => ?_)
 subst ex
 obtain rfl:u = Value.ref a:=rx
 exact KY I1 ea c n l fun u' s2 I2 ru => ⟨v,H1,I2,ru,q⟩
end
section
variable {X:Cx} {pins:List (Addr × Obj)} {σ:St} {H:Hp} {s:Shared} {A:Around} {E:Value→Shared→Prop} {Q:Value→Shared→Prop} {c:Value} {b:Bool}
inductive TyOf (K:PySem.W.Frag) (H:Hp):V→Value→Prop where
 | non:TyOf K H .non (.type "NoneType")
 | bl (x:Bool):TyOf K H (.bl x) (.type "bool")
 | int (i:Int):TyOf K H (.int i) (.type "int")
 | str (x:Str):TyOf K H (.str x) (.type "str")
 | flt (x:UInt64):TyOf K H (.flt x) (.type "float")
 | lst {a:Addr} {xs:List V} (e:H a = some (.lst xs)):TyOf K H (.ref a) (.type "list")
 | frz {a:Addr} {o:Obj} {xs:List V} (e:H a = some (.frz o (.lst xs))):TyOf K H (.ref a) (.type "list")
 | tup {a:Addr} {xs:List V} (e:H a = some (.tup xs)):TyOf K H (.ref a) (.type "tuple")
 | dK {a:Addr} {kvs:List (JL × V)} (e:H a = some (.dK kvs)):TyOf K H (.ref a) (.type "dict")
 | dT {a:Addr} {kvs:List (List JL × V)} (e:H a = some (.dT kvs)):TyOf K H (.ref a) (.type "dict")
 | ins {a C dx:Addr} {fs:List (Str × V)} (e:H a = some (.ins C dx fs)) (cl:Cls K C) (ha:PySem.W.findIn K (.ref C) "__class__" = some (some (.builtin "object.__class__")))
   (hn:PySem.W.specialIn K (.builtin "object.__class__") "__get__" = some (some (.builtin "getset_descriptor.__get__"))) (htk:PySem.W.takesIn K (.builtin "object.__class__") = some true)
   (hm:PySem.W.mroIn K C (.type "object") = some true):TyOf K H (.ref a) (.ref C)
theorem NA {x:V} {u t:Value} (I:Inv X pins σ H s) (rx:RelV x u) (ty:TyOf X.K H x t) (e:PySem.W.kitOne X.K t c = some b) (h:∀ tk,Q (.bool b) { s with toks:=tk }) :
  wpAny (model X.prog X.w) A (call (.builtin "isinstance") [u,c]) Q E s:=by
 cases ty with
 | non => cases (show u = Value.none from rx); exact PySem.W.kia_one PySem.W.kitx_none I.kIn True.intro e (fun z => nomatch z) h
 | bl y => cases (show u = Value.bool y from rx); exact PySem.W.kia_one PySem.W.kitx_bool I.kIn True.intro e (fun z => nomatch z) h
 | int i => obtain ⟨t,q⟩:=(show ∃ t,u = Value.int i t from rx); cases q; exact PySem.W.kia_one PySem.W.kitx_int I.kIn True.intro e (fun z => nomatch z) h
 | str y => obtain ⟨t,q⟩:=(show ∃ t,u = Value.str y t from rx); cases q; exact PySem.W.kia_one PySem.W.kitx_str I.kIn True.intro e (fun z => nomatch z) h
 | flt y => obtain ⟨t,q⟩:=(show ∃ t,u = Value.float y t from rx); cases q; exact PySem.W.kia_one PySem.W.kitx_float I.kIn True.intro e (fun z => nomatch z) h
 | @lst a xs ea =>
  cases (show u = Value.ref a from rx)
  obtain ⟨_,_,n,_,h1⟩:=(show ObjOk X.prog X.w H s.heap a (.lst xs) from I.hok a _ ea)
  exact PySem.W.kia_one PySem.W.kitx_list I.kIn ⟨_,h1,rfl⟩ e (fun z => nomatch z) h
 | @frz a ob xs ea =>
  cases (show u = Value.ref a from rx)
  obtain ⟨_,_,_,n,_,h1⟩:=(show ObjOk X.prog X.w H s.heap a (.frz ob (.lst xs)) from I.hok a _ ea)
  exact PySem.W.kia_one PySem.W.kitx_list I.kIn ⟨_,h1,rfl⟩ e (fun z => nomatch z) h
 | @tup a xs ea =>
  cases (show u = Value.ref a from rx)
  obtain ⟨_,_,_,p⟩:=(show ObjOk X.prog X.w H s.heap a (.tup xs) from I.hok a _ ea)
  obtain ⟨o,h1,h2,_⟩:=p
  exact PySem.W.kia_one PySem.W.kitx_tuple I.kIn ⟨o,h1,h2⟩ e (fun z => nomatch z) h
 | @dK a kvs ea =>
  cases (show u = Value.ref a from rx)
  obtain ⟨_,_,vs,_,p⟩:=(show ObjOk X.prog X.w H s.heap a (.dK kvs) from I.hok a _ ea)
  obtain ⟨o,es,ep,h1,h2,_⟩:=p
  exact PySem.W.kia_one PySem.W.kitx_dict I.kIn ⟨o,h1,h2.1⟩ e (fun z => nomatch z) h
 | @dT a kvs ea =>
  cases (show u = Value.ref a from rx)
  obtain ⟨_,_,xs,_,o,es,ep,h1,h2,_⟩:=(show ObjOk X.prog X.w H s.heap a (.dT kvs) from I.hok a _ ea)
  exact PySem.W.kia_one PySem.W.kitx_dict I.kIn ⟨o,h1,h2.1⟩ e (fun z => nomatch z) h
 | @ins a C dx fs ea cl ha hn htk hm =>
  cases (show u = Value.ref a from rx)
  obtain ⟨mA,O,_⟩:=Lm I.hok ea
  obtain ⟨od,J,_⟩:=O.look
  exact PySem.W.kia_one (PySem.W.kitx_own (cl.get _) cl.hd ha hn htk hm) I.kIn J e (fun z => nomatch z) h
end
structure Room (k:Nat) (A:Around):Prop where
 hd:A.handled = none
 dp:A.depth + 3 * k + 5 < recursionLimit
 un:A.units + 16 * k + 200 < cLine
 gd:A.guards = some []
theorem Room.mono {j k:Nat} {A:Around} (r:Room k A) (h:j≤k):Room j A:=⟨r.hd,by have:=r.dp; omega,by have:=r.un; omega,r.gd⟩
theorem Room.deeper {k:Nat} {A:Around} (r:Room (k + 1) A) (env:Env):Room k (A.deeper env) :=
 ⟨r.hd,by have:=r.dp; show A.depth + 1 + 3 * k + 5 < _; omega,by have:=r.un; show A.units + 3 + 16 * k + 200 < _; omega,r.gd⟩
theorem Ka {A:Around} {C:Addr} {us:List Value} {kw:List (Str × Value)}:(A.under (.builtin "type.__call__" ⟨.ref C :: us,kw⟩)).depth = A.depth + 1:=by
 first | rfl | simp [Around.under,Code.weight,Code.isCreation,Code.isGuard,Code.isCaller,Code.frames,Code.isFrame,guardIds]
theorem Kb {A:Around} {C:Addr} {us:List Value} {kw:List (Str × Value)}:(A.under (.builtin "type.__call__" ⟨.ref C :: us,kw⟩)).units = A.units + 1:=by
 first | rfl | simp [Around.under,Code.cUnits,Code.frames,Code.isFrame]
theorem JR {A:Around} {C:Addr} {us:List Value} {kw:List (Str × Value)}:(A.under (.builtin "type.__call__" ⟨.ref C :: us,kw⟩)).guards = A.guards:=by
 have h:(Code.builtin "type.__call__" ⟨.ref C :: us,kw⟩).isGuard = false:=by
  show guardIds.contains "type.__call__" = false
  decide +kernel
 simp only [Around.under,Code.guards,h]
 cases A.guards <;> rfl
theorem Room.make {k:Nat} {A:Around} (r:Room (k + 1) A) (C:Addr) (us:List Value) (kw:List (Str × Value)):Room k (A.under (.builtin "type.__call__" ⟨.ref C :: us,kw⟩)) :=
 ⟨r.hd,by have:=r.dp; rw [Ka]; omega,by have:=r.un; rw [Kb]; omega,by rw [JR]; exact r.gd⟩
theorem Room.depth {k:Nat} {A:Around} (r:Room k A):A.depth < recursionLimit:=by have:=r.dp; omega
def YR:TA:=fun _ H Q => Q [] H
def WH (ta:TE) (tr:TA):TA:=fun σ H Q => ta σ H fun x H1 => tr σ H1 fun xs H2 => Q (x :: xs) H2
section
variable {X:Cx} {e:Expr} {es:List Expr} {te:TE} {t:TA} {pos:Pos}
theorem An:PA X [] YR:=fun _ _ _ _ H Q I h => Calls.spliced_nil ⟨[],H,I,.nil,h⟩
theorem AJ (ha:PE X e te) (hr:PA X es t) (hs:starEach (e :: es) X.env = (false,eval e X.env) :: starEach es X.env:=by rfl):PA X (e :: es) (WH te t):=by
 intro pos pins s σ H Q I h
 rw [hs]
 show wpAny _ _ (spliced ((false,eval e X.env) :: backTo pos (starEach es X.env))) _ _ s
 refine Calls.spliced_cons (Ap (ha pins s σ H _ I h) fun u s1 ⟨x,H1,I1,r1,q1⟩ => ?_)
 exact Ap (hr pos pins s1 σ H1 _ I1 q1) fun us s2 ⟨xs,H2,I2,r2,q2⟩ => ⟨x :: xs,H2,I2,.cons r1 r2,q2⟩
def YS (t:TA):TE:=fun σ H Q => t σ H fun xs H1 => xs.length≤sizeLine∧∀ p,H1 p = none→Q (.ref p) (upd H1 p (.tup xs))
def YT (t:TA):TE:=fun σ H Q => t σ H fun xs H1 => xs.length≤sizeLine∧∀ p,H1 p = none→Q (.ref p) (upd H1 p (.lst xs))
theorem IH {x1} (h:PA X es t):PE X (.Tuple es x1 pos) (YS t):=by
 intro pins s σ H Q I hq
 refine wpAny_Tuple_spliced (Ap (h pos pins s σ H _ I hq) fun us s1 ⟨xs,H1,I1,r,z,q⟩ => ⟨by rw [← r.length]; exact z,?_⟩)
 have hf:H1 s1.heap.objs.size = none:=I1.hok.fresh (Nat.le_refl _)
 refine ⟨.ref s1.heap.objs.size,upd H1 s1.heap.objs.size (.tup xs),I1.laid (t':=s1.toks) (fun b u e => Heap.get?_push_of_some _ e) (Nat.le_refl _) ?_,rfl,q _ hf⟩
 exact ⟨z,us,r,⟨_,Heap.get?_push_size _ rfl,rfl,_,rfl⟩⟩
theorem Ft (h:PA X es t):PE X (.List es pos) (YT t):=by
 intro pins s σ H Q I hq
 refine wpAny_List_spliced (Ap (h pos pins s σ H _ I hq) fun us s1 ⟨xs,H1,I1,r,z,q⟩ => ⟨by rw [← r.length]; exact z,?_⟩)
 have hf:H1 s1.heap.objs.size = none:=I1.hok.fresh (Nat.le_refl _)
 refine ⟨.ref s1.heap.objs.size,upd H1 s1.heap.objs.size (.lst xs),I1.laid (t':=s1.toks) (fun b u e => Heap.get?_push_of_some _ e) (Nat.le_refl _) ?_,rfl,q _ hf⟩
 exact ⟨z,us,0,r,Heap.get?_push_size _ rfl⟩
end
abbrev Sp:=List V→Hp→VK→XK→Prop
abbrev Nl:=List Env→Hp→Shared→XK→Value→Shared→Prop
structure Env0 (P:Program) (w:World) (K:PySem.W.Frag) (mg:Str→Option Value) (base:Heap) (A:Around) (outer:List Env) (s:Shared) (H:Hp):Prop where
 frames:A.frames = some outer
 mod:Mod K mg base
 bs:∀ b o,base.get? b = some o→s.heap.get? b = some o∧H b = none
 bsz:base.objs.size≤s.heap.objs.size
 funs:s.heap.FunFrames base outer
 frf:∀ b∈Ej outer,H b = none
 hok:HOk P w H s.heap
 bare:AllBare s.gens
def CE (outer:List Env) (P:Program) (w:World) (H:Hp) (s:Shared) (Q:VK) (u:Value) (s':Shared):Prop :=
 ∃ v H',s'.os = s.os∧AllBare s'.gens∧Un (Ej outer) [] H H' s.heap s'.heap∧HOk P w H' s'.heap∧RelV v u∧Q v H'
def CR (CX:Nl) (outer:List Env) (P:Program) (w:World) (H:Hp) (s:Shared) (Q:VK) (E:XK) (r:Result) (s':Shared):Prop :=
 match r with
 | .ok (.ret u) => CE outer P w H s Q u s'
 | .ok _ => False
 | .error e => CX outer H s E e s'
structure FnOk (P:Program) (w:World) (K:PySem.W.Frag) (mg:Str→Option Value) (base:Heap) (CX:Nl) (k:Nat) (f:Addr) (fd:FuncData) (ps:List Str) (sp:Sp):Prop where
 len:∀ vs H Q E,sp vs H Q E→vs.length = ps.length
 run:∀ (A:Around) (outer:List Env) (s:Shared) (H:Hp) (args:Args) (us:List Value) (vs:List V) (Q:VK) (E:XK),Room k A→Env0 P w K mg base A outer s H→BindsTo s fd args (ps.zip us)→Vals vs us→sp vs H Q E →
  codeAny (model P w) A (.call (.ref f) args) (CR CX outer P w H s Q E) s
theorem FnOk.mono {P:Program} {w:World} {K:PySem.W.Frag} {mg:Str→Option Value} {base:Heap} {CX:Nl} {j k:Nat} {f:Addr} {fd:FuncData} {ps:List Str} {sp:Sp} (F:FnOk P w K mg base CX j f fd ps sp) (h:j≤k) :
  FnOk P w K mg base CX k f fd ps sp:=⟨F.len,fun A outer s H args us vs Q E hr => F.run A outer s H args us vs Q E (hr.mono h)⟩
theorem Env0.make {P:Program} {w:World} {K:PySem.W.Frag} {mg:Str→Option Value} {base:Heap} {A:Around} {outer:List Env} {s:Shared} {H:Hp} (e:Env0 P w K mg base A outer s H) (C:Addr) (us:List Value) (kw:List (Str × Value)) :
  Env0 P w K mg base (A.under (.builtin "type.__call__" ⟨.ref C :: us,kw⟩)) outer s H:=⟨by first | exact e.frames | (simpa [Around.under,Code.envs,Code.isFrame,pushEnvs] using e.frames),e.mod,e.bs,e.bsz,e.funs,e.frf,e.hok,e.bare⟩
section
variable {X:Cx} {pins:List (Addr × Obj)} {σ:St} {H:Hp} {s s':Shared}
theorem Inv.env0 (I:Inv X pins σ H s):Env0 X.prog X.w X.K X.mg X.base X.A X.stack s H :=
 ⟨I.ok.frames,I.ok.mod,I.bs,Nat.le_trans I.ok.bsz I.sz,I.stack,I.stkFree,I.hok,I.bare⟩
theorem Inv.after {Q:VK} {u:Value} (I:Inv X pins σ H s) (h:CE X.stack X.prog X.w H s Q u s'):EP X pins σ Q u s':=by
 obtain ⟨v,H',os,bare,un,hok,r,q⟩:=h
 obtain ⟨hh,g,d,t,os'⟩:=s'
 obtain rfl:os' = s.os:=os
 exact ⟨v,H',I.call (h':=hh) (g':=g) (d':=d) (t':=t) (ch:=[]) un hok bare (fun b z => absurd z (by simp)),r,q⟩
end
def Binds (K:PySem.W.Frag) (fd:FuncData) (ps:List Str) (ds:List Value):Prop :=
 ∀ (s:Shared) (us:List Value),K.In s.heap→(us ++ ds).length = ps.length→BindsTo s fd ⟨us,[]⟩ (ps.zip (us ++ ds))
theorem Binds.all {K:PySem.W.Frag} {fd:FuncData} {ps:List Str} (h:∀ us:List Value,us.length = ps.length→bindArgs fd ⟨us,[]⟩ = pure (ps.zip us)):Binds K fd ps []:=fun s us _ hl => by
 rw [List.append_nil] at hl ⊢
 exact .of_eq (h us hl)
section
variable {X:Cx} {CX:Nl} {k:Nat} {f C:Addr} {fd:FuncData} {ps:List Str} {sp:Sp} {dvs:List V} {ds:List Value} {E:XK} {x m:Str} {p pos apos:Pos} {e o:Expr} {es:List Expr} {ta:TE} {t:TA}
structure Mk (K:PySem.W.Frag) (C f:Addr):Prop where
 makes:PySem.W.makesIn K C = true
 init:PySem.W.findIn K (.ref C) "__init__" = some (some (.ref f))
 fn:PySem.W.isFn K (.ref f) = true
 kp:PySem.W.keepIn K (.ref C) = true
end
section
variable {X:Cx} {CX:Nl} {k:Nat} {f C:Addr} {fd:FuncData} {ps ks:List Str} {sp:Sp} {E:XK} {x m:Str} {p pos apos kpos:Pos} {e o:Expr} {es:List Expr} {kws:List Keyword} {te ta:TE} {t tk:TA} {nm:Option Str}
structure KBinds (K:PySem.W.Frag) (fd:FuncData) (ps ks:List Str) (g:List Value→List Value→List Value) (gV:List V→List V→List V):Prop where
 to:∀ (s:Shared) (us ws:List Value),K.In s.heap→(g us ws).length = ps.length→BindsTo s fd ⟨us,ks.zip ws⟩ (ps.zip (g us ws))
 rel:∀ {vs:List V} {us:List Value} {zs:List V} {ws:List Value},Vals vs us→Vals zs ws→Vals (gV vs zs) (g us ws)
variable {g:List Value→List Value→List Value} {gV:List V→List V→List V}
end
structure FnScope (N P:List Str) (sc:Scope):Prop where
 kind:sc.kind = .function
 co:sc.isCoroutine = false
 gen:sc.isGenerator = false
 nd:N.Nodup
 pre:N.take P.length = P
 par:∀ x∈P,sc.names.lookup x = some .local∨sc.names.lookup x = some .cell
 nofree:∀ y∈sc.names,y.2≠.free
theorem HL {kindOf:Str→Option NameKind} {x:Str}:∀ {binds:List (Str × Value)} {m:Str→Option Value},(∀ v,(x,v) ∉ binds)→bindL kindOf binds m x = m x
 | [],_,_ => rfl
 | (n,v) :: r,m,h => by
  unfold bindL
  rw [HL fun w hw => h w (List.mem_cons_of_mem _ hw)]
  split
  ·have:x≠n:=by rintro rfl; exact h v List.mem_cons_self
   simp [this]
  ·rfl
theorem HM {kindOf:Str→Option NameKind} {x:Str}:∀ {binds:List (Str × Value)} {m:Str→Option Value},(∀ v,(x,v) ∉ binds)→bindC kindOf binds m x = m x
 | [],_,_ => rfl
 | (n,v) :: r,m,h => by
  unfold bindC
  rw [HM fun w hw => h w (List.mem_cons_of_mem _ hw)]
  split
  ·rfl
  ·have:x≠n:=by rintro rfl; exact h v List.mem_cons_self
   simp [this]
theorem HN {kindOf:Str→Option NameKind} {x:Str} {v:Value}:∀ {P:List Str} {vs:List Value} {i:Nat} {m:Str→Option Value},P.Nodup→P[i]? = some x→vs[i]? = some v→kindOf x = some .local →
  bindL kindOf (P.zip vs) m x = some v
 | [],_,_,_,_,h,_,_ => by simp at h
 | _ :: _,[],_,_,_,_,h,_ => by simp at h
 | p :: P,w :: vs,0,m,nd,h1,h2,hk => by
  simp at h1 h2; subst h1; subst h2
  show bindL kindOf ((p,w) :: P.zip vs) m p = _
  unfold bindL
  rw [HL fun v hv => (List.nodup_cons.mp nd).1 (List.of_mem_zip hv).1,if_pos hk]
  simp
 | p :: P,w :: vs,i + 1,m,nd,h1,h2,hk => by
  show bindL kindOf ((p,w) :: P.zip vs) m x = _
  unfold bindL
  exact HN (i:=i) (List.nodup_cons.mp nd).2 (by simpa using h1) (by simpa using h2) hk
theorem HP {kindOf:Str→Option NameKind} {x:Str} {v:Value}:∀ {P:List Str} {vs:List Value} {i:Nat} {m:Str→Option Value},P.Nodup→P[i]? = some x→vs[i]? = some v→kindOf x≠some .local →
  bindC kindOf (P.zip vs) m x = some v
 | [],_,_,_,_,h,_,_ => by simp at h
 | _ :: _,[],_,_,_,_,h,_ => by simp at h
 | p :: P,w :: vs,0,m,nd,h1,h2,hk => by
  simp at h1 h2; subst h1; subst h2
  show bindC kindOf ((p,w) :: P.zip vs) m p = _
  unfold bindC
  rw [HM fun v hv => (List.nodup_cons.mp nd).1 (List.of_mem_zip hv).1,if_neg hk]
  simp
 | p :: P,w :: vs,i + 1,m,nd,h1,h2,hk => by
  show bindC kindOf ((p,w) :: P.zip vs) m x = _
  unfold bindC
  exact HP (i:=i) (List.nodup_cons.mp nd).2 (by simpa using h1) (by simpa using h2) hk
def start (N:List Str) (vs:List V):St:=vs.map some ++ List.replicate (N.length - vs.length) none
def Bn (CX:Nl) (P:Program) (w:World) (K:PySem.W.Frag) (mg:Str→Option Value) (base:Heap) (N:List Str) (qual:Str) (scope:Scope) (f:Addr) (cd:Value) (A:Around) (outer:List Env) (s:Shared) (H:Hp) (E:XK):Cx where
 prog:=P
 w:=w
 K:=K
 mg:=mg
 base:=base
 A:=A.deeper (envOfC qual scope s.heap.objs.size f cd)
 N:=N
 s₀:=s
 H₀:=H
 env:=envOfC qual scope s.heap.objs.size f cd
 outer:=outer
 stack:=envOfC qual scope s.heap.objs.size f cd :: outer
 ex:=[]
 calm:=true
 fn:=fun _ => true
 pn:=[]
 xe:=fun e s' => wpAny (model P w) (A.deeper (envOfC qual scope s.heap.objs.size f cd)) (leaving (envOfC qual scope s.heap.objs.size f cd) e) (fun _ s'' => CX outer H s E e s'') (fun e' s'' => CX outer H s E e' s'') s'
theorem JS {sc:Scope} {n:Nat} {x:Str} (h:sc.names.lookup x = some .cell):∃ c,(cellsFrom n sc.names []).lookup x = some c:=by
 have q:=PySem.W.cellsFrom_some sc.names n [] (.inl h)
 exact Option.isSome_iff_exists.mp q
theorem HQ {CX:Nl} {P:Program} {w:World} {K:PySem.W.Frag} {mg:Str→Option Value} {base:Heap} {N ps:List Str} {qual:Str} {scope:Scope} {f:Addr} {cd:Value} {A:Around} {outer:List Env} {s s1:Shared} {H:Hp} {E:XK} {us:List Value} {vs:List V}
  (S:FnScope N ps scope) (hd:A.handled = none) (e0:Env0 P w K mg base A outer s H) (hl:vs.length = ps.length) (r:Vals vs us)
  (x:InCallC s s.heap.objs.size (bindL (envOfC qual scope s.heap.objs.size f cd).kindOf (ps.zip us) fun _ => none) (cellsFrom (s.heap.objs.size + 1) scope.names []) (bindC (envOfC qual scope s.heap.objs.size f cd).kindOf (ps.zip us) fun _ => none) s1) :
  Inv (Bn CX P w K mg base N qual scope f cd A outer s H E) [] (start N vs) H s1:=by
 have hpl:ps.length≤N.length:=by have:=congrArg List.length S.pre; rw [List.length_take] at this; omega
 obtain ⟨h1,tk,rfl,hk⟩:=x.done
 have noA:∀ b:Addr,b ∉ (Bn CX P w K mg base N qual scope f cd A outer s H E).ex:=fun b z => absurd (show b∈([]:List Addr) from z) (by simp)
 refine ⟨⟨e0.mod,S.kind,rfl,rfl,Nat.le_refl _,fun y z c h1 h2 => ?_,fun y hy => ?_,fun y c _ h => ?_,fun _ => hd,Around.frames_deeper e0.frames,.inr ⟨rfl,rfl⟩,fun b z => absurd z (noA b),e0.bs,e0.bsz,fun b _ _ => noA b,fun b z => absurd z (noA b),e0.funs,e0.frf⟩,
  rfl,e0.bare,Un.kept hk,⟨_,x.toInCall.ns,fun i y v h1 h2 h3 => ?_⟩,fun y c h => ⟨_,x.cell y c h⟩,e0.hok.fresh (Nat.le_refl _),fun y c h => ?_,fun p hp => absurd (show p∈([]:List (Addr × Obj)) from hp) (by simp),e0.hok.kept hk,?_⟩
 ·exact name_of_addr x.apart (PySem.mem_of_lookup h1) (PySem.mem_of_lookup h2)
 ·have hy:scope.names.lookup y = some .cell∨scope.names.lookup y = some .free:=hy
  rcases hy with hy | hy
  ·exact JS hy
  ·exact absurd rfl (S.nofree _ (PySem.mem_of_lookup hy))
 ·exact Nat.le_of_lt (x.above y c (PySem.mem_of_lookup h))
 ·have hi:i < vs.length:=by
   unfold start at h2
   by_cases hi:i < vs.length
   ·exact hi
   ·rw [List.getElem?_append_right (by simpa using hi)] at h2
    rw [List.getElem?_replicate] at h2
    split at h2 <;> cases h2
  have ha:vs[i]? = some v:=by
   unfold start at h2
   rw [List.getElem?_append_left (by simpa using hi),List.getElem?_map] at h2
   cases e:vs[i]? with
   | none => rw [e] at h2; cases h2
   | some a => rw [e] at h2; cases h2; rfl
  obtain ⟨u,hu,rv⟩:=r.get ha
  have hp:ps[i]? = some y:=by
   rw [← S.pre,List.getElem?_take_of_lt (by omega)]; exact h1
  have ndP:ps.Nodup:=by rw [← S.pre]; exact S.nd.sublist (List.take_sublist _ _)
  refine ⟨u,rv,?_⟩
  rcases S.par y (List.mem_of_getElem? hp) with k | k
  ·exact .inl ⟨k,HN ndP hp hu k⟩
  ·obtain ⟨c,e⟩:=JS (n:=s.heap.objs.size + 1) k
   refine .inr ⟨.inl k,c,e,?_⟩
   have q:=x.cell y c e
   rw [HP ndP hp hu (by show scope.names.lookup y≠_; rw [k]; decide)] at q
   exact q
 ·exact e0.hok.fresh (Nat.le_of_lt (x.above y c (PySem.mem_of_lookup h)))
 ·unfold start
  show _ = N.length
  rw [List.length_append,List.length_map,List.length_replicate]
  omega
theorem WJ {CX:Nl} {P:Program} {w:World} {K:PySem.W.Frag} {mg:Str→Option Value} {base:Heap} {k:Nat} {f:Addr} {name qual:Str} {params:Arguments} {body:List Stmt} {scope:Scope} {dV kV doc pm cdv ct oc:Value} {an od:Option Addr}
  {osl:Array (Option Value)} {N ps:List Str} {sp:Sp} (lk:K.lookup f = some ⟨oc,od,.func (PySem.W.fnOf name qual params body scope dV kV doc pm an cdv ct),osl⟩) (hcd:PySem.W.codeIn K cdv qual = true) (S:FnScope N ps scope)
  (len:∀ vs H Q E,sp vs H Q E→vs.length = ps.length)
  (hbody:∀ (A:Around) (outer:List Env) (s:Shared) (H:Hp) (vs:List V) (Q:VK) (E:XK),Room k (A.deeper (envOfC qual scope s.heap.objs.size f cdv))→sp vs H Q E →
   ∃ t,PSs (Bn CX P w K mg base N qual scope f cdv A outer s H E) body t∧t { nx:=fun _ H' => Q .non H',rt:=Q } (start N vs) H) :
  FnOk P w K mg base CX (k + 1) f (PySem.W.fnOf name qual params body scope dV kV doc pm an cdv ct) ps sp:=by
 refine ⟨len,fun A outer s H args us vs Q E hr e0 hb r hsp => ?_⟩
 have hl:=len _ _ _ _ hsp
 have KX:K.In s.heap:=e0.mod.kin.keeps fun b o e => (e0.bs b o e).1
 have lim:s.heap.NoLimit:=e0.mod.nolimit.keeps fun b o e => (e0.bs b o e).1
 have hkind:∀ y∈ps.zip us,scope.names.lookup y.1 = some .local∨(scope.names.lookup y.1 = some .cell∧((cellsFrom (s.heap.objs.size + 1) scope.names []).lookup y.1).isSome = true):=fun ⟨n,v⟩ hy => by
  rcases S.par n (List.of_mem_zip hy).1 with q | q
  ·exact .inl q
  ·exact .inr ⟨q,PySem.W.cellsFrom_some _ _ _ (.inl q)⟩
 refine codeAny_call_function hr.depth (KX _ _ lk) rfl S.co S.gen rfl (PySem.W.codeRec_of KX hcd) (hb _ _ _ _ ?_)
 refine wpAny_newFunctionEnv_cells S.kind hkind fun env he s1 x => ?_
 subst he
 refine ⟨lim.keeps x.toInCall.keep,codeAny_func ?_⟩
 obtain ⟨t,ht,hq⟩:=hbody A outer s H vs Q E (hr.deeper _) hsp
 have I:Inv (Bn CX P w K mg base N qual scope f cdv A outer s H E) [] (start N vs) H s1:=HQ S hr.hd e0 hl r x
 refine wpAny_mono (ht [] s1 (start N vs) H _ I hq) (fun fl s' hs => ?_) fun e s' hs => hs
 have fin:∀ {σ':St} {H':Hp} {v:V} {u:Value},Inv (Bn CX P w K mg base N qual scope f cdv A outer s H E) [] σ' H' s'→RelV v u→Q v H'→CE outer P w H s Q u s' :=
  fun {σ' H' v u} J rv q => ⟨v,H',J.os,J.bare,J.base,J.hok,rv,q⟩
 cases fl with
 | ret u =>
  obtain ⟨v,σ',H',J,rv,q⟩:=hs
  exact fin J rv q
 | next =>
  obtain ⟨σ',H',J,q⟩:=hs
  exact fin (v:=V.non) (u:=Value.none) J rfl q
 | brk =>
  obtain ⟨_,_,_,q⟩:=hs
  exact False.elim q
 | cont =>
  obtain ⟨_,_,_,q⟩:=hs
  exact False.elim q
section
variable {X:Cx} {x:Str} {p pos:Pos} {e:Expr} {es:List Expr} {t:TA} {id T:String} {r:List V→Hp→VK→Prop}
def Yu (r:List V→Hp→VK→Prop) (t:TA):TE:=fun σ H Q => t σ H fun vs H1 => r vs H1 Q
theorem As (hc:BR X (.builtin id) r) (hg:Gl X x) (hm:X.mg x = none) (hv:bootBuiltins x = some (.builtin id)) (ha:PA X (e :: es) t) (hn:x≠"__name__":=by decide) (hdb:(x == ("__debug__" : Str)) = false:=by decide)
  (he:starEach (e :: es) X.env = (false,eval e X.env) :: starEach es X.env:=by rfl) (hpl:(backTo pos (starEach es X.env)).any (·.1) = false:=by rfl):PE X (.Call (.Name x p) (e :: es) [] pos) (Yu r t):=by
 intro pins s σ H Q I h
 refine wpAny_Call_Name_kw (ID I hg hm hv ?_ hn hdb)
 exact PyProof.Rows.callWith_builtin1 (Ap (ha pos pins s σ H _ I h) fun us s1 ⟨vs,H1,I1,r1,q1⟩ => hc pins s1 σ H1 vs us Q I1 r1 q1) he hpl
theorem HR (hc:BR X (.type T) r) (hg:Gl X x) (hm:X.mg x = none) (hv:bootBuiltins x = some (.type T)) (ha:PA X (e :: es) t) (hn:x≠"__name__":=by decide) (hdb:(x == ("__debug__" : Str)) = false:=by decide)
  (he:starEach (e :: es) X.env = (false,eval e X.env) :: starEach es X.env:=by rfl) (hpl:(backTo pos (starEach es X.env)).any (·.1) = false:=by rfl):PE X (.Call (.Name x p) (e :: es) [] pos) (Yu r t):=by
 intro pins s σ H Q I h
 refine wpAny_Call_Name_kw (ID I hg hm hv ?_ hn hdb)
 exact PyProof.Rows.callWith_type1 (Ap (ha pos pins s σ H _ I h) fun us s1 ⟨vs,H1,I1,r1,q1⟩ => hc pins s1 σ H1 vs us Q I1 r1 q1) he hpl
end
end L2
namespace HT
open PySem PyProof.Rows
section
open PySem.SeqAt
open PySem.AutoSeq1 (wpAny_loadPart')
open PySem.MeetsSeq PySem.MeetsSeq2 PySem.MeetsSeq3
end
section
variable {prog:Program} {w:World} {A:Around} {E:Value→Shared→Prop} {s:Shared}
def BK (n d:Nat):Option Int→Nat
 | none => d
 | some v => if v < 0 then (v + (n:Int)).toNat else min v.toNat n
theorem OE (n d:Nat):BK n d none = d:=rfl
theorem RI (n d k:Nat):BK n d (some (k:Int)) = min k n:=by
 show (if (k:Int) < 0 then ((k:Int) + (n:Int)).toNat else min (k:Int).toNat n) = min k n
 rw [if_neg (by omega),Int.toNat_natCast]
theorem UJ (n d:Nat) (hd:d≤n) (o:Option Int):BK n d o≤n:=by
 cases o with
 | none => exact hd
 | some v =>
  show (if v < 0 then (v + (n:Int)).toNat else min v.toNat n)≤n
  by_cases hv:v < 0
  ·rw [if_pos hv]; omega
  ·rw [if_neg hv]; exact Nat.min_le_right _ _
theorem Lo (v:Int) (n d:Nat):(if v < 0 then max (v + (n:Int)) 0 else min v (n:Int)) = ((BK n d (some v):Nat):Int):=by
 show (if v < 0 then max (v + (n:Int)) 0 else min v (n:Int)) = (((if v < 0 then (v + (n:Int)).toNat else min v.toNat n):Nat):Int)
 by_cases hv:v < 0
 ·simp only [if_pos hv]; omega
 ·simp only [if_neg hv]; omega
theorem Kc (lo hi:Option Int) (n:Nat):Builtin.Slice.sliceAdjust lo hi 1 (n:Int) = (((BK n 0 lo:Nat):Int),((BK n n hi:Nat):Int)):=by
 have h1:¬ ((1:Int) < 0):=by omega
 unfold Builtin.Slice.sliceAdjust
 simp only [h1,if_false]
 refine Prod.ext ?_ ?_
 ·cases lo with
  | none => rfl
  | some v => exact Lo v n 0
 ·cases hi with
  | none => rfl
  | some v => exact Lo v n n
theorem Kd (i j:Nat):Builtin.Slice.slicePlaces (i:Int) (j:Int) 1 = j - i:=by
 unfold Builtin.Slice.slicePlaces
 have h1:(1:Int) > 0:=by omega
 simp only [h1,if_true,Int.ediv_one]
 split <;> omega
theorem Fu {v:Value} {o:Option Int} {Q:Option Int→Shared→Prop} (p:IsPart v o) (h:Q o s):wpAny (model prog w) A (Builtin.Slice.slicePartIndex v) Q E s:=by
 cases p with
 | none => exact slicePart_none h
 | int i t => exact slicePart_int h
theorem CU {sl:Addr} {vl vu:Value} {lo hi:Option Int} {n:Nat} {Q:Int × Int × Nat→Shared→Prop} (hs:s.heap.IsSliceOf sl vl vu .none) (pl:IsPart vl lo) (pu:IsPart vu hi)
  (h:Q (((BK n 0 lo:Nat):Int),1,BK n n hi - BK n 0 lo) s):wpAny (model prog w) A (Builtin.Slice.sliceApplied (.ref sl) (pure (n:Int))) Q E s:=by
 obtain ⟨os,hos,hcs,hds⟩:=id hs
 unfold Builtin.Slice.sliceApplied Builtin.Slice.sliceFields
 refine wpAny_bind (wpAny_bind (wpAny_field hos hds (x:=vl) rfl (wpAny_bind (wpAny_field hos hds (x:=vu) rfl (wpAny_bind (wpAny_field hos hds (x:=.none) rfl (wpAny_pure ?_)))))))
 refine wpAny_bind (slicePart_none ?_)
 show wpAny _ _ (if ((1:Int) == 0) = true then _ else _) _ _ s
 rw [if_neg (by decide)]
 refine wpAny_bind (Fu pl (wpAny_bind (Fu pu (wpAny_bind (wpAny_pure ?_)))))
 show wpAny _ _ (match Builtin.Slice.sliceAdjust lo hi 1 (n:Int) with | (lo,hi) => pure (lo,(1:Int),Builtin.Slice.slicePlaces lo hi 1)) _ _ s
 rw [Kc lo hi n]
 show wpAny _ _ (pure (((BK n 0 lo:Nat):Int),(1:Int),Builtin.Slice.slicePlaces ((BK n 0 lo:Nat):Int) ((BK n n hi:Nat):Int) 1)) _ _ s
 rw [Kd]
 exact wpAny_pure h
theorem OF (xs:Array Value) (i k:Nat):((List.range k).filterMap fun (m:Nat) => xs[((i:Int) + (m:Int) * 1).toNat]?).toArray = ((xs.toList.drop i).take k).toArray:=by
 have e:(fun (m:Nat) => xs[((i:Int) + (m:Int) * 1).toNat]?) = fun m => xs[i + m]?:=by
  funext m
  have:((i:Int) + (m:Int) * 1).toNat = i + m:=by omega
  rw [this]
 rw [e]
 have:=pick_run xs i k
 rw [List.filterMap_map] at this
 have e2:((fun x => xs[x]?) ∘ fun x => i + x) = fun m => xs[i + m]?:=rfl
 rw [e2] at this
 rw [this]
theorem EG {t sl:Addr} {items:Array Value} {vl vu:Value} {lo hi:Option Int} {Q:Value→Shared→Prop} (ht:IsTup s.heap t items) (hs:s.heap.IsSliceOf sl vl vu .none) (pl:IsPart vl lo) (pu:IsPart vu hi)
  (hw:¬ (BK items.size 0 lo = 0∧BK items.size items.size hi = items.size))
  (h:Q (.ref s.heap.objs.size) { s with heap:=s.heap.push { cls:=.type "tuple",data:=.seq ((items.toList.drop (BK items.size 0 lo)).take (BK items.size items.size hi - BK items.size 0 lo)).toArray } })
  (hsz:items.size≤sizeLine):wpAny (model prog w) A (getItem (.ref t) (.ref sl)) Q E s:=by
 have htake:sizeOk (.seq ((items.toList.drop (BK items.size 0 lo)).take (BK items.size items.size hi - BK items.size 0 lo)).toArray):=by
  show ((items.toList.drop (BK items.size 0 lo)).take (BK items.size items.size hi - BK items.size 0 lo)).toArray.size≤sizeLine
  rw [List.size_toArray,List.length_take,List.length_drop,Array.length_toList]
  omega
 have hj:BK items.size items.size hi≤items.size:=UJ _ _ (Nat.le_refl _) hi
 obtain ⟨os,hos,hcs,hds⟩:=id hs
 have hTs:s.TypeIs (.ref sl) "slice":=⟨os,hos,hcs⟩
 unfold getItem
 try with_reducible refine wpAny_holding ?_
 first | refine wpAny_bind (wpAny_pure ?_) | skip
 refine wpAny_bind (wpAny_sequenceKey ht.typeIs (by decide) ?_)
 refine wpAny_bind (wpAny_callSpecial?_slot (name:=Str.ofString "__getitem__") ht.typeIs PyProof.Rows.slot_tuple_getitem
  (wpAny_call_entry PyProof.Rows.slot_tuple_getitem ht.typeIs entry_tuple_getitem ?_ (args_tuple_getitem _ _)))
 show wpAny _ _ (Builtin.Tuple.tupleItemsOf (.ref t) >>= _) _ _ s
 refine wpAny_bind (tupleItemsOf_ ht ?_)
 refine wpAny_bind (wpAny_typeOf hTs ?_)
 rw [if_pos (by decide)]
 refine wpAny_bind (CU hs pl pu ?_)
 have hno:¬ ((((BK items.size 0 lo:Nat):Int) == 0 && (1:Int) == 1 && (BK items.size items.size hi - BK items.size 0 lo) == items.size) = true):=by
  intro q
  rw [Bool.and_eq_true,Bool.and_eq_true] at q
  have q1:((BK items.size 0 lo:Nat):Int) = 0:=eq_of_beq q.1.1
  have q2:BK items.size items.size hi - BK items.size 0 lo = items.size:=eq_of_beq q.2
  exact hw ⟨by omega,by omega⟩
 show wpAny _ _ (if (((BK items.size 0 lo:Nat):Int) == 0 && (1:Int) == 1 && (BK items.size items.size hi - BK items.size 0 lo) == items.size) = true then _ else _) _ _ s
 rw [if_neg hno,OF]
 first
  | exact wpAny_bind (m:=Builtin.Tuple.tupleExact _) (wpAny_newObj_type (wpAny_pure ⟨_,rfl,wpAny_pure h⟩) htake)
  | exact wpAny_bind (m:=Builtin.Tuple.tupleExact _) (wpAny_newObj_type (wpAny_bind (wpAny_pure (wpAny_pure ⟨_,rfl,wpAny_pure h⟩))) htake)
  | exact wpAny_bind (wpAny_bind (m:=Builtin.Tuple.tupleExact _) (wpAny_newObj_type (wpAny_pure (wpAny_pure ⟨_,rfl,wpAny_pure h⟩)) htake))
  | exact wpAny_bind (wpAny_bind (m:=Builtin.Tuple.tupleExact _) (wpAny_newObj_type (wpAny_pure ⟨_,rfl,wpAny_pure h⟩) htake))
end
end HT
namespace L2
open PySem PySem.Spec PyProof.Rows
abbrev TO:=St→Hp→(Option Int→Hp→Prop)→Prop
def PO (X:Cx) (e:Option Expr) (t:TO):Prop :=
 ∀ (pins:List (Addr × Obj)) (s:Shared) (σ:St) (H:Hp) (Q:Option Int→Hp→Prop),Inv X pins σ H s→t σ H Q →
  wpAny (model X.prog X.w) X.A (evalPart e X.env) (fun u s' => ∃ o H',Inv X pins σ H' s'∧IsPart u o∧Q o H') X.xe s
def RJ:TO:=fun _ H Q => Q none H
def WK (t:TE):TO:=fun σ H Q => t σ H fun x H1 => ∃ i,x = .int i∧Q (some i) H1
theorem Fv {ns:List Int}:∀ {us:List Value},Vals (ns.map V.int) us→IntsAre us ns:=by
 induction ns with
 | nil => intro us r; rw [List.map_nil] at r; cases r; exact .nil
 | cons n ns ih =>
  intro us r
  rw [List.map_cons] at r
  cases r with
  | cons r1 r2 =>
   obtain ⟨t,e⟩:=r1
   subst e
   exact .cons n t (ih r2)
section
variable {X:Cx} {e:Expr} {te:TE} {lo hi:Option Expr} {tl th:TO} {pos p2:Pos}
theorem RL:PO X none RJ:=by
 intro pins s σ H Q I h
 rw [evalPart_none]
 exact wpAny_pure ⟨none,H,I,.none,h⟩
theorem II (h:PE X e te):PO X (some e) (WK te):=by
 intro pins s σ H Q I hw
 rw [evalPart_some]
 refine Ap (h pins s σ H _ I hw) fun u s1 ⟨x,H1,I1,r1,q1⟩ => ?_
 obtain ⟨i,rfl,q⟩:=q1
 obtain ⟨t,rfl⟩:=r1
 exact ⟨some i,H1,I1,.int i t,q⟩
def Xp (X:Cx) (r:V→Option Int→Option Int→Hp→VK→Prop):Prop :=
 ∀ (pins:List (Addr × Obj)) (s:Shared) (σ:St) (H:Hp) (x:V) (v vl vu:Value) (lo hi:Option Int) (sl:Addr) (Q:VK),Inv X pins σ H s→RelV x v→s.heap.IsSliceOf sl vl vu .none→IsPart vl lo→IsPart vu hi→r x lo hi H Q →
  ∃ T id,typeLookup (.type T) "__getitem__" = pure (some (.builtin id))∧s.TypeIs v T∧wpAny (model X.prog X.w) X.A (getItem v (.ref sl)) (EP X pins σ Q) X.xe s
def ZJ (r:V→Option Int→Option Int→Hp→VK→Prop) (te:TE) (tl th:TO):TE:=fun σ H Q => te σ H fun x H1 => tl σ H1 fun l H2 => th σ H2 fun u H3 => r x l u H3 Q
theorem JT {r:V→Option Int→Option Int→Hp→VK→Prop} (hr:Xp X r) (he:PE X e te) (hl:PO X lo tl) (hu:PO X hi th):PE X (.Subscript e (.Slice lo hi none p2) pos) (ZJ r te tl th):=by
 intro pins s σ H Q I h
 refine Subscript_ (Ap (he pins s σ H _ I h) fun v s1 ⟨x,H1,I1,r1,q1⟩ => ?_)
 refine wpAny_Slice (Ap (hl pins s1 σ H1 _ I1 q1) fun vl s2 ⟨l,H2,I2,pl,q2⟩ => Ap (hu pins s2 σ H2 _ I2 q2) fun vu s3 ⟨u,H3,I3,pu,q3⟩ => ?_)
 rw [evalPart_none]
 refine wpAny_pure ?_
 have I4:Inv X pins σ H3 { s3 with heap:=s3.heap.push { cls:=.type "slice",data:=.fields #[vl,vu,.none] } }:=I3.kept (t':=s3.toks) fun b ob q => Heap.get?_push_of_some _ q
 obtain ⟨T,id,hT,ht,hg⟩:=hr pins { s3 with heap:=s3.heap.push { cls:=.type "slice",data:=.fields #[vl,vu,.none] } } σ H3 x v vl vu l u s3.heap.objs.size Q I4 r1 (Heap.IsSliceOf.new ..) pl pu q3
 show wpAny (model X.prog X.w) X.A (subscriptTail e (.Slice lo hi none p2) v (.ref s3.heap.objs.size)) (EP X pins σ Q) X.xe { s3 with heap:=s3.heap.push { cls:=.type "slice",data:=.fields #[vl,vu,.none] } }
 exact tail_any (ops:=[.ref s3.heap.objs.size,v]) ht hT hg (by with_unfolding_all rfl)
def Em (xs:List V) (lo hi:Option Int):List V:=(xs.drop (HT.BK xs.length 0 lo)).take (HT.BK xs.length xs.length hi - HT.BK xs.length 0 lo)
theorem FO (xs:List V) (lo hi:Option Int):(Em xs lo hi).length≤xs.length:=by
 unfold Em
 rw [List.length_take,List.length_drop]
 omega
def YU (K:PySem.W.Frag):V→Option Int→Option Int→Hp→VK→Prop:=fun x lo hi H Q => ∃ a xs,x = .ref a∧IE K H a xs ∧
 ¬ (HT.BK xs.length 0 lo = 0∧HT.BK xs.length xs.length hi = xs.length)∧∀ p,H p = none→Q (.ref p) (upd H p (.tup (Em xs lo hi)))
theorem UK:Xp X (YU X.K):=by
 intro pins s σ H x v vl vu lo hi sl Q I rx hs pl pu h
 obtain ⟨a,xs,rfl,hx,hw,q⟩:=h
 cases rx
 obtain ⟨its,r,ht,hz⟩:=I.tuple hx
 have hlen:its.toArray.size = xs.length:=by rw [List.size_toArray]; exact r.length.symm
 refine ⟨"tuple",_,PyProof.Rows.slot_tuple_getitem.lookup,ht.typeIs,?_⟩
 refine HT.EG ht hs pl pu (by rw [hlen]; exact hw) ?_ (by rw [hlen]; exact hz)
 rw [hlen]
 refine ⟨.ref s.heap.objs.size,_,I.laid (t':=s.toks) (o:=.tup (Em xs lo hi)) (fun b ob q => Heap.get?_push_of_some _ q) (Nat.le_refl _) ?_,rfl,q _ (I.hok.fresh (Nat.le_refl _))⟩
 exact ⟨Nat.le_trans (FO xs lo hi) hz,_,(r.drop (HT.BK xs.length 0 lo)).take (HT.BK xs.length xs.length hi - HT.BK xs.length 0 lo),IsTup.new _ _⟩
end
def RM (n:Nat) (i:Int):Option Nat:=if 0≤i then (if i < n then some i.toNat else none) else if -(n:Int)≤i then some (i + n).toNat else none
def atI {α:Type} (xs:List α) (i:Int):Option α:=(RM xs.length i).bind fun j => xs[j]?
theorem Lp {n:Nat} {i:Int} {j:Nat} (h:RM n i = some j):seqIndex? i n = some j∧j < n∧-(n:Int)≤i∧i < n:=by
 unfold RM at h
 by_cases h0:0≤i
 ·rw [if_pos h0] at h
  by_cases h1:i < n
  ·rw [if_pos h1] at h
   have e:i.toNat = j:=Option.some.inj h
   exact ⟨by rw [seqIndex_of h0 h1,e],by omega,by omega,h1⟩
  ·rw [if_neg h1] at h; cases h
 ·rw [if_neg h0] at h
  by_cases h1 : -(n:Int)≤i
  ·rw [if_pos h1] at h
   have e:(i + n).toNat = j:=Option.some.inj h
   exact ⟨by rw [seqIndex_neg (by omega) h1,e],by omega,h1,by omega⟩
  ·rw [if_neg h1] at h; cases h
theorem FX {α:Type} {xs:List α} {i:Int} {v:α} (h:atI xs i = some v):∃ j,seqIndex? i xs.length = some j∧xs[j]? = some v∧j < xs.length∧-(xs.length:Int)≤i∧i < xs.length:=by
 unfold atI at h
 cases e:RM xs.length i with
 | none => rw [e] at h; cases h
 | some j =>
  rw [e] at h
  obtain ⟨h1,h2,h3,h4⟩:=Lp e
  exact ⟨j,h1,h,h2,h3,h4⟩
theorem Bw {α:Type} {xs:List α} {j:Nat} {v:α} (h:xs[j]? = some v):atI xs (j:Int) = some v:=by
 have hj:j < xs.length:=(List.getElem?_eq_some_iff.mp h).1
 have e:RM xs.length (j:Int) = some j:=by
  unfold RM
  rw [if_pos (by omega),if_pos (by omega)]; simp
 unfold atI; rw [e]; exact h
def DY (b:Expr):Prop:=∀ o i,subscripted b false o i = operate [o,i] (getItem o i)
def WL (X:Cx) (r:R2):Prop :=
 ∀ (value slice:Expr) (pins:List (Addr × Obj)) (s:Shared) (σ:St) (H:Hp) (x y:V) (v u:Value) (Q:VK),Inv X pins σ H s→RelV x v→RelV y u→r x y H Q →
  subscripted slice false v u = operate [v,u] (getItem v u)→wpAny (model X.prog X.w) X.A (subscriptTail value slice v u) (EP X pins σ Q) X.xe s
def Yv (X:Cx) (id:String) (r:V→List V→Hp→VK→Prop):Prop :=
 ∀ (pins:List (Addr × Obj)) (s:Shared) (σ:St) (H:Hp) (x:V) (xs:List V) (v:Value) (us:List Value) (Q:VK),Inv X pins σ H s→RelV x v→Vals xs us→r x xs H Q →
  wpAny (model X.prog X.w) X.A (call (.builtin id) (v :: us)) (EP X pins σ Q) X.xe s
section
variable {X:Cx} {a b:Expr} {ta tb:TE} {pos:Pos}
theorem OG {r:R2} (hr:WL X r) (ha:PE X a ta) (hb:PE X b tb) (hs:DY b):PE X (.Subscript a b pos) (Vy r ta tb):=by
 intro pins s σ H Q I h
 exact Subscript_ (UB ha hb I h fun v u s2 x y H2 I2 rx ry q => hr a b pins s2 σ H2 x y v u Q I2 rx ry q (hs _ _))
def UL (K:PySem.W.Frag):R2:=fun x y H Q => ∃ p xs i v,x = .ref p∧y = .int i∧SqL K H p xs∧atI xs i = some v∧Q v H
def WM (K:PySem.W.Frag):R2:=fun x y H Q => ∃ p xs i v,x = .ref p∧y = .int i∧IE K H p xs∧atI xs i = some v∧Q v H
theorem DZ:WL X (UL X.K):=by
 intro value slice pins s σ H x y v u Q I rx ry h hs
 obtain ⟨p,xs,i,z,rfl,rfl,hq,he,q⟩:=h
 cases rx
 obtain ⟨t,rfl⟩:=ry
 obtain ⟨its,r,pl,hz⟩:=I.list hq
 obtain ⟨j,h1,h2,h3,h4,h5⟩:=FX he
 obtain ⟨w,ew,rw'⟩:=r.get h2
 have hl:=r.length
 have hn:=Ek
 have fin:EP X pins σ Q w s:=⟨z,H,I,rw',q⟩
 by_cases h0:0≤i
 ·have hj:i.toNat = j:=by
   rw [seqIndex_of h0 h5] at h1
   exact Option.some.inj h1
  exact item_listR pl.isList h0 (by omega) (by rw [hj]; simpa using ew) fin hs
 ·have hj:(i + (its.toArray.size:Int)).toNat = j:=by
   rw [seqIndex_neg (by omega) h4] at h1
   rw [List.size_toArray,← hl]
   exact Option.some.inj h1
  exact subscriptTail_builtinR (x:=w) pl.isList.typeIs slot_list_getitem.lookup
   (wpAny_getItem_list_neg (Q:=fun r s' => r = w∧EP X pins σ Q r s') pl.isList (by omega) (by rw [List.size_toArray] <;> omega) (by omega) (by rw [hj]; simpa using ew) ⟨rfl,fin⟩) hs
theorem OH:WL X (WM X.K):=by
 intro value slice pins s σ H x y v u Q I rx ry h hs
 obtain ⟨p,xs,i,z,rfl,rfl,hq,he,q⟩:=h
 cases rx
 obtain ⟨t,rfl⟩:=ry
 obtain ⟨its,r,pl,hz⟩:=I.tuple hq
 obtain ⟨j,h1,h2,h3,h4,h5⟩:=FX he
 obtain ⟨w,ew,rw'⟩:=r.get h2
 have hl:=r.length
 have hn:=Ek
 have fin:EP X pins σ Q w s:=⟨z,H,I,rw',q⟩
 exact subscriptTail_builtinR (x:=w) pl.typeIs slot_tuple_getitem.lookup
  (getItem_tuple (j:=j) (Q:=fun r s' => r = w∧EP X pins σ Q r s') pl (by omega) (by omega) (by rw [List.size_toArray,← hl]; exact h1) (by simpa using ew) ⟨rfl,fin⟩) hs
theorem Ke (its:List Value) (n j:Nat) (u:Value):Obj.mapSeq (·.setIfInBounds j u) { cls:=.type "list",data:=.seq its.toArray n } = { cls:=.type "list",data:=.seq (its.set j u).toArray n }:=by
 simp [Obj.mapSeq]
theorem Inv.lst {pins:List (Addr × Obj)} {σ:St} {H:Hp} {s:Shared} {p:Addr} {xs:List V} (I:Inv X pins σ H s) (h:H p = some (.lst xs)) :
  ∃ (its:List Value) (n:Nat),Vals xs its∧s.heap.get? p = some { cls:=.type "list",data:=.seq its.toArray n }∧xs.length≤sizeLine:=by
 obtain ⟨z,its,n,r,e⟩:=I.hok p _ h
 exact ⟨its,n,r,e,z⟩
theorem Inv.lstUpd {pins:List (Addr × Obj)} {σ:St} {H:Hp} {s:Shared} {p:Addr} {xs ys:List V} {its its':List Value} {n n':Nat} {f:Obj→Obj} (I:Inv X pins σ H s) (h:H p = some (.lst xs))
  (ho:s.heap.get? p = some { cls:=.type "list",data:=.seq its.toArray n }) (hf:f { cls:=.type "list",data:=.seq its.toArray n } = { cls:=.type "list",data:=.seq its'.toArray n' }) (r:Vals ys its') (hz:ys.length≤sizeLine) (t:Nat) :
  Inv X pins σ (upd H p (.lst ys)) { s with heap:=s.heap.update p f,toks:=t }:=by
 have e:(s.heap.update p f).get? p = some { cls:=.type "list",data:=.seq its'.toArray n' }:=by
  rw [Heap.get?_update_self f ho (by rw [hf] <;> rfl),hf]
 refine I.write (x:=p) (e:=p) (by rw [h]; trivial) (.inl rfl) (fun b u hb q => (Heap.get?_update_other _ _ (Ne.symm hb)).trans q) ⟨_,e⟩ ?_
 exact ⟨hz,its',n',r,e⟩
def WN:V→V→V→Hp→(Hp→Prop)→Prop:=fun o i v H Q => ∃ p xs k j,o = .ref p∧i = .int k∧H p = some (.lst xs)∧RM xs.length k = some j∧Q (upd H p (.lst (xs.set j v)))
theorem OI:Vt X WN:=by
 intro pins s σ H o i v ov iv u Q I ro ri rv h
 obtain ⟨p,xs,k,j,rfl,rfl,hp,hj,q⟩:=h
 cases ro
 obtain ⟨t,rfl⟩:=ri
 obtain ⟨its,n,r,ho,hz⟩:=I.lst hp
 obtain ⟨h1,h2,h3,h4⟩:=Lp hj
 have hl:=r.length
 have hn:=Ek
 have I':Inv X pins σ (upd H p (.lst (xs.set j v))) { s with heap:=s.heap.update p (Obj.mapSeq (·.setIfInBounds j u)) } :=
  I.lstUpd hp ho (Ke its n j u) (r.set rv j) (by rw [List.length_set]; exact hz) s.toks
 by_cases h0:0≤k
 ·have hk:k.toNat = j:=by
   rw [seqIndex_of h0 h4] at h1
   exact Option.some.inj h1
  exact PySem.W.ki_setAt ho h0 (by omega) (by rw [List.size_toArray,← hl]; exact h4) (by rw [hk]; exact ⟨_,I',q⟩)
 ·have hk:(k + (its.toArray.size:Int)).toNat = j:=by
   rw [seqIndex_neg (by omega) h3] at h1
   rw [List.size_toArray,← hl]
   exact Option.some.inj h1
  exact PySem.W.ki_setBack ho (by omega) (by rw [List.size_toArray,← hl]; exact h3) (by omega) (by rw [hk]; exact ⟨_,I',q⟩)
theorem IJ (lo hi:Option Int) (n:Nat):(sliceBounds lo hi none n).1 = ((HT.BK n 0 lo:Nat):Int)∧(sliceBounds lo hi none n).2.1 = ((HT.BK n n hi:Nat):Int)∧(sliceBounds lo hi none n).2.2 = 1:=by
 refine ⟨?_,?_,rfl⟩
 ·cases lo with
  | none => simp [sliceBounds,HT.BK]
  | some i =>
   simp only [sliceBounds,HT.BK,Option.getD_none,show (1:Int) > 0 by decide,if_true]
   by_cases h:i < 0
   ·simp only [h,if_true] <;> omega
   ·simp only [h,if_false] <;> omega
 ·cases hi with
  | none => simp [sliceBounds,HT.BK]
  | some i =>
   simp only [sliceBounds,HT.BK,Option.getD_none,show (1:Int) > 0 by decide,if_true]
   by_cases h:i < 0
   ·simp only [h,if_true] <;> omega
   ·simp only [h,if_false] <;> omega
theorem Gz (its:List Value) (lo hi:Option Int):slicePick its.toArray lo hi none = ((its.drop (HT.BK its.length 0 lo)).take (HT.BK its.length its.length hi - HT.BK its.length 0 lo)).toArray:=by
 obtain ⟨h1,h2,h3⟩:=IJ lo hi its.toArray.size
 unfold slicePick
 rw [h1,h2,h3]
 simp only [sliceRange_one,pick_run,List.size_toArray] <;> rfl
def YV (K:PySem.W.Frag):V→Option Int→Option Int→Hp→VK→Prop:=fun x lo hi H Q => ∃ a xs,x = .ref a∧SqL K H a xs∧∀ p,H p = none→Q (.ref p) (upd H p (.lst (Em xs lo hi)))
theorem RN:Xp X (YV X.K):=by
 intro pins s σ H x v vl vu lo hi sl Q I rx hs pl pu h
 obtain ⟨a,xs,rfl,hx,q⟩:=h
 cases rx
 obtain ⟨its,r,ht,hz⟩:=I.list hx
 have hlen:=r.length
 refine ⟨"list",_,slot_list_getitem.lookup,ht.isList.typeIs,?_⟩
 refine wpAny_getItem_list_slice ht.isList hs pl pu .none (by simp) ?_ (by rw [List.size_toArray] <;> omega)
 rw [Gz,← hlen]
 refine ⟨.ref s.heap.objs.size,_,I.laid (t':=s.toks) (o:=.lst (Em xs lo hi)) (fun b ob q => Heap.get?_push_of_some _ q) (Nat.le_refl _) ?_,rfl,q _ (I.hok.fresh (Nat.le_refl _))⟩
 exact ⟨Nat.le_trans (FO xs lo hi) hz,_,0,(r.drop (HT.BK xs.length 0 lo)).take (HT.BK xs.length xs.length hi - HT.BK xs.length 0 lo),Heap.get?_push_size _ rfl⟩
def Bo:V→Bool
 | .non => true
 | .bl _ => true
 | .int _ => true
 | .str _ => true
 | _ => false
def FT:V→V→Bool
 | .non,.non => true
 | .bl a,.bl b => a == b
 | .bl a,.int b => (if a then 1 else 0) == b
 | .int a,.bl b => a == (if b then 1 else 0)
 | .int a,.int b => a == b
 | .str a,.str b => a == b
 | _,_ => false
theorem OJ {A:Around} {s:Shared} {y x:V} {u v:Value} (ry:RelV y u) (rx:RelV x v) (fy:Bo y = true) (fx:Bo x = true):SeqAt.EqAt A s u v (FT y x):=by
 cases y with
 | non =>
  cases ry
  cases x with
  | non => cases rx; exact SeqAt.EqAt.same _
  | bl b => cases rx; exact SeqAt.EqAt.none_bool b
  | int b => obtain ⟨t,rfl⟩:=rx; exact SeqAt.EqAt.none_int b t
  | str b => obtain ⟨t,rfl⟩:=rx; exact SeqAt.EqAt.none_str b t
  | _ => exact absurd (show false = true from fx) Bool.false_ne_true
 | bl a =>
  cases ry
  cases x with
  | non => cases rx; exact SeqAt.EqAt.bool_none a
  | bl b => cases rx; exact SeqAt.EqAt.bool_bool a b
  | int b => obtain ⟨t,rfl⟩:=rx; exact SeqAt.EqAt.bool_int a b t
  | str b => obtain ⟨t,rfl⟩:=rx; exact SeqAt.EqAt.bool_str a b t
  | _ => exact absurd (show false = true from fx) Bool.false_ne_true
 | int a =>
  obtain ⟨t',rfl⟩:=ry
  cases x with
  | non => cases rx; exact SeqAt.EqAt.int_none a t'
  | bl b => cases rx; exact SeqAt.EqAt.int_bool a t' b
  | int b => obtain ⟨t,rfl⟩:=rx; exact SeqAt.EqAt.int_int a t' b t
  | str b => obtain ⟨t,rfl⟩:=rx; exact SeqAt.EqAt.int_str a t' b t
  | _ => exact absurd (show false = true from fx) Bool.false_ne_true
 | str a =>
  obtain ⟨t',rfl⟩:=ry
  cases x with
  | non => cases rx; exact SeqAt.EqAt.str_none a t'
  | bl b => cases rx; exact SeqAt.EqAt.str_bool a t' b
  | int b => obtain ⟨t,rfl⟩:=rx; exact SeqAt.EqAt.str_int a t' b t
  | str b => obtain ⟨t,rfl⟩:=rx; exact SeqAt.EqAt.str_str a t' b t
  | _ => exact absurd (show false = true from fx) Bool.false_ne_true
 | _ => exact absurd (show false = true from fy) Bool.false_ne_true
def Vk (x:V) (u:Value):Bool:=match u with
 | .none => FT .non x
 | .bool b => FT (.bl b) x
 | .int i _ => FT (.int i) x
 | .str z _ => FT (.str z) x
 | _ => false
theorem Kf {x y:V} {u:Value} (r:RelV y u) (f:Bo y = true):Vk x u = FT y x:=by
 cases y with
 | non => cases r; rfl
 | bl b => cases r; rfl
 | int i => obtain ⟨t,rfl⟩:=r; rfl
 | str z => obtain ⟨t,rfl⟩:=r; rfl
 | _ => exact absurd (show false = true from f) Bool.false_ne_true
theorem Fw {A:Around} {s:Shared} {x:V} {v:Value} (rx:RelV x v) (fx:Bo x = true):∀ {xs:List V} {us:List Value},Vals xs us→xs.all Bo = true→∀ u∈us,SeqAt.EqAt A s u v (Vk x u)
 | _,_,.nil,_ => fun u hu => by cases hu
 | y :: xs,u :: us,.cons r t,f => fun u' hu => by
  rw [List.all_cons,Bool.and_eq_true] at f
  rcases List.mem_cons.mp hu with rfl | hu
  ·rw [Kf r f.1]; exact OJ r rx f.1 fx
  ·exact Fw rx fx t f.2 u' hu
theorem Ci:BR X (.builtin "len") (fun xs H Q => ∃ p ys,xs = [.ref p]∧(SqL X.K H p ys∨IE X.K H p ys)∧Q (.int ys.length) H):=by
 intro pins s σ H xs us Q I r h
 obtain ⟨p,ys,rfl,hq,q⟩:=h
 obtain ⟨u,rfl,rx⟩:=Fq r
 cases rx
 have hn:=Ek
 rcases hq with hq | hq
 ·obtain ⟨its,r',pl,hz⟩:=I.list hq
  have hlen:=r'.length
  exact Calls.call_len_list pl.isList (by simp only [List.size_toArray] <;> omega) ⟨.int ys.length,H,I.tok _,⟨s.toks + 1,by rw [List.size_toArray,hlen]⟩,q⟩
 ·obtain ⟨its,r',pl,hz⟩:=I.tuple hq
  have hlen:=r'.length
  exact len_tuple pl (by simp only [List.size_toArray] <;> omega) ⟨.int ys.length,H,I.tok _,⟨s.toks + 1,by rw [List.size_toArray,hlen]⟩,q⟩
def YW (K:PySem.W.Frag) (T:String) (x:V) (H:Hp):Prop:=match x with
 | .str _ => T = "str"
 | .int _ => T = "int"
 | .ref p => (T = "list"∧∃ xs,SqL K H p xs)∨(T = "tuple"∧∃ o,K.lookup p = some o∧o.cls = .type "tuple"∧o.dict = none) ∨
   (T = "dict"∧((∃ kvs,H p = some (.dK kvs))∨∃ kvs,H p = some (.dT kvs)))∨(T = "set"∧∃ S n,H p = some (.set S n))
 | _ => False
theorem UM {pins:List (Addr × Obj)} {σ:St} {H:Hp} {s:Shared} {T:String} {x:V} {v:Value} (I:Inv X pins σ H s) (r:RelV x v) (ty:YW X.K T x H) :
  s.TypeIs v T∧∀ a,v = .ref a→∃ ob,s.heap.get? a = some ob∧ob.dict = none:=by
 cases x with
 | str z =>
  obtain ⟨t,rfl⟩:=r
  cases (show T = "str" from ty)
  exact ⟨typeIs_str s z t,fun _ e => nomatch e⟩
 | int i =>
  obtain ⟨t,rfl⟩:=r
  cases (show T = "int" from ty)
  exact ⟨typeIs_int s i t,fun _ e => nomatch e⟩
 | ref p =>
  cases r
  rcases ty with ⟨rfl,xs,hq⟩ | ⟨rfl,o,hk,hc,hd⟩ | ⟨rfl,hk⟩ | ⟨rfl,S,n,hk⟩
  ·obtain ⟨its,_,pl,_⟩:=I.list hq
   refine ⟨pl.isList.typeIs,fun a e => ?_⟩
   cases e
   obtain ⟨o,n,e,c,hd,_⟩:=pl
   exact ⟨o,e,hd⟩
  ·refine ⟨⟨o,I.kIn p o hk,hc⟩,fun a e => ?_⟩
   cases e
   exact ⟨o,I.kIn _ o hk,hd⟩
  ·have z:∃ o,s.heap.get? p = some o∧o.ExactDict:=by
    rcases hk with ⟨kvs,hk⟩ | ⟨kvs,hk⟩
    ·obtain ⟨_,_,_,_,o,_,_,e,ex,_⟩:=I.hok p _ hk
     exact ⟨o,e,ex⟩
    ·obtain ⟨_,_,_,_,o,_,_,e,ex,_⟩:=I.hok p _ hk
     exact ⟨o,e,ex⟩
   obtain ⟨o,e,ex⟩:=z
   refine ⟨⟨o,e,ex.1⟩,fun a e2 => ?_⟩
   cases e2
   exact ⟨o,e,ex.2.1⟩
  ·obtain ⟨o,_,_,_,e,ex,_⟩:=I.hok p _ hk
   refine ⟨⟨o,e,ex.1⟩,fun a e2 => ?_⟩
   cases e2
   exact ⟨o,e,ex.2.1⟩
 | _ => exact False.elim ty
def ZK (K:PySem.W.Frag) (T:String) (r:V→List V→Hp→VK→Prop) (to:TE) (t:TA):TE:=fun σ H Q => to σ H fun x H1 => YW K T x H1∧t σ H1 fun xs H2 => r x xs H2 Q
variable {o e:Expr} {es:List Expr} {to:TE} {t:TA} {name:Str} {apos cpos:Pos} {T id:String} {r:V→List V→Hp→VK→Prop}
theorem OK (pa:PlainAttrs T) (slot:Slot T name id) (hty:typeOf (.builtin id) = pure (.type "method_descriptor")) (hm:Yv X id r) (ho:PE X o to) (ha:PA X (e :: es) t)
  (hbase:attributeBase o name X.env (eval o X.env) = eval o X.env:=by rfl)
  (hfew:((backTo cpos (starEach (e :: es) X.env)).all (fun x => !x.1) && (backToKw cpos (keywordEach [] X.env)).all (fun x => x.1.isSome)
   && decide ((e :: es).length + ([]:List Keyword).length + (if ([]:List Keyword).isEmpty then 0 else 1) < 30)) = true:=by rfl)
  (hline:(apos.endLine == cpos.line) = true:=by rfl) (hs:starEach (e :: es) X.env = (false,eval e X.env) :: starEach es X.env:=by rfl) (hplain:(backTo cpos (starEach es X.env)).any (·.1) = false:=by rfl) :
  PE X (.Call (.Attribute o name apos) (e :: es) [] cpos) (ZK X.K T r to t):=by
 intro pins s σ H Q I h
 refine wpAny_Call_method_late hbase hfew hline rfl (Ap (ho pins s σ H _ I h) fun v s1 ⟨x,H1,I1,r1,ty,q1⟩ => ?_)
 obtain ⟨h1,h2⟩:=UM I1 r1 ty
 refine ⟨T,id,pa,slot,hty,h1,h2,?_⟩
 have hA:=ha cpos pins s1 σ H1 _ I1 q1
 rw [hs] at hA ⊢
 refine Calls.callWith_builtin (by show (false || (backTo cpos (starEach es X.env)).any (·.1)) = false; rw [hplain] <;> rfl) (Calls.evalArgs_plain ?_)
 exact Ap hA fun us s2 ⟨vs,H2,I2,r2,q2⟩ => hm pins s2 σ H2 x vs v us Q I2 r1 r2 q2
end
def Xq (X:Cx) (id:String) (r:V→List V→Hp→VK→Prop):Prop :=
 ∀ (pins:List (Addr × Obj)) (s:Shared) (σ:St) (H:Hp) (x:V) (xs:List V) (v:Value) (us:List Value) (Q:VK),Inv X pins σ H s→RelV x v→Vals xs us→r x xs H Q →
  wpAny (model X.prog X.w) X.A (call (.builtin id) (v :: us)) (EP X pins σ Q) X.xe s
theorem Vals.one:∀ {x:V} {us:List Value},Vals [x] us→∃ u,us = [u]∧RelV x u
 | _,_,.cons r .nil => ⟨_,rfl,r⟩
section
variable {X:Cx} {pins:List (Addr × Obj)} {σ:St} {H:Hp} {s:Shared} {l b:Addr} {xs ys zs:List V}
theorem Inv.lset {its its':List Value} {n:Nat} {f:Array Value→Array Value} {t':Nat} (I:Inv X pins σ H s) (hH:H l = some (.lst xs))
  (e:s.heap.get? l = some { cls:=.type "list",data:=.seq its.toArray n }) (hf:f its.toArray = its'.toArray) (hv:Vals ys its') (hz:ys.length≤sizeLine) :
  Inv X pins σ (upd H l (.lst ys)) { s with heap:=s.heap.update l (Obj.mapSeq f),toks:=t' }:=by
 have q:=PySem.IsL.update e f
 rw [hf] at q
 refine I.write (x:=l) (e:=l) (by rw [hH]; exact trivial) (.inl rfl) (fun b' u hb hu => (Heap.get?_update_other s.heap (Obj.mapSeq f) (Ne.symm hb)).trans hu) ⟨_,q⟩ ?_
 exact ⟨hz,its',_,hv,q⟩
theorem Inv.lnew {its:List Value} {t':Nat} (I:Inv X pins σ H s) (hv:Vals ys its) (hz:ys.length≤sizeLine) :
  Inv X pins σ (upd H s.heap.objs.size (.lst ys)) { s with heap:=s.heap.push { cls:=.type "list",data:=.seq its.toArray },toks:=t' } :=
 I.laid (fun _ _ q => Heap.get?_push_of_some _ q) (Nat.le_refl _) ⟨hz,its,0,hv,Heap.get?_push_size _ rfl⟩
theorem Inv.fresh (I:Inv X pins σ H s):H s.heap.objs.size = none:=I.hok.fresh (Nat.le_refl _)
theorem Inv.lstM (I:Inv X pins σ H s) (hH:H l = some (.lst xs)):xs.length≤sizeLine∧∃ (its:List Value) (n:Nat),Vals xs its∧xs.length = its.length∧s.heap.get? l = some { cls:=.type "list",data:=.seq its.toArray n }:=by
 obtain ⟨z,its,n,r,e⟩:=I.hok l _ hH
 exact ⟨z,its,n,r,r.length,e⟩
theorem OL {n:Nat} (h:n≤sizeLine):Builtin.List.listTooLong n = false:=by
 unfold Builtin.List.listTooLong
 exact decide_eq_false (by omega)
end
section
variable {X:Cx}
def Lq:V→List V→Hp→VK→Prop:=fun x vs H Q => ∃ l xs y,x = .ref l∧vs = [y]∧H l = some (.lst xs)∧xs.length < sizeLine∧Q .non (upd H l (.lst (xs ++ [y])))
theorem HU:Xq X "list.append" Lq:=by
 intro pins s σ H x vs v us Q I rx rv h
 obtain ⟨l,xs,y,rfl,rfl,hH,hz,q⟩:=h
 cases rx
 obtain ⟨u,rfl,ru⟩:=rv.one
 obtain ⟨z,its,n,r,hl,e⟩:=I.lstM hH
 refine call_meets F.slot_list_append ⟨_,e,rfl⟩ F.entry_list_append (F.args_list_append_2 _ _) (PySem.list_append l its.toArray n u (by rw [List.size_toArray]; omega)) ⟨e,?_⟩
 refine ⟨.non,_,I.lset (its':=its ++ [u]) hH e (by simp) (r.append (.cons ru .nil)) ?_,rfl,q⟩
 rw [List.length_append,List.length_singleton]
 omega
def RO:V→List V→Hp→VK→Prop:=fun x vs H Q => ∃ l b xs zs,x = .ref l∧vs = [.ref b]∧H l = some (.lst xs)∧H b = some (.lst zs)∧xs.length + zs.length≤sizeLine∧Q .non (upd H l (.lst (xs ++ zs)))
theorem NB:Xq X "list.extend" RO:=by
 intro pins s σ H x vs v us Q I rx rv h
 obtain ⟨l,b,xs,zs,rfl,rfl,hH,hB,hz,q⟩:=h
 cases rx
 obtain ⟨u,rfl,ru⟩:=rv.one
 cases ru
 obtain ⟨z,its,n,r,hl,e⟩:=I.lstM hH
 obtain ⟨z2,its2,n2,r2,hl2,e2⟩:=I.lstM hB
 have hsz:its.toArray.size + its2.toArray.size≤sizeLine:=by rw [List.size_toArray,List.size_toArray]; omega
 have hlong:¬ (!its.toArray.isEmpty && Builtin.List.listTooLong (its.toArray.size + its2.toArray.size)) = true:=by
  rw [OL hsz,Bool.and_false]
  exact Bool.false_ne_true
 refine call_meets F.slot_list_extend ⟨_,e,rfl⟩ F.entry_list_extend (F.args_list_extend_2 _ _)
  (AutoSeq1.list_extend_list_list_0 l its.toArray n b its2.toArray n2 hlong (by rw [List.size_toArray]; omega) (by omega)) ⟨e,e2,?_⟩
 refine ⟨.non,_,I.lset (its':=its ++ its2) hH e (by simp) (r.append r2) ?_,rfl,q⟩
 rw [List.length_append]
 omega
def WO:R2:=fun x y H Q => ∃ l b xs zs,x = .ref l∧y = .ref b∧H l = some (.lst xs)∧H b = some (.lst zs)∧xs.length + zs.length≤sizeLine∧∀ p,H p = none→Q (.ref p) (upd H p (.lst (xs ++ zs)))
theorem En:DJ X (binaryOp .Add) WO:=by
 intro pins s σ H x y v u Q I rx ry h
 obtain ⟨l,b,xs,zs,rfl,rfl,hH,hB,hz,q⟩:=h
 cases rx
 cases ry
 obtain ⟨z,its,n,r,hl,e⟩:=I.lstM hH
 obtain ⟨z2,its2,n2,r2,hl2,e2⟩:=I.lstM hB
 refine PySem.P.add_list e e2 ?_ (by rw [List.size_toArray,List.size_toArray]; omega)
 have ea:its.toArray ++ its2.toArray = (its ++ its2).toArray:=by simp
 rw [ea]
 exact ⟨.ref _,_,I.lnew (t':=s.toks) (r.append r2) (by rw [List.length_append]; omega),rfl,q _ I.fresh⟩
end
section
variable {prog:Program} {w:World} {A:Around} {E:Value→Shared→Prop} {s:Shared}
end
section
variable {X:Cx}
end
end L2
namespace Att
open PySem PySem.W PySem.Calls PyProof.Rows
theorem FU {P:Params} {h:Heap}:∀ (ns:List Int) (vs:List Value),WellAll P h vs (ns.map WData.int)→IntsAre vs ns:=by
 intro ns
 induction ns with
 | nil =>
  intro vs w
  rw [List.map_nil] at w
  cases w
  exact .nil
 | cons n ns ih =>
  intro vs w
  rw [List.map_cons] at w
  cases w with
  | cons a b =>
   cases a
   exact .cons _ _ (ih _ b)
theorem NC {l:OpenLaw} {n:Nat} (hn:l.most = some n) {P:Params} {h:Heap} {args:List WData} {vals:List Value}
  (hpre:l.row.toRowW.claim.pre args = true) (hwl:WellAll P h vals args) :
  ∃ a vs ns,vals = [Value.ref a]∧args = [WData.list (ns.map WData.int)]∧h.get? a = some { cls:=.type "list",data:=.seq vs.toArray }∧IntsAre vs ns∧ns.length≤n:=by
 have hsh:WShape.hasAll [] args [.list .int] = true:=(pre_splitW hpre).1
 have hc:l.pre.holds [] { args:=args } = true:=(pre_splitW hpre).2
 obtain ⟨d,r,rfl,h1,h2⟩:=hasAllW_cons hsh
 obtain rfl:=hasAllW_nil h2
 obtain ⟨xs,rfl,h3⟩:=hasW_list h1
 obtain ⟨ns,rfl⟩:=items_int h3
 have hlen:ns.length≤n:=by
  unfold OpenLaw.pre at hc
  have h4:(WTm.not (.lt (.lit (.int (n:Int))) (.len (.arg 0)))).holds [] { args:=[.list (ns.map .int)] } = true:=by
   have h4:=(holds_andW hc).1
   rw [hn] at h4
   exact h4
  have h5:=condW_of h4 (w_not (w_lt w_lit (w_len_list (w_arg rfl))))
  rw [List.length_map] at h5
  refine Nat.le_of_not_lt fun q => ?_
  have q':(n:Int) < ((ns.length:Nat):Int):=by omega
  first
   | (rw [decide_eq_true q'] at h5; exact absurd h5 (by decide))
   | (simp at h5; omega)
 cases hwl with
 | cons w1 w2 =>
  cases w2
  cases w1 with
  | list ho hall => exact ⟨_,_,ns,rfl,rfl,ho,FU ns _ hall,hlen⟩
theorem ND (l:OpenLaw) (args:List WData):l.row.toRowW.claim.post args (.bool true) args = true :=
 postW_of (r:=l.row.toRowW) (X:=(true == true))
  (show WShape.has [] (.bool true) .bool = true by first | rfl | decide | simp [WShape.has,WShape.arms,WShape.armsAll])
  (show (WTm.eq .res (.lit (.bool true))).value [] { args:=args,res:=some (.bool true),after:=args } = some (.bool (true == true)) from w_eq_bool (w_res rfl) w_lit) rfl
theorem JU {l:OpenLaw} {n:Nat} {q:Program} {loose:List Str} {XP:(Str→Option Value)→Heap→Prop} {YP:World→Heap→Prop} {d:DefRec}
  (hn:l.most = some n) (hdf:d.params.defaults = [])
  (call:∀ (w:World) (s₀ s₁:Shared) (mg mb:Str→Option Value) (fa:Addr) (o:Obj) (pm cd doc:Value) (a:Addr) (vs:List Value) (ns:List Int),
   Ground q loose [] XP w s₀ mg mb s₁.heap→YP w s₁.heap →
   s₁.heap.get? fa = some o→o.data = .func (docDef d.name d.params d.body d.scope pm cd doc)→s₁.heap.CodeRec cd d.name→mg d.name = some (.ref fa) →
   s₁.heap.get? a = some { cls:=.type "list",data:=.seq vs.toArray }→IntsAre vs ns→ns.length≤n→s₁.gens = #[] →
   codeAny (model l.prog w) callerA (.call (.ref fa) ⟨[.ref a],[]⟩) (fun r s' => r = .ok (.ret (.bool true))∧OldK s₁.heap s'.heap∧s'.os = s₁.os∧AllBare s'.gens) s₁) :
  WalkO q loose XP YP l.row.toRowW d [] (fun f vs => PySem.call f vs):=by
 intro w s₀ s₁ mg mb G Y fa o pm cd doc dV kV ho hd hcd hD hmg hg args vals as hpre hlay hrd hwl hlo
 obtain rfl:dV = .none:=Dflts.none hD hdf
 obtain rfl:kV = .none:=Dflts.noKw hD
 obtain ⟨a,vs,ns,rfl,rfl,hobj,hints,hlen⟩:=NC hn hpre hwl
 refine enter_call (codeAny_mono (call w s₀ s₁ mg mb fa o pm cd doc a vs ns G Y ho (fd_plain hd) hcd hmg hobj hints hlen hg) fun r s' hq => ?_)
 obtain ⟨rfl,h2,h3,h4⟩:=hq
 exact ⟨.inl ⟨.bool true,.bool true,[],rfl,fun _ => rfl,.bool true,ND l _,fun _ => ⟨List.Pairwise.nil,fun _ hm => (nomatch hm)⟩⟩,h2,h3,h4⟩
section
variable {prog:Program} {w:World} {A:Around} {E:Value→Shared→Prop} {s:Shared} {K:Frag}
end
end Att
namespace L2
open PySem PySem.Spec PyProof.Rows
theorem Da:∀ {vs:List Value} {ns:List Int},IntsAre vs ns→Vals (ns.map V.int) vs
 | _,_,.nil => .nil
 | _,_,.cons n t h => .cons ⟨t,rfl⟩ (Da h)
def UN (H:Hp):Prop:=∀ b,H b = none∨∃ o xs,H b = some (.frz o (.lst xs))
theorem OM {P:Program} {w:World} {K:PySem.W.Frag} {mg mb:Str→Option Value} {CX:Nl} {k:Nat} {fa a:Addr} {fd:FuncData} {x:Str} {sp:Sp} {s₁:Shared} {vs:List Value} {ns:List Int}
  (KX:K.In s₁.heap) (hns:s₁.heap.Ns mainGlobals mg) (hb:s₁.heap.Ns builtinsNs mb) (hbb:∀ x:Str,x≠"__name__"→mb x = bootBuiltins x) (hlim:s₁.heap.NoLimit) (hg:s₁.gens = #[])
  (ha:s₁.heap.get? a = some { cls:=.type "list",data:=.seq vs.toArray }) (hi:IntsAre vs ns) (hl:ns.length≤sizeLine) (hr:Room k callerA)
  (F:∀ base:Heap,K.In base→base.Ns mainGlobals mg→FnOk P w K mg base CX k fa fd [x] sp) (hbind:∀ (s:Shared) (u:Value),BindsTo s fd ⟨[u],[]⟩ [(x,u)])
  (hsp:∀ H:Hp,UN H→SqL K H a (ns.map V.int)→sp [.ref a] H (fun v _ => v = .bl true) fun _ _ _ => False)
  (hCX:∀ H e s',CX [] H s₁ (fun _ _ _ => False) e s'→False) :
  codeAny (model P w) callerA (.call (.ref fa) ⟨[.ref a],[]⟩) (fun r s' => r = .ok (.ret (.bool true))∧OldK s₁.heap s'.heap∧s'.os = s₁.os∧AllBare s'.gens) s₁:=by
 have rv:=Da hi
 have lenV:=hi.length
 have core:∀ H:Hp,UN H→SqL K H a (ns.map V.int)→HOk P w H s₁.heap→(∀ b,H b≠none→b = a)→(H a≠none→K.lookup a = none) →
   codeAny (model P w) callerA (.call (.ref fa) ⟨[.ref a],[]⟩) (fun r s' => r = .ok (.ret (.bool true))∧OldK s₁.heap s'.heap∧s'.os = s₁.os∧AllBare s'.gens) s₁:=by
  intro H hO hS hok hA hK
  have base_of:∀ {b:Addr} {o:Obj},s₁.heap.get? b = some o→H b = none→(IB s₁.heap H).get? b = some o:=fun e n => Nn e n
  have noA:∀ {b:Addr} {o:Obj} {es:Array DictEntry} {ep:Nat},s₁.heap.get? b = some o→o.data = .dict es ep→H b = none:=fun {b o es ep} e d => by
   cases q:H b with
   | none => rfl
   | some u =>
    have e':b = a:=hA b (by rw [q]; simp)
    subst e'
    rw [ha] at e; cases e
    have d':Data.seq vs.toArray _ = Data.dict es ep:=d
    cases d'
  have nsK:∀ {b:Addr} {m:Str→Option Value},s₁.heap.Ns b m→(IB s₁.heap H).Ns b m:=fun {b m} ⟨o,es,ep,e,d,r⟩ => ⟨o,es,ep,base_of e (noA e d),d,r⟩
  have hKb:K.In (IB s₁.heap H):=fun b o e => base_of (KX b o e) (by
   cases q:H b with
   | none => rfl
   | some u =>
    have e':b = a:=hA b (by rw [q]; simp)
    subst e'
    rw [hK (by rw [q]; simp)] at e; cases e)
  have hM:Mod K mg (IB s₁.heap H):=⟨hKb,nsK hns,⟨mb,nsK hb,hbb⟩,let ⟨mc,h1,h2⟩:=hlim; ⟨mc,nsK h1,h2⟩⟩
  have e0:Env0 P w K mg (IB s₁.heap H) callerA [] s₁ H:=⟨rfl,hM,fun b o e => Qz e,Nat.le_of_eq (Ms _ _),trivial,fun b hb => absurd (show b∈([]:List Addr) from hb) (by simp),hok,.of_eq hg⟩
  refine codeAny_mono ((F _ hKb (nsK hns)).run callerA [] s₁ H ⟨[.ref a],[]⟩ [.ref a] [.ref a] _ _ hr e0 (hbind s₁ (.ref a)) (.cons rfl .nil) (hsp H hO hS)) fun r s' h => ?_
  cases r with
  | error e => exact (hCX H e s' h).elim
  | ok fl =>
   cases fl with
   | next => exact False.elim h
   | brk => exact False.elim h
   | cont => exact False.elim h
   | ret u =>
    obtain ⟨v,H',os,bare,un,hok',r',q⟩:=h
    have q':v = .bl true:=q
    subst q'
    obtain rfl:u = Value.bool true:=r'
    refine ⟨rfl,OldK.of_keep fun b o e => ?_,os,bare⟩
    cases q:H b with
    | none => exact un.keep b o e q (by intro z; exact absurd (show b∈([]:List Addr) from z) (by simp)) (by simp)
    | some u =>
     rcases hO b with z | ⟨ob,xs,z⟩
     ·rw [q] at z; cases z
     ·have z2:=un.frzs b ob _ z
      obtain ⟨e1,_⟩:=hok b _ z
      obtain ⟨e2,_⟩:=hok' b _ z2
      rw [e] at e1; cases e1
      exact e2
 cases hk:K.lookup a with
 | some o =>
  have e:=KX a o hk
  rw [ha] at e
  cases e
  refine core (fun _ => none) (fun _ => .inl rfl) (.inr ⟨_,vs.toArray,_,hk,rfl,rfl,rfl,by rw [List.size_toArray,lenV]; exact hl,by simpa using rv⟩) (fun b u z => by have z':(none:Option HO) = some u:=z; cases z') (fun b z => absurd rfl z) fun z => absurd rfl z
 | none =>
  refine core (fun b => if b = a then some (.frz { cls:=.type "list",data:=.seq vs.toArray } (.lst (ns.map V.int))) else none) (fun b => ?_) (.inl (.inr ⟨{ cls:=.type "list",data:=.seq vs.toArray },if_pos rfl⟩)) (fun b u z => ?_) (fun b z => ?_) fun _ => hk
  ·by_cases hb:b = a
   ·exact .inr ⟨_,_,if_pos hb⟩
   ·exact .inl (if_neg hb)
  ·by_cases hb:b = a
   ·have z':=(if_pos hb).symm.trans z
    cases z'
    subst hb
    exact ⟨ha,by rw [List.length_map]; exact hl,vs,_,rv,ha⟩
   ·have z':=(if_neg hb).symm.trans z
    cases z'
  ·by_cases hb:b = a
   ·exact hb
   ·exact absurd (if_neg hb) z
theorem RQ {l:PySem.W.OpenLaw} {n k:Nat} {q:Program} {loose:List Str} {XP:(Str→Option Value)→Heap→Prop} {YP:World→Heap→Prop} {d:DefRec} {K:Params→PySem.W.Frag} {CX:World→Nl} {sp:World→Sp} {x:Str}
  (hn:l.most = some n) (hn2:n≤sizeLine) (hdf:d.params.defaults = []) (hr:Room k callerA)
  (hY:∀ (w:World) (h:Heap),YP w h→(K w.params).In h)
  (F:∀ (w:World) (mg:Str→Option Value) (fa:Addr) (h:Heap),(K w.params).In h→h.Ns mainGlobals mg→mg d.name = some (.ref fa) →
   ∃ fd:FuncData,(∀ (s:Shared) (u:Value),BindsTo s fd ⟨[u],[]⟩ [(x,u)]) ∧
    ∀ base:Heap,(K w.params).In base→base.Ns mainGlobals mg→FnOk l.prog w (K w.params) mg base (CX w) k fa fd [x] (sp w))
  (hsp:∀ (w:World) (H:Hp) (a:Addr) (ns:List Int),ns.length≤n→UN H→SqL (K w.params) H a (ns.map V.int)→sp w [.ref a] H (fun v _ => v = .bl true) fun _ _ _ => False)
  (hCX:∀ (w:World) (H:Hp) (s:Shared) (e:Value) (s':Shared),CX w [] H s (fun _ _ _ => False) e s'→False) :
  PySem.W.WalkO q loose XP YP l.row.toRowW d [] (fun f vs => PySem.call f vs):=by
 refine Att.JU hn hdf fun w s₀ s₁ mg mb fa o pm cd doc a vs ns G Y ho hd hcd hmg hobj hints hlen hg => ?_
 have KX:=hY w _ Y
 obtain ⟨fd,hb,hF⟩:=F w mg fa _ KX G.T.g hmg
 exact OM KX G.T.g G.T.b G.T.builtins G.T.nolimit hg hobj hints (Nat.le_trans hlen hn2) hr hF hb (fun H hO hS => hsp w H a ns hlen hO hS) fun H e s' => hCX w H s₁ e s'
def Bx (s:Stmt):Arguments:=match s with
 | .FunctionDef _ a _ _ _ _ _ _ _ _ => a
 | _ => { posonlyargs:=[],args:=[],vararg:=none,kwonlyargs:=[],kw_defaults:=[],kwarg:=none,defaults:=[] }
def AW (s:Stmt):List Stmt:=match s with
 | .FunctionDef _ _ b _ _ _ _ _ _ _ => b
 | _ => []
def AA (s:Stmt):Scope:=match s with
 | .FunctionDef _ _ _ _ _ _ sc _ _ _ => sc
 | _ => { kind:=.function,names:=[],isGenerator:=false,isCoroutine:=false }
abbrev YX:Nl:=fun _ _ _ _ _ _ => False
abbrev E0:XK:=fun _ _ _ => False
structure Fun (K:PySem.W.Frag) (x qual:Str) (st:Stmt) (f:Addr) (fd:FuncData):Prop where
 ex:∃ (oc:Value) (od:Option Addr) (kV doc pm:Value) (an:Option Addr) (cdv ct:Value) (osl:Array (Option Value)),
  fd = PySem.W.fnOf x qual (Bx st) (AW st) (AA st) .none kV doc pm an cdv ct∧K.lookup f = some ⟨oc,od,.func fd,osl⟩∧PySem.W.codeIn K cdv qual = true
 kp:PySem.W.keepIn K (.ref f) = true
section
variable {P:Program} {w:World} {K:PySem.W.Frag} {mg:Str→Option Value} {base:Heap}
theorem Fun.binds {x qual:Str} {st:Stmt} {f:Addr} {fd:FuncData} {ps:List Str} (F:Fun K x qual st f fd)
  (h:∀ (kV doc pm:Value) (an:Option Addr) (cdv ct:Value) (us:List Value),us.length = ps.length→bindArgs (PySem.W.fnOf x qual (Bx st) (AW st) (AA st) .none kV doc pm an cdv ct) ⟨us,[]⟩ = pure (ps.zip us)):Binds K fd ps []:=by
 obtain ⟨oc,od,kV,doc,pm,an,cdv,ct,osl,rfl,lk,hcd⟩:=F.ex
 exact .all (h kV doc pm an cdv ct)
end
section
variable {X:Cx}
theorem pv (i:Nat) {x:Str} {pos:Pos} (hN:X.N[i]? = some x:=by rfl) (hv:Vj X.env.scope x:=by first | exact Or.inl rfl | exact Or.inr (Or.inl rfl) | exact Or.inr (Or.inr rfl)) (hd:(x == ("__debug__" : Str)) = false:=by decide)
  (hcd:(x == ("__classdict__" : Str)) = false:=by decide):PE X (.Name x pos) (Vn i):=No hN hv hd hcd
end
theorem IL {A B:Prop} (h:B):if false = true then A else B:=by
 rw [if_neg Bool.false_ne_true]
 exact h
theorem JV {A B:Prop} (h:A):if true = true then A else B:=by
 rw [if_pos rfl]
 exact h
theorem UO {c A B:Prop} [Decidable c] (h1:c→A) (h2:¬ c→B):if c then A else B:=by
 by_cases h:c
 ·rw [if_pos h]
  exact h1 h
 ·rw [if_neg h]
  exact h2 h
def Same (H H':Hp):Prop:=∀ b o,H b = some o→H' b = some o
theorem Same.refl (H:Hp):Same H H:=fun _ _ h => h
end L2
set_option maxHeartbeats 4000000
namespace L2
open PySem PySem.Spec PyProof.Rows
theorem IM {env:Env}:∀ (l:List (Str × NameKind)) (acc:List (Str × Addr)),(∀ y∈l,y.2 = .free→∃ c,env.cells.lookup y.1 = some c) →
  (∀ x c,acc.lookup x = some c→env.cells.lookup x = some c) →
  ∃ cl,(forIn l acc (fun (x:Str × NameKind) (r:List (Str × Addr)) => (match x with
   | (name,kind) => if (kind == NameKind.free) = true then (do let a ← cellOf env name; pure (ForInStep.yield ((name,a) :: r))) else pure (ForInStep.yield r):Sem (ForInStep (List (Str × Addr)))))) = (pure cl:Sem _) ∧
   (∀ x c,cl.lookup x = some c→env.cells.lookup x = some c)∧(∀ x,(acc.lookup x).isSome = true→(cl.lookup x).isSome = true)∧∀ y∈l,y.2 = .free→(cl.lookup y.1).isSome = true
 | [],acc,_,ha => ⟨acc,rfl,ha,fun _ h => h,fun _ h => nomatch h⟩
 | (n,k) :: r,acc,h,ha => by
  have hr:∀ y∈r,y.2 = .free→∃ c,env.cells.lookup y.1 = some c:=fun y hy => h y (List.mem_cons_of_mem _ hy)
  by_cases hk:k = .free
  ·subst hk
   obtain ⟨c,hc⟩:=h (n,.free) List.mem_cons_self rfl
   have hc:env.cells.lookup n = some c:=hc
   have ha':∀ x c',((n,c) :: acc).lookup x = some c'→env.cells.lookup x = some c':=fun x c' e => by
    rw [List.lookup_cons] at e
    cases hx:x == n with
    | true => rw [hx] at e; cases e; rw [beq_iff_eq.mp hx]; exact hc
    | false => rw [hx] at e; exact ha x c' e
   obtain ⟨cl,e,h1,h2,h3⟩:=IM r ((n,c) :: acc) hr ha'
   refine ⟨cl,?_,h1,fun x hx => h2 x ?_,fun y hy hf => ?_⟩
   ·rw [List.forIn_cons]
    simp only [cellOf,hc,beq_self_eq_true,if_true]
    exact e
   ·rw [List.lookup_cons]
    cases x == n with
    | true => rfl
    | false => exact hx
   ·rcases List.mem_cons.mp hy with rfl | hy
    ·exact h2 n (by rw [List.lookup_cons,beq_self_eq_true]; rfl)
    ·exact h3 y hy hf
  ·have hb:(k == NameKind.free) = false:=by simpa using hk
   obtain ⟨cl,e,h1,h2,h3⟩:=IM r acc hr ha
   refine ⟨cl,?_,h1,h2,fun y hy hf => ?_⟩
   ·rw [List.forIn_cons]
    simp only [hb,Bool.false_eq_true,if_false]
    exact e
   ·rcases List.mem_cons.mp hy with rfl | hy
    ·exact absurd hf hk
    ·exact h3 y hy hf
theorem RS {env:Env} {csc:Scope} (h:∀ y∈csc.names,y.2 = .free→∃ c,env.cells.lookup y.1 = some c) :
  ∃ cl,closureFor csc env = pure cl∧(∀ x c,cl.lookup x = some c→env.cells.lookup x = some c)∧∀ y∈csc.names,y.2 = .free→(cl.lookup y.1).isSome = true:=by
 obtain ⟨cl,e,h1,_,h3⟩:=IM csc.names [] h (fun x c e => by cases e)
 refine ⟨cl,?_,h1,h3⟩
 unfold closureFor
 have e':=congrArg (fun m:Sem (List (Str × Addr)) => m >>= fun r => pure r) e
 exact e'
theorem EH {env:Env}:∀ {names:List (Str × NameKind)} {x:Str},names.lookup x = some .free →
  (names.map fun (n,k) => if (k == NameKind.free && env.scope.kind == .function && env.kindOf n == some .cell) then (n,NameKind.cell) else (n,k)).lookup x = some .cell ∨
  (names.map fun (n,k) => if (k == NameKind.free && env.scope.kind == .function && env.kindOf n == some .cell) then (n,NameKind.cell) else (n,k)).lookup x = some .free
 | [],_,h => by simp at h
 | (n,k) :: r,x,h => by
  have ih:=@EH env r x
  rw [List.map_cons]
  show List.lookup x ((if (k == NameKind.free && env.scope.kind == .function && env.kindOf n == some .cell) = true then (n,NameKind.cell) else (n,k)) :: _) = _∨List.lookup x ((if (k == NameKind.free && env.scope.kind == .function && env.kindOf n == some .cell) = true then (n,NameKind.cell) else (n,k)) :: _) = _
  cases hx:x == n with
  | true =>
   simp only [List.lookup_cons,hx] at h
   cases h
   split
   ·exact .inl (by rw [List.lookup_cons,hx])
   ·exact .inr (by rw [List.lookup_cons,hx])
  | false =>
   simp only [List.lookup_cons,hx] at h
   split
   ·simp only [List.lookup_cons,hx]; exact ih h
   ·simp only [List.lookup_cons,hx]; exact ih h
def Lr:Option NameKind→Bool
 | some .cell => true
 | _ => false
theorem JW {k:Option NameKind} (h:Lr k = true):k = some .cell:=by
 cases k with
 | none => cases h
 | some k => cases k <;> first | rfl | cases h
def RU (X:Cx) (csc:Scope) (cl:List (Str × Addr)) (N':List Str) (s:Shared) (H:Hp) (fp:List Addr):Cx :=
 { X with N:=N',s₀:=s,H₀:=H,env:=compEnvC csc cl s.heap.objs.size X.env,outer:=X.stack,ex:=fp,fn:=fun x => Lr (csc.names.lookup x),pn:=[],xe:=fun _ _ => False }
structure LcCx (X:Cx) (csc:Scope) (N':List Str) (X':Cx):Prop where
 is:∃ cl s H fp,X' = RU X csc cl N' s H fp
def By (σ:St) (cap:List (Str × Nat)):St:=cap.map fun p => (σ[p.2]?).join
structure LcOk (X:Cx) (csc:Scope) (nc:List Str) (cap:List (Str × Nat)):Prop where
 kind:csc.kind = .function
 cells:∀ y∈csc.names,y.2 = .cell→csc.names.lookup y.1 = some .cell
 locals:∀ y∈csc.names,y.2 = .local→csc.names.lookup y.1 = some .local
 free:∀ y∈csc.names,y.2 = .free→X.env.scope.names.lookup y.1 = some .cell∨X.env.scope.names.lookup y.1 = some .free
 caps:∀ p∈cap,X.N[p.2]? = some p.1∧csc.names.lookup p.1 = some .free
abbrev Ae (nc:List Str) (cap:List (Str × Nat)):List Str:=nc ++ cap.map (·.1)
abbrev HA (nc:List Str) (σ:St) (cap:List (Str × Nat)):St:=List.replicate nc.length none ++ By σ cap
theorem Ao {α:Type}:∀ {l:List (Str × α)} {x:Str} {v:α},l.lookup x = some v→(x,v)∈l
 | [],_,_,h => by simp at h
 | (n,k) :: r,x,v,h => by
  rw [List.lookup_cons] at h
  cases hx:x == n with
  | true => rw [hx] at h; cases h; rw [beq_iff_eq.mp hx]; exact List.mem_cons_self
  | false => rw [hx] at h; exact List.mem_cons_of_mem _ (Ao h)
theorem Kg:∀ (names:List (Str × NameKind)) (L:Nat) (a acc:List (Str × Addr)),cellsFrom L names (a ++ acc) = cellsFrom L names a ++ acc
 | [],_,_,_ => rfl
 | (n,k) :: r,L,a,acc => by
  unfold cellsFrom
  split
  ·exact Kg r (L + 1) ((n,L) :: a) acc
  ·exact Kg r L a acc
theorem UP (names:List (Str × NameKind)) (L:Nat) (acc:List (Str × Addr)):cellsFrom L names acc = cellsFrom L names [] ++ acc:=Kg names L [] acc
theorem Kh:∀ (names:List (Str × NameKind)) (L:Nat) (acc:List (Str × Addr)) (x:Str) (c:Addr),(x,c)∈cellsFrom L names acc→(x,.cell)∈names∨(x,c)∈acc
 | [],_,_,_,_,h => .inr h
 | (n,k) :: r,L,acc,x,c,h => by
  unfold cellsFrom at h
  split at h
  ·rename_i hk
   rcases Kh r (L + 1) _ x c h with h | h
   ·exact .inl (List.mem_cons_of_mem _ h)
   ·rcases List.mem_cons.mp h with h | h
    ·cases h
     rw [eq_of_beq hk]
     exact .inl List.mem_cons_self
    ·exact .inr h
  ·rcases Kh r L _ x c h with h | h
   ·exact .inl (List.mem_cons_of_mem _ h)
   ·exact .inr h
theorem IN:∀ (names:List (Str × NameKind)) (L:Nat) (acc:List (Str × Addr)) (x:Str),((x,.cell)∈names∨(acc.lookup x).isSome = true)→((cellsFrom L names acc).lookup x).isSome = true
 | [],_,_,_,h => h.elim (fun z => by cases z) id
 | (n,k) :: r,L,acc,x,h => by
  unfold cellsFrom
  split
  ·refine IN r (L + 1) _ x ?_
   rcases h with h | h
   ·rcases List.mem_cons.mp h with h | h
    ·cases h
     exact .inr (by rw [List.lookup_cons,beq_self_eq_true]; rfl)
    ·exact .inl h
   ·refine .inr ?_
    rw [List.lookup_cons]
    cases x == n with
    | true => rfl
    | false => exact h
  ·rename_i hk
   refine IN r L acc x ?_
   rcases h with h | h
   ·rcases List.mem_cons.mp h with h | h
    ·cases h; exact absurd rfl hk
    ·exact .inl h
   ·exact .inr h
theorem Dq {α:Type}:∀ {l m:List (Str × α)} {x:Str},(l ++ m).lookup x = match l.lookup x with | some v => some v | none => m.lookup x
 | [],_,_ => rfl
 | (n,k) :: r,m,x => by
  rw [List.cons_append,List.lookup_cons,List.lookup_cons]
  cases x == n with
  | true => rfl
  | false => exact Dq
structure LcCells (X:Cx) (csc:Scope) (cs:List (Str × Addr)) (s:Shared) (h1:Heap):Prop where
 at_:∀ x c,cs.lookup x = some c→(csc.names.lookup x = some .cell∧s.heap.objs.size≤c∧h1.IsCell c none)∨(csc.names.lookup x≠some .cell∧X.env.cells.lookup x = some c)
 has:∀ x,csc.names.lookup x = some .free∨csc.names.lookup x = some .cell→∃ c,cs.lookup x = some c
 inj:∀ x y c,cs.lookup x = some c→cs.lookup y = some c→x = y
theorem RV {X:Cx} {csc:Scope} {cl:List (Str × Addr)} {nc:List Str} {cap:List (Str × Nat)} {pins:List (Addr × Obj)} {σ:St} {H:Hp} {s:Shared} {o:Obj}
  (ok:LcOk X csc nc cap) (I:Inv X pins σ H s) (hc1:∀ x c,cl.lookup x = some c→X.env.cells.lookup x = some c) (hc2:∀ y∈csc.names,y.2 = .free→(cl.lookup y.1).isSome = true) :
  LcCells X csc (cellsFrom (s.heap.objs.size + 1) csc.names cl) s (pushCells (s.heap.push o) csc.names):=by
 have nk:=cellsFrom_ok csc.names (s.heap.push o) (s.heap.objs.size + 1) [] ⟨fun _ _ hm => (nomatch hm),List.Pairwise.nil⟩ (by rw [Heap.size_push]; exact Nat.le_refl _)
 rw [Heap.size_push] at nk
 rw [UP]
 have split:∀ x c,(cellsFrom (s.heap.objs.size + 1) csc.names [] ++ cl).lookup x = some c→((x,c)∈cellsFrom (s.heap.objs.size + 1) csc.names []∧csc.names.lookup x = some .cell)∨(csc.names.lookup x≠some .cell∧cl.lookup x = some c):=fun x c e => by
  rw [Dq] at e
  cases hx:(cellsFrom (s.heap.objs.size + 1) csc.names []).lookup x with
  | some v =>
   rw [hx] at e
   cases e
   have m:=Ao hx
   refine .inl ⟨m,?_⟩
   rcases Kh _ _ _ _ _ m with z | z
   ·exact ok.cells _ z rfl
   ·cases z
  | none =>
   rw [hx] at e
   refine .inr ⟨fun z => ?_,e⟩
   have:=IN csc.names (s.heap.objs.size + 1) [] x (.inl (Ao z))
   rw [hx] at this
   cases this
 refine ⟨fun x c e => ?_,fun x hx => ?_,fun x y c e1 e2 => ?_⟩
 ·rcases split x c e with ⟨m,k⟩ | ⟨k,e⟩
  ·exact .inl ⟨k,Nat.le_of_succ_le (nk.empty x c m).2,(nk.empty x c m).1⟩
  ·exact .inr ⟨k,hc1 x c e⟩
 ·refine Option.isSome_iff_exists.mp ?_
  rw [Dq]
  cases hn:(cellsFrom (s.heap.objs.size + 1) csc.names []).lookup x with
  | some v => rfl
  | none =>
   rcases hx with hx | hx
   ·exact hc2 _ (Ao hx) rfl
   ·have:=IN csc.names (s.heap.objs.size + 1) [] x (.inl (Ao hx))
    rw [hn] at this
    cases this
 ·have old:∀ z,cl.lookup z = some c→c < s.heap.objs.size:=fun z e => by
   obtain ⟨v,hv⟩:=I.cell z c (hc1 z c e)
   exact hv.lt
  rcases split x c e1 with ⟨m1,_⟩ | ⟨_,g1⟩ <;> rcases split y c e2 with ⟨m2,_⟩ | ⟨_,g2⟩
  ·exact name_of_addr nk.apart m1 m2
  ·exact absurd (Nat.lt_of_lt_of_le (old y g2) (Nat.le_of_succ_le (nk.empty x c m1).2)) (Nat.lt_irrefl _)
  ·exact absurd (Nat.lt_of_lt_of_le (old x g1) (Nat.le_of_succ_le (nk.empty y c m2).2)) (Nat.lt_irrefl _)
  ·exact I.ok.inj x y c (hc1 x c g1) (hc1 y c g2)
section
variable {M:Model} {A:Around} {E:Value→Shared→Prop} {s:Shared}
theorem ON {scope:Scope} {globals:Addr} {closure:List (Str × Addr)} {qual:Str} {env:Env} {Q:Env→Shared→Prop}
  (hQ:Q (newEnv scope s.heap.objs.size globals (cellsFrom (s.heap.objs.size + 1) scope.names closure) qual none .none (some env) builtinsNs) { s with heap:=pushCells (s.heap.push { cls:=.type "dict",data:=.dict #[] }) scope.names }) :
  wpAny M A (newFunctionEnv scope globals closure [] qual none .none (some env)) Q E s:=by
 simp only [newFunctionEnv,Option.isSome_some,if_true]
 refine wpAny_bind (wpAny_alloc ?_)
 refine wpAny_bind (wpAny_layCells _ (fun name kind cells => by cases hkc:kind == NameKind.cell <;> simp [hkc]) _ _ _ _ ?_)
 rw [show ({ s with heap:=s.heap.push { cls:=.type "dict",data:=.dict #[] } }:Shared).heap.objs.size = s.heap.objs.size + 1 from Heap.size_push ..]
 refine wpAny_bind ?_
 rw [List.forIn_nil]
 exact wpAny_pure (wpAny_pure hQ)
end
theorem UQ {X:Cx} {csc:Scope} {cl:List (Str × Addr)} {nc:List Str} {cap:List (Str × Nat)} {pins:List (Addr × Obj)} {σ:St} {H:Hp} {s:Shared} {h1:Heap} {fp:List Addr}
  (ok:LcOk X csc nc cap) (I:Inv X pins σ H s) (C:LcCells X csc cl s h1)
  (hf:∀ b∈fp,Gy X pins H b) (ho:∀ b∈fp,∃ o,s.heap.get? b = some o)
  (hn:h1.Ns s.heap.objs.size (fun _ => none)) (kept:∀ b o,s.heap.get? b = some o→h1.get? b = some o) :
  Inv (RU X csc cl (Ae nc cap) s H fp) [] (HA nc σ cap) H { s with heap:=h1 }:=by
 have frel:∀ x,csc.names.lookup x = some .free→(compEnvC csc cl s.heap.objs.size X.env).kindOf x = some .cell∨(compEnvC csc cl s.heap.objs.size X.env).kindOf x = some .free:=fun x h => EH h
 have back:∀ {names:List (Str × NameKind)} {x:Str},((names.map fun (n,k) => if (k == NameKind.free && X.env.scope.kind == .function && X.env.kindOf n == some .cell) then (n,NameKind.cell) else (n,k)).lookup x = some .cell ∨
   (names.map fun (n,k) => if (k == NameKind.free && X.env.scope.kind == .function && X.env.kindOf n == some .cell) then (n,NameKind.cell) else (n,k)).lookup x = some .free) →
   names.lookup x = some .free∨names.lookup x = some .cell:=by
  intro names
  induction names with
  | nil => intro x h; simp at h
  | cons p r ih =>
   obtain ⟨n,k⟩:=p
   intro x h
   rw [List.map_cons] at h
   cases hx:x == n with
   | true =>
    rw [List.lookup_cons,hx]
    have e:∀ (kk:NameKind) (l:List (Str × NameKind)),((n,kk) :: l).lookup x = some kk:=fun kk l => by rw [List.lookup_cons,hx]
    by_cases hcnd:(k == NameKind.free && X.env.scope.kind == .function && X.env.kindOf n == some .cell) = true
    ·left
     have:(k == NameKind.free) = true:=by
      revert hcnd; cases (k == NameKind.free) <;> simp
     show some k = some .free
     rw [eq_of_beq this]
    ·simp only [if_neg hcnd] at h
     rw [e,] at h
     exact h.symm
   | false =>
    have e:∀ (kk:NameKind) (l:List (Str × NameKind)),((n,kk) :: l).lookup x = l.lookup x:=fun kk l => by rw [List.lookup_cons,hx]
    by_cases hcnd:(k == NameKind.free && X.env.scope.kind == .function && X.env.kindOf n == some .cell) = true
    ·simp only [if_pos hcnd] at h
     rw [e] at h
     rw [e]
     exact ih h
    ·simp only [if_neg hcnd] at h
     rw [e] at h
     rw [e]
     exact ih h
 refine ⟨⟨I.ok.mod,ok.kind,I.ok.glob,I.ok.blt,Nat.le_refl _,C.inj,fun x hx => C.has x (back hx),fun x c e1 e2 => ?_,I.ok.hd,I.ok.frames,.inl rfl,fun b hb => ⟨?_,fun x c e => ?_⟩,
  I.bs,Nat.le_trans I.ok.bsz I.sz,fun b o e hb => ?_,fun b hb z => ?_,I.stack,I.stkFree⟩,rfl,I.bare,⟨fun b o e _ _ _ => kept b o e,fun b o e _ _ _ => ⟨o.slots,kept b o e⟩,fun b o e n _ => n,fun b o e _ => ⟨o,kept b o e⟩,fun _ _ e => e,fun _ _ _ e => e,fun b ps e => ⟨#[],by rw [show H b = some (HO.tbl ps) from e]; simp⟩⟩,
  ⟨_,hn,fun i x v e1 e2 e3 => ?_⟩,fun x c e => ?_,I.hok.fresh (Nat.le_refl _),fun x c e => (C.at_ x c e).elim (fun z => I.hok.fresh z.2.1) (fun z => I.freeC x c z.2),fun p hp => absurd (show p∈([]:List (Addr × Obj)) from hp) (by simp),I.hok.kept kept,?_⟩
 ·rcases C.at_ x c e2 with z | z
  ·exact z.2.1
  ·exact absurd (JW e1) z.1
 ·obtain ⟨o,e⟩:=ho b hb
  exact Nat.ne_of_lt (Heap.lt_size e)
 ·rcases C.at_ x c e with z | z
  ·obtain ⟨o,e⟩:=ho b hb
   exact Nat.ne_of_gt (Nat.lt_of_lt_of_le (Heap.lt_size e) z.2.1)
  ·exact (hf b hb).2.2.2.2.1 x c z.2
 ·have h1:=(hf b hb).2.2.2.1
  rcases h1 with z | z
  ·exact I.ok.noex b o e z
  ·exact absurd (Nat.lt_of_lt_of_le (Heap.lt_size e) (Nat.le_trans I.ok.bsz z)) (Nat.lt_irrefl _)
 ·have h1:=(hf b hb).2.1
  have h2:=(hf b hb).2.2.1
  exact (List.mem_cons.mp (I.stkSub b z)).elim h1 h2
 ·-- the names
  have hlen:nc.length≤i:=by
   by_cases hi:i < nc.length
   ·have e2':(List.replicate nc.length (none:Option V) ++ By σ cap)[i]? = some (some v):=e2
    rw [List.getElem?_append_left (by simpa using hi),List.getElem?_replicate] at e2'
    split at e2' <;> cases e2'
   ·omega
  have e1':(nc ++ cap.map (·.1))[i]? = some x:=e1
  have e2':(List.replicate nc.length (none:Option V) ++ By σ cap)[i]? = some (some v):=e2
  rw [List.getElem?_append_right hlen,List.getElem?_map] at e1'
  rw [List.getElem?_append_right (by simpa using hlen)] at e2'
  simp only [List.length_replicate] at e2'
  unfold By at e2'
  rw [List.getElem?_map] at e2'
  cases hp:cap[i - nc.length]? with
  | none => rw [hp] at e1'; cases e1'
  | some p =>
   rw [hp] at e1' e2'
   have e1'':p.1 = x:=Option.some.inj e1'
   have e2'':(σ[p.2]?).join = some v:=Option.some.inj e2'
   subst e1''
   obtain ⟨c1,c2⟩:=ok.caps p (List.mem_of_getElem? hp)
   have hσ:σ[p.2]? = some (some v):=by
    cases q:σ[p.2]? with
    | none => rw [q] at e2''; cases e2''
    | some w' => rw [q] at e2''; exact congrArg some e2''
   have vis:X.env.scope.names.lookup p.1 = some .cell∨X.env.scope.names.lookup p.1 = some .free:=ok.free _ (Ao c2) rfl
   obtain ⟨m,_,hl⟩:=I.loc
   obtain ⟨u,r,l⟩:=hl p.2 p.1 v c1 hσ (vis.elim (fun z => .inr (.inl z)) fun z => .inr (.inr z))
   refine ⟨u,r,.inr ⟨frel p.1 c2,?_⟩⟩
   rcases l with ⟨k,_⟩ | ⟨_,c,e,z⟩
   ·have k:X.env.scope.names.lookup p.1 = some .local:=k
    rcases vis with q | q <;> (rw [q] at k; cases k)
   ·obtain ⟨c',e''⟩:=C.has p.1 (.inl c2)
    have q:X.env.cells.lookup p.1 = some c':=by
     rcases C.at_ _ _ e'' with z | z
     ·rw [c2] at z; cases z.1
     ·exact z.2
    rw [e] at q; cases q
    obtain ⟨o,z1,z2⟩:=z
    exact ⟨c,e'',o,kept c o z1,z2⟩
 ·rcases C.at_ x c e with z | z
  ·exact ⟨none,z.2.2⟩
  ·obtain ⟨v,o,z1,z2⟩:=I.cell x c z.2
   exact ⟨v,o,kept c o z1,z2⟩
 ·show (List.replicate nc.length (none:Option V) ++ By σ cap).length = (nc ++ cap.map (·.1)).length
  unfold By
  simp
section
variable {prog:Program} {w:World} {A:Around} {R:Result→Shared→Prop} {s:Shared}
abbrev RW:Value→Shared→Prop:=fun _ _ => False
theorem DM {elt target iter:Expr} {ifs:List Expr} {scope:Scope} {pos:Pos} {it acc:Value} {env:Env} (I:Nat→Shared→Prop)
  (turn:∀ n s,I n s→wpAny (model prog w) A (pyNext it) (fun r s₁ => match r with
   | none => R (.ok .next) s₁
   | some v => wpAny (model prog w) A (letOwnedTupleGo target it v) (fun _ s₂ => wpAny (model prog w) A (assign target env v) (fun _ s₃ =>
     wpAny (model prog w) A (forIn ifs true fun c r => if r = true then do let ok ← isTrue c env (eval c env); pure (ForInStep.yield ok) else pure (ForInStep.yield r)) (fun ok s₄ =>
      if ok = true then wpAny (model prog w) A (eval elt env) (fun x s₅ =>
       wpAny (model prog w) A (call (.builtin "list.append") [acc,x]) (fun _ s₆ => ∃ m,m < n∧I m s₆) RW s₅) RW s₄
      else ∃ m,m < n∧I m s₄) RW s₃) RW s₂) RW s₁) RW s)
  (n:Nat) (h:I n s) :
  codeAny (model prog w) A (.compLoop (.ListComp elt [⟨target,iter,ifs,0⟩] scope pos) 0 it acc env) R s:=by
 refine codeAny_loop rfl I (fun n s hI => ?_) n h
 show wpAny _ A ((compTurn (.ListComp elt [⟨target,iter,ifs,0⟩] scope pos) 0 it acc env).onRaise (fun x => do noteFrame x env; theTreesLotGoes x)) _ _ s
 refine wpAny_noted (wpAny_noRaise ?_)
 rw [compTurn_list]
 refine wpAny_bind (wpAny_standAt (wpAny_bind (Ap (turn n s hI) fun r s₁ h₁ => ?_)))
 cases r with
 | none => exact wpAny_pure h₁
 | some v =>
  refine wpAny_bind (Ap h₁ fun _ s₂ h₂ => wpAny_bind (Ap h₂ fun _ s₃ h₃ => wpAny_bind (Ap h₃ fun ok s₄ h₄ => ?_)))
  cases ok with
  | true =>
   rw [if_pos rfl] at h₄ ⊢
   exact wpAny_bind (wpAny_bind (Ap h₄ fun x s₅ h₅ => wpAny_bind (Ap h₅ fun _ s₆ h₆ => wpAny_pure (wpAny_pure ⟨rfl,h₆⟩))))
  | false =>
   rw [if_neg Bool.false_ne_true] at h₄ ⊢
   exact wpAny_bind (wpAny_pure (wpAny_pure ⟨rfl,h₄⟩))
end
def UR (X:Cx) (ifs:List Expr) (t:TT):Prop :=
 ∀ (pins:List (Addr × Obj)) (s:Shared) (σ:St) (H:Hp) (Q:Bool→Hp→Prop),Inv X pins σ H s→t σ H Q →
  wpAny (model X.prog X.w) X.A (forIn ifs true fun c r => if r = true then do let ok ← isTrue c X.env (eval c X.env); pure (ForInStep.yield ok) else pure (ForInStep.yield r)) (TP X pins σ Q) X.xe s
def WP:TT:=fun _ H Q => Q true H
theorem RX {X:Cx}:UR X [] WP:=fun _ _ _ H _ I h => wpAny_tests_nil ⟨H,I,h⟩
theorem RY {X:Cx} {c:Expr} {t:TT} (h:PT X c t):UR X [c] t:=fun pins s σ H Q I q => wpAny_tests_one (h pins s σ H Q I q)
def TC (nc:List Str) (cap:List (Str × Nat)) (g:TG) (tt:TT) (te:TE) (σ:St) (J:It) (p:Addr) (H:Hp) (Q:Hp→Prop):Prop :=
 ∃ W:Nat→Nat→Hp→Prop,(∃ m,W 0 m (upd H p (.lst [])))∧∀ i m H2,W i m H2 →
  (J.stop i H2∧Q H2)∨(J.go i H2∧∃ N:Hp→Prop,(∀ H',N H'→∃ m',m' < m∧W (i + 1) m' H')∧∀ x H3,J.yld i H2 x H3→g x (HA nc σ cap) H3 fun σ4 H4 => (∃ pre:St,pre.length = nc.length∧σ4 = pre ++ By σ cap)∧tt σ4 H4 fun b H5 =>
   if b = true then te σ4 H5 fun y H6 => ∃ ys,H6 p = some (.lst ys)∧ys.length < sizeLine∧N (upd H6 p (.lst (ys ++ [y])))
   else N H5)
def Xr (wi:TI) (nc:List Str) (cap:List (Str × Nat)) (g:TG) (tt:TT) (te:TE):TE:=fun σ H Q => wi σ H fun J H1 => ∀ p,H1 p = none→TC nc cap g tt te σ J p H1 (Q (.ref p))
section
variable {X:Cx} {elt tg iter:Expr} {ifs:List Expr} {csc:Scope} {nc:List Str} {cap:List (Str × Nat)} {wi:TI} {g:TG} {tt:TT} {te:TE} {pos:Pos}
theorem JX {pins:List (Addr × Obj)} {σ:St} {s2:Shared} {H2:Hp} {it:Addr} {fp:List Addr} {tn:Nat→Heap→Prop} {J:It} {cl:List (Str × Addr)} {Q:Hp→Prop} {RR:Value→Addr→Result→Shared→Prop} {E:Value→Shared→Prop}
  (hc:X.calm = true) (ok:LcOk X csc nc cap) (hg:∀ X',LcCx X csc (Ae nc cap) X'→PG X' tg g) (ht:∀ X',LcCx X csc (Ae nc cap) X'→UR X' ifs tt) (he:∀ X',LcCx X csc (Ae nc cap) X'→PE X' elt te)
  (hc1:∀ x c,cl.lookup x = some c→X.env.cells.lookup x = some c) (hc2:∀ y∈csc.names,y.2 = .free→(cl.lookup y.1).isSome = true)
  (I2:Inv X pins σ H2 s2) (T:Turn X.prog X.w X.K tg J fp it tn) (st2:tn 0 s2.heap) (f2:∀ b∈fp,Gy X pins H2 b) (run:TC nc cap g tt te σ J s2.heap.objs.size H2 Q)
  (out:∀ (C:Addr) (H':Hp) (s':Shared),Inv X pins σ H' s'→(∃ m,s'.heap.Ns C m)→H' C = none→C≠X.env.locals→X.s₀.heap.objs.size≤C→(∀ x c,X.env.cells.lookup x = some c→c≠C)→(∀ p∈X.pn ++ pins,p.1≠C)→Q H'→RR (.ref s2.heap.objs.size) C (.ok .next) s') :
  wpAny (model X.prog X.w) X.A (newList []) (fun acc s₃ => wpAny (model X.prog X.w) X.A (newFunctionEnv csc X.env.globals cl [] X.env.qual none .none (some X.env)) (fun cenv s₄ =>
   codeAny (model X.prog X.w) X.A (.compStart (.ListComp elt [⟨tg,iter,ifs,0⟩] csc pos) 0 (.ref it) acc { cenv with scope:=relabel csc X.env }) (RR acc cenv.locals) s₄) E s₃) E s2:=by
 refine wpAny_newObj_type ?_
 have hp:H2 s2.heap.objs.size = none:=I2.hok.fresh (Nat.le_refl _)
 have I3:Inv X pins σ (upd H2 s2.heap.objs.size (.lst [])) { s2 with heap:=s2.heap.push { cls:=.type "list",dict:=none,data:=.seq ([]:List Value).toArray } } :=
  I2.laid (t':=s2.toks) (fun b u e => Heap.get?_push_of_some _ e) (Nat.le_refl _) ⟨Nat.zero_le _,[],0,.nil,Heap.get?_push_size _ rfl⟩
 generalize hs3:({ s2 with heap:=s2.heap.push { cls:=.type "list",dict:=none,data:=.seq ([]:List Value).toArray } }:Shared) = s3 at I3
 have hk3:∀ b o,s2.heap.get? b = some o→s3.heap.get? b = some o:=fun b o e => by rw [← hs3]; exact Heap.get?_push_of_some _ e
 generalize hp0:s2.heap.objs.size = p at *
 have hlt:∀ b∈fp,b < p:=fun b hb => by
  obtain ⟨o,e,_⟩:=T.obj 0 _ st2 b hb
  rw [← hp0]; exact Heap.lt_size e
 have f3:∀ b∈fp,Gy X pins (upd H2 p (.lst [])) b:=fun b hb => ⟨by rw [AI (Nat.ne_of_lt (hlt b hb))]; exact (f2 b hb).1,(f2 b hb).2⟩
 have st3:tn 0 s3.heap:=T.keep 0 _ _ st2 fun b _ o e => hk3 b o e
 refine ON ?_
 have LC:=RV (o:={ cls:=.type "dict",data:=.dict #[] }) ok I3 hc1 hc2
 have hns:(pushCells (s3.heap.push { cls:=.type "dict",data:=.dict #[] }) csc.names).Ns s3.heap.objs.size (fun _ => none):=(Heap.Ns.new s3.heap (.type "dict")).keeps (pushCells_keeps _ _)
 have kept4:∀ b o,s3.heap.get? b = some o→(pushCells (s3.heap.push { cls:=.type "dict",data:=.dict #[] }) csc.names).get? b = some o:=fun b o e => pushCells_keeps _ _ b o (Heap.get?_push_of_some _ e)
 generalize hcs:cellsFrom (s3.heap.objs.size + 1) csc.names cl = cs at LC ⊢
 generalize hh1:pushCells (s3.heap.push { cls:=.type "dict",data:=.dict #[] }) csc.names = h₁ at LC hns kept4 ⊢
 have hcc:∀ x c,cs.lookup x = some c→X.env.cells.lookup x = some c∨s3.heap.objs.size≤c:=fun x c e => (LC.at_ x c e).elim (fun z => .inr z.2.1) (fun z => .inl z.2)
 have I4:Inv (RU X csc cs (Ae nc cap) s3 (upd H2 p (.lst [])) fp) [] (HA nc σ cap) (upd H2 p (.lst [])) { s3 with heap:=h₁ } :=
  UQ ok I3 LC f3 (fun b hb => (T.obj 0 _ st3 b hb).imp fun o q => q.1) hns kept4
 have st4:tn 0 h₁:=T.keep 0 _ _ st3 fun b _ o e => kept4 b o e
 generalize hX':RU X csc cs (Ae nc cap) s3 (upd H2 p (.lst [])) fp = X' at I4
 have is':LcCx X csc (Ae nc cap) X':=⟨_,_,_,_,hX'.symm⟩
 have hP:X'.prog = X.prog:=by rw [← hX']; rfl
 have hw:X'.w = X.w:=by rw [← hX']; rfl
 have hK:X'.K = X.K:=by rw [← hX']; rfl
 have hA:X'.A = X.A:=by rw [← hX']; rfl
 have hcal:X'.calm = true:=by rw [← hX']; exact hc
 have hE:X'.env = compEnvC csc cs s3.heap.objs.size X.env:=by rw [← hX']; rfl
 have hxe:X'.xe = RW:=by rw [← hX']; rfl
 have hfs:X'.fs = Ej X.stack:=by rw [← hX']; rfl
 have hex:X'.ex = fp:=by rw [← hX']; rfl
 have hs0:X'.s₀ = s3:=by rw [← hX']; rfl
 have hH0:X'.H₀ = upd H2 p (.lst []):=by rw [← hX']; rfl
 have hpn:X'.pn = []:=by rw [← hX']; rfl
 have stat:∀ {H':Hp},(∀ b∈fp,H' b = none)→∀ b∈fp,Gy X' [] H' b:=fun {H'} hn b hb => by
  obtain ⟨_,q2,q3,q4,q5,q6⟩:=f3 b hb
  obtain ⟨o,e,_⟩:=T.obj 0 _ st3 b hb
  refine ⟨hn b hb,?_,?_,?_,?_,?_⟩
  ·rw [hE]; exact Nat.ne_of_lt (Heap.lt_size e)
  ·rw [hfs]; exact fun z => (List.mem_cons.mp (I3.stkSub b z)).elim q2 q3
  ·rw [hex]; exact .inl hb
  ·rw [hE]; exact fun x c e' => (hcc x c e').elim (fun z => q5 x c z) fun z => Nat.ne_of_gt (Nat.lt_of_lt_of_le (Heap.lt_size e) z)
  ·rw [hpn]; intro p hp; simp at hp
 obtain ⟨W,⟨m0,w0⟩,turn⟩:=run
 have loop:∀ s4:Shared,s4 = { s3 with heap:=h₁ }→codeAny (model X.prog X.w) X.A (.compLoop (.ListComp elt [⟨tg,iter,ifs,0⟩] csc pos) 0 (.ref it) (.ref p) (compEnvC csc cs s3.heap.objs.size X.env)) (RR (.ref p) s3.heap.objs.size) s4:=by
  rintro s4 rfl
  refine DM (fun n s' => ∃ i H',Inv X' [] (HA nc σ cap) H' s'∧tn i s'.heap∧(∀ b∈fp,H' b = none)∧W i n H') ?_ m0 ⟨0,_,I4,st4,fun b hb => (f3 b hb).1,w0⟩
  rintro n s5 ⟨i,H5,I5,st5,fr5,w5⟩
  rcases turn i n H5 w5 with ⟨stop,qn⟩ | ⟨go,N,hN,step⟩
  ·have q:=T.done X' hP hw hK hcal i [] s5 (HA nc σ cap) H5 RW I5 (stat fr5) st5 stop
   rw [hA] at q
   refine Ap q fun r s6 ⟨hr,I6⟩ => ?_
   subst hr
   have B:=I6.base
   rw [hfs,hex,hs0,hH0] at B
   have I7:Inv X pins σ H5 s6:=by
    refine I3.call' (ch:=fp) (by rw [I6.os,hs0]) B (by have:=I6.hok; rw [hP,hw] at this; exact this) I6.bare fun b hb => ?_
    obtain ⟨_,q2,q3,q4,q5,q6⟩:=f3 b hb
    exact ⟨q4,q2,q5,q6⟩
   obtain ⟨m,hm,_⟩:=I6.loc
   have hCf:=I6.free
   rw [hE] at hm hCf
   refine out _ H5 s6 I7 ⟨m,hm⟩ hCf (Nat.ne_of_gt I3.lt) I3.sz (fun x c e z => ?_) (fun p hp z => ?_) qn
   ·obtain ⟨v,hv⟩:=I3.cell x c e
    exact absurd hv.lt (by rw [z]; exact Nat.lt_irrefl _)
   ·exact absurd (Heap.lt_size (I3.pin p hp).1) (by rw [z]; exact Nat.lt_irrefl _)
  ·have q:=T.item X' hP hw hK hcal i [] s5 (HA nc σ cap) H5 RW I5 (stat fr5) st5 go
   rw [hA] at q
   refine Ap q fun r s6 ⟨u,hr,h6⟩ => ?_
   subst hr
   refine Ap h6 fun _ s7 ⟨x,H7,I7,r7,y7,st7,fr7⟩ => ?_
   have I7':=I7.pinned (stat fr7) (T.obj _ _ st7)
   have q8:=hg X' is' _ s7 _ H7 x u _ I7' r7 (step x H7 y7)
   rw [hP,hw,hA,hE,hxe] at q8
   refine Ap q8 fun _ s8 ⟨σ8,H8,I8,⟨pre,hpl,hσ8⟩,q8⟩ => ?_
   have q9:=ht X' is' _ s8 σ8 H8 _ I8 q8
   rw [hP,hw,hA,hE,hxe] at q9
   have wk:∀ {s':Shared} {H':Hp} {pl:List (Addr × Obj)},Inv X' pl σ8 H' s'→Inv X' pl (HA nc σ cap) H' s':=fun {s' H' pl} J' => by
    refine J'.weak (by rw [J'.len,I4.len]) fun j v e => ?_
    rw [hσ8]
    by_cases hj:j < nc.length
    ·have e:(List.replicate nc.length (none:Option V) ++ By σ cap)[j]? = some (some v):=e
     rw [List.getElem?_append_left (by simpa using hj),List.getElem?_replicate] at e
     split at e <;> cases e
    ·have e:(List.replicate nc.length (none:Option V) ++ By σ cap)[j]? = some (some v):=e
     rw [List.getElem?_append_right (by simpa using hj)] at e
     rw [List.getElem?_append_right (by omega),hpl]
     simpa using e
   have again:∀ {s':Shared} {H':Hp} {m':Nat},Inv X' ([] ++ Fo fp s7.heap) σ8 H' s'→m' < n→W (i + 1) m' H' →
     ∃ m,m < n∧∃ i H',Inv X' [] (HA nc σ cap) H' s'∧tn i s'.heap∧(∀ b∈fp,H' b = none)∧W i m H':=fun {s' H' m'} J' hm hW => by
    refine ⟨m',hm,i + 1,H',wk J'.unpinned,T.keep _ _ _ st7 fun b hb o e => (J'.pin (b,o) (List.mem_append_right _ (List.mem_append_right _ (Ch hb e)))).1,fun b hb => ?_,hW⟩
    obtain ⟨o,e,d⟩:=T.obj _ _ st7 b hb
    exact (J'.pin (b,o) (List.mem_append_right _ (List.mem_append_right _ (Ch hb e)))).2.1
   refine Ap q9 fun b s9 ⟨H9,I9,q9⟩ => ?_
   cases b with
   | false =>
    rw [if_neg Bool.false_ne_true] at q9 ⊢
    obtain ⟨m',hm,hW⟩:=hN _ q9
    exact again I9 hm hW
   | true =>
    rw [if_pos rfl] at q9 ⊢
    have qe:=he X' is' _ s9 σ8 H9 _ I9 q9
    rw [hP,hw,hA,hE,hxe] at qe
    refine Ap qe fun u s10 ⟨y,H10,I10,ry,ys,hys,hlen,hNn⟩ => ?_
    obtain ⟨m',hm,hW⟩:=hN _ hNn
    have qa:=HU (X:=X') _ s10 σ8 H10 (.ref p) [y] (.ref p) [u] (fun _ H' => H' = upd H10 p (.lst (ys ++ [y]))) I10 rfl (.cons ry .nil) ⟨p,ys,y,rfl,rfl,hys,hlen,rfl⟩
    rw [hP,hw,hA,hxe] at qa
    refine Ap qa fun _ s11 ⟨_,H11,I11,_,e11⟩ => ?_
    subst e11
    exact again I11 hm hW
 have st5:=loop _ rfl
 exact codeAny_compStart_list (loop _ rfl) (T.self X.A 0 _ _ _ st4 (loop _ rfl))
end
section
variable {X:Cx} {elt tg iter:Expr} {ifs:List Expr} {csc:Scope} {nc:List Str} {cap:List (Str × Nat)} {wi:TI} {g:TG} {tt:TT} {te:TE} {pos:Pos}
theorem LcOk.clos {pins:List (Addr × Obj)} {σ:St} {H:Hp} {s:Shared} (ok:LcOk X csc nc cap) (I:Inv X pins σ H s) :
  ∃ cl,closureFor csc X.env = pure cl∧(∀ x c,cl.lookup x = some c→X.env.cells.lookup x = some c)∧∀ y∈csc.names,y.2 = .free→(cl.lookup y.1).isSome = true :=
 RS fun y hy hf => I.ok.has y.1 (ok.free y hy hf)
theorem WQ (hc:X.calm = true) (ok:LcOk X csc nc cap) (hi:PI X tg iter wi) (hg:∀ X',LcCx X csc (Ae nc cap) X'→PG X' tg g) (ht:∀ X',LcCx X csc (Ae nc cap) X'→UR X' ifs tt) (he:∀ X',LcCx X csc (Ae nc cap) X'→PE X' elt te)
  (hs:∀ x,foldedSetIterable iter X.env x = pure x:=by intro _; rfl):PE X (.ListComp elt [⟨tg,iter,ifs,0⟩] csc pos) (Xr wi nc cap g tt te):=by
 intro pins s σ H Q I h
 obtain ⟨cl,hcl,hc1,hc2⟩:=ok.clos I
 rw [eval_ListComp]
 refine wpAny_comprehension_free (use:=none) rfl hs hcl ok.kind ok.locals (Ap (hi pins s σ H _ I h) fun v s1 h1 => Ap h1 fun itv s2 h2 => ?_)
 obtain ⟨it,fp,tn,J,H2,e,I2,T,st2,f2,run⟩:=h2
 subst e
 refine JX (RR:=fun acc C => compPost (model X.prog X.w) X.A X.xe none (EP X pins σ Q) acc C) hc ok hg ht he hc1 hc2 I2 T st2 f2 (run _ (I2.hok.fresh (Nat.le_refl _))) ?_
 intro C H' s' I' hn h1 h2 h3 h4 h5 q
 obtain ⟨m,hn⟩:=hn
 refine ⟨m,hn,fun h' sb => ⟨.ref s2.heap.objs.size,H',?_,rfl,q⟩⟩
 exact I'.turned (t':=s'.toks) (fun b o hb e => (sb.2 b hb).trans e) h1 h2 (.inr h3) h4 h5
def US (i:Nat) (te:TE):TS:=fun D σ H => te σ H fun v H1 => D.nx (σ.set i (some v)) H1
theorem JY {i:Nat} {x:Str} {px spos:Pos} (hN:X.N.Nodup) (hx:X.N[i]? = some x) (hk:X.env.scope.names.lookup x = some .local) (hsw:swapsWith (.ListComp elt [⟨tg,iter,ifs,0⟩] csc pos) (some (.Name x px)) spos.line X.env = pure true)
  (hc:X.calm = true) (ok:LcOk X csc nc cap) (hi:PI X tg iter wi) (hg:∀ X',LcCx X csc (Ae nc cap) X'→PG X' tg g) (ht:∀ X',LcCx X csc (Ae nc cap) X'→UR X' ifs tt) (he:∀ X',LcCx X csc (Ae nc cap) X'→PE X' elt te)
  (hs:∀ x,foldedSetIterable iter X.env x = pure x:=by intro _; rfl):PS X (.Assign [.Name x px] (.ListComp elt [⟨tg,iter,ifs,0⟩] csc pos) spos) (US i (Xr wi nc cap g tt te)):=by
 intro pins s σ H D I h
 obtain ⟨cl,hcl,hc1,hc2⟩:=ok.clos I
 rw [exec_Assign_Name_used _ _ _ _ hsw]
 refine wpAny_bind (wpAny_standAt (wpAny_bind ?_))
 show wpAny _ X.A (do let _ ← comprehension (.ListComp elt [⟨tg,iter,ifs,0⟩] csc pos) csc X.env _ (newList []) false (eval iter X.env) (some (assign (.Name x px) X.env))) _ _ s
 refine wpAny_bind (Ap (wpAny_comprehension_free (use:=some (assign (.Name x px) X.env)) (Q:=fun _ s' => SP X pins D .next s') rfl hs hcl ok.kind ok.locals
  (Ap (hi pins s σ H _ I h) fun v s1 h1 => Ap h1 fun itv s2 h2 => ?_)) fun _ s' hq => wpAny_pure (wpAny_pure hq))
 obtain ⟨it,fp,tn,J,H2,e,I2,T,st2,f2,run⟩:=h2
 subst e
 refine JX (RR:=fun acc C => compPost (model X.prog X.w) X.A X.xe (some (assign (.Name x px) X.env)) (fun _ s' => SP X pins D .next s') acc C) hc ok hg ht he hc1 hc2 I2 T st2 f2 (run _ (I2.hok.fresh (Nat.le_refl _))) ?_
 intro C H' s' I' hn h1 h2 h3 h4 h5 q
 obtain ⟨m,hn⟩:=hn
 show wpAny _ X.A (assign (.Name x px) X.env (.ref s2.heap.objs.size)) _ _ _
 refine wpAny_assign_Name (HH I' hN hx (.inl hk) (v:=.ref s2.heap.objs.size) rfl (fun s'' I'' ha => ?_) (.inr hk))
 obtain ⟨a,sb,ha⟩:=ha
 have hCa:C≠a:=by
  rcases ha with ha | ha
  ·rw [ha]; exact h2
  ·exact fun z => h4 x a ha z.symm
 refine ⟨m,hn.sameBut sb hCa,fun h' sb' => ⟨_,H',?_,q⟩⟩
 exact I''.turned (t':=s''.toks) (fun b o hb e => (sb'.2 b hb).trans e) h1 h2 (.inr h3) h4 h5
end
section
variable {K:PySem.W.Frag} {nc:List Str} {cap:List (Str × Nat)} {g:TG} {tt:TT} {te:TE} {σ:St} {p a:Addr} {H:Hp} {Q:Hp→Prop}
end
def DK (h h':Heap):Prop:=h.objs.size≤h'.objs.size∧∀ e,e < h.objs.size→(h'.objs[e]?).map (·.dict) = (h.objs[e]?).map (·.dict)
theorem DK.refl (h:Heap):DK h h:=⟨Nat.le_refl _,fun _ _ => rfl⟩
theorem DK.trans {a b c:Heap} (x:DK a b) (y:DK b c):DK a c:=⟨Nat.le_trans x.1 y.1,fun e he => (y.2 e (Nat.lt_of_lt_of_le he x.1)).trans (x.2 e he)⟩
theorem DK.push {h:Heap} {o:Obj}:DK h (h.push o):=by
 refine ⟨by rw [Heap.size_push]; omega,fun e he => ?_⟩
 show ((h.objs.push o)[e]?).map _ = _
 rw [Array.getElem?_push,if_neg (by omega)]
theorem DK.upd {h:Heap} {a:Addr} {f:Obj→Obj} (hf:∀ o,(f o).dict = o.dict):DK h (h.update a f):=by
 obtain ⟨objs,l⟩:=h
 refine ⟨by show objs.size≤(objs.modify a f).size; simp,fun e he => ?_⟩
 show ((objs.modify a f)[e]?).map _ = _
 rw [Array.getElem?_modify]
 split
 ·cases objs[e]? with
  | none => rfl
  | some o => exact congrArg some (hf o)
 ·rfl
theorem Ls {h:Heap} {e:Addr} {o:Obj} (q:h.get? e = some o):h.objs[e]? = some o:=by
 unfold Heap.get? at q
 split at q
 ·cases q
 ·exact q
theorem DK.at_ {h h':Heap} {e:Addr} {o o':Obj} (x:DK h h') (q:h.get? e = some o) (q':h'.get? e = some o'):o'.dict = o.dict:=by
 have z:=x.2 e (Heap.lt_size q)
 rw [Ls q,Ls q'] at z
 exact Option.some.inj z
inductive KD {α:Type}:Sem α→Prop
 | pure (a:α):KD (.pure a)
 | raise (e:Value):KD (.raise e)
 | unsup (x:String):KD (.unsupported x)
 | load {a:Addr} {p:Option Value} {k:Obj→Sem α}:(∀ o,KD (k o))→KD (.load a p k)
 | upd {a:Addr} {p:Option Value} {f:Obj→Obj} {k:Unit→Sem α}:(∀ o,(f o).dict = o.dict)→KD (k ())→KD (.update a p f k)
 | alloc {o:Obj} {k:Addr→Sem α}:(∀ a,KD (k a))→KD (.alloc o k)
 | stack {k:List (Code × Pos)→Sem α}:(∀ l,KD (k l))→KD (.stack k)
theorem KD.bind {α β:Type} {m:Sem α} {f:α→Sem β} (h:KD m) (hf:∀ a,KD (f a)):KD (m >>= f):=by
 show KD (Sem.bind m f)
 induction h with
 | pure a => exact hf a
 | raise e => exact .raise e
 | unsup x => exact .unsup x
 | load _ ih => exact .load ih
 | upd q _ ih => exact .upd q ih
 | alloc _ ih => exact .alloc ih
 | stack _ ih => exact .stack ih
theorem KD.wp {α:Type} {M:Model} {Γ:PySem.Ctx} {Q:α→Pos→Shared→Prop} {E:Value→Pos→Shared→Prop} {h0:Heap} {t:Sem α} (h:KD t):∀ {p:Pos} {s:Shared},DK h0 s.heap→Sem.wp M Γ t Q E p s→Sem.wp M Γ t (fun a p' s' => Q a p' s'∧DK h0 s'.heap) E p s:=by
 induction h with
 | pure a => intro p s d q; exact ⟨q,d⟩
 | raise e => intro p s d q; exact q
 | unsup x => intro p s d q; exact q
 | load _ ih => intro p s d q; obtain ⟨o,e,q⟩:=q; exact ⟨o,e,ih o d q⟩
 | upd hf _ ih => intro p s d q; exact ⟨q.1,ih (d.trans (.upd hf)) q.2⟩
 | alloc _ ih => intro p s d q; exact ih _ (d.trans .push) q
 | stack _ ih => intro p s d q; exact ih _ d q
theorem KD.any {α:Type} {M:Model} {A:Around} {Q:α→Shared→Prop} {E:Value→Shared→Prop} {s:Shared} {t:Sem α} (h:KD t) (q:wpAny M A t Q E s):wpAny M A t (fun a s' => Q a s'∧DK s.heap s'.heap) E s :=
 fun Γ p g => h.wp (.refl _) (q Γ p g)
theorem KD.ite {α:Type} {c:Prop} [Decidable c] {a b:Sem α} (ha:KD a) (hb:KD b):KD (if c then a else b):=by split <;> assumption
theorem JZ (v:Value):KD (fieldsOf v):=by
 unfold fieldsOf
 split
 ·refine KD.bind (.load fun o => .pure o) fun o => ?_
  split
  ·exact .pure _
  ·exact .unsup _
 ·exact .unsup _
theorem EJ (v:Value) (i:Nat):KD (field v i):=by
 unfold field
 refine (JZ v).bind fun vs => ?_
 split
 ·exact .pure _
 ·exact .unsup _
theorem Fy (f:Array Value→Array Value) (o:Obj):(Obj.mapFields f o).dict = o.dict:=by
 unfold Obj.mapFields; split <;> rfl
theorem DN (v:Value) (i:Nat) (x:Value):KD (setField v i x):=by
 unfold setField
 split
 ·unfold updateField
  refine KD.bind (.load fun o => .pure o) fun o => ?_
  split
  ·exact .ite (.upd (Fy _) (.pure _)) (.unsup _)
  ·exact .unsup _
 ·exact .unsup _
theorem Cj (e:Value) (f:Option Addr):KD (setFlight e f):=by
 unfold setFlight
 exact (EJ e 1).bind fun tb => .ite (DN _ _ _) (.pure _)
theorem Ja:∀ (l:List Env),KD (readyFrames l)
 | [] => .pure _
 | env :: outer => by
  unfold readyFrames
  split
  ·refine KD.bind (.load fun o => .pure o) fun o => ?_
   refine .ite (.pure _) ?_
   refine KD.bind ?_ fun im => ?_
   ·unfold behindIsImport
    exact .ite (.pure _) (.ite (.pure _) ((EJ _ _).bind fun _ => .pure _))
   refine KD.bind ?_ fun bk => ?_
   ·unfold keptBack
    split
    ·refine .ite (.pure _) (KD.bind ?_ fun _ => .pure _)
     unfold underTheClaimsCaller
     exact KD.bind (.stack fun _ => .pure _) fun _ => .pure _
    ·exact .pure _
   exact KD.bind (.upd (fun _ => rfl) (.pure _)) fun _ => Ja outer
  ·exact .unsup _
theorem Ki (env:Env):KD (PySem.frameOf env):=by
 unfold PySem.frameOf
 refine KD.bind ?_ fun es => ?_
 ·unfold frameEnvs
  exact KD.bind (.stack fun _ => .pure _) fun _ => .pure _
 refine KD.bind ?_ fun r => ?_
 ·cases es.dropWhile (·.frame != env.frame) with
  | nil => exact .pure _
  | cons a b => unfold frameObject; exact (Ja _).bind fun _ => .pure _
 split
 ·exact .pure _
 ·exact .unsup _
theorem OO (f:Addr) (b:Bool):KD (entryPlaceOf f b):=by
 unfold entryPlaceOf
 refine KD.bind (.stack fun _ => .pure _) fun _ => ?_
 split <;> exact .pure _
theorem OP (h a l f i:Value) (pl:List Value):KD (EntryCells.newEntry h a l f i pl):=by
 have z:∀ d,KD (newObjAsIs (.type "traceback") d):=fun d => .alloc fun a => .pure _
 unfold EntryCells.newEntry newFields newObj
 dsimp only
 exact .ite (KD.bind (.unsup _) fun _ => z _) (z _)
theorem Lu (e:Value) (env:Env):KD (noteFrame e env):=by
 unfold noteFrame
 split
 ·rename_i f hf
  refine (EJ e 1).bind fun head => ?_
  have fin:KD (do setField e 1 (← EntryCells.newEntry head (← PySem.frameOf env) .none (rawInt f) .none (← entryPlaceOf f (head != .none)))) :=
   (Ki env).bind fun a => (OO _ _).bind fun pl => (OP _ _ _ _ _ _).bind fun b => DN _ _ _
  refine .ite ?_ fin
  exact (EJ _ _).bind fun x => .ite (.pure _) ((DN _ _ _).bind fun _ => fin)
 ·exact .unsup _
theorem Fz (env:Env) (e:Value):KD (leaving env e):=(Lu e env).bind fun _ => Cj e none
theorem ObjOk.obj {P:Program} {w:World} {H:Hp} {h:Heap} {a:Addr} {o:HO} (x:ObjOk P w H h a o):∃ ob,h.get? a = some ob:=by
 cases o with
 | lst xs => obtain ⟨_,_,_,_,e⟩:=x; exact ⟨_,e⟩
 | tup xs => obtain ⟨_,_,_,o,e,_⟩:=x; exact ⟨_,e⟩
 | dK kvs => obtain ⟨_,_,_,_,o,_,_,e,_⟩:=x; exact ⟨_,e⟩
 | dT kvs => obtain ⟨_,_,_,_,o,_,_,e,_⟩:=x; exact ⟨_,e⟩
 | set S n => obtain ⟨o,_,_,_,e,_⟩:=x; exact ⟨_,e⟩
 | ins C dx fs => obtain ⟨_,_,_,e,_⟩:=x; exact ⟨_,e⟩
 | own y => obtain ⟨_,e⟩:=x; exact ⟨_,e⟩
 | xd fs => obtain ⟨_,⟨_,_,_,e,_⟩,_⟩:=x; exact ⟨_,e⟩
 | rng lo hi => obtain ⟨_,_,_,e⟩:=x; exact ⟨_,e⟩
 | frz ob u => obtain ⟨e,_⟩:=x; exact ⟨_,e⟩
 | tbl ps => exact ⟨_,(show h.get? a = some _ from x)⟩
 | met f y => exact ⟨_,(show h.get? a = some _ from x)⟩
 | ext φ => obtain ⟨_,⟨_,e⟩,_⟩:=x; exact ⟨_,e⟩
theorem HOk.none_of {P:Program} {w:World} {H:Hp} {h:Heap} {a:Addr} (x:HOk P w H h) (e:h.get? a = none):H a = none:=by
 cases q:H a with
 | none => rfl
 | some u =>
  obtain ⟨ob,e'⟩:=(x a u q).obj
  rw [e] at e'; cases e'
def TD (i:Int):Nat:=if 0≤i then 2 * i.toNat else 2 * (-i).toNat + 1
def TF (n:Nat):Int:=if n % 2 = 0 then ((n / 2:Nat):Int) else -((n / 2:Nat):Int)
theorem Lv (i:Int):TF (TD i) = i:=by unfold TF TD; split <;> split <;> omega
def ZL:List Nat→List (Str × V)
 | 0 :: n :: _ => [("number",.int (TF n))]
 | 1 :: n :: _ => [("row",.int (TF n))]
 | 2 :: n :: m :: _ => [("many",.int (TF n)),("most",.int (TF m))]
 | _ => []
def TH (x:Str):List (Str × V):=ZL x.cps.toList
def HV:Value→Value
 | .str _ C => .ref C
 | v => v
def RZ (dx:Addr) (fs:List (Str × V)) (h:Heap):Prop:=∃ mA,h.Ns1 dx mA∧(∀ f,RelO (fs.lookup f) (mA f))∧PySem.Within mA (fs.map (·.1))
def Eo (dx:Addr) (fs:List (Str × V)):HO:=.ext (RZ dx fs)
theorem OQ {P:Program} {w:World} {H:Hp} {h:Heap} {dx:Addr} {fs:List (Str × V)} (q:RZ dx fs h):ObjOk P w H h dx (Eo dx fs):=by
 refine ⟨q,?_,fun h1 h2 r k => ?_⟩
 ·obtain ⟨_,⟨o,_,_,e,_⟩,_⟩:=q
  exact ⟨o,e⟩
 ·obtain ⟨mA,⟨o,es,ep,e,c⟩,z⟩:=r
  exact ⟨mA,⟨o,es,ep,k o e,c⟩,z⟩
def DicX (cls:Value) (x:Addr) (H:Hp) (h:Heap):Prop:=∀ fs C,cls = .str fs C→∃ ox dx,h.get? x = some ox∧ox.dict = some dx∧H dx = some (Eo dx (TH fs))
theorem DicX.ref {C x:Addr} {H:Hp} {h:Heap}:DicX (.ref C) x H h:=fun _ _ e => nomatch e
theorem DicX.dk {cls:Value} {x:Addr} {H:Hp} {h h':Heap} (q:DicX cls x H h) (d:DK h h') (e:∃ o',h'.get? x = some o'):DicX cls x H h':=fun fs C z => by
 obtain ⟨ox,dx,e1,e2,e3⟩:=q fs C z
 obtain ⟨o',e'⟩:=e
 exact ⟨o',dx,e',(d.at_ e1 e').trans e2,e3⟩
structure Fly (P:Program) (w:World) (outer:List Env) (H:Hp) (s:Shared) (H':Hp) (x:Addr) (cls:Value) (s':Shared):Prop where
 os:s'.os = s.os
 bare:AllBare s'.gens
 un:Un (Ej outer) [] H H' s.heap s'.heap
 hok:HOk P w H' s'.heap
 fr:H' x = none
 fly:∃ B t,(∀ b,H' b≠none→∃ o,B.get? b = some o)∧(∀ b o,s.heap.get? b = some o→b ∉ Ej outer→∃ o',B.get? b = some o')∧Heap.FlyingW B outer x (HV cls) (.ref t) s'.heap
 dic:DicX cls x H' s'.heap
def CXe (P:Program) (w:World):Nl:=fun outer H s E e s' => ∃ x cls H',e = .ref x∧Fly P w outer H s H' x cls s'∧E cls none H'
theorem CXe.never {P:Program} {w:World} {outer:List Env} {H:Hp} {s s':Shared} {e:Value} (h:CXe P w outer H s E0 e s'):False:=by
 obtain ⟨_,_,_,_,_,q⟩:=h
 exact q
structure XFly (X:Cx) (W:St→XK):Prop where
 fly:∀ (pins:List (Addr × Obj)) (σ:St) (H:Hp) (s:Shared) (e:Value) (s':Shared),Inv X pins σ H s→CXe X.prog X.w X.stack H s (W σ) e s'→X.xe e s'
structure XOk (X:Cx) (W:St→XK):Prop where
 made:∀ (pins:List (Addr × Obj)) (σ:St) (H:Hp) (s:Shared) (h':Heap) (x C:Addr),Inv X pins σ H s→Heap.MadeExcOf s.heap h' x (.ref C) []→W σ (.ref C) none H→X.xe (.ref x) { s with heap:=h' }
 fly:∀ (pins:List (Addr × Obj)) (σ:St) (H:Hp) (s:Shared) (e:Value) (s':Shared),Inv X pins σ H s→CXe X.prog X.w X.stack H s (W σ) e s'→X.xe e s'
 own:PassesOwn (model X.prog X.w) X.A X.env X.xe
 madeF:∀ (pins:List (Addr × Obj)) (σ:St) (H:Hp) (s:Shared) (x C t dx:Addr) (fs:Str),Inv X pins σ H s→H x = none→X.s₀.heap.get? x = none→s.heap.get? x = some ⟨.ref C,some dx,.fields #[.ref t,.none,.none,.none,.bool false,.none],#[]⟩→H dx = some (Eo dx (TH fs))→W σ (.str fs C) none H→X.xe (.ref x) s
theorem HOk.by_keep {P:Program} {w:World} {H:Hp} {h h':Heap} (x:HOk P w H h) (k:∀ b o,H b≠none→h.get? b = some o→h'.get? b = some o):HOk P w H h':=fun a o e =>
 (x a o e).stay (fun b u hb q => k b u (by
  rcases hb with rfl | hb
  ·rw [e]; exact fun z => nomatch z
  ·rw [hb]; exact fun z => nomatch z) q) (fun _ q => q) fun _ _ q => q
section
variable {P:Program} {w:World} {K:PySem.W.Frag} {mg:Str→Option Value} {base:Heap} {N:List Str} {qual:Str} {scope:Scope} {f:Addr} {cd:Value} {A:Around} {outer:List Env} {s:Shared} {H:Hp} {E:XK}
theorem IO {X:Cx} {pins:List (Addr × Obj)} {σ:St} {H1:Hp} {s2:Shared} {h':Heap} {x:Addr} {cls:Value} {B:Heap} {t:Addr} (hst:X.stack = X.env :: X.outer) (hex:X.ex = []) (hfr:X.env.frame = some X.env.locals) (I:Inv X pins σ H1 s2)
  (hB1:∀ b,H1 b≠none→∃ o,B.get? b = some o) (hB2:∀ b o,X.s₀.heap.get? b = some o→b ∉ Ej X.outer→∃ o',B.get? b = some o') (hx:H1 x = none) (hs2:B.StaysIn s2.heap) (fl:Heap.FlyingW B X.outer x (HV cls) (.ref t) h') (up:s2.heap.UpToSlots h') (dq:DicX cls x H1 h') :
  Fly X.prog X.w X.outer X.H₀ X.s₀ H1 x cls { s2 with heap:=h' }:=by
 have fsm:∀ b o,b∈X.fs→s2.heap.get? b = some o→∃ sl,h'.get? b = some { o with slots:=sl }:=fun b o hb e => by
  obtain ⟨_,o',e',hd⟩:=I.funs.mem hb
  rw [e] at e'; cases e'
  exact up b o e hd
 have same:∀ b o o',B.get? b = some o'→s2.heap.get? b = some o→h'.get? b = some o:=fun b o o' e1 e2 => by
  have q:=hs2 b o' e1
  rw [e2] at q; cases q
  exact fl.1 b o e1
 refine ⟨I.os,I.bare,⟨fun b o e n hb _ => ?_,fun b o e n hb _ => ?_,fun b o e n _ => ?_,fun b o e _ => ?_,I.base.tups,I.base.frzs,I.base.tbls⟩,I.hok.by_keep fun b o hb e => ?_,hx,⟨B,t,hB1,hB2,fl⟩,dq⟩
 ·obtain ⟨o',e'⟩:=hB2 b o e hb
  exact same b o o' e' (I.base.keep b o e n hb (by rw [hex]; simp))
 ·obtain ⟨sl,e1⟩:=I.base.slot b o e n hb (by rw [hex]; simp)
  obtain ⟨sl',e2⟩:=fsm b _ hb e1
  exact ⟨sl',e2⟩
 ·exact I.base.free b o e n (by rw [hex]; simp)
 ·obtain ⟨o1,e1⟩:=I.base.there b o e (by rw [hex]; simp)
  by_cases hb:b∈X.fs
  ·obtain ⟨sl,e2⟩:=fsm b o1 hb e1
   exact ⟨_,e2⟩
  ·obtain ⟨o',e'⟩:=hB2 b o e hb
   exact ⟨o',fl.1 b o' e'⟩
 ·obtain ⟨o',e'⟩:=hB1 b hb
  exact same b o o' e' e
theorem BI:XOk (Bn (CXe P w) P w K mg base N qual scope f cd A outer s H E) (fun _ => E) where
 made:=by
  intro pins σ H1 s1 h' x C I hx q
  have hin:∀ env∈(Bn (CXe P w) P w K mg base N qual scope f cd A outer s H E).stack,∀ b,env.frame = some b→b∈Ej (Bn (CXe P w) P w K mg base N qual scope f cd A outer s H E).stack:=fun env he b hb => List.mem_filterMap.mpr ⟨env,he,hb⟩
  have hxn:H1 x = none:=I.hok.none_of hx.new
  have I':Inv (Bn (CXe P w) P w K mg base N qual scope f cd A outer s H E) pins σ H1 { s1 with heap:=h' }:=I.kept (t':=s1.toks) hx.keeps
  refine wpAny_leaves_madeW (base:=PySem.W.hideAll s1.heap (Ej (Bn (CXe P w) P w K mg base N qual scope f cd A outer s H E).stack)) (h:=s1.heap) I.ok.frames rfl (fun b o q => PySem.W.of_hideAll _ q) (PySem.W.funFrames_hide I.stack hin) hx fun h2 t x1 x2 x3 x4 => ?_
  refine ⟨x,.ref C,H1,rfl,?_,q⟩
  refine IO (X:=Bn (CXe P w) P w K mg base N qual scope f cd A outer s H E) rfl rfl rfl I' (fun b hb => ?_) (fun b o e hb => ?_) hxn (fun b o e => hx.keeps b o (PySem.W.of_hideAll _ e)) x1 x4 .ref
  ·cases e:H1 b with
   | none => exact absurd e hb
   | some u =>
    obtain ⟨o,eo⟩:=(I.hok b u e).obj
    exact ⟨o,PySem.W.hideAll_get _ eo fun z => hb (I.stkFree b z)⟩
  ·obtain ⟨o1,e1⟩:=I.base.there b o e (fun z => nomatch z)
   refine ⟨o1,PySem.W.hideAll_get _ e1 fun z => ?_⟩
   rcases List.mem_cons.mp (I.stkSub b z) with z | z
   ·exact absurd z (Nat.ne_of_lt (Nat.lt_of_lt_of_le (Heap.lt_size e) I.ok.above))
   ·exact hb z
 fly:=by
  rintro pins σ H1 s1 e s2 I ⟨x,cls,H2,rfl,F,q⟩
  obtain ⟨B,t,b1,b2,fl⟩:=F.fly
  have I2:Inv (Bn (CXe P w) P w K mg base N qual scope f cd A outer s H E) pins σ H2 s2:=I.call' (ch:=[]) F.os F.un F.hok F.bare (fun b z => absurd z (by simp))
  refine wpAny_mono (KD.any (Fz _ _) (wpAny_leaves_onW (E:=fun _ _ => False) (Q:=fun _ s3 => Heap.FlyingW B outer x (HV cls) (.ref t) s3.heap∧s2.heap.UpToSlots s3.heap∧s3 = { s2 with heap:=s3.heap }) I.ok.frames rfl fl fun h' x1 x2 => ⟨x1,x2,rfl⟩)) ?_ fun _ _ z => False.elim z
  rintro _ s3 ⟨⟨x1,x2,e3⟩,dk⟩
  refine ⟨x,cls,H2,rfl,?_,q⟩
  rw [e3]
  refine IO (X:=Bn (CXe P w) P w K mg base N qual scope f cd A outer s H E) rfl rfl rfl I2 b1 (fun b o e hb => ?_) F.fr fl.1 x1 x2 (F.dic.dk dk (let ⟨o,e,_⟩:=x1.there; ⟨o,e⟩))
  obtain ⟨o1,e1⟩:=I.base.there b o e (fun z => nomatch z)
  refine b2 b o1 e1 fun z => ?_
  rcases List.mem_cons.mp (I.stkSub b z) with z | z
  ·exact absurd z (Nat.ne_of_lt (Nat.lt_of_lt_of_le (Heap.lt_size e) I.ok.above))
  ·exact hb z
 own:=PassesOwn.leaving
 madeF:=by
  intro pins σ H1 s1 x C t dx fs I hxn hs0 ex hdx q
  have hin:∀ env∈(Bn (CXe P w) P w K mg base N qual scope f cd A outer s H E).stack,∀ b,env.frame = some b→b∈x :: Ej (Bn (CXe P w) P w K mg base N qual scope f cd A outer s H E).stack:=fun env he b hb => List.mem_cons_of_mem _ (List.mem_filterMap.mpr ⟨env,he,hb⟩)
  have hkb:Heap.StaysIn (PySem.W.hideAll s1.heap (x :: Ej (Bn (CXe P w) P w K mg base N qual scope f cd A outer s H E).stack)) s1.heap:=fun b o q => PySem.W.of_hideAll _ q
  have hen:(PySem.W.hideAll s1.heap (x :: Ej (Bn (CXe P w) P w K mg base N qual scope f cd A outer s H E).stack)).get? x = none:=by
   exact PySem.W.hideAll_none _ (List.mem_cons_self ..)
  refine wpAny_mono (KD.any (Fz _ _) (wpAny_leaving_firstW (E:=fun _ _ => False) (Q:=fun _ s3 => Heap.LeftW (PySem.W.hideAll s1.heap (x :: Ej (Bn (CXe P w) P w K mg base N qual scope f cd A outer s H E).stack)) _ x (.ref C) (.ref t) s1.heap s3.heap∧s3 = { s1 with heap:=s3.heap }) I.ok.frames (PySem.W.funFrames_hide I.stack hin) rfl ex hkb hen rfl rfl rfl fun h' hL => ⟨hL,rfl⟩)) ?_ fun _ _ z => False.elim z
  rintro _ s3 ⟨⟨⟨x1,⟨_,_,x2⟩,x3,x4⟩,e3⟩,dk⟩
  refine ⟨x,.str fs C,H1,rfl,?_,q⟩
  rw [e3]
  have hth:∃ o,s3.heap.get? x = some o:=by
   obtain ⟨oe,_,_,_,_,he,_⟩:=x3
   exact ⟨oe,he⟩
  refine IO (X:=Bn (CXe P w) P w K mg base N qual scope f cd A outer s H E) rfl rfl rfl I (fun b hb => ?_) (fun b o e hb => ?_) hxn hkb ⟨x1,hen,x2,x3⟩ x4 ?_
  ·cases e:H1 b with
   | none => exact absurd e hb
   | some u =>
    obtain ⟨o,eo⟩:=(I.hok b u e).obj
    refine ⟨o,PySem.W.hideAll_get _ eo fun z => ?_⟩
    rcases List.mem_cons.mp z with z | z
    ·rw [z] at e; rw [hxn] at e; cases e
    ·exact hb (I.stkFree b z)
  ·obtain ⟨o1,e1⟩:=I.base.there b o e (fun z => nomatch z)
   refine ⟨o1,PySem.W.hideAll_get _ e1 fun z => ?_⟩
   rcases List.mem_cons.mp z with z | z
   ·rw [z] at e; rw [hs0] at e; cases e
   rcases List.mem_cons.mp (I.stkSub b z) with z | z
   ·exact absurd z (Nat.ne_of_lt (Nat.lt_of_lt_of_le (Heap.lt_size e) I.ok.above))
   ·exact hb z
  ·exact DicX.dk (h:=s1.heap) (fun fs' C' z => by cases z; exact ⟨_,dx,ex,rfl,hdx⟩) dk hth
end
section
variable {X:Cx} {W:St→XK}
def UT (W:St→XK) (C:Addr):TS:=fun _ σ H => W σ (.ref C) none H
def OR (sp:Sp) (W:St→XK) (t:TA):TE:=fun σ H Q => t σ H fun vs H1 => sp vs H1 Q (W σ)
theorem XOk.f (x:XOk X W):XFly X W:=⟨x.fly⟩
theorem GA {k:Nat} {f:Addr} {fd:FuncData} {ps:List Str} {sp:Sp} {x:Str} {p pos:Pos} {e:Expr} {es:List Expr} {t:TA} (xo:XFly X W) (F:FnOk X.prog X.w X.K X.mg X.base (CXe X.prog X.w) k f fd ps sp) (hr:Room k X.A) (hg:Gl X x) (hm:X.mg x = some (.ref f)) (hk:PySem.W.keepIn X.K (.ref f) = true) (hb:Binds X.K fd ps [])
  (ha:PA X (e :: es) t) (hdb:(x == ("__debug__" : Str)) = false:=by decide) (he:starEach (e :: es) X.env = (false,eval e X.env) :: starEach es X.env:=by rfl) (hpl:(backTo pos (starEach es X.env)).any (·.1) = false:=by rfl) :
  PE X (.Call (.Name x p) (e :: es) [] pos) (OR sp W t):=by
 intro pins s σ H Q I h
 refine wpAny_Call_Name_kw (DX I hg hm ?_ hdb)
 refine PySem.W.callWith_K (h₀:=X.base) I.ok.mod.kin hk (Ap (ha pos pins s σ H _ I h) fun us s1 ⟨vs,H1,I1,r,q⟩ => ⟨I1.kIn,?_⟩) he hpl
 have r2:Vals vs (us ++ []):=by rw [List.append_nil]; exact r
 have hl:(us ++ []).length = ps.length:=by rw [← r2.length]; exact F.len _ _ _ _ q
 refine wpAny_call (codeAny_mono (F.run X.A X.stack s1 H1 ⟨us,[]⟩ (us ++ []) vs Q (W σ) hr I1.env0 (hb s1 us I1.kIn hl) r2 q) fun r s' hq => ?_)
 cases r with
 | error e => exact xo.fly pins σ H1 s1 e s' I1 hq
 | ok fl =>
  cases fl with
  | ret u => exact I1.after hq
  | next => exact False.elim hq
  | brk => exact False.elim hq
  | cont => exact False.elim hq
end
open PySem.Calls
section
variable {prog:Program} {w:World} {A:Around} {E:Value→Shared→Prop} {s:Shared} {K:PySem.W.Frag} {x D:Addr} {ox:Obj} {od:Option Obj} {name:Str}
structure ExcCls (K:PySem.W.Frag) (D:Addr):Prop where
 ga:PySem.W.findIn K (.ref D) "__getattribute__" = some (some (.builtin "BaseException.__getattribute__"))
 gn:PySem.W.findIn K (.ref D) "__getattr__" = some none
 be:PySem.W.mroIn K D (.type "BaseException") = some true
 ob:PySem.W.mroIn K D (.type "object") = some true
 cl:PySem.W.findIn K (.ref D) "__class__" = some (some (.builtin "object.__class__"))
 gt:PySem.W.specialIn K (.builtin "object.__class__") "__get__" = some (some (.builtin "getset_descriptor.__get__"))
 tk:PySem.W.takesIn K (.builtin "object.__class__") = some true
def TyAt (D x:Addr) (h:Heap):Prop:=∃ ox,h.get? x = some ox∧ox.cls = .ref D
theorem TyAt.looks {M:Model} {h:Heap} (p:TyAt D x h):PySem.W.Looks M h (typeOf (.ref x)) (.ref D):=by
 obtain ⟨o,h1,h2⟩:=p
 exact h2 ▸ (PySem.W.Looks.ld h1).andThen .now
open PySem.W Builtin Builtin.ObjectAttr Builtin.Getset_descriptor in
theorem Kj {R:Result→Shared→Prop} {tp:Value} (X:K.In s.heap) (I:TyAt D x s.heap) (hm:PySem.W.mroIn K D (.type "object") = some true) (h:R (.ok (.ret (.ref D))) s) :
  codeAny (model prog w) A (.call (.builtin "getset_descriptor.__get__") ⟨[.builtin "object.__class__",.ref x,tp],[]⟩) R s:=by
 obtain ⟨hh,gg,dd,tt,oo⟩:=s
 have L0:=I.looks (M:=model prog w)
 have L1:=PySem.W.looks_mroIn (M:=model prog w) X hm
 refine codeAny_call_builtin
  KF.slot_gs.plain KF.entry_gs (KF.slot_gs.check _ _ _ _ _ _ _ _
   KF.type_class (KF.args_gs _ _ _) ?_)
 unfold Builtin.«getset_descriptor.__get__»
  descrGet
 rw [dga_obj]
 refine wpAny_bind (wpAny_pure ?_)
 unfold descrGetter descrCheckInstance
  descrNameAndClass isInstance
 simp only [KF.owner_class]
 repeat lk
 refine ⟨Code.quiet_builtin _
  (by decide +kernel),codeAny_builtin KF.entry_class ?_⟩
 unfold Builtin.«object.__class__» shownTypeOf
 repeat lk
 exact h
theorem ExcCls.find {M:Model} {h:Heap} (c:ExcCls K D) (X:K.In h):PySem.W.Looks M h (Builtin.ObjectAttr.find (.ref x) (.ref D) "__class__") (.bind (.builtin "getset_descriptor.__get__") (.builtin "object.__class__")):=by
 have L1:=PySem.W.looks_findIn (M:=M) X c.cl
 have L2:PySem.W.Looks M h (Builtin.ObjectAttr.getOf (some (.builtin "object.__class__"))) (some (.builtin "getset_descriptor.__get__")):=PySem.W.looks_specialIn X c.gt
 have L3:=PySem.W.looks_takesIn (M:=M) X c.tk
 refine L1.andThen (L2.andThen ?_)
 exact (show PySem.W.Looks M h (Builtin.ObjectAttr.dataDescriptor? (some (.builtin "object.__class__")) (some (.builtin "getset_descriptor.__get__"))) (some (.builtin "getset_descriptor.__get__",.builtin "object.__class__"))
  from L3.andThen .now).andThen (PySem.W.Looks.tag .now)
theorem NE {Q:Option Value→Shared→Prop} (c:ExcCls K D) (X:K.In s.heap) (I:TyAt D x s.heap) (h:Q (some (.ref D)) { s with toks:=s.toks + 1 }):wpAny (model prog w) A (getAttr? (.ref x) "__class__") Q E s:=by
 obtain ⟨hh,g,d,t,os⟩:=s
 have L0:=I.looks (M:=model prog w)
 have L1:=PySem.W.looks_findIn (M:=model prog w) X c.ga
 have L2:=PySem.W.looks_findIn (M:=model prog w) X c.gn
 have L3:=PySem.W.looks_mroIn (M:=model prog w) X c.be
 have L4:=c.find (x:=x) (M:=model prog w) X
 have hb:bindSpecial (.builtin "BaseException.__getattribute__") (.ref x) = pure (.builtin "BaseException.__getattribute__",[.ref x]):=PySem.F.excAttr_ValueError.ga.bind _
 have hk:builtinKind "BaseException.__getattribute__" = some .slot:=by decide +kernel
 have hsplit:splitId "BaseException.__getattribute__" = some ("BaseException","__getattribute__"):=by decide +kernel
 have hx2:(Value.builtin "BaseException.__getattribute__" == Value.builtin "object.__getattribute__") = false:=by decide +kernel
 unfold getAttr? getAttrBy? getAttrBy
 refine wpAny_bind (wpAny_mkText (wpAny_bind (wpAny_attempt (wpAny_holding (wpAny_bind (L0.at (wpAny_bind (L1.at ?_))))))))
 dsimp only
 rw [hx2,Bool.and_false,if_neg Bool.false_ne_true]
 unfold getAttrByItsOwn hookBefore
 refine wpAny_bind (L2.at ?_)
 refine wpAny_bind (wpAny_attempt (wpAny_holding ?_))
 unfold callGetattribute boundAndCalled
 rw [hb]
 show wpAny _ _ (call (.builtin "BaseException.__getattribute__") [.ref x,.str "__class__" t]) _ _ _
 refine wpAny_call (codeAny_call_builtin PySem.F.excAttr_ValueError.ga.plain PySem.F.entry_bexc_ga ?_)
 have ha:=PySem.F.args_bexc_ga (.ref x) (.str "__class__" t)
 simp only [checkBuiltinCall,hk,hsplit]
 refine wpAny_bind ?_
 unfold isInstance
 refine wpAny_bind (L0.at (L3.at ?_))
 rw [if_neg (by decide)]
 refine wpAny_of_eq ha ?_
 show wpAny _ _ (typeOf (.ref x) >>= fun tp => Builtin.ObjectAttr.find (.ref x) tp "__class__" >>= _) _ _ _
 refine wpAny_bind (L0.at (wpAny_bind (L4.at ?_)))
 show wpAny _ _ ((holding [.builtin "object.__class__"] (call (.builtin "getset_descriptor.__get__") [.builtin "object.__class__",.ref x,.ref D])) >>= ret) _ _ _
 refine wpAny_bind (wpAny_holding (wpAny_call (Kj (s:=⟨hh,g,d,t + 1,os⟩) X I c.ob ?_)))
 exact wpAny_pure (wpAny_pure (wpAny_pure h))
theorem ExcCls.isTy {M:Model} {h:Heap} (c:ExcCls K D) (X:K.In h):PySem.W.Looks M h (isType (.ref D)) true:=by
 obtain ⟨cd,hc,_⟩:=Option.bind_eq_some_iff.mp (show (PySem.W.clsIn K D).bind _ = some true from c.be)
 unfold PySem.W.clsIn at hc
 split at hc
 ·rename_i c' d' cd' sl' ho
  intro A' Q' E' s' k q
  unfold isType loadHead
  exact wpAny_bind (wpAny_loadPart (k _ _ (X _ _ ho)) (wpAny_pure q))
 ·cases hc
theorem OS (c:ExcCls K D):PySem.W.KitX K (.ref x) (.ref D) (TyAt D x) where
 ty:=fun _ _ _ I => I.looks
 it:=fun _ _ X _ => c.isTy X
 ne:=fun h tp dd its n sl X htp => by
  refine Bool.eq_false_iff.mpr fun q => ?_
  have e:D = tp:=Value.ref.inj (beq_iff_eq.mp q)
  subst e
  obtain ⟨cd,hc,_⟩:=Option.bind_eq_some_iff.mp (show (PySem.W.clsIn K D).bind _ = some true from c.be)
  unfold PySem.W.clsIn at hc
  split at hc
  ·rename_i c' d' cd' sl' ho
   have z:=(X _ _ ho).symm.trans htp
   cases z
  ·cases hc
 ca:=fun X I k => NE c X I k
end
def Dk (D x:Addr):HO:=.ext (TyAt D x)
theorem Lw {P:Program} {w:World} {H:Hp} {h:Heap} {D x:Addr} (p:TyAt D x h):ObjOk P w H h x (Dk D x):=by
 refine ⟨p,?_,fun h1 h2 q k => ?_⟩
 ·obtain ⟨o,e,_⟩:=p
  exact ⟨o,e⟩
 ·obtain ⟨o,e,c⟩:=q
  exact ⟨o,k o e,c⟩
theorem Kl {X:Cx} {pins:List (Addr × Obj)} {σ:St} {H:Hp} {s:Shared} {A:Around} {E:Value→Shared→Prop} {Q:Value→Shared→Prop} {c:Value} {b:Bool} {D x:Addr} (I:Inv X pins σ H s) (hx:Rd H x (Dk D x)) (k:ExcCls X.K D)
  (e:PySem.W.kitOne X.K (.ref D) c = some b) (h:∀ tk,Q (.bool b) { s with toks:=tk }):wpAny (model X.prog X.w) A (call (.builtin "isinstance") [.ref x,c]) Q E s:=by
 obtain ⟨p,_,_⟩:=(show ObjOk X.prog X.w H s.heap x (Dk D x) from hx.ok I.hok)
 exact PySem.W.kia_one (OS k) I.kIn p e (fun z => nomatch z) h
abbrev Ck:List Value:=[.type "ValueError",.type "Exception",.type "BaseException",.type "object"]
theorem Lx {K:PySem.W.Frag} {h:Heap} {C:Addr} {bmB:List Value} {newId:String} (X:K.In h) (q:PySem.W.excIn K C bmB newId = true) :
  ∃ bm N nm qn bs hdct sn sub ab col dd k0 k1 k2 k3 k5 mN,h.get? C = some (excClassObj nm qn C N bs bm hdct sn sub ab col dd k0 k1 k2 k3 k5 newId)∧h.Ns N mN∧mN "__init__" = none∧OwnTail h bmB bm:=by
 unfold PySem.W.excIn at q
 split at q
 ·rename_i dd cd sl ho
  split at q
  ·rename_i C' bm k0 k1 k2 k3 n k5 hm hs
   simp only [Bool.and_eq_true,beq_iff_eq,
    Bool.not_eq_true'] at q
   obtain ⟨⟨⟨⟨⟨e1,e2⟩,hdel⟩,ht⟩,hok⟩,hni⟩:=q
   subst e1 e2
   obtain ⟨nm,bs,mro,ns,qn,hd,sn,sub,ab,col,del⟩:=cd
   dsimp only at hm hdel hok hni
   subst hm hdel
   have hsl:sl = #[k0,k1,k2,k3,some (.builtin n),k5]:=by
    obtain ⟨l⟩:=sl
    simp only at hs
    rw [hs]
   subst hsl
   exact ⟨bm,ns,nm,qn,bs,hd,sn,sub,ab,col,dd,k0,k1,k2,k3,k5,_,X _ _ ho,
    .of_isNs (PySem.W.isNs_of_in X hok),PySem.W.nsMap_none_of_in X hok hni,PySem.W.tail_of_in X ht⟩
  ·cases q
 ·cases q
theorem NF {X:Cx} {W:St→XK} {x:Str} {C:Addr} {np cpos pos:Pos} (xo:XOk X W) (hc:X.calm = true) (hg:Gl X x) (hm:X.mg x = some (.ref C)) (q:PySem.W.excIn X.K C Ck "ValueError.__new__" = true)
  (hd:(x == ("__debug__" : Str)) = false:=by decide):PS X (.Raise (some (.Call (.Name x np) [] [] cpos)) none pos) (UT W C):=by
 intro pins s σ H D I h
 obtain ⟨bm,N,nm,qn,bs,hdct,sn,sub,ab,col,dd,k0,k1,k2,k3,k5,mN,hC,hN,hni,T⟩:=Lx I.kIn q
 refine wpAny_Raise_call_subT (C:=C) (nm:=nm) (q:=qn) (N:=N) (bs:=bs) (bm:=bm) (hdct:=hdct) (sn:=sn) (sub:=sub) (ab:=ab) (col:=col) (dd:=dd) (k0:=k0) (k1:=k1) (k2:=k2) (k3:=k3) (k5:=k5)
  PySem.F.excBase_ValueError (mN:=mN) (T.hasType PySem.F.excBase_ValueError.hasBase) (I.ok.hd hc) rfl hni (DX I hg hm ⟨rfl,?_⟩ hd)
 exact evalArgs_empty ⟨rfl,Nat.zero_le _,hC,hN,T,fun h' e hx => xo.made pins σ H s h' e C I hx h⟩
theorem Jb {M:Model} {A:Around} {E:Value→Shared→Prop} {s:Shared} {K:PySem.W.Frag} {C B x:Addr} {b:Bool} {Q:Bool→Shared→Prop} (X:K.In s.heap) (p:TyAt C x s.heap) (k:PySem.W.kitCls K (.ref C) (.ref B) = some b)
  (hb:PySem.W.mroIn K B (.type "BaseException") = some true) (h:Q b s):wpAny M A (excMatches (.ref x) (.ref B)) Q E s:=by
 obtain ⟨L1,L2,L3⟩:=PySem.W.kit_cls (M:=M) X k
 have L4:=PySem.W.looks_mroIn (M:=M) X hb
 have L0:=p.looks (M:=M)
 have f:=tc_notTuple
 obtain ⟨hh,g,d,t,os⟩:=s
 unfold excMatches isInstance isExcClass
 refine wpAny_bind (wpAny_bind (L1.at ?_))
 rw [f]
 refine wpAny_pure ?_
 rw [if_neg Bool.false_ne_true]
 refine wpAny_bind (wpAny_pure ?_)
 simp only [List.forIn_cons,List.forIn_nil]
 refine wpAny_bind (wpAny_bind (wpAny_bind (wpAny_bind (L2.at ?_))))
 rw [if_pos rfl]
 refine L4.at ?_
 rw [if_neg (by decide)]
 refine wpAny_pure (wpAny_pure (wpAny_bind (L0.at (wpAny_bind (wpAny_bind (wpAny_bind (L3.at ?_)))))))
 cases b with
 | true =>
  rw [if_pos rfl]
  exact wpAny_pure (wpAny_pure (wpAny_pure h))
 | false =>
  rw [if_neg Bool.false_ne_true]
  exact wpAny_pure (wpAny_pure (wpAny_pure h))
section
variable {X:Cx} {pins:List (Addr × Obj)} {σ:St} {H:Hp} {s:Shared}
theorem Inv.track {x:Addr} {o:HO} {vs:Array Value} (I:Inv X pins σ H s) (hx:H x = none) (hf:∃ ob,s.heap.get? x = some ob∧ob.data = .fields vs) (hs0:X.s₀.heap.get? x = none) (hp:∀ p∈X.pn ++ pins,p.1≠x)
  (ok:ObjOk X.prog X.w (upd H x o) s.heap x o):Inv X pins σ (upd H x o) s:=by
 obtain ⟨ob,eob,dob⟩:=hf
 have ne:∀ b u,H b = some u→b≠x:=fun b u e z => by rw [z,hx] at e; cases e
 have hL:X.env.locals≠x:=fun z => by
  obtain ⟨m,⟨o',es,ep,ho',hd',_⟩,_⟩:=I.loc
  rw [z,eob] at ho'; cases ho'; rw [dob] at hd'; cases hd'
 have hC:∀ y c,X.env.cells.lookup y = some c→c≠x:=fun y c e z => by
  obtain ⟨v,o',ho',hd'⟩:=I.cell y c e
  rw [z,eob] at ho'; cases ho'; rw [dob] at hd'; cases hd'
 refine ⟨I.ok,I.os,I.bare,⟨I.base.keep,I.base.slot,fun b o e n hb => ?_,I.base.there,fun b xs e => ?_,fun b o u e => ?_,fun b ps e => ?_⟩,I.loc,I.cell,?_,fun y c e => ?_,fun p hp' => ?_,fun b u e => ?_,I.len⟩
 ·have nb:b≠x:=fun z => by rw [z,hs0] at e; cases e
  rw [AI nb]
  exact I.base.free b o e n hb
 ·have q:=I.base.tups b xs e
  rw [AI (ne b _ q)]
  exact q
 ·have q:=I.base.frzs b o u e
  rw [AI (ne b _ q)]
  exact q
 ·obtain ⟨more,q⟩:=I.base.tbls b ps e
  exact ⟨more,by rw [AI (ne b _ q)]; exact q⟩
 ·rw [AI hL]; exact I.free
 ·rw [AI (hC y c e)]; exact I.freeC y c e
 ·obtain ⟨e,n,r⟩:=I.pin p hp'
  exact ⟨e,by rw [AI (hp p hp')]; exact n,r⟩
 ·by_cases hb:b = x
  ·subst hb
   rw [AG] at e; cases e
   exact ok
  ·rw [AI hb] at e
   exact (I.hok b u e).stay (fun _ _ _ q => q) (fun c q => by rw [AI (ne c _ q)]; exact q) fun c xs q => by rw [AI (ne c _ q)]; exact q
theorem Inv.gone {i:Nat} {n:Str} {pos:Pos} {M:Model} {A:Around} {E:Value→Shared→Prop} {Q:Unit→Shared→Prop} (I:Inv X pins σ H s) (hN:X.N.Nodup) (hi:X.N[i]? = some n) (hk:X.env.scope.names.lookup n = some .local)
  (h:∀ s',Inv X pins (σ.set i none) H s'→Q () s'):wpAny M A (do bindName X.env n .none; unbindBehindTheSuite X.env n pos) Q E s:=by
 obtain ⟨m,hn,hl⟩:=id I.loc
 have hcls:(X.env.scope.kind == .class || (X.env.scope.kind == .module && X.env.locals != X.env.globals)) = false:=by rw [I.ok.kind]; rfl
 have cne:=I.cne
 refine wpAny_nameGoes_keeps hk hn hcls fun h' v hn' hs => ?_
 obtain ⟨oL,_,_,hoL,_⟩:=id hn
 have old:∀ b o,X.s₀.heap.get? b = some o→b≠X.env.locals:=fun b o e => Nat.ne_of_lt (Nat.lt_of_lt_of_le (Heap.lt_size e) I.ok.above)
 refine h _ ⟨I.ok,I.os,I.bare,⟨fun b o e n hb hx => ?_,fun b o e n hb hx => ?_,I.base.free,fun b o e hx => ?_,I.base.tups,I.base.frzs,I.base.tbls⟩,⟨_,hn',fun j y v' e1 e2 e3 => ?_⟩,fun y c e => ?_,I.free,I.freeC,fun p hp => ?_,fun b u e => ?_,by simpa using I.len⟩
 ·exact (hs.2 b (old b o e)).trans (I.base.keep b o e n hb hx)
 ·obtain ⟨sl,e1⟩:=I.base.slot b o e n hb hx
  exact ⟨sl,(hs.2 b (old b o e)).trans e1⟩
 ·obtain ⟨o',e1⟩:=I.base.there b o e hx
  exact ⟨o',(hs.2 b (old b o e)).trans e1⟩
 ·by_cases hj:j = i
  ·subst hj
   have hiσ:j < σ.length:=by rw [I.len]; exact (List.getElem?_eq_some_iff.mp hi).1
   rw [List.getElem?_set_self hiσ] at e2
   cases e2
  ·rw [List.getElem?_set_ne (Ne.symm hj)] at e2
   obtain ⟨u',r',q⟩:=hl j y v' e1 e2 e3
   refine ⟨u',r',?_⟩
   rcases q with ⟨k,e⟩ | ⟨k,c,e,z⟩
   ·refine .inl ⟨k,?_⟩
    have:y≠n:=fun e => hj (Fm hN e1 (e ▸ hi))
    simp [this,e]
   ·exact .inr ⟨k,c,e,z.sameBut hs (cne y c e)⟩
 ·obtain ⟨w',z⟩:=I.cell y c e
  exact ⟨w',z.sameBut hs (cne y c e)⟩
 ·obtain ⟨e,n,ne,nf,d⟩:=I.pin p hp
  exact ⟨(hs.2 p.1 ne).trans e,n,ne,nf,d⟩
 ·refine (I.hok b u e).stay (fun c w' hc q => (hs.2 c ?_).trans q) (fun _ q => q) fun _ _ q => q
  rintro rfl
  rcases hc with rfl | hc
  ·rw [I.free] at e; cases e
  ·rw [I.free] at hc; cases hc
end
theorem Fly.un' {P:Program} {w:World} {outer:List Env} {H H':Hp} {s s':Shared} {x t:Addr} {cls:Value} {B h':Heap} (F:Fly P w outer H s H' x cls s') (b1:∀ b,H' b≠none→∃ o,B.get? b = some o) (b2:∀ b o,s.heap.get? b = some o→b ∉ Ej outer→∃ o',B.get? b = some o')
  (fl:Heap.FlyingW B outer x (HV cls) (.ref t) s'.heap) (st:B.StaysIn h') (up:s'.heap.UpToSlots h'):Un (Ej outer) [] H H' s.heap h'∧HOk P w H' h':=by
 have same:∀ b o o',B.get? b = some o'→s'.heap.get? b = some o→h'.get? b = some o:=fun b o o' e1 e2 => by
  have q:=fl.1 b o' e1
  rw [e2] at q; cases q
  exact st b o e1
 have fsm:∀ b o,b∈Ej outer→s'.heap.get? b = some o→∃ sl,h'.get? b = some { o with slots:=sl }:=fun b o hb e => by
  obtain ⟨_,o',e',hd⟩:=fl.2.2.1.mem hb
  rw [e] at e'; cases e'
  exact up b o e hd
 refine ⟨⟨fun b o e n hb hx => ?_,fun b o e n hb hx => ?_,F.un.free,fun b o e hx => ?_,F.un.tups,F.un.frzs,F.un.tbls⟩,F.hok.by_keep fun b o hb e => ?_⟩
 ·obtain ⟨o',e'⟩:=b2 b o e hb
  exact same b o o' e' (F.un.keep b o e n hb hx)
 ·obtain ⟨sl,e1⟩:=F.un.slot b o e n hb hx
  obtain ⟨sl',e2⟩:=fsm b _ hb e1
  exact ⟨sl',e2⟩
 ·obtain ⟨o1,e1⟩:=F.un.there b o e hx
  by_cases hb:b∈Ej outer
  ·obtain ⟨sl,e2⟩:=fsm b o1 hb e1
   exact ⟨_,e2⟩
  ·obtain ⟨o',e'⟩:=b2 b o e hb
   exact ⟨o',st b o' e'⟩
 ·obtain ⟨o',e'⟩:=b1 b hb
  exact same b o o' e' e
def Bp (X:Cx) (pins:List (Addr × Obj)) (E':Value→Shared→Prop):Cx:={ X with pn:=X.pn ++ pins,xe:=E' }
structure TryIs (X X':Cx):Prop where
 is:∃ pins E',X' = Bp X pins E'
def TJ (X:Cx) (x:Addr):Cx:={ X with A:=X.A.mark (some (.ref x)),calm:=false,xe:=fun _ _ => False }
section
variable {X:Cx} {pins pins':List (Addr × Obj)} {σ:St} {H:Hp} {s:Shared} {E':Value→Shared→Prop} {x:Addr}
theorem Cx.Ok.toTry (ok:X.Ok):(Bp X pins E').Ok :=
 ⟨ok.mod,ok.kind,ok.glob,ok.blt,ok.above,ok.inj,ok.has,ok.cab,ok.hd,ok.frames,ok.stk,ok.exf,ok.bs,ok.bsz,ok.noex,ok.exfs,ok.funs,ok.frf⟩
theorem Cx.Ok.ofTry (ok:(Bp X pins E').Ok):X.Ok :=
 ⟨ok.mod,ok.kind,ok.glob,ok.blt,ok.above,ok.inj,ok.has,ok.cab,ok.hd,ok.frames,ok.stk,ok.exf,ok.bs,ok.bsz,ok.noex,ok.exfs,ok.funs,ok.frf⟩
theorem Cx.Ok.toH (ok:X.Ok):(TJ X x).Ok :=
 ⟨ok.mod,ok.kind,ok.glob,ok.blt,ok.above,ok.inj,ok.has,ok.cab,fun (e:false = true) => (Bool.false_ne_true e).elim,ok.frames,ok.stk,ok.exf,ok.bs,ok.bsz,ok.noex,ok.exfs,ok.funs,ok.frf⟩
theorem Inv.toTry (I:Inv X pins σ H s):Inv (Bp X pins E') [] σ H s :=
 ⟨I.ok.toTry,I.os,I.bare,I.base,I.loc,I.cell,I.free,I.freeC,fun p hp => I.pin p (by rw [List.append_nil] at hp; exact hp),I.hok,I.len⟩
theorem Inv.ofTry (I:Inv (Bp X pins E') pins' σ H s):Inv X pins σ H s :=
 ⟨I.ok.ofTry,I.os,I.bare,I.base,I.loc,I.cell,I.free,I.freeC,fun p hp => I.pin p (List.mem_append_left _ hp),I.hok,I.len⟩
theorem Inv.toH (I:Inv X pins σ H s):Inv (TJ X x) pins σ H s:=⟨I.ok.toH,I.os,I.bare,I.base,I.loc,I.cell,I.free,I.freeC,I.pin,I.hok,I.len⟩
theorem Inv.ofH (ok:X.Ok) (I:Inv (TJ X x) pins σ H s):Inv X pins σ H s:=⟨ok,I.os,I.bare,I.base,I.loc,I.cell,I.free,I.freeC,I.pin,I.hok,I.len⟩
theorem SP.ofTry {D:Ends} {f:Flow} {s':Shared} (h:SP (Bp X pins E') [] D f s'):SP X pins D f s':=by
 cases f with
 | next => obtain ⟨σ',H',I,q⟩:=h; exact ⟨σ',H',I.ofTry,q⟩
 | brk => obtain ⟨σ',H',I,q⟩:=h; exact ⟨σ',H',I.ofTry,q⟩
 | cont => obtain ⟨σ',H',I,q⟩:=h; exact ⟨σ',H',I.ofTry,q⟩
 | ret u => obtain ⟨v,σ',H',I,r,q⟩:=h; exact ⟨v,σ',H',I.ofTry,r,q⟩
end
def TK (i:Nat) (D:Ends):Ends:={ nx:=fun σ H => D.nx (σ.set i none) H,rt:=D.rt,bk:=fun σ H => D.bk (σ.set i none) H,ct:=fun σ H => D.ct (σ.set i none) H }
theorem KD.heap {M:Model} {A:Around} {Q:Unit→Shared→Prop} {E:Value→Shared→Prop} {s:Shared} {t:Sem Unit} {R:Heap→Prop} (h:KD t) (q:wpAny M A t (fun _ s' => R s'.heap∧s' = { s with heap:=s'.heap }) E s) (k:∀ h',R h'→DK s.heap h'→Q () { s with heap:=h' }):wpAny M A t Q E s :=
 wpAny_mono (h.any q) (fun _ s' ⟨⟨r,e⟩,d⟩ => by rw [e]; exact k _ r d) fun _ _ z => z
def HK (cls:Value) (C x:Addr) (H:Hp) (o:HO):Prop:=(cls = .ref C∧o = Dk C x)∨∃ fs ox dx vs,cls = .str fs C∧o = .frz ox (Dk C x)∧ox = ⟨.ref C,some dx,.fields vs,ox.slots⟩∧H dx = some (Eo dx (TH fs))
def WT (K:PySem.W.Frag) (B:Addr) (i:Nat) (th:TS) (D:Ends):St→XK:=fun σ cls _ H => ∃ C,(cls = .ref C∨∃ fs,cls = .str fs C)∧PySem.W.kitCls K (.ref C) (.ref B) = some true∧∀ x o,H x = none→HK cls C x H o→th (TK i D) (σ.set i (some (.ref x))) (upd H x o)
def YY (tb:(St→XK)→TS) (K:PySem.W.Frag) (B:Addr) (i:Nat) (th:TS):TS:=fun D σ H => tb (WT K B i th D) D σ H
theorem OT {X:Cx} {body suite:List Stmt} {b₀:Stmt} {n x:Str} {i:Nat} {B:Addr} {np hpos pos:Pos} {tb:(St→XK)→TS} {th:TS} (hst:X.stack = X.env :: X.outer) (hex:X.ex = []) (hfr:X.env.frame = some X.env.locals) (hN:X.N.Nodup) (hi:X.N[i]? = some n)
  (hk:X.env.scope.names.lookup n = some .local) (hg:Gl X x) (hm:X.mg x = some (.ref B)) (hbe:PySem.W.mroIn X.K B (.type "BaseException") = some true)
  (hb:∀ (W:St→XK) (X':Cx),TryIs X X'→XFly X' W→PSs X' body (tb W)) (hh:∀ y,PSs (TJ X y) (b₀ :: suite) th) (hd:(x == ("__debug__" : Str)) = false:=by decide) :
  PS X (.Try body [.ExceptHandler (some (.Name x np)) (some n) (b₀ :: suite) hpos] [] [] pos) (YY tb X.K B i th):=by
 intro pins s σ H D I h
 refine wpAny_Try_except ?_
 generalize hXE:(fun (e:Value) (s₁:Shared) => wpAny (model X.prog X.w) X.A (noteFrame e X.env) (fun _ s₂ => wpAny (model X.prog X.w) X.A (setFlight e none) (fun _ s₃ => wpAny (model X.prog X.w) X.A (handleBy e X.env [.ExceptHandler (some (.Name x np)) (some n) (b₀ :: suite) hpos]) (SP X pins D) X.xe s₃) X.xe s₂) X.xe s₁) = XE
 have xf:XFly (Bp X pins XE) (WT X.K B i th D):=by
  refine ⟨fun pins' σ1 H1 s1 e s2 I1 c => ?_⟩
  obtain ⟨y,cls,H2,rfl,F,C,hcls,kc,hq⟩:=c
  have hco:HV cls = .ref C:=by rcases hcls with rfl | ⟨fs,rfl⟩ <;> rfl
  obtain ⟨B',t,b1,b2,fl⟩:=F.fly
  rw [hco] at fl
  have flx:Heap.FlyingW B' (Bp X pins XE).stack y (HV cls) (.ref t) s2.heap:=by rw [hco]; exact fl
  have fl':Heap.FlyingW B' (X.env :: X.outer) y (.ref C) (.ref t) s2.heap:=hst ▸ (show Heap.FlyingW B' X.stack y (.ref C) (.ref t) s2.heap from fl)
  have frA:X.A.frames = some (X.env :: X.outer):=hst ▸ I.ok.frames
  have inv_at:∀ hp:Heap,B'.StaysIn hp→s2.heap.UpToSlots hp→Inv X pins σ1 H2 { s2 with heap:=hp }:=fun hp st up => by
   obtain ⟨u,ho⟩:=F.un' b1 b2 flx st up
   exact Inv.ofTry (I1.call' (s':={ s2 with heap:=hp }) (ch:=[]) F.os u ho F.bare fun b z => absurd z (by simp))
  show XE (.ref y) s2
  rw [← hXE]
  refine KD.heap (Lu _ _) (R:=fun h4 => Heap.HeldW B' (X.env :: X.outer) y (.ref C) (.ref t) X.env.locals h4∧s2.heap.UpToSlots h4) (wpAny_looks_onW frA hfr fl' fun h4 a b => ⟨⟨a,b⟩,rfl⟩) fun h4 ⟨held4,up4⟩ dk4 => ?_
  refine KD.heap (Cj _ _) (R:=fun h5 => Heap.FlyingW B' (X.env :: X.outer) y (.ref C) (.ref t) h5∧h4.UpToSlots h5) (wpAny_landsW held4 fun h5 a b => ⟨⟨a,b⟩,rfl⟩) fun h5 ⟨fl5,up5⟩ dk5 => ?_
  have up5':=up4.trans up5
  have I5:=inv_at h5 fl5.1 up5'
  refine wpAny_handleBy_cons (codeAny_handlers_test ?_) (by intro q; cases q)
  refine DX (X:=TJ X y) I5.toH hg hm ?_ hd
  refine Jb (K:=X.K) I5.kIn fl5.there kc hbe ?_
  refine codeAny_handlers_suite_as ?_
  refine KD.heap (Cj _ _) (R:=fun h6 => Heap.FlyingW B' (X.env :: X.outer) y (.ref C) (.ref t) h6∧h5.UpToSlots h6) (lands_againW fl5 fun h6 a b => ⟨⟨a,b⟩,rfl⟩) fun h6 ⟨fl6,up6⟩ dk6 => ?_
  have I6:=inv_at h6 fl6.1 (up5'.trans up6)
  have hyB:B'.get? y = none:=fl.2.1
  have nofr:∀ b o,s1.heap.get? b = some o→b ∉ Ej X.stack→b≠y:=fun b o e hb z => by
   obtain ⟨o',e'⟩:=b2 b o e hb
   rw [z,hyB] at e'; cases e'
  obtain ⟨oe,vs,eoe,_,doe,_⟩:=fl.first
  have yfr:y ∉ Ej X.stack:=fun z => by
   obtain ⟨_,o',e',hd'⟩:=fl.2.2.1.mem (show y∈(Bp X pins XE).stack.filterMap (·.frame) from z)
   rw [eoe] at e'; cases e'
   exact hd' vs doe
  have hs0:X.s₀.heap.get? y = none:=by
   cases e:X.s₀.heap.get? y with
   | none => rfl
   | some o =>
    have exf:y ∉ X.ex:=by rw [hex]; simp
    obtain ⟨o1,e1⟩:=I1.base.there y o e exf
    exact absurd rfl (nofr y o1 e1 yfr)
  obtain ⟨oe6,vs6,eoe6,coe6,doe6,_⟩:=fl6.first
  have hk:∃ o,HK cls C y H2 o∧ObjOk X.prog X.w (upd H2 y o) h6 y o:=by
   rcases hcls with rfl | ⟨fs,rfl⟩
   ·exact ⟨_,.inl ⟨rfl,rfl⟩,Lw fl6.there⟩
   ·obtain ⟨ox,dx,e1,e2,e3⟩:=F.dic fs C rfl
    have z:=(DK.trans dk4 (DK.trans dk5 dk6)).at_ e1 eoe6
    refine ⟨.frz oe6 (Dk C y),.inr ⟨fs,oe6,dx,vs6,rfl,rfl,?_,e3⟩,eoe6,Lw fl6.there⟩
    obtain ⟨c6,d6,da6,sl6⟩:=oe6
    rw [show d6 = some dx from z.trans e2,show c6 = .ref C from coe6,show da6 = .fields vs6 from doe6]
  obtain ⟨o,hk1,hk2⟩:=hk
  have I7:Inv X pins σ1 (upd H2 y o) { s2 with heap:=h6 }:=I6.track F.fr ⟨oe6,eoe6,doe6⟩ hs0 (fun p hp => by
   obtain ⟨e,_,nl,nf,_⟩:=I1.pin p (List.mem_append_left _ hp)
   exact nofr p.1 p.2 e fun z => (List.mem_cons.mp (I1.stkSub p.1 z)).elim nl nf) hk2
  refine Fn (X:=TJ X y) I7.toH hN hi (.inl hk) (v:=.ref y) rfl (fun s8 I8 => ?_) (.inr hk)
  refine wpAny_mono (hh y _ s8 _ _ (TK i D) I8 (hq y o F.fr hk1)) (fun f s9 hf => ?_) fun _ _ z => False.elim z
  cases f with
  | next => obtain ⟨σ9,H9,I9,q9⟩:=hf; exact (I9.ofH I.ok).gone hN hi hk fun s10 I10 => ⟨_,_,I10,q9⟩
  | brk => obtain ⟨σ9,H9,I9,q9⟩:=hf; exact (I9.ofH I.ok).gone hN hi hk fun s10 I10 => ⟨_,_,I10,q9⟩
  | cont => obtain ⟨σ9,H9,I9,q9⟩:=hf; exact (I9.ofH I.ok).gone hN hi hk fun s10 I10 => ⟨_,_,I10,q9⟩
  | ret u => obtain ⟨v,σ9,H9,I9,r,q9⟩:=hf; exact (I9.ofH I.ok).gone hN hi hk fun s10 I10 => ⟨v,_,_,I10,r,q9⟩
 have q:=hb _ (Bp X pins XE) ⟨_,_,rfl⟩ xf [] s σ H D I.toTry h
 refine wpAny_mono q (fun f s1 hf => ?_) fun e s1 he => he
 cases f with
 | next => exact wpAny_execs_nil (SP.ofTry (f:=.next) hf)
 | brk => exact SP.ofTry (f:=.brk) hf
 | cont => exact SP.ofTry (f:=.cont) hf
 | ret u => exact SP.ofTry (f:=.ret u) hf
structure RoomH (k:Nat) (A:Around):Prop where
 dp:A.depth + 3 * k + 5 < recursionLimit
 un:A.units + 16 * k + 200 < cLine
theorem Room.toH {k:Nat} {A:Around} {x:Value} (r:Room k A):RoomH k (A.mark (some x)):=⟨r.dp,r.un⟩
structure FnH (P:Program) (w:World) (K:PySem.W.Frag) (mg:Str→Option Value) (base:Heap) (k:Nat) (f:Addr) (fd:FuncData) (ps:List Str) (sp:Sp):Prop where
 len:∀ vs H Q E,sp vs H Q E→vs.length = ps.length
 run:∀ (A:Around) (outer:List Env) (s:Shared) (H:Hp) (args:Args) (us:List Value) (vs:List V) (Q:VK),RoomH k A→Env0 P w K mg base A outer s H→BindsTo s fd args (ps.zip us)→Vals vs us→sp vs H Q E0 →
  codeAny (model P w) A (.call (.ref f) args) (CR YX outer P w H s Q E0) s
def Ra (P:Program) (w:World) (K:PySem.W.Frag) (mg:Str→Option Value) (base:Heap) (N:List Str) (qual:Str) (scope:Scope) (f:Addr) (cd:Value) (A:Around) (outer:List Env) (s:Shared) (H:Hp):Cx :=
 { Bn YX P w K mg base N qual scope f cd A outer s H E0 with calm:=false,xe:=fun _ _ => False }
theorem Fun.okH {P:Program} {w:World} {K:PySem.W.Frag} {mg:Str→Option Value} {base:Heap} {x qual:Str} {st:Stmt} {f:Addr} {fd:FuncData} {N ps:List Str} {k:Nat} {sp:Sp} (F:Fun K x qual st f fd) (S:FnScope N ps (AA st))
  (len:∀ vs H Q E,sp vs H Q E→vs.length = ps.length)
  (hbody:∀ (cdv:Value) (A:Around) (outer:List Env) (s:Shared) (H:Hp) (vs:List V) (Q:VK),RoomH k (A.deeper (envOfC qual (AA st) s.heap.objs.size f cdv))→sp vs H Q E0 →
   ∃ t,PSs (Ra P w K mg base N qual (AA st) f cdv A outer s H) (AW st) t∧t { nx:=fun _ H' => Q .non H',rt:=Q } (start N vs) H):FnH P w K mg base (k + 1) f fd ps sp:=by
 obtain ⟨oc,od,kV,doc,pm,an,cdv,ct,osl,rfl,lk,hcd⟩:=F.ex
 refine ⟨len,fun A outer s H args us vs Q hr e0 hb r hsp => ?_⟩
 have hl:=len _ _ _ _ hsp
 have KX:K.In s.heap:=e0.mod.kin.keeps fun b o e => (e0.bs b o e).1
 have lim:s.heap.NoLimit:=e0.mod.nolimit.keeps fun b o e => (e0.bs b o e).1
 have hkind:∀ y∈ps.zip us,(AA st).names.lookup y.1 = some .local∨((AA st).names.lookup y.1 = some .cell∧((cellsFrom (s.heap.objs.size + 1) (AA st).names []).lookup y.1).isSome = true):=fun ⟨n,v⟩ hy => by
  rcases S.par n (List.of_mem_zip hy).1 with q | q
  ·exact .inl q
  ·exact .inr ⟨q,PySem.W.cellsFrom_some _ _ _ (.inl q)⟩
 refine codeAny_call_function (by have:=hr.dp; omega) (KX _ _ lk) rfl S.co S.gen rfl (PySem.W.codeRec_of KX hcd) (hb _ _ _ _ ?_)
 refine wpAny_newFunctionEnv_cells S.kind hkind fun env he s1 x => ?_
 subst he
 refine ⟨lim.keeps x.toInCall.keep,codeAny_func ?_⟩
 obtain ⟨t,ht,hq⟩:=hbody cdv A outer s H vs Q ⟨by have:=hr.dp; show A.depth + 1 + 3 * k + 5 < _; omega,by have:=hr.un; show A.units + 3 + 16 * k + 200 < _; omega⟩ hsp
 have I0:Inv (Bn YX P w K mg base N qual (AA st) f cdv { A with handled:=none } outer s H E0) [] (start N vs) H s1 :=
  HQ S rfl (⟨e0.frames,e0.mod,e0.bs,e0.bsz,e0.funs,e0.frf,e0.hok,e0.bare⟩:Env0 P w K mg base { A with handled:=none } outer s H) hl r x
 have I:Inv (Ra P w K mg base N qual (AA st) f cdv A outer s H) [] (start N vs) H s1:=by
  have ok:=I0.ok
  exact ⟨⟨ok.mod,ok.kind,ok.glob,ok.blt,ok.above,ok.inj,ok.has,ok.cab,fun (e:false = true) => (Bool.false_ne_true e).elim,ok.frames,ok.stk,ok.exf,ok.bs,ok.bsz,ok.noex,ok.exfs,ok.funs,ok.frf⟩,I0.os,I0.bare,I0.base,I0.loc,I0.cell,I0.free,I0.freeC,I0.pin,I0.hok,I0.len⟩
 refine wpAny_mono (ht [] s1 (start N vs) H _ I hq) (fun fl s' hs => ?_) fun e s' hs => False.elim hs
 have fin:∀ {σ':St} {H':Hp} {v:V} {u:Value},Inv (Ra P w K mg base N qual (AA st) f cdv A outer s H) [] σ' H' s'→RelV v u→Q v H'→CE outer P w H s Q u s' :=
  fun {σ' H' v u} J rv q => ⟨v,H',J.os,J.bare,J.base,J.hok,rv,q⟩
 cases fl with
 | ret u =>
  obtain ⟨v,σ',H',J,rv,q⟩:=hs
  exact fin J rv q
 | next =>
  obtain ⟨σ',H',J,q⟩:=hs
  exact fin (v:=V.non) (u:=Value.none) J rfl q
 | brk =>
  obtain ⟨_,_,_,q⟩:=hs
  exact False.elim q
 | cont =>
  obtain ⟨_,_,_,q⟩:=hs
  exact False.elim q
theorem Jc {X:Cx} {k:Nat} {f:Addr} {fd:FuncData} {ps:List Str} {sp:Sp} {x:Str} {p pos:Pos} {e:Expr} {es:List Expr} {t:TA} (F:FnH X.prog X.w X.K X.mg X.base k f fd ps sp) (hr:RoomH k X.A) (hg:Gl X x) (hm:X.mg x = some (.ref f)) (hk:PySem.W.keepIn X.K (.ref f) = true) (hb:Binds X.K fd ps [])
  (ha:PA X (e :: es) t) (hdb:(x == ("__debug__" : Str)) = false:=by decide) (he:starEach (e :: es) X.env = (false,eval e X.env) :: starEach es X.env:=by rfl) (hpl:(backTo pos (starEach es X.env)).any (·.1) = false:=by rfl) :
  PE X (.Call (.Name x p) (e :: es) [] pos) (OR sp (fun _ => E0) t):=by
 intro pins s σ H Q I h
 refine wpAny_Call_Name_kw (DX I hg hm ?_ hdb)
 refine PySem.W.callWith_K (h₀:=X.base) I.ok.mod.kin hk (Ap (ha pos pins s σ H _ I h) fun us s1 ⟨vs,H1,I1,r,q⟩ => ⟨I1.kIn,?_⟩) he hpl
 have r2:Vals vs (us ++ []):=by rw [List.append_nil]; exact r
 have hl:(us ++ []).length = ps.length:=by rw [← r2.length]; exact F.len _ _ _ _ q
 refine wpAny_call (codeAny_mono (F.run X.A X.stack s1 H1 ⟨us,[]⟩ (us ++ []) vs Q hr I1.env0 (hb s1 us I1.kIn hl) r2 q) fun r s' hq => ?_)
 cases r with
 | error e => exact False.elim hq
 | ok fl =>
  cases fl with
  | ret u => exact I1.after hq
  | next => exact False.elim hq
  | brk => exact False.elim hq
  | cont => exact False.elim hq
theorem Fun.okX {P:Program} {w:World} {K:PySem.W.Frag} {mg:Str→Option Value} {base:Heap} {x qual:Str} {st:Stmt} {f:Addr} {fd:FuncData} {N ps:List Str} {k:Nat} {sp:Sp} (F:Fun K x qual st f fd) (S:FnScope N ps (AA st)) (len:∀ vs H Q E,sp vs H Q E→vs.length = ps.length)
  (hbody:∀ (cdv:Value) (A:Around) (outer:List Env) (s:Shared) (H:Hp) (vs:List V) (Q:VK) (E:XK),Room k (A.deeper (envOfC qual (AA st) s.heap.objs.size f cdv))→sp vs H Q E →
   ∃ t,PSs (Bn (CXe P w) P w K mg base N qual (AA st) f cdv A outer s H E) (AW st) t∧t { nx:=fun _ H' => Q .non H',rt:=Q } (start N vs) H):FnOk P w K mg base (CXe P w) (k + 1) f fd ps sp:=by
 obtain ⟨oc,od,kV,doc,pm,an,cdv,ct,osl,rfl,lk,hcd⟩:=F.ex
 exact WJ lk hcd S len fun A outer s H vs Q E hr hsp => hbody cdv A outer s H vs Q E hr hsp
section
variable {X:Cx}
def ZM (K:PySem.W.Frag) (H:Hp) (x:V) (t:Value):Prop:=TyOf K H x t∨∃ a D,x = .ref a∧t = .ref D∧Rd H a (Dk D a)∧ExcCls K D
def WR (K:PySem.W.Frag):List V→Hp→VK→Prop:=fun vs H Q => ∃ x c t cv b,vs = [x,c]∧RelV c cv∧ZM K H x t∧PySem.W.kitOne K t cv = some b∧Q (.bl b) H
theorem BG:BR X (.builtin "isinstance") (WR X.K):=by
 intro pins s σ H xs us Q I r h
 obtain ⟨x,c,t,cv,b,rfl,rc,ty,e,q⟩:=h
 obtain ⟨u,w',rfl,rx,rw'⟩:=JQ r
 have e2:w' = cv:=by
  cases c with
  | ty n => exact (show w' = Value.type n from rw').trans (show cv = Value.type n from rc).symm
  | ref a => exact (show w' = Value.ref a from rw').trans (show cv = Value.ref a from rc).symm
  | non => exact (show w' = Value.none from rw').trans (show cv = Value.none from rc).symm
  | bl b => exact (show w' = Value.bool b from rw').trans (show cv = Value.bool b from rc).symm
  | int i => exact absurd e (by obtain ⟨k,rfl⟩:=rc; unfold PySem.W.kitOne; rcases ty with ty | ⟨_,_,_,rfl,_⟩ <;> first | (cases ty <;> (intro z; simp [PySem.W.kitCls] at z)) | (intro z; simp [PySem.W.kitCls] at z))
  | str i => exact absurd e (by obtain ⟨k,rfl⟩:=rc; unfold PySem.W.kitOne; rcases ty with ty | ⟨_,_,_,rfl,_⟩ <;> first | (cases ty <;> (intro z; simp [PySem.W.kitCls] at z)) | (intro z; simp [PySem.W.kitCls] at z))
  | byt i => exact absurd e (by obtain ⟨k,rfl⟩:=rc; unfold PySem.W.kitOne; rcases ty with ty | ⟨_,_,_,rfl,_⟩ <;> first | (cases ty <;> (intro z; simp [PySem.W.kitCls] at z)) | (intro z; simp [PySem.W.kitCls] at z))
  | flt i => exact absurd e (by obtain ⟨k,rfl⟩:=rc; unfold PySem.W.kitOne; rcases ty with ty | ⟨_,_,_,rfl,_⟩ <;> first | (cases ty <;> (intro z; simp [PySem.W.kitCls] at z)) | (intro z; simp [PySem.W.kitCls] at z))
 subst e2
 rcases ty with ty | ⟨a,D,rfl,rfl,hx,k⟩
 ·exact NA I rx ty e fun tk => ⟨.bl b,H,I.tok tk,rfl,q⟩
 ·cases (show u = Value.ref a from rx)
  exact Kl I hx k e fun tk => ⟨.bl b,H,I.tok tk,rfl,q⟩
def Km:List V→List V→Bool
 | [],[] => true
 | x :: xs,y :: ys => FT x y && Km xs ys
 | _,_ => false
theorem GB:∀ {xs ys:List V},xs.length = ys.length→(List.range xs.length).all (fun j => FT (xs.getD j .non) (ys.getD j .non)) = Km xs ys
 | [],[],_ => rfl
 | x :: xs,y :: ys,h => by
  have ih:=GB (xs:=xs) (ys:=ys) (by simpa using h)
  rw [List.length_cons,List.range_succ_eq_map,List.all_cons,List.all_map]
  show (FT x y && _) = (FT x y && Km xs ys)
  rw [← ih]
  rfl
 | [],_ :: _,h => by simp at h
 | _ :: _,[],h => by simp at h
def YZ (K:PySem.W.Frag):R2:=fun x y H Q => ∃ a b xs ys,x = .ref a∧y = .ref b∧SqL K H a xs∧SqL K H b ys∧xs.all Bo = true∧ys.all Bo = true∧xs.length = ys.length∧Q (.bl (!Km xs ys)) H
theorem UU (hu:X.A.units < cLine):DJ X (compareOp .NotEq) (YZ X.K):=by
 intro pins s σ H x y v u Q I rx ry h
 obtain ⟨a,b,xs,ys,rfl,rfl,ha,hb,fx,fy,hl,q⟩:=h
 cases rx; cases ry
 obtain ⟨its,r1,p1,z1⟩:=I.list ha
 obtain ⟨its2,r2,p2,z2⟩:=I.list hb
 have l1:=r1.length
 have l2:=r2.length
 refine SeqAt.RcNeAt.lists (e:=fun j => FT (xs.getD j .non) (ys.getD j .non)) p1.isList p2.isList (by simp only [List.size_toArray]; omega) hu (fun j h1 h2 => ?_) _ _ _ _ ?_
 ·have j1:j < xs.length:=by simp only [List.size_toArray] at h1; omega
  have j2:j < ys.length:=by omega
  obtain ⟨u1,e1,q1⟩:=r1.get (i:=j) (x:=xs[j]) (by simp [j1])
  obtain ⟨u2,e2,q2⟩:=r2.get (i:=j) (x:=ys[j]) (by simp [j2])
  have f1:Bo xs[j] = true:=List.all_eq_true.mp fx _ (List.getElem_mem _)
  have f2:Bo ys[j] = true:=List.all_eq_true.mp fy _ (List.getElem_mem _)
  have d1:xs.getD j .non = xs[j]:=by simp [List.getD,j1]
  have d2:ys.getD j .non = ys[j]:=by simp [List.getD,j2]
  show SeqAt.EqAt _ _ its.toArray[j] its2.toArray[j] (FT (xs.getD j .non) (ys.getD j .non))
  rw [d1,d2]
  have g1:its.toArray[j] = u1:=by
   have:its[j]'(by omega) = u1:=Option.some.inj (by rw [← e1]; simp)
   simpa using this
  have g2:its2.toArray[j] = u2:=by
   have:its2[j]'(by omega) = u2:=Option.some.inj (by rw [← e2]; simp)
   simpa using this
  rw [g1,g2]
  exact OJ q1 q2 f1 f2
 ·refine ⟨.bl _,H,I,rfl,?_⟩
  have e:(List.range its.toArray.size).all (fun j => FT (xs.getD j .non) (ys.getD j .non)) = Km xs ys:=by
   rw [List.size_toArray,← l1]; exact GB hl
  rw [e]
  exact q
def UV (K:PySem.W.Frag):V→List V→Hp→VK→Prop:=fun x vs H Q => ∃ l xs y,x = .ref l∧vs = [y]∧SqL K H l xs∧Bo y = true∧xs.all Bo = true∧Q (.int (xs.countP fun z => FT z y)) H
theorem GC {x:V}:∀ {xs:List V} {us:List Value},Vals xs us→xs.all Bo = true→us.countP (Vk x) = xs.countP fun y => FT y x
 | _,_,.nil,_ => rfl
 | y :: xs,u :: us,.cons r t,f => by
  rw [List.all_cons,Bool.and_eq_true] at f
  rw [List.countP_cons,List.countP_cons,Kf r f.1,GC t f.2]
theorem OU:Xq X "list.count" (UV X.K):=by
 intro pins s σ H x vs v us Q I rx rv h
 obtain ⟨l,xs,y,rfl,rfl,hl,fy,fx,q⟩:=h
 cases rx
 obtain ⟨u,rfl,ru⟩:=rv.one
 obtain ⟨its,r,p,hz⟩:=I.list hl
 obtain ⟨⟨cls,dd,data,sl⟩,n,ho,hc,hdd,hd⟩:=id p
 simp only at hc hd
 subst hc hd
 refine call_meets F.slot_list_count ⟨_,ho,rfl⟩ F.entry_list_count (F.args_list_count_2 _ _) (SeqAt.list_countAt l its.toArray n dd sl u (Vk y)) ⟨ho,fun z hz => Fw ru fy r fx z (by simpa using hz),?_⟩
 rw [show its.toArray.toList = its from rfl,GC r fx]
 exact ⟨.int _,H,I.tok _,⟨_,rfl⟩,q⟩
def UW (K:PySem.W.Frag):V→List V→Hp→VK→Prop:=fun x vs H Q => ∃ l xs y j,x = .ref l∧vs = [y]∧SqL K H l xs∧Bo y = true∧xs.all Bo = true∧(∃ z,xs[j]? = some z∧FT z y = true)∧(∀ m z,m < j→xs[m]? = some z→FT z y = false)∧Q (.int (j:Nat)) H
theorem Jd:Xq X "list.index" (UW X.K):=by
 intro pins s σ H x vs v us Q I rx rv h
 obtain ⟨l,xs,y,j,rfl,rfl,hl,fy,fx,⟨z,ez,hit⟩,hno,q⟩:=h
 cases rx
 obtain ⟨u,rfl,ru⟩:=rv.one
 obtain ⟨its,r,p,hz⟩:=I.list hl
 obtain ⟨⟨cls,dd,data,sl⟩,n,ho,hc,hdd,hd⟩:=id p
 simp only at hc hd
 subst hc hd
 have hlen:=r.length
 have hj:j < xs.length:=(List.getElem?_eq_some_iff.mp ez).1
 have at_:∀ m (hm:m < its.toArray.size) z,xs[m]? = some z→Vk y its.toArray[m] = FT z y:=fun m hm z e => by
  obtain ⟨w',e',rw'⟩:=r.get e
  have:its.toArray[m] = w':=by
   have:its[m]'(by simpa using hm) = w':=Option.some.inj (by rw [← e']; simp)
   simpa using this
  rw [this]
  exact Kf rw' (List.all_eq_true.mp fx z (List.mem_of_getElem? e))
 refine call_meets F.slot_list_index ⟨_,ho,rfl⟩ F.entry_list_index (F.args_list_index_2 _ _)
  (SeqAt.list_indexAt l its.toArray n dd sl u (Vk y) j (by simpa [← hlen] using hj) (by have:=Ek; omega) ?_ ?_) ⟨ho,fun z hz => Fw ru fy r fx z (by simpa using hz),⟨.int _,H,I.tok _,⟨_,rfl⟩,q⟩⟩
 ·rw [at_ j _ z ez]; exact hit
 ·intro m hm hlt
  have hmx:m < xs.length:=by omega
  rw [at_ m hm xs[m] (by simp [hmx])]
  exact hno m _ hlt (by simp [hmx])
end
end L2
namespace StT
local macro_rules | `(tactic| omega) => `(tactic| first | lia | omega)
open PySem PySem.SetTable
theorem Kn:∀ (m:Nat) (l:List Nat),(∀ e,e < m→e∈l)→m≤l.length
 | 0,_,_ => Nat.zero_le _
 | m + 1,l,h => by
  have hm:m∈l:=h m (Nat.lt_succ_self m)
  have ih:=Kn m (l.erase m) fun e he => by
   rw [List.mem_erase_of_ne (Nat.ne_of_lt he)]
   exact h e (Nat.lt_succ_of_lt he)
  rw [List.length_erase_of_mem hm] at ih
  have:0 < l.length:=List.length_pos_of_mem hm
  omega
theorem Ep:∀ (n:Nat) (l:List Nat),l.Nodup→(∀ x∈l,x < n)→l.length≤n
 | 0,[],_,_ => Nat.le_refl _
 | 0,x :: _,_,h => absurd (h x List.mem_cons_self) (Nat.not_lt_zero _)
 | n + 1,l,nd,h => by
  have ih:=Ep n (l.erase n) (nd.erase n) fun x hx => by
   have h1:=h x (List.mem_of_mem_erase hx)
   have h2:x≠n:=fun e => by
    subst e
    exact absurd hx (List.Nodup.not_mem_erase nd)
   omega
  by_cases hn:n∈l
  ·rw [List.length_erase_of_mem hn] at ih
   omega
  ·rw [List.erase_of_not_mem hn] at ih
   omega
def OV (xs:Array Nat):Prop:=xs.toList.Pairwise (· < ·)
theorem GD {xs:Array Nat} (r:OV xs) {i j:Nat} {x y:Nat} (hi:xs[i]? = some x) (hj:xs[j]? = some y) (h:i < j):x < y:=by
 obtain ⟨h1,rfl⟩:=Array.getElem?_eq_some_iff.mp hi
 obtain ⟨h2,rfl⟩:=Array.getElem?_eq_some_iff.mp hj
 have:=List.pairwise_iff_getElem.mp r i j (by simpa using h1) (by simpa using h2) h
 simpa using this
theorem IP {xs:Array Nat} {j:Nat}:∀ (fuel lo hi:Nat),hi - lo≤fuel→lo≤hi→hi≤xs.size→(∀ i x,i < lo→xs[i]? = some x→x < j)→(∀ i x,hi≤i→xs[i]? = some x→j≤x)→OV xs →
  (below.go xs j fuel lo hi≤xs.size)∧(∀ i x,i < below.go xs j fuel lo hi→xs[i]? = some x→x < j)∧∀ i x,below.go xs j fuel lo hi≤i→xs[i]? = some x→j≤x
 | 0,lo,hi,hf,hlo,hhi,h1,h2,r => by
  have:lo = hi:=by omega
  subst this
  exact ⟨hhi,h1,h2⟩
 | fuel + 1,lo,hi,hf,hlo,hhi,h1,h2,r => by
  unfold below.go
  by_cases hl:lo < hi
  ·rw [if_pos hl]
   have hm:(lo + hi) / 2 < xs.size:=by omega
   have em:xs[(lo + hi) / 2]? = some xs[(lo + hi) / 2]:=by simp [hm]
   have eg:xs.getD ((lo + hi) / 2) j = xs[(lo + hi) / 2]:=by simp [Array.getD,hm]
   dsimp only
   rw [eg]
   by_cases hc:xs[(lo + hi) / 2] < j
   ·rw [if_pos hc]
    refine IP fuel _ _ (by omega) (by omega) hhi (fun i x hi' e => ?_) h2 r
    by_cases hx:i = (lo + hi) / 2
    ·subst hx
     rw [em] at e; cases e
     exact hc
    ·exact Nat.lt_trans (GD r e em (by omega)) hc
   ·rw [if_neg hc]
    refine IP fuel _ _ (by omega) (by omega) (by omega) h1 (fun i x hi' e => ?_) r
    by_cases hx:i = (lo + hi) / 2
    ·subst hx
     rw [em] at e; cases e
     omega
    ·have:=GD r em e (by omega)
     omega
  ·rw [if_neg hl]
   have:lo = hi:=by omega
   subst this
   exact ⟨hhi,h1,h2⟩
theorem Cl {xs:Array Nat} {j:Nat} (r:OV xs):(below xs j≤xs.size)∧(∀ i x,i < below xs j→xs[i]? = some x→x < j)∧∀ i x,below xs j≤i→xs[i]? = some x→j≤x :=
 IP _ _ _ (by omega) (by omega) (Nat.le_refl _) (fun i x h => absurd h (Nat.not_lt_zero _)) (fun i x h e => by
  have:=(Array.getElem?_eq_some_iff.mp e).1
  omega) r
theorem Bq {xs:Array Nat} {i j:Nat} (r:OV xs) (h:xs[i]? = some j):below xs j = i:=by
 obtain ⟨b1,b2,b3⟩:=Cl (j:=j) r
 have hi:i < xs.size:=(Array.getElem?_eq_some_iff.mp h).1
 apply Nat.le_antisymm
 ·apply Nat.le_of_not_lt
  intro hc
  exact absurd (b2 i j hc h) (Nat.lt_irrefl _)
 ·apply Nat.le_of_not_lt
  intro hc
  have e:xs[below xs j]? = some xs[below xs j]:=by simp [Nat.lt_trans hc hi]
  have h1:=b3 _ _ (Nat.le_refl _) e
  have h2:=GD r e h hc
  omega
theorem BJ {α:Type} (xs:Array α) (p:Nat) (x:α):(insertAt xs p x).toList = xs.toList.take p ++ x :: xs.toList.drop p:=by
 unfold insertAt
 simp
 rw [List.take_of_length_le (by simp)]
theorem getElem?_insertAt {α:Type} (xs:Array α) (p:Nat) (x:α) (hp:p≤xs.size) (i:Nat):(insertAt xs p x)[i]? = if i < p then xs[i]? else if i = p then some x else xs[i - 1]?:=by
 have e:(insertAt xs p x)[i]? = (insertAt xs p x).toList[i]?:=by simp
 rw [e,BJ]
 have hl:(xs.toList.take p).length = p:=by simp [hp]
 by_cases h1:i < p
 ·rw [if_pos h1,List.getElem?_append_left (by omega),List.getElem?_take_of_lt h1]
  simp
 ·rw [if_neg h1,List.getElem?_append_right (by omega),hl]
  by_cases h2:i = p
  ·subst h2
   simp
  ·rw [if_neg h2]
   have:i - p = (i - p - 1) + 1:=by omega
   rw [this,List.getElem?_cons_succ,List.getElem?_drop]
   have:p + (i - p - 1) = i - 1:=by omega
   rw [this]
   simp
theorem Do {α:Type} (xs:Array α) (p:Nat) (x:α) (hp:p≤xs.size):(insertAt xs p x).size = xs.size + 1:=by
 rw [← Array.length_toList,BJ]
 simp
 omega
theorem Ko {xs:Array Nat} {j:Nat} (r:OV xs) (hj:∀ i:Nat,xs[i]?≠some j):OV (insertAt xs (below xs j) j):=by
 obtain ⟨b1,b2,b3⟩:=Cl (j:=j) r
 unfold OV
 rw [BJ]
 have lt:∀ y∈xs.toList.take (below xs j),y < j:=fun y hy => by
  obtain ⟨i,hi⟩:=List.getElem?_of_mem hy
  have hlt:i < below xs j:=by
   have:=(List.getElem?_eq_some_iff.mp hi).1
   simp at this; omega
  rw [List.getElem?_take_of_lt hlt] at hi
  exact b2 i y hlt (by simpa using hi)
 have gt:∀ y∈xs.toList.drop (below xs j),j < y:=fun y hy => by
  obtain ⟨i,hi⟩:=List.getElem?_of_mem hy
  rw [List.getElem?_drop] at hi
  have hi':xs[below xs j + i]? = some y:=by simpa using hi
  have h1:=b3 _ y (Nat.le_add_right _ _) hi'
  have h2:y≠j:=fun e => hj _ (e ▸ hi')
  omega
 refine List.pairwise_append.mpr ⟨List.Pairwise.sublist (List.take_sublist _ _) r,List.pairwise_cons.mpr ⟨gt,List.Pairwise.sublist (List.drop_sublist _ _) r⟩,fun a ha b hb => ?_⟩
 rcases List.mem_cons.mp hb with rfl | hb
 ·exact lt a ha
 ·exact Nat.lt_trans (lt a ha) (gt b hb)
def adv (m:Nat) (p:Probe):Probe:=(SetTable.mk m #[] #[] 0 false 0 false).advance p
theorem GE (t:SetTable) (p:Probe):t.advance p = adv t.mask p:=rfl
theorem GF {m:Nat} {p:Probe} (h:0 < p.more):adv m p = ⟨p.j + 1,p.more - 1,p.i,p.perturb,p.dummy⟩:=by
 unfold adv advance
 exact if_pos h
theorem GG {m:Nat} {p:Probe} (h:¬ 0 < p.more):adv m p = ⟨(leap m p.i p.perturb).1,runEnd m (leap m p.i p.perturb).1 - (leap m p.i p.perturb).1,(leap m p.i p.perturb).1,(leap m p.i p.perturb).2,p.dummy⟩:=by
 unfold adv advance
 exact if_neg h
def advN (m:Nat):Nat→Probe→Probe
 | 0,p => p
 | n + 1,p => advN m n (adv m p)
theorem Br (m:Nat):∀ (a b:Nat) (p:Probe),advN m (a + b) p = advN m b (advN m a p)
 | 0,b,p => by rw [Nat.zero_add]; rfl
 | a + 1,b,p => by
  rw [Nat.succ_add]
  exact Br m a b (adv m p)
theorem HW (m n:Nat) (p:Probe):advN m (n + 1) p = adv m (advN m n p):=Br m n 1 p
def st (m:Nat) (x:Nat × Nat) (d:Option Nat):Probe:={ j:=x.1,more:=runEnd m x.1 - x.1,i:=x.1,perturb:=x.2,dummy:=d }
theorem OW (t:SetTable) (h:Int):t.probeStart h = st t.mask (bits h % (t.mask + 1),bits h) none:=rfl
def Kq (m:Nat):Nat→Nat × Nat→Nat × Nat
 | 0,x => x
 | n + 1,x => Kq m n (leap m x.1 x.2)
theorem Er (m i:Nat) (h:i≤m):i + (runEnd m i - i)≤m∧runEnd m i - i≤9:=by
 unfold runEnd
 split <;> omega
theorem IQ (m:Nat):∀ (k:Nat) (p:Probe),k≤p.more→advN m k p = { p with j:=p.j + k,more:=p.more - k }
 | 0,p,_ => rfl
 | k + 1,p,h => by
  show advN m k (adv m p) = _
  have e:adv m p = { p with j:=p.j + 1,more:=p.more - 1 }:=GF (by omega)
  rw [e,IQ m k _ (by show k≤p.more - 1; omega)]
  show ({ p with j:=p.j + 1 + k,more:=p.more - 1 - k }:Probe) = { p with j:=p.j + (k + 1),more:=p.more - (k + 1) }
  rw [show p.j + 1 + k = p.j + (k + 1) by omega,show p.more - 1 - k = p.more - (k + 1) by omega]
theorem GH (m:Nat) (p:Probe):advN m (p.more + 1) p = st m (leap m p.i p.perturb) p.dummy:=by
 rw [HW,IQ m p.more p (Nat.le_refl _)]
 rw [GG (by show ¬ 0 < p.more - p.more; omega)]
 rfl
theorem GI (m:Nat):∀ (L:Nat) (x:Nat × Nat),x.1≤m→(Kq m L x).1≤m
 | 0,_,h => h
 | L + 1,x,_ => GI m L _ (by show (x.1 * 5 + 1 + x.2 / 32) % (m + 1)≤m; have:=Nat.mod_lt (x.1 * 5 + 1 + x.2 / 32) (show 0 < m + 1 by omega); omega)
theorem OX (m:Nat):∀ (L:Nat) (x:Nat × Nat) (d:Option Nat),x.1≤m→∃ n,n≤10 * L∧advN m n (st m x d) = st m (Kq m L x) d
 | 0,x,d,_ => ⟨0,by omega,rfl⟩
 | L + 1,x,d,h => by
  have hl:(leap m x.1 x.2).1≤m:=GI m 1 x h
  obtain ⟨n,hn,e⟩:=OX m L (leap m x.1 x.2) d hl
  have h9:=(Er m x.1 h).2
  refine ⟨(st m x d).more + 1 + n,?_,?_⟩
  ·show runEnd m x.1 - x.1 + 1 + n≤_; omega
  ·rw [Br,GH]
   exact e
theorem Ly (m:Nat):∀ (a b:Nat) (x:Nat × Nat),Kq m (a + b) x = Kq m b (Kq m a x)
 | 0,b,x => by rw [Nat.zero_add]; rfl
 | a + 1,b,x => by rw [Nat.succ_add]; exact Ly m a b _
theorem Lz (m:Nat):∀ (L:Nat) (x:Nat × Nat),(Kq m L x).2 = x.2 / 32 ^ L
 | 0,x => by simp [Kq]
 | L + 1,x => by
  show (Kq m L (leap m x.1 x.2)).2 = _
  rw [Lz m L]
  show x.2 / 32 / 32 ^ L = x.2 / 32 ^ (L + 1)
  rw [Nat.div_div_eq_div_mul,Nat.pow_succ,Nat.mul_comm]
def Vl (m:Nat):Nat→Nat→List Nat
 | 0,_ => []
 | n + 1,i => i :: Vl m n ((i * 5 + 1) % (m + 1))
def fN (m:Nat):Nat→Nat→Nat
 | 0,i => i
 | n + 1,i => fN m n ((i * 5 + 1) % (m + 1))
theorem WU (m:Nat):∀ (L i:Nat),Kq m L (i,0) = (fN m L i,0)
 | 0,_ => rfl
 | L + 1,i => by
  show Kq m L ((i * 5 + 1 + 0 / 32) % (m + 1),0 / 32) = _
  rw [Nat.zero_div,Nat.add_zero]
  exact WU m L _
theorem IR (m:Nat):∀ (a b x:Nat),fN m (a + b) x = fN m b (fN m a x)
 | 0,b,x => by rw [Nat.zero_add]; rfl
 | a + 1,b,x => by rw [Nat.succ_add]; exact IR m a b _
theorem IS (m:Nat):∀ (n i e:Nat),e∈Vl m n i→∃ k,k < n∧fN m k i = e
 | 0,_,_,h => by simp [Vl] at h
 | n + 1,i,e,h => by
  rcases List.mem_cons.mp h with rfl | h
  ·exact ⟨0,Nat.succ_pos _,rfl⟩
  ·obtain ⟨k,hk,hf⟩:=IS m n _ e h
   exact ⟨k + 1,by omega,hf⟩
def Bt (m:Nat):Prop:=m = 7∨m = 31∨m = 127∨m = 511
theorem Yb {m:Nat} (h:Bt m):fN m (m + 1) 0 = 0∧∀ e,e≤m→e∈Vl m (m + 1) 0:=by
 have all:∀ k,((List.range (k + 1)).all fun e => (Vl k (k + 1) 0).contains e) = true→∀ e,e≤k→e∈Vl k (k + 1) 0:=fun k hk e he => by
  have:=List.all_eq_true.mp hk e (List.mem_range.mpr (Nat.lt_succ_of_le he))
  exact List.contains_iff_mem.mp this
 rcases h with rfl | rfl | rfl | rfl
 ·exact ⟨by decide +kernel,all 7 (by decide +kernel)⟩
 ·exact ⟨by decide +kernel,all 31 (by decide +kernel)⟩
 ·exact ⟨by decide +kernel,all 127 (by decide +kernel)⟩
 ·exact ⟨by decide +kernel,all 511 (by decide +kernel)⟩
theorem ZN {m:Nat} (h:Bt m) {i e:Nat} (hi:i≤m) (he:e≤m):∃ k,k≤m∧fN m k i = e:=by
 obtain ⟨c0,call⟩:=Yb h
 obtain ⟨a,ha,ea⟩:=IS m _ _ _ (call i hi)
 obtain ⟨b,hb,eb⟩:=IS m _ _ _ (call e he)
 by_cases hab:a≤b
 ·refine ⟨b - a,by omega,?_⟩
  rw [← ea,← IR,show a + (b - a) = b by omega]
  exact eb
 ·refine ⟨m + 1 - a + b,by omega,?_⟩
  rw [← ea,← IR,show a + (m + 1 - a + b) = (m + 1) + b by omega,IR,c0]
  exact eb
structure Pr (m:Nat) (p:Probe):Prop where
 ij:p.j + p.more≤m
 more:p.more≤9
 i:p.i≤m
 pert:p.perturb < 2 ^ 64
theorem Pr.st {m:Nat} {x:Nat × Nat} {d:Option Nat} (h1:x.1≤m) (h2:x.2 < 2 ^ 64):Pr m (st m x d):=⟨(Er m x.1 h1).1,(Er m x.1 h1).2,h1,h2⟩
theorem Pr.adv {m:Nat} {p:Probe} (h:Pr m p):Pr m (adv m p):=by
 by_cases hm:0 < p.more
 ·rw [GF hm]
  exact ⟨by have:=h.ij; show p.j + 1 + (p.more - 1)≤m; omega,by have:=h.more; show p.more - 1≤9; omega,h.i,h.pert⟩
 ·rw [GG hm]
  have hl:(leap m p.i p.perturb).1≤m:=GI m 1 (p.i,p.perturb) h.i
  exact ⟨(Er m _ hl).1,(Er m _ hl).2,hl,Nat.lt_of_le_of_lt (Nat.div_le_self _ _) h.pert⟩
theorem Pr.advN {m:Nat}:∀ {n:Nat} {p:Probe},Pr m p→Pr m (advN m n p)
 | 0,_,h => h
 | n + 1,_,h => Pr.advN (n:=n) h.adv
theorem Pr.j {m:Nat} {p:Probe} (h:Pr m p):p.j≤m:=by have:=h.ij; omega
theorem MA (h:Int):bits h < 2 ^ 64:=by
 unfold bits
 have h1:=Int.emod_nonneg h (show (2 ^ 64:Int)≠0 by decide)
 have h2:=Int.emod_lt_of_pos h (show (0:Int) < 2 ^ 64 by decide)
 have h3:((2:Nat) ^ 64:Nat) = 18446744073709551616:=by decide
 omega
def start (m:Nat) (h:Int):Probe:=st m (bits h % (m + 1),bits h) none
theorem Pr.start (m:Nat) (h:Int):Pr m (start m h):=Pr.st (by show bits h % (m + 1)≤m; have:=Nat.mod_lt (bits h) (show 0 < m + 1 by omega); omega) (MA h)
theorem WV {q:Nat} (h:q < 2 ^ 64):q / 32 ^ 13 = 0:=Nat.div_eq_of_lt (Nat.lt_of_lt_of_le h (by decide))
theorem TM {m:Nat} (hm:Bt m) {x:Nat × Nat} (h1:x.1≤m) (h2:x.2 < 2 ^ 64) {e:Nat} (he:e≤m):∃ L,L≤m + 13∧(Kq m L x).1 = e:=by
 have e13:Kq m 13 x = ((Kq m 13 x).1,0):=by
  have:=Lz m 13 x
  rw [WV h2] at this
  rw [← this]
 obtain ⟨k,hk,ek⟩:=ZN hm (GI m 13 x h1) he
 refine ⟨13 + k,by omega,?_⟩
 rw [Ly,e13,WU]
 exact ek
theorem TN {m:Nat} (hm:Bt m) {p:Probe} (h:Pr m p) {e:Nat} (he:e≤m):∃ n,n < 10 * (m + 15)∧(advN m n p).j = e:=by
 have hl:(leap m p.i p.perturb).1≤m:=GI m 1 (p.i,p.perturb) h.i
 obtain ⟨L,hL,eL⟩:=TM hm (x:=leap m p.i p.perturb) hl (Nat.lt_of_le_of_lt (Nat.div_le_self _ _) h.pert) he
 obtain ⟨n,hn,en⟩:=OX m L (leap m p.i p.perturb) p.dummy hl
 refine ⟨p.more + 1 + n,by have:=h.more; omega,?_⟩
 rw [Br,GH,en]
 exact eL
theorem NG (m:Nat) (p:Probe):(adv m p).dummy = p.dummy:=by
 by_cases h:0 < p.more
 ·rw [GF h]
 ·rw [GG h]
theorem Dr (m:Nat):∀ (n:Nat) (p:Probe),(advN m n p).dummy = p.dummy
 | 0,_ => rfl
 | n + 1,p => (Dr m n _).trans (NG m p)
end StT
namespace StT
local macro_rules | `(tactic| omega) => `(tactic| first | lia | omega)
open PySem PySem.SetTable
def Je (t:SetTable) (j:Nat):Prop:=∃ i:Nat,t.place[i]? = some j
structure Tb (t:SetTable) (hs:List Int):Prop where
 mask:Bt t.mask
 dum:t.dummies = #[]
 ris:OV t.place
 le:∀ i j:Nat,t.place[i]? = some j→j≤t.mask
 size:t.place.size = hs.length
 fnd:∀ (i j:Nat) (h:Int),t.place[i]? = some j→hs[i]? = some h→∃ n,(advN t.mask n (start t.mask h)).j = j∧∀ k,k < n→Je t (advN t.mask k (start t.mask h)).j
section
variable {t:SetTable} {hs:List Int}
theorem Tb.odd (T:Tb t hs):t.mask % 2 = 1:=by rcases T.mask with h | h | h | h <;> rw [h]
theorem Tb.low (T:Tb t hs):7≤t.mask:=by rcases T.mask with h | h | h | h <;> omega
theorem Tb.live (T:Tb t hs) {i j:Nat} (h:t.place[i]? = some j):t.slot j = .live i:=by
 unfold slot
 rw [Bq T.ris h]
 simp only [h,beq_self_eq_true,if_true]
theorem Tb.empty (T:Tb t hs) {j:Nat} (h:¬ Je t j):t.slot j = .empty:=by
 unfold slot
 have h1:(t.place[below t.place j]? == some j) = false:=by
  rw [beq_eq_false_iff_ne]
  exact fun e => h ⟨_,e⟩
 have h2:has t.dummies j = false:=by
  unfold has
  rw [T.dum]
  rfl
 simp only [h1,h2,Bool.false_eq_true,if_false]
theorem Tb.room (T:Tb t hs) (h:hs.length≤t.mask):∃ e,e≤t.mask∧¬ Je t e:=by
 apply Classical.byContradiction
 intro hn
 have:=Kn (t.mask + 1) t.place.toList fun e he => by
  have:Je t e:=Classical.byContradiction fun hc => hn ⟨e,by omega,hc⟩
  obtain ⟨i,hi⟩:=this
  exact List.mem_of_getElem? (i:=i) (by simpa using hi)
 rw [Array.length_toList,T.size] at this
 omega
theorem Rb (T:Tb t hs) {hashAt:Nat→Int} {h:Int} {p:Probe} {i:Nat} (fuel:Nat) (h1:t.place[i]? = some p.j) (h2:hashAt i≠h):probe.go t hashAt h (fuel + 1) p = probe.go t hashAt h fuel (adv t.mask p):=by
 rw [probe.go,T.live h1]
 simp only [beq_iff_eq,if_neg h2,GE]
theorem Jf (T:Tb t hs) {hashAt:Nat→Int} {h:Int}:∀ (n fuel:Nat) (p:Probe),(∀ k,k < n→∃ i,t.place[i]? = some (advN t.mask k p).j∧hashAt i≠h)→probe.go t hashAt h (fuel + n) p = probe.go t hashAt h fuel (advN t.mask n p)
 | 0,_,_,_ => rfl
 | n + 1,fuel,p,hk => by
  obtain ⟨i,h1,h2⟩:=hk 0 (Nat.succ_pos _)
  have h1:t.place[i]? = some p.j:=h1
  rw [← Nat.add_assoc,Rb T _ h1 h2]
  exact Jf T n fuel _ fun k hk' => hk (k + 1) (Nat.succ_lt_succ hk')
theorem OY (T:Tb t hs) {hashAt:Nat→Int} {h:Int} {p:Probe} {fuel:Nat} (h1:¬ Je t p.j):probe.go t hashAt h (fuel + 1) p = some (.empty p.j p.dummy):=by
 rw [probe.go,T.empty h1]
theorem UX (T:Tb t hs) {hashAt:Nat→Int} {h:Int} {p:Probe} {fuel i:Nat} (h1:t.place[i]? = some p.j) (h2:hashAt i = h):probe.go t hashAt h (fuel + 1) p = some (.candidate p.j i (adv t.mask p)):=by
 rw [probe.go,T.live h1]
 simp only [beq_iff_eq,if_pos h2,GE]
theorem WX {S:Nat→Prop}:∀ (n:Nat),S n→∃ m,m≤n∧S m∧∀ k,k < m→¬ S k:=by
 intro n
 induction n using Nat.strongRecOn with
 | ind n ih =>
  intro hn
  by_cases h:∃ k,k < n∧S k
  ·obtain ⟨k,hk,sk⟩:=h
   obtain ⟨m,h1,h2,h3⟩:=ih k hk sk
   exact ⟨m,by omega,h2,h3⟩
  ·exact ⟨n,Nat.le_refl _,hn,fun k hk sk => h ⟨k,hk,sk⟩⟩
theorem Jg (T:Tb t hs) (hl:hs.length≤t.mask) {p:Probe} (pr:Pr t.mask p) (hashAt:Nat→Int) (h:Int):∃ n,(∀ k,k < n→∃ i,t.place[i]? = some (advN t.mask k p).j∧hashAt i≠h) ∧
  ((¬ Je t (advN t.mask n p).j∧t.probe hashAt h p = some (.empty (advN t.mask n p).j p.dummy))∨∃ i,t.place[i]? = some (advN t.mask n p).j∧hashAt i = h∧t.probe hashAt h p = some (.candidate (advN t.mask n p).j i (advN t.mask (n + 1) p))):=by
 obtain ⟨e,he,hne⟩:=T.room hl
 obtain ⟨n0,hn0,en0⟩:=TN T.mask pr he
 obtain ⟨n,hn,sn,ln⟩:=WX (S:=fun n => ¬ Je t (advN t.mask n p).j∨∃ i,t.place[i]? = some (advN t.mask n p).j∧hashAt i = h) n0 (.inl (by rw [en0]; exact hne))
 have pre:∀ k,k < n→∃ i,t.place[i]? = some (advN t.mask k p).j∧hashAt i≠h:=fun k hk => by
  have:=ln k hk
  have ho:Je t (advN t.mask k p).j:=Classical.byContradiction fun hc => this (.inl hc)
  obtain ⟨i,hi⟩:=ho
  exact ⟨i,hi,fun z => this (.inr ⟨i,hi,z⟩)⟩
 have hfuel:10 * turns t.mask = (10 * (t.mask + 15) - n - 1 + 1) + n:=by unfold turns; omega
 refine ⟨n,pre,?_⟩
 unfold probe
 rw [hfuel,Jf T n _ p pre]
 rcases sn with sn | ⟨i,h1,h2⟩
 ·exact .inl ⟨sn,by rw [OY T sn,Dr]⟩
 ·exact .inr ⟨i,h1,h2,by rw [UX T h1 h2,HW]⟩
theorem Tb.put (T:Tb t hs) {h:Int} {n:Nat} (hfree:¬ Je t (advN t.mask n (start t.mask h)).j) (hway:∀ k,k < n→Je t (advN t.mask k (start t.mask h)).j) :
  Tb (t.put (advN t.mask n (start t.mask h)).j).1 (hs.take (t.put (advN t.mask n (start t.mask h)).j).2 ++ h :: hs.drop (t.put (advN t.mask n (start t.mask h)).j).2)∧(t.put (advN t.mask n (start t.mask h)).j).2≤hs.length ∧
   (t.put (advN t.mask n (start t.mask h)).j).1.mask = t.mask∧(t.put (advN t.mask n (start t.mask h)).j).1.plain = t.plain∧(t.put (advN t.mask n (start t.mask h)).j).1.led = t.led∧(t.put (advN t.mask n (start t.mask h)).j).1.moves = t.moves:=by
 have hj:(advN t.mask n (start t.mask h)).j≤t.mask:=(Pr.start t.mask h).advN.j
 generalize hJ:(advN t.mask n (start t.mask h)).j = J at *
 have hd:has t.dummies J = false:=by
  unfold has
  rw [T.dum]
  rfl
 have hnot:∀ i:Nat,t.place[i]?≠some J:=fun i e => hfree ⟨i,e⟩
 have hb:=(Cl (j:=J) T.ris).1
 have e1:(t.put J).1 = { t with place:=insertAt t.place (below t.place J) J }:=by
  unfold SetTable.put
  simp only [hd,Bool.false_eq_true,if_false]
 have e2:(t.put J).2 = below t.place J:=rfl
 rw [e1,e2]
 have ix:=getElem?_insertAt t.place (below t.place J) J hb
 have hl:(hs.take (below t.place J)).length = below t.place J:=by rw [List.length_take,← T.size]; omega
 have ih:∀ i:Nat,(hs.take (below t.place J) ++ h :: hs.drop (below t.place J))[i]? = if i < below t.place J then hs[i]? else if i = below t.place J then some h else hs[i - 1]?:=fun i => by
  by_cases h1:i < below t.place J
  ·rw [if_pos h1,List.getElem?_append_left (by omega),List.getElem?_take_of_lt h1]
  ·rw [if_neg h1,List.getElem?_append_right (by omega),hl]
   by_cases h2:i = below t.place J
   ·subst h2; simp
   ·rw [if_neg h2,show i - below t.place J = (i - below t.place J - 1) + 1 by omega,List.getElem?_cons_succ,List.getElem?_drop]
    rw [show below t.place J + (i - below t.place J - 1) = i - 1 by omega]
 have occ:∀ x,Je t x→Je { t with place:=insertAt t.place (below t.place J) J } x:=fun x ⟨i,hi⟩ => by
  by_cases h1:i < below t.place J
  ·exact ⟨i,by show (insertAt t.place (below t.place J) J)[i]? = some x; rw [ix,if_pos h1]; exact hi⟩
  ·exact ⟨i + 1,by show (insertAt t.place (below t.place J) J)[i + 1]? = some x; rw [ix,if_neg (by omega),if_neg (by omega)]; exact hi⟩
 refine ⟨⟨T.mask,T.dum,Ko T.ris hnot,fun i j e => ?_,?_,fun i j h' e eh => ?_⟩,by rw [← T.size]; exact hb,rfl,rfl,rfl,rfl⟩
 ·have e:(insertAt t.place (below t.place J) J)[i]? = some j:=e
  rw [ix] at e
  by_cases h1:i < below t.place J
  ·rw [if_pos h1] at e; exact T.le i j e
  ·rw [if_neg h1] at e
   by_cases h2:i = below t.place J
   ·rw [if_pos h2] at e; cases e; exact hj
   ·rw [if_neg h2] at e; exact T.le _ j e
 ·show (insertAt t.place (below t.place J) J).size = _
  rw [Do _ _ _ hb,T.size]
  have hb':below t.place J≤hs.length:=by rw [← T.size]; exact hb
  rw [List.length_append,hl,List.length_cons,List.length_drop]
  omega
 ·have e:(insertAt t.place (below t.place J) J)[i]? = some j:=e
  rw [ix] at e
  rw [ih] at eh
  by_cases h1:i < below t.place J
  ·rw [if_pos h1] at e eh
   obtain ⟨k,ek,wk⟩:=T.fnd i j h' e eh
   exact ⟨k,ek,fun k' hk => occ _ (wk k' hk)⟩
  ·rw [if_neg h1] at e eh
   by_cases h2:i = below t.place J
   ·rw [if_pos h2] at e eh
    cases e; cases eh
    exact ⟨n,hJ,fun k hk => occ _ (hway k hk)⟩
   ·rw [if_neg h2] at e eh
    obtain ⟨k,ek,wk⟩:=T.fnd _ j h' e eh
    exact ⟨k,ek,fun k' hk => occ _ (wk k' hk)⟩
theorem Tb.fresh (f mv:Nat) (led:Bool):Tb (SetTable.fresh f mv led) []:=by
 refine ⟨.inl rfl,rfl,List.Pairwise.nil,fun i j e => ?_,rfl,fun i j h e => ?_⟩
 ·have e:(#[]:Array Nat)[i]? = some j:=e
  simp at e
 ·have e:(#[]:Array Nat)[i]? = some j:=e
  simp at e
end
end StT
namespace StT
local macro_rules | `(tactic| omega) => `(tactic| first | lia | omega)
open PySem PySem.SetTable
structure LC (m:Nat) (owner:Array (Option Nat)) (hs:List Int):Prop where
 size:owner.size = m + 1
 put:∀ (r:Nat) (h:Int),hs[r]? = some h→∃ j,j≤m∧owner[j]? = some (some r)∧∃ n,(advN m n (start m h)).j = j∧∀ k,k < n→∃ r',owner[(advN m k (start m h)).j]? = some (some r')
 lt:∀ j r:Nat,owner[j]? = some (some r)→r < hs.length
 inj:∀ j j' r:Nat,owner[j]? = some (some r)→owner[j']? = some (some r)→j = j'
section
variable {m:Nat} {owner:Array (Option Nat)} {hs:List Int}
theorem IT (hz:owner.size = m + 1) {x:Nat} (hx:x≤m):owner.getD x (some 0) = owner[x]'(by omega)∧owner[x]? = some (owner[x]'(by omega)):=by
 have hx':x < owner.size:=by omega
 exact ⟨by simp [Array.getD,hx'],by simp [hx']⟩
theorem TQ (hz:owner.size = m + 1) {x:Nat} (hx:x≤m) (h:(owner.getD x (some 0)).isNone = false):∃ r,owner[x]? = some (some r):=by
 obtain ⟨h1,h2⟩:=IT hz hx
 rw [h1] at h
 cases e:owner[x]'(by omega) with
 | none => rw [e] at h; cases h
 | some r => exact ⟨r,by rw [h2,e]⟩
theorem Rc (hz:owner.size = m + 1) {x:Nat} (hx:x≤m) (h:(owner.getD x (some 0)).isNone = true):owner[x]? = some none:=by
 obtain ⟨h1,h2⟩:=IT hz hx
 rw [h1] at h
 cases e:owner[x]'(by omega) with
 | none => rw [h2,e]
 | some r => rw [e] at h; cases h
theorem Kr {i q k:Nat} (hk:k≤runEnd m i - i):(advN m k (st m (i,q) none)).j = i + k:=by
 rw [IQ m k _ hk]
 rfl
theorem HX (m i:Nat):i≤runEnd m i:=by
 unfold runEnd
 split <;> omega
theorem HY (hz:owner.size = m + 1) {j:Nat}:∀ (fuel i q:Nat),i≤m→layClean.free m owner fuel i q = some j →
  ∃ n,(advN m n (st m (i,q) none)).j = j∧(∀ k,k < n→∃ r,owner[(advN m k (st m (i,q) none)).j]? = some (some r))∧owner[j]? = some none∧j≤m
 | 0,i,q,_,e => by simp [layClean.free] at e
 | fuel + 1,i,q,hi,e => by
  have hr:=Er m i hi
  have hge:=HX m i
  rw [layClean.free] at e
  cases hf:(List.range (runEnd m i + 1 - i)).find? fun k => (owner.getD (i + k) (some 0)).isNone with
  | some k =>
   rw [hf] at e
   cases e
   have hk1:(owner.getD (i + k) (some 0)).isNone = true:=by simpa using List.find?_some hf
   have hkm:k < runEnd m i + 1 - i:=List.mem_range.mp (List.mem_of_find?_eq_some hf)
   refine ⟨k,Kr (by omega),fun k' hk' => ?_,Rc hz (by omega) hk1,by omega⟩
   rw [Kr (by omega)]
   refine TQ hz (by omega) ?_
   have:=List.find?_range_eq_some.mp hf
   have h3:=this.2.2 k' hk'
   simpa using h3
  | none =>
   rw [hf] at e
   have hl:(leap m i q).1≤m:=GI m 1 (i,q) hi
   obtain ⟨n,h1,h2,h3⟩:=HY hz fuel _ _ hl e
   have all:∀ k,k≤runEnd m i - i→∃ r,owner[(advN m k (st m (i,q) none)).j]? = some (some r):=fun k hk => by
    rw [Kr hk]
    refine TQ hz (by omega) ?_
    have:=List.find?_eq_none.mp hf k (List.mem_range.mpr (by omega))
    exact Bool.eq_false_iff.mpr this
   have hleap:advN m (runEnd m i - i + 1) (st m (i,q) none) = st m (leap m i q) none:=GH m (st m (i,q) none)
   refine ⟨(runEnd m i - i + 1) + n,?_,fun k hk => ?_,h3⟩
   ·rw [Br,hleap]
    exact h1
   ·by_cases hk':k≤runEnd m i - i
    ·exact all k hk'
    ·have e2:k = (runEnd m i - i + 1) + (k - (runEnd m i - i + 1)):=by omega
     rw [e2,Br,hleap]
     exact h2 _ (by omega)
theorem HZ (hz:owner.size = m + 1) {e:Nat} (he:owner[e]? = some none) (hem:e≤m):∀ (fuel L i q:Nat),i≤m→L < fuel→(Kq m L (i,q)).1 = e→layClean.free m owner fuel i q≠none
 | 0,L,_,_,_,h,_ => absurd h (Nat.not_lt_zero _)
 | fuel + 1,L,i,q,hi,hL,eL => by
  rw [layClean.free]
  have hge:=HX m i
  cases hf:(List.range (runEnd m i + 1 - i)).find? fun k => (owner.getD (i + k) (some 0)).isNone with
  | some k => simp
  | none =>
   cases L with
   | zero =>
    have eL:i = e:=eL
    subst eL
    have:=List.find?_eq_none.mp hf 0 (List.mem_range.mpr (by omega))
    obtain ⟨h1,h2⟩:=IT hz hem
    rw [he] at h2
    have h2:=Option.some.inj h2
    rw [Nat.add_zero,h1,← h2] at this
    exact absurd rfl this
   | succ L =>
    exact HZ hz he hem fuel L _ _ (GI m 1 (i,q) hi) (by omega) eL
def EK (m:Nat) (acc:Option (Array (Option Nat) × Nat)) (h:Int):Option (Array (Option Nat) × Nat):=do
 let (owner,k) ← acc
 let j ← layClean.free m owner (turns m) (bits h % (m + 1)) (bits h)
 pure (owner.setIfInBounds j (some k),k + 1)
theorem Jh (m:Nat) (hs:Array Int):layClean m hs = (hs.toList.foldl (EK m) (some (Array.replicate (m + 1) none,0))).map (·.1):=by
 unfold layClean
 rw [Array.foldl_toList]
 rfl
theorem LC.room (c:LC m owner hs) (h:hs.length≤m):∃ e,e≤m∧owner[e]? = some none:=by
 apply Classical.byContradiction
 intro hn
 have all:∀ e,e≤m→∃ r,owner[e]? = some (some r):=fun e he => by
  have hz:=c.size
  cases q:owner[e]'(by omega) with
  | none => exact absurd ⟨e,he,by rw [← q]; simp [show e < owner.size by omega]⟩ hn
  | some r => exact ⟨r,by rw [← q]; simp [show e < owner.size by omega]⟩
 have hf:∀ e,∃ r,e≤m→owner[e]? = some (some r):=fun e => by
  by_cases he:e≤m
  ·obtain ⟨r,hr⟩:=all e he; exact ⟨r,fun _ => hr⟩
  ·exact ⟨0,fun z => absurd z he⟩
 obtain ⟨f,hf⟩:=Classical.axiomOfChoice hf
 have hl:=Ep hs.length ((List.range (m + 1)).map f) (by
  refine List.Pairwise.map f (R:=fun a b => a≠b∧a≤m∧b≤m) (fun a b hab e => ?_) ?_
  ·have h1:=hf a hab.2.1
   have h2:=hf b hab.2.2
   rw [e] at h1
   exact hab.1 (c.inj a b _ h1 h2)
  ·refine List.Pairwise.imp_of_mem (fun {a b} ha hb h => ⟨Nat.ne_of_lt h,?_,?_⟩) (List.pairwise_lt_range (n:=m + 1))
   ·have:=List.mem_range.mp ha; omega
   ·have:=List.mem_range.mp hb; omega) (fun x hx => by
  obtain ⟨e,he,rfl⟩:=List.mem_map.mp hx
  exact c.lt e _ (hf e (by have:=List.mem_range.mp he; omega)))
 rw [List.length_map,List.length_range] at hl
 omega
theorem LC.step (hm:Bt m) (c:LC m owner hs) (hl:hs.length≤m) (h:Int):∃ o',EK m (some (owner,hs.length)) h = some (o',hs.length + 1)∧LC m o' (hs ++ [h]):=by
 obtain ⟨e,he,hne⟩:=c.room hl
 have hb:bits h % (m + 1)≤m:=by have:=Nat.mod_lt (bits h) (show 0 < m + 1 by omega); omega
 obtain ⟨L,hL,eL⟩:=TM hm (x:=(bits h % (m + 1),bits h)) hb (MA h) he
 have hs':=HZ c.size hne he (turns m) L _ _ hb (by unfold turns; omega) eL
 cases hf:layClean.free m owner (turns m) (bits h % (m + 1)) (bits h) with
 | none => exact absurd hf hs'
 | some j =>
  obtain ⟨n,h1,h2,h3,h4⟩:=HY c.size _ _ _ hb hf
  have hj:j < owner.size:=by rw [c.size]; omega
  refine ⟨owner.setIfInBounds j (some hs.length),?_,?_⟩
  ·unfold EK
   show (layClean.free m owner (turns m) (bits h % (m + 1)) (bits h) >>= _) = _
   rw [hf]
   rfl
  ·have at_:∀ x:Nat,(owner.setIfInBounds j (some hs.length))[x]? = if x = j then some (some hs.length) else owner[x]?:=fun x => by
    rw [Array.getElem?_setIfInBounds]
    by_cases hx:x = j
    ·subst hx; simp [hj]
    ·rw [if_neg (Ne.symm hx),if_neg hx]
   have occ:∀ x r:Nat,owner[x]? = some (some r)→∃ r',(owner.setIfInBounds j (some hs.length))[x]? = some (some r'):=fun x r hr => by
    rw [at_]
    by_cases hx:x = j
    ·exact ⟨_,if_pos hx⟩
    ·exact ⟨r,by rw [if_neg hx]; exact hr⟩
   refine ⟨by simpa using c.size,fun r h' e' => ?_,fun x r hr => ?_,fun x y r hx hy => ?_⟩
   ·by_cases hr:r < hs.length
    ·rw [List.getElem?_append_left hr] at e'
     obtain ⟨x,q1,q2,n',q3,q4⟩:=c.put r h' e'
     refine ⟨x,q1,?_,n',q3,fun k hk => ?_⟩
     ·rw [at_,if_neg]; exact q2
      rintro rfl
      rw [h3] at q2; cases q2
     ·obtain ⟨r',hr'⟩:=q4 k hk
      exact occ _ r' hr'
    ·rw [List.getElem?_append_right (by omega)] at e'
     have hr0:r - hs.length = 0:=by
      have:=(List.getElem?_eq_some_iff.mp e').1
      simp at this; omega
     rw [hr0] at e'
     cases e'
     have:r = hs.length:=by omega
     subst this
     refine ⟨j,h4,by rw [at_,if_pos rfl],n,h1,fun k hk => ?_⟩
     obtain ⟨r',hr'⟩:=h2 k hk
     exact occ _ r' hr'
   ·rw [at_] at hr
    rw [List.length_append]
    by_cases hx:x = j
    ·rw [if_pos hx] at hr; cases hr; simp
    ·rw [if_neg hx] at hr
     have:=c.lt x r hr
     omega
   ·rw [at_] at hx hy
    by_cases h1:x = j
    ·rw [if_pos h1] at hx
     cases hx
     by_cases h2:y = j
     ·rw [h1,h2]
     ·rw [if_neg h2] at hy
      exact absurd (c.lt y _ hy) (Nat.lt_irrefl _)
    ·rw [if_neg h1] at hx
     by_cases h2:y = j
     ·rw [if_pos h2] at hy
      cases hy
      exact absurd (c.lt x _ hx) (Nat.lt_irrefl _)
     ·rw [if_neg h2] at hy
      exact c.inj x y r hx hy
theorem LC.steps (hm:Bt m):∀ (rest hs:List Int) (owner:Array (Option Nat)),LC m owner hs→hs.length + rest.length≤m + 1→∃ o',rest.foldl (EK m) (some (owner,hs.length)) = some (o',hs.length + rest.length)∧LC m o' (hs ++ rest)
 | [],hs,owner,c,_ => ⟨owner,rfl,by rw [List.append_nil]; exact c⟩
 | h :: rest,hs,owner,c,hl => by
  simp only [List.length_cons] at hl
  obtain ⟨o1,e1,c1⟩:=c.step hm (by omega) h
  obtain ⟨o2,e2,c2⟩:=LC.steps hm rest (hs ++ [h]) o1 c1 (by rw [List.length_append]; simp; omega)
  refine ⟨o2,?_,by rw [List.append_assoc] at c2; exact c2⟩
  rw [List.foldl_cons,e1]
  have:(hs ++ [h]).length = hs.length + 1:=by simp
  rw [this] at e2
  rw [e2]
  simp only [List.length_cons]
  congr 2
  omega
theorem Ji (hm:Bt m) (hs:Array Int) (hl:hs.size≤m + 1):∃ owner,layClean m hs = some owner∧LC m owner hs.toList:=by
 have c0:LC m (Array.replicate (m + 1) none) []:=⟨by simp,fun r h e => by simp at e,fun j r e => by
  rw [Array.getElem?_replicate] at e; split at e <;> simp at e,fun j j' r e => by
  rw [Array.getElem?_replicate] at e; split at e <;> simp at e⟩
 obtain ⟨o,e,c⟩:=LC.steps hm hs.toList [] _ c0 (by simpa using hl)
 refine ⟨o,?_,by simpa using c⟩
 rw [Jh]
 have e':hs.toList.foldl (EK m) (some (Array.replicate (m + 1) none,0)) = _:=e
 rw [e']
 rfl
end
end StT
namespace StT
open PySem PySem.SetTable
section
variable {m:Nat}
theorem Re (hm:Bt m) (hs:Array Int) (hl:hs.size≤m + 1) (f mv:Nat) (led plain:Bool):∃ t' order,laid m f mv led plain hs = some (t',order)∧t'.mask = m∧t'.led = led∧t'.plain = plain∧t'.moves = mv∧order.size = hs.size ∧
  (∀ i r:Nat,order[i]? = some r→r < hs.size)∧(∀ i i' r:Nat,order[i]? = some r→order[i']? = some r→i = i')∧(∀ r,r < hs.size→∃ i:Nat,order[i]? = some r)∧Tb t' (order.toList.map fun r => hs.getD r 0):=by
 obtain ⟨owner,e,c⟩:=Ji hm hs hl
 generalize hlive:(List.range (m + 1)).filterMap (fun j => (owner.getD j none).map (j,·)) = live
 have mem:∀ j r,(j,r)∈live↔j≤m∧owner[j]? = some (some r):=fun j r => by
  rw [← hlive,List.mem_filterMap]
  constructor
  ·rintro ⟨x,hx,ex⟩
   have hx:=List.mem_range.mp hx
   have hxo:x < owner.size:=by rw [c.size]; exact hx
   have eg:owner.getD x none = owner[x]:=by simp [Array.getD,hxo]
   rw [eg] at ex
   cases q:owner[x] with
   | none => rw [q] at ex; cases ex
   | some r' =>
    rw [q] at ex
    cases ex
    exact ⟨by omega,by rw [← q]; simp [hxo]⟩
  ·rintro ⟨h1,h2⟩
   obtain ⟨hxo,q⟩:=Array.getElem?_eq_some_iff.mp h2
   refine ⟨j,List.mem_range.mpr (by omega),?_⟩
   have eg:owner.getD j none = owner[j]:=by simp [Array.getD,hxo]
   rw [eg,q]
   rfl
 have pw:live.Pairwise fun a b => a.1 < b.1:=by
  rw [← hlive,List.pairwise_filterMap]
  refine List.Pairwise.imp (fun {a b} h x hx y hy => ?_) (List.pairwise_lt_range (n:=m + 1))
  cases q1:owner.getD a none with
  | none => rw [q1] at hx; cases hx
  | some r1 =>
   cases q2:owner.getD b none with
   | none => rw [q2] at hy; cases hy
   | some r2 =>
    rw [q1] at hx; rw [q2] at hy
    cases hx; cases hy
    exact h
 have lt:∀ j r,(j,r)∈live→r < hs.size:=fun j r h => by have:=c.lt j r ((mem j r).mp h).2; simpa using this
 have pwr:live.Pairwise fun a b => a.2≠b.2:=by
  refine List.Pairwise.imp_of_mem (fun {a b} ha hb h e => ?_) pw
  obtain ⟨a1,a2⟩:=a
  obtain ⟨b1,b2⟩:=b
  have h1:=(mem _ _).mp ha
  have h2:=(mem _ _).mp hb
  have e:a2 = b2:=e
  subst e
  have:=c.inj _ _ _ h1.2 h2.2
  have h:a1 < b1:=h
  omega
 have nd:(live.map (·.2)).Nodup:=List.Pairwise.map _ (fun _ _ h => h) pwr
 have all:∀ r,r < hs.size→∃ j,(j,r)∈live:=fun r hr => by
  obtain ⟨j,h1,h2,_⟩:=c.put r (hs[r]) (by simp [hr])
  exact ⟨j,(mem j r).mpr ⟨h1,h2⟩⟩
 have len:live.length = hs.size:=by
  apply Nat.le_antisymm
  ·have:=Ep hs.size (live.map (·.2)) nd fun x hx => by
    obtain ⟨⟨j,r⟩,h1,rfl⟩:=List.mem_map.mp hx
    exact lt j r h1
   simpa using this
  ·have:=Kn hs.size (live.map (·.2)) fun r hr => by
    obtain ⟨j,hj⟩:=all r hr
    exact List.mem_map.mpr ⟨_,hj,rfl⟩
   simpa using this
 refine ⟨{ mask:=m,place:=(live.map (·.1)).toArray,dummies:=#[],finger:=f,led:=led,moves:=mv,plain:=plain },(live.map (·.2)).toArray,?_,rfl,rfl,rfl,rfl,by simpa using len,fun i r h => ?_,fun i i' r h h' => ?_,fun r hr => ?_,?_⟩
 ·unfold laid
  rw [e]
  show some _ = some _
  rw [hlive]
 ·have h:(live.map (·.2))[i]? = some r:=by simpa using h
  rw [List.getElem?_map] at h
  cases q:live[i]? with
  | none => rw [q] at h; cases h
  | some x => rw [q] at h; cases h; exact lt x.1 x.2 (List.mem_of_getElem? q)
 ·have h:(live.map (·.2))[i]? = some r:=by simpa using h
  have h':(live.map (·.2))[i']? = some r:=by simpa using h'
  obtain ⟨l1,e1⟩:=List.getElem?_eq_some_iff.mp h
  obtain ⟨l2,e2⟩:=List.getElem?_eq_some_iff.mp h'
  rcases Nat.lt_trichotomy i i' with hlt | heq | hgt
  ·exact absurd (e1.trans e2.symm) (List.pairwise_iff_getElem.mp nd i i' l1 l2 hlt)
  ·exact heq
  ·exact absurd (e2.trans e1.symm) (List.pairwise_iff_getElem.mp nd i' i l2 l1 hgt)
 ·obtain ⟨j,hj⟩:=all r hr
  obtain ⟨i,hi⟩:=List.getElem?_of_mem hj
  exact ⟨i,by simp [hi]⟩
 ·have at_:∀ i j:Nat,(live.map (·.1)).toArray[i]? = some j→∃ r,live[i]? = some (j,r):=fun i j h => by
   have h:(live.map (·.1))[i]? = some j:=by simpa using h
   rw [List.getElem?_map] at h
   cases q:live[i]? with
   | none => rw [q] at h; cases h
   | some x =>
    rw [q] at h
    cases h
    exact ⟨x.2,rfl⟩
  refine ⟨hm,rfl,?_,fun i j h => ?_,by simp,fun i j h e1 e2 => ?_⟩
  ·show (live.map (·.1)).toArray.toList.Pairwise (· < ·)
   exact List.Pairwise.map _ (fun _ _ h => h) pw
  ·obtain ⟨r,hr⟩:=at_ i j h
   exact ((mem j r).mp (List.mem_of_getElem? hr)).1
  ·obtain ⟨r,hr⟩:=at_ i j e1
   have hrlt:=lt j r (List.mem_of_getElem? hr)
   have e2:((live.map (·.2)).map fun r => hs.getD r 0)[i]? = some h:=by simpa using e2
   rw [List.getElem?_map,List.getElem?_map,hr] at e2
   have e2:hs.getD r 0 = h:=Option.some.inj e2
   have eh:hs.toList[r]? = some h:=by
    rw [← e2]
    simp [Array.getD,hrlt]
   obtain ⟨j2,q1,q2,n,q3,q4⟩:=c.put r h eh
   have ej:=c.inj j2 j r q2 ((mem j r).mp (List.mem_of_getElem? hr)).2
   subst ej
   refine ⟨n,q3,fun k hk => ?_⟩
   obtain ⟨r',hr'⟩:=q4 k hk
   have hk':(advN m k (start m h)).j≤m:=(Pr.start m h).advN.j
   obtain ⟨i',hi'⟩:=List.getElem?_of_mem ((mem _ r').mpr ⟨hk',hr'⟩)
   refine ⟨i',?_⟩
   show (live.map (·.1)).toArray[i']? = _
   simp [hi']
theorem NH {n:Nat} (h:Bt m) (h1:n * 5 < m * 3) (h2:m * 3≤(n + 1) * 5) (h3:n < 300):Bt (sizeAbove (grown (n + 1)) - 1)∧n + 1≤sizeAbove (grown (n + 1)) - 1∧(n + 1) * 5 < (sizeAbove (grown (n + 1)) - 1) * 3∧sizeAbove (grown (n + 1))≤512:=by
 rcases h with rfl | rfl | rfl | rfl
 ·have:n = 4:=by omega
  subst this
  refine ⟨.inr (.inl (by decide)),by decide,by decide,by decide⟩
 ·have:n = 18:=by omega
  subst this
  refine ⟨.inr (.inr (.inl (by decide))),by decide,by decide,by decide⟩
 ·have:n = 76:=by omega
  subst this
  refine ⟨.inr (.inr (.inr (by decide))),by decide,by decide,by decide⟩
 ·omega
theorem Cm {α:Type} (es:Array α):∀ (l:List Nat),(∀ r∈l,r < es.size)→∀ i:Nat,(l.filterMap fun r => es[r]?)[i]? = (l[i]?).bind fun r => es[r]?
 | [],_,i => by simp
 | r :: l,h,i => by
  have hr:=h r List.mem_cons_self
  have e:es[r]? = some es[r]:=by simp [hr]
  rw [List.filterMap_cons,e]
  cases i with
  | zero => simp
  | succ i =>
   simp only [List.getElem?_cons_succ]
   exact Cm es l (fun x hx => h x (List.mem_cons_of_mem _ hx)) i
theorem CI {α:Type} (es:Array α):∀ (l:List Nat),(∀ r∈l,r < es.size)→(l.filterMap fun r => es[r]?).length = l.length
 | [],_ => rfl
 | r :: l,h => by
  have hr:=h r List.mem_cons_self
  have e:es[r]? = some es[r]:=by simp [hr]
  rw [List.filterMap_cons,e]
  simp [CI es l (fun x hx => h x (List.mem_cons_of_mem _ hx))]
end
open PyProof.Rows
section
variable {prog:Program} {w:World} {A:Around} {E:Value→Shared→Prop} {s:Shared}
abbrev IK (prog:Program) (w:World) (h:Heap) (k:List Int) (a:Addr):Prop:=IsTupleKey (intKind prog w) h k a
abbrev tk (prog:Program) (w:World):HeapKind prog w (List Int):=tupleKind (intKind prog w)
theorem Et {n:Int} {v:Value} (h:(intKind prog w).is n v = true):∃ t,v = .int n t:=by
 cases v with
 | int m t =>
  have h2:(intKind prog w).is m (.int m t) = true:=intKind_is _ _ _ _
  have e:=(intKind prog w).inj _ _ _ h h2
  subst e
  exact ⟨t,rfl⟩
 | _ => exact absurd h (by simp [intKind,Value.isInt])
theorem GJ {ks:List Int} {vs:List Value} (h:ItemsAre (intKind prog w) ks vs):∀ v∈vs,∃ n t,v = .int n t:=by
 induction h with
 | nil => intro v hv; simp at hv
 | cons h1 _ ih =>
  intro v hv
  rcases List.mem_cons.mp hv with rfl | hv
  ·obtain ⟨t,e⟩:=Et h1
   exact ⟨_,t,e⟩
  ·exact ih v hv
theorem WY {k:List Int} {a:Addr} {Q:Bool→Shared→Prop} (hk:IK prog w s.heap k a) (h:Q true s):wpAny (model prog w) A (hashByValue 8 (.ref a)) Q E s:=by
 have hT:=hk.typeIs
 obtain ⟨o,items,n,ho,_,hd,hi⟩:=hk
 have hints:=GJ hi
 unfold hashByValue
 refine wpAny_bind (wpAny_specialOf hT PySem.F.slot_tuple_hash.lookup ?_)
 dsimp only
 refine wpAny_bind (wpAny_seqItems ho hd ?_)
 show wpAny _ _ ((forIn items _ _) >>= _) _ _ s
 rw [← Array.forIn_toList]
 refine wpAny_bind (wpAny_forIn_list _ (fun rest r s' => r.1 = none∧s' = s∧∀ v∈rest,∃ n t,v = Value.int n t) _ ?_ ?_ _ _ ⟨rfl,rfl,hints⟩)
 ·rintro v rest r s' ⟨hr,rfl,hall⟩
  obtain ⟨n,t,rfl⟩:=hall v List.mem_cons_self
  refine wpAny_bind (wpAny_pure ?_)
  simp only [Bool.not_true,Bool.false_eq_true,if_false]
  exact wpAny_pure ⟨rfl,rfl,fun u hu' => hall u (List.mem_cons_of_mem _ hu')⟩
 ·rintro ⟨r1,r2⟩ s' ⟨hr,rfl,_⟩
  simp only at hr
  subst hr
  exact wpAny_pure h
theorem MB {k:List Int} {a:Addr} {Q:Bool→Shared→Prop} (hk:IK prog w s.heap k a) (h:Q false s):wpAny (model prog w) A (ofAClassStatement 8 (.ref a)) Q E s:=by
 have hT:=hk.typeIs
 obtain ⟨o,items,n,ho,hc,hd,hi⟩:=hk
 have hints:=GJ hi
 unfold ofAClassStatement
 refine wpAny_bind (wpAny_typeOf hT ?_)
 dsimp only
 rw [if_pos (by decide)]
 refine wpAny_bind (wpAny_pure ?_)
 simp only [Bool.not_true,Bool.false_eq_true,if_false]
 refine wpAny_bind (wpAny_seqItems ho hd ?_)
 show wpAny _ _ ((forIn items _ _) >>= _) _ _ s
 rw [← Array.forIn_toList]
 refine wpAny_bind (wpAny_forIn_list _ (fun rest r s' => r.1 = none∧s' = s∧∀ v∈rest,∃ n t,v = Value.int n t) _ ?_ ?_ _ _ ⟨rfl,rfl,hints⟩)
 ·rintro v rest r s' ⟨hr,rfl,hall⟩
  obtain ⟨n,t,rfl⟩:=hall v List.mem_cons_self
  unfold ofAClassStatement
  refine wpAny_bind (wpAny_pure ?_)
  simp only [Bool.false_eq_true,if_false]
  exact wpAny_pure ⟨rfl,rfl,fun u hu' => hall u (List.mem_cons_of_mem _ hu')⟩
 ·rintro ⟨r1,r2⟩ s' ⟨hr,rfl,_⟩
  simp only at hr
  subst hr
  exact wpAny_pure h
theorem Rf {k:List Int} {a:Addr} {Q:Bool→Shared→Prop} {l:List Value} (hk:IK prog w s.heap k a) (hl:∀ v∈l,∃ k' b,v = .ref b∧IK prog w s.heap k' b) (h:Q false s):wpAny (model prog w) A (searchCouldBeSeen (.ref a) l) Q E s:=by
 unfold searchCouldBeSeen
 refine wpAny_bind (wpAny_forIn_list _ (fun rest r s' => r.1 = none∧s' = s∧∀ v∈rest,∃ k' b,v = Value.ref b∧IK prog w s.heap k' b) _ ?_ ?_ _ _ ⟨rfl,rfl,hl⟩)
 ·rintro v rest r s' ⟨hr,rfl,hall⟩
  obtain ⟨k',b,rfl,hb⟩:=hall v List.mem_cons_self
  have go:∀ u∈rest,∃ k' b,u = Value.ref b∧IK prog w s'.heap k' b:=fun u hu' => hall u (List.mem_cons_of_mem _ hu')
  dsimp only
  split
  ·exact wpAny_pure ⟨rfl,rfl,go⟩
  ·refine wpAny_bind (wpAny_eqIsQuiet_tuple hk ?_)
   simp only [Bool.not_true,Bool.false_eq_true,if_false]
   refine wpAny_bind (wpAny_eqIsQuiet_tuple hb ?_)
   simp only [Bool.not_true,Bool.false_eq_true,if_false]
   refine wpAny_bind (MB hk ?_)
   simp only [Bool.false_eq_true,if_false]
   refine wpAny_bind (MB hb ?_)
   simp only [Bool.false_eq_true,if_false]
   exact wpAny_pure ⟨rfl,rfl,go⟩
 ·rintro ⟨r1,r2⟩ s' ⟨hr,rfl,_⟩
  simp only at hr
  subst hr
  exact wpAny_pure h
end
local macro_rules | `(tactic| omega) => `(tactic| first | lia | omega)
open PySem PySem.SetTable PyProof.Rows
section
variable {prog:Program} {w:World} {A:Around} {E:Value→Shared→Prop} {s:Shared}
def NI (xs:List (List Int × Addr)) (prog:Program) (w:World):List (Int × Value):=xs.map fun p => ((tk prog w).hash p.1,Value.ref p.2)
structure SetD (prog:Program) (w:World) (h:Heap) (a:Addr) (xs:List (List Int × Addr)) (o:Obj) (es:Array (Int × Value)) (ep:Nat) (t:SetTable):Prop where
 get:h.get? a = some o
 ex:o.ExactSet
 dat:o.data = .set es ep t
 es:es.toList = NI xs prog w
 key:∀ (i:Nat) (k:List Int) (x:Addr),xs[i]? = some (k,x)→IK prog w h k x
 nd:(xs.map (·.1)).Nodup
 tb:Tb t (xs.map fun p => (tk prog w).hash p.1)
 pl:t.plain = true
 room:xs.length * 5 < t.mask * 3
 led:t.led = !w.params.followText "set-order"
variable {a:Addr} {xs:List (List Int × Addr)} {o:Obj} {es:Array (Int × Value)} {ep:Nat} {t:SetTable}
theorem SetD.size (S:SetD prog w s.heap a xs o es ep t):es.size = xs.length:=by
 rw [← Array.length_toList,S.es]; simp [NI]
theorem SetD.fits (S:SetD prog w s.heap a xs o es ep t):t.fits es.size = true:=by
 have h1:=S.tb.size
 have h2:=S.room
 have h3:t.fill = t.place.size:=by unfold SetTable.fill; rw [S.tb.dum]; rfl
 rw [List.length_map] at h1
 unfold SetTable.fits
 rw [h3,S.size,h1]
 simp only [beq_self_eq_true,Bool.true_and,decide_eq_true_eq]
 omega
theorem SetD.len (S:SetD prog w s.heap a xs o es ep t):(xs.map fun p => (tk prog w).hash p.1).length≤t.mask:=by
 have:=S.room
 rw [List.length_map]; omega
theorem SetD.at (S:SetD prog w s.heap a xs o es ep t) {i:Nat} {k:List Int} {x:Addr} (h:xs[i]? = some (k,x)):es[i]? = some ((tk prog w).hash k,.ref x):=by
 have:es[i]? = es.toList[i]?:=by simp
 rw [this,S.es,NI,List.getElem?_map,h]
 rfl
theorem SetD.of_at (S:SetD prog w s.heap a xs o es ep t) {i:Nat} (h:i < xs.length):∃ k x,xs[i]? = some (k,x):=⟨_,_,by simp [h]; rfl⟩
abbrev FY:Array (Int × Value)→Nat→Int:=PySem.W.hashAt
theorem SetD.hash (S:SetD prog w s.heap a xs o es ep t) {i:Nat} {k:List Int} {x:Addr} (h:xs[i]? = some (k,x)):FY es i = (tk prog w).hash k:=by
 show ((es[i]?).map Prod.fst).getD 0 = _
 rw [S.at h]
 rfl
theorem Jj (S:SetD prog w s.heap a xs o es ep t) (hu:A.units < cLine) {k:List Int} {x:Addr} (hk:IK prog w s.heap k x) {Q:SetFound→Shared→Prop}
  (hT:∀ (i:Nat) (y:Addr),xs[i]? = some (k,y)→Q (.there none) s)
  (hF:(∀ (i:Nat) (y:Addr),xs[i]?≠some (k,y))→∀ n,¬ Je t (advN t.mask n (start t.mask ((tk prog w).hash k))).j→(∀ c,c < n→Je t (advN t.mask c (start t.mask ((tk prog w).hash k))).j)→Q (.free (advN t.mask n (start t.mask ((tk prog w).hash k))).j false) s) :
  ∀ (fuel c:Nat) (stand:Option Probe),stand.getD (t.probeStart ((tk prog w).hash k)) = advN t.mask c (start t.mask ((tk prog w).hash k)) →
   (∀ c',c' < c→Je t (advN t.mask c' (start t.mask ((tk prog w).hash k))).j∧∀ (i:Nat) (y:Addr),t.place[i]? = some (advN t.mask c' (start t.mask ((tk prog w).hash k))).j→xs[i]?≠some (k,y)) →
   (∃ N,c≤N∧¬ Je t (advN t.mask N (start t.mask ((tk prog w).hash k))).j∧N - c < fuel) →
   wpAny (model prog w) A (setSearchFrom a (.ref x) ((tk prog w).hash k) true fuel stand) Q E s:=by
 intro fuel
 induction fuel with
 | zero => rintro c stand _ _ ⟨N,_,_,h⟩; exact absurd h (Nat.not_lt_zero _)
 | succ fuel ih =>
  rintro c stand hst hpre ⟨N,hcN,hN,hfu⟩
  have hsz:t.place.size = xs.length:=by have:=S.tb.size; rwa [List.length_map] at this
  unfold setSearchFrom
  refine wpAny_bind (wpAny_setState_of S.get S.dat S.fits ?_)
  dsimp only
  have hgw:t.gaveWay = false:=by unfold SetTable.gaveWay; rw [S.tb.odd]; rfl
  rw [hgw]
  simp only [Bool.false_eq_true,if_false]
  obtain ⟨n,hn,hstop⟩:=Jg S.tb S.len (p:=advN t.mask c (start t.mask ((tk prog w).hash k))) (Pr.start _ _).advN (FY es) ((tk prog w).hash k)
  rw [hst]
  have hadd:∀ m,advN t.mask m (advN t.mask c (start t.mask ((tk prog w).hash k))) = advN t.mask (c + m) (start t.mask ((tk prog w).hash k)):=fun m => (Br _ _ _ _).symm
  have pre2:∀ c',c' < c + n→Je t (advN t.mask c' (start t.mask ((tk prog w).hash k))).j∧∀ (i:Nat) (y:Addr),t.place[i]? = some (advN t.mask c' (start t.mask ((tk prog w).hash k))).j→xs[i]?≠some (k,y):=fun c' hc' => by
   by_cases hlt:c' < c
   ·exact hpre c' hlt
   ·obtain ⟨i,h1,h2⟩:=hn (c' - c) (by omega)
    rw [hadd,show c + (c' - c) = c' by omega] at h1
    refine ⟨⟨i,h1⟩,fun i' y h1' e => ?_⟩
    have:i' = i:=by
     rw [← Bq S.tb.ris h1',← Bq S.tb.ris h1]
    subst this
    exact h2 (S.hash e)
  obtain ⟨met,hmet⟩:∃ met,t.probe (FY es) ((tk prog w).hash k) (advN t.mask c (start t.mask ((tk prog w).hash k))) = some met:=by
   rcases hstop with ⟨_,hp⟩ | ⟨_,_,_,hp⟩ <;> exact ⟨_,hp⟩
  split
  case h_2 heq => exact absurd hmet (heq met)
  rename_i met' heq
  have heq:t.probe (FY es) ((tk prog w).hash k) (advN t.mask c (start t.mask ((tk prog w).hash k))) = some met':=heq
  rcases hstop with ⟨hf,hp⟩ | ⟨i,h1,h2,hp⟩
  ·rw [hp] at heq
   cases heq
   dsimp only
   rw [Dr]
   show wpAny _ _ (pure _) _ _ s
   rw [hadd] at hf ⊢
   refine wpAny_pure (hF (fun i y e => ?_) (c + n) hf fun c' hc' => (pre2 c' hc').1)
   have hi:i < xs.length:=(List.getElem?_eq_some_iff.mp e).1
   have hpl:t.place[i]? = some (t.place[i]'(by omega)):=by simp [show i < t.place.size by omega]
   obtain ⟨n',e1,w1⟩:=S.tb.fnd i _ ((tk prog w).hash k) hpl (by rw [List.getElem?_map,e]; rfl)
   by_cases hlt:n' < c + n
   ·exact (pre2 n' hlt).2 i y (by rw [e1]; exact hpl) e
   ·by_cases heq:n' = c + n
    ·subst heq
     exact hf ⟨i,by rw [e1]; exact hpl⟩
    ·exact hf (w1 (c + n) (by omega))
  ·rw [hp] at heq
   cases heq
   dsimp only
   rw [hadd] at h1
   have hi:i < xs.length:=by rw [← hsz]; exact (Array.getElem?_eq_some_iff.mp h1).1
   obtain ⟨k',y,ek⟩:=S.of_at hi
   have hky:=S.key i k' y ek
   have seen:∀ v,v∈(es.filter fun e => e.1 == (tk prog w).hash k).toList.map (·.2)→∃ k' b,v = Value.ref b∧IK prog w s.heap k' b:=fun v hv => by
    obtain ⟨⟨h',v'⟩,hm,rfl⟩:=List.mem_map.mp hv
    have hm:(h',v')∈es.toList:=by
     have:=hm
     simp only [Array.toList_filter] at this
     exact (List.mem_filter.mp this).1
    rw [S.es,NI] at hm
    obtain ⟨⟨k2,b⟩,hb,eb⟩:=List.mem_map.mp hm
    cases eb
    obtain ⟨j,hj⟩:=List.getElem?_of_mem hb
    exact ⟨k2,b,rfl,S.key j k2 b hj⟩
   cases hled:t.led with
   | true =>
    simp only [Bool.not_true,Bool.false_eq_true,if_false]
    rw [S.at ek]
    dsimp only
    refine wpAny_bind (wpAny_holding (wpAny_eqBool_tuple hu hky hk ?_))
    refine wpAny_bind (wpAny_setState_of S.get S.dat S.fits ?_)
    dsimp only
    by_cases hkk:k' = k
    ·subst hkk
     rw [decide_eq_true rfl]
     exact wpAny_pure (hT i y ek)
    ·rw [decide_eq_false hkk]
     have hsm:t.sameMemory t.moves t.mask = some true:=by unfold SetTable.sameMemory; rw [if_pos (by simp)]
     rw [hsm]
     simp only [Bool.and_false,Bool.false_eq_true,if_false,if_true]
     rw [hadd,S.tb.live h1]
     dsimp only
     rw [S.at ek]
     dsimp only
     have hss:isSame (Value.ref y) (Value.ref y) = pure true:=by
      show (if (y == y) = true then _ else _) = _
      rw [if_pos (beq_self_eq_true y)]
     rw [hss]
     refine wpAny_bind (wpAny_pure ?_)
     simp only [if_true]
     refine wpAny_bind (wpAny_pure ?_)
     dsimp only
     rw [hadd]
     refine ih (c + n + 1) _ rfl (fun c' hc' => ?_) ?_
     ·by_cases hlt:c' < c + n
      ·exact pre2 c' hlt
      ·have:c' = c + n:=by omega
       subst this
       refine ⟨⟨i,h1⟩,fun i' y' h1' e => ?_⟩
       have:i' = i:=by
        rw [← Bq S.tb.ris h1',← Bq S.tb.ris h1]
       subst this
       rw [ek] at e
       exact hkk (congrArg Prod.fst (Option.some.inj e))
     ·have hle:c + n < N:=by
       rcases Nat.lt_trichotomy (c + n) N with hlt | heq | hgt
       ·exact hlt
       ·exact absurd ⟨i,by rw [← heq]; exact h1⟩ hN
       ·exact absurd (pre2 N hgt).1 hN
      exact ⟨N,by omega,hN,by omega⟩
   | false =>
    simp only [Bool.not_false,if_true]
    refine wpAny_bind (Rf hk seen ?_)
    simp only [Bool.false_eq_true,if_false]
    rw [S.at ek]
    dsimp only
    refine wpAny_bind (wpAny_holding (wpAny_eqBool_tuple hu hky hk ?_))
    refine wpAny_bind (wpAny_setState_of S.get S.dat S.fits ?_)
    dsimp only
    by_cases hkk:k' = k
    ·subst hkk
     rw [decide_eq_true rfl]
     exact wpAny_pure (hT i y ek)
    ·rw [decide_eq_false hkk]
     have hsm:t.sameMemory t.moves t.mask = some true:=by unfold SetTable.sameMemory; rw [if_pos (by simp)]
     rw [hsm]
     simp only [Bool.and_false,Bool.false_eq_true,if_false,if_true]
     rw [hadd,S.tb.live h1]
     dsimp only
     rw [S.at ek]
     dsimp only
     have hss:isSame (Value.ref y) (Value.ref y) = pure true:=by
      show (if (y == y) = true then _ else _) = _
      rw [if_pos (beq_self_eq_true y)]
     rw [hss]
     refine wpAny_bind (wpAny_pure ?_)
     simp only [if_true]
     refine wpAny_bind (wpAny_pure ?_)
     dsimp only
     rw [hadd]
     refine ih (c + n + 1) _ rfl (fun c' hc' => ?_) ?_
     ·by_cases hlt:c' < c + n
      ·exact pre2 c' hlt
      ·have:c' = c + n:=by omega
       subst this
       refine ⟨⟨i,h1⟩,fun i' y' h1' e => ?_⟩
       have:i' = i:=by
        rw [← Bq S.tb.ris h1',← Bq S.tb.ris h1]
       subst this
       rw [ek] at e
       exact hkk (congrArg Prod.fst (Option.some.inj e))
     ·have hle:c + n < N:=by
       rcases Nat.lt_trichotomy (c + n) N with hlt | heq | hgt
       ·exact hlt
       ·exact absurd ⟨i,by rw [← heq]; exact h1⟩ hN
       ·exact absurd (pre2 N hgt).1 hN
      exact ⟨N,by omega,hN,by omega⟩
end
end StT
namespace StT
local macro_rules | `(tactic| omega) => `(tactic| first | lia | omega)
open PySem PySem.SetTable PyProof.Rows
section
variable {prog:Program} {w:World} {A:Around} {E:Value→Shared→Prop} {s:Shared}
variable {a:Addr} {xs:List (List Int × Addr)} {o:Obj} {es:Array (Int × Value)} {ep:Nat} {t:SetTable}
def SetX (prog:Program) (w:World) (h:Heap) (a:Addr) (xs:List (List Int × Addr)):Prop:=∃ o es ep t,SetD prog w h a xs o es ep t
theorem OZ {h:Heap} {k:List Int} {x:Addr} (hk:IK prog w h k x) (hg:h.get? a = some o) (he:o.ExactSet):x≠a:=by
 rintro rfl
 obtain ⟨o',items,n,ho,hc,_⟩:=hk
 rw [hg] at ho
 cases ho
 rw [he.1] at hc
 exact absurd hc (by decide)
theorem Co {h h':Heap} {k:List Int} {x:Addr} (hk:IK prog w h k x) (hs:∀ u,h.get? x = some u→h'.get? x = some u):IK prog w h' k x:=by
 obtain ⟨o',items,n,ho,hc,hd,hi⟩:=hk
 exact ⟨o',items,n,hs _ ho,hc,hd,hi⟩
theorem Ha (hg:s.heap.get? a = some o) (hd:o.data = .set es ep t) (es':Array (Int × Value)) (t':SetTable):(s.heap.update a (Obj.putSet es' t')).get? a = some { o with data:=.set es' (ep + 1) t' }:=by
 have:=Heap.get?_update_self (Obj.putSet es' t') hg (by rw [putSet_of es' t' hd]; rfl)
 rw [putSet_of es' t' hd] at this; exact this
theorem Ks:(NI xs prog w).length = xs.length:=by simp [NI]
theorem Oa {n:Nat} (hg:s.heap.get? a = some o) (he:o.ExactSet) (hd:o.data = .set es ep t) (hes:es.toList = NI xs prog w) (hkey:∀ (i:Nat) (k:List Int) (x:Addr),xs[i]? = some (k,x)→IK prog w s.heap k x)
  (hnd:(xs.map (·.1)).Nodup) (htb:Tb t (xs.map fun p => (tk prog w).hash p.1)) (hpl:t.plain = true) (hled:t.led = !w.params.followText "set-order") (hn:xs.length = n + 1) (h1:n * 5 < t.mask * 3) (h2:t.mask * 3≤(n + 1) * 5) (h3:n < 300) {Q:Unit→Shared→Prop}
  (h:∀ h' xs',Heap.SameBut a s.heap h'→SetX prog w h' a xs'→(∀ p,p∈xs'↔p∈xs)→xs'.length = xs.length→Q () { s with heap:=h' }):wpAny (model prog w) A (setRelay a (grown (n + 1))) Q E s:=by
 obtain ⟨m1,m2,m3,m4⟩:=NH htb.mask h1 h2 h3
 have hsz:es.size = n + 1:=by rw [← Array.length_toList,hes,Ks,hn]
 have hfill:t.fill = t.place.size:=by unfold SetTable.fill; rw [htb.dum]; rfl
 have hps:t.place.size = n + 1:=by have:=htb.size; rw [List.length_map,hn] at this; exact this
 have hlow:=htb.low
 have hfit:t.fits es.size = true:=by
  unfold SetTable.fits
  rw [hfill,hsz,hps]
  simp only [beq_self_eq_true,Bool.true_and,decide_eq_true_eq]
  omega
 unfold setRelay
 refine wpAny_bind (wpAny_setState_of hg hd hfit ?_)
 dsimp only
 rw [if_neg (by rw [sizeLine_eq]; omega)]
 refine wpAny_bind ?_
 obtain ⟨t',order,el,q1,q2,q3,q4,q5,q6,q7,q8,q9⟩:=Re m1 (es.map (·.1)) (by rw [Array.size_map,hsz]; omega) t.finger (t.movedTo (sizeAbove (grown (n + 1)) - 1)) t.led t.plain
 rw [Array.size_map] at q5 q6 q8
 have el':t.relaid (es.map (·.1)) (grown (n + 1)) = some (t',order):=el
 rw [el']
 have hfm:(order.filterMap (es[·]?)).toList = order.toList.filterMap fun r => es[r]?:=by simp
 have hmem:∀ r∈order.toList,r < es.size:=fun r hr => by
  obtain ⟨i,hi⟩:=List.getElem?_of_mem hr
  exact q6 i r (by simpa using hi)
 have hes':(order.filterMap (es[·]?)).size = es.size:=by
  rw [← Array.length_toList,hfm,CI es _ hmem,Array.length_toList,q5]
 show wpAny _ _ (if ((order.filterMap fun r => es[r]?).size != es.size) = true then _ else pure (order.filterMap fun r => es[r]?,t')) _ _ s
 rw [if_neg (by rw [hes']; simp)]
 refine wpAny_pure ?_
 dsimp only
 refine wpAny_storeSet_of hg hd ?_ (by rw [hes',hsz,sizeLine_eq]; omega)
 generalize hE:order.filterMap (es[·]?) = es' at *
 have hxs:∀ r,r < es.size→∃ p,xs[r]? = some p:=fun r hr => ⟨_,by simp [show r < xs.length by rw [hn]; omega]; rfl⟩
 have hfx:(order.toList.filterMap fun r => xs[r]?).length = es.size:=by
  have:=CI xs.toArray order.toList (fun r hr => by rw [List.size_toArray,hn]; have:=hmem r hr; omega)
  simp only [List.getElem?_toArray] at this
  rw [this,Array.length_toList,q5]
 have at_:∀ i:Nat,(order.toList.filterMap fun r => xs[r]?)[i]? = (order.toList[i]?).bind fun r => xs[r]?:=fun i => by
  have:=Cm xs.toArray order.toList (fun r hr => by rw [List.size_toArray,hn]; have:=hmem r hr; omega) i
  simpa only [List.getElem?_toArray] using this
 have mem:∀ p,p∈(order.toList.filterMap fun r => xs[r]?)↔p∈xs:=fun p => by
  rw [List.mem_filterMap]
  constructor
  ·rintro ⟨r,_,e⟩; exact List.mem_of_getElem? e
  ·intro hp
   obtain ⟨r,hr⟩:=List.getElem?_of_mem hp
   have hrl:r < es.size:=by rw [hsz,← hn]; exact (List.getElem?_eq_some_iff.mp hr).1
   obtain ⟨i,hi⟩:=q8 r hrl
   exact ⟨r,List.mem_of_getElem? (i:=i) (by simpa using hi),hr⟩
 have hesx:∀ i:Nat,es[i]? = (xs[i]?).map fun p => ((tk prog w).hash p.1,Value.ref p.2):=fun i => by
  have:es[i]? = es.toList[i]?:=by simp
  rw [this,hes,NI,List.getElem?_map]
 refine h _ (order.toList.filterMap fun r => xs[r]?) (Heap.SameBut.update ..) ⟨_,es',ep + 1,t',⟨Ha hg hd es' t',he,rfl,?_,fun i k x e => ?_,?_,?_,?_,?_,?_⟩⟩ mem (by rw [hfx,hsz,hn])
 ·apply List.ext_getElem?
  intro i
  rw [hfm,Cm es _ hmem,NI,List.getElem?_map,at_]
  cases order.toList[i]? with
  | none => rfl
  | some r => exact hesx r
 ·have hp:(k,x)∈xs:=(mem _).mp (List.mem_of_getElem? e)
  obtain ⟨r,hr⟩:=List.getElem?_of_mem hp
  have ik:=hkey r k x hr
  exact Co ik fun u hu => ((Heap.SameBut.update s.heap a (Obj.putSet es' t')).2 x (OZ ik hg he)).trans hu
 ·rw [List.nodup_iff_pairwise_ne]
  refine List.pairwise_iff_getElem.mpr fun i j hi hj hij e => ?_
  rw [List.length_map] at hi hj
  have e1:=at_ i
  have e2:=at_ j
  rw [List.getElem?_eq_getElem hi] at e1
  rw [List.getElem?_eq_getElem hj] at e2
  rw [List.getElem_map,List.getElem_map] at e
  cases r1:order.toList[i]? with
  | none => rw [r1] at e1; cases e1
  | some r =>
   cases r2:order.toList[j]? with
   | none => rw [r2] at e2; cases e2
   | some r' =>
    rw [r1] at e1
    rw [r2] at e2
    have e1:xs[r]? = some _:=e1.symm
    have e2:xs[r']? = some _:=e2.symm
    obtain ⟨l1,g1⟩:=List.getElem?_eq_some_iff.mp e1
    obtain ⟨l2,g2⟩:=List.getElem?_eq_some_iff.mp e2
    have ee:(xs.map (·.1))[r]'(by simpa using l1) = (xs.map (·.1))[r']'(by simpa using l2):=by rw [List.getElem_map,List.getElem_map,g1,g2]; exact e
    have nd:=List.nodup_iff_pairwise_ne.mp hnd
    have:r = r':=by
     rcases Nat.lt_trichotomy r r' with hlt | heq | hgt
     ·exact absurd ee (List.pairwise_iff_getElem.mp nd r r' _ _ hlt)
     ·exact heq
     ·exact absurd ee.symm (List.pairwise_iff_getElem.mp nd r' r _ _ hgt)
    subst this
    have:=q7 i j r (by simpa using r1) (by simpa using r2)
    omega
 ·have:(order.toList.filterMap fun r => xs[r]?).map (fun p => (tk prog w).hash p.1) = order.toList.map fun r => (es.map (·.1)).getD r 0:=by
   apply List.ext_getElem?
   intro i
   rw [List.getElem?_map,at_,List.getElem?_map]
   cases hr:order.toList[i]? with
   | none => rfl
   | some r =>
    have hrl:=hmem r (List.mem_of_getElem? hr)
    obtain ⟨p,hp⟩:=hxs r hrl
    show (xs[r]?).map _ = some ((es.map (·.1)).getD r 0)
    rw [hp]
    have e3:=hesx r
    rw [hp] at e3
    obtain ⟨l,g⟩:=Array.getElem?_eq_some_iff.mp e3
    simp [Array.getD,hrl,g]
  rw [this]
  exact q9
 ·rw [q3]; exact hpl
 ·rw [hfx,hsz,q1]; exact m3
 ·rw [q2]; exact hled
end
end StT
namespace StT
local macro_rules | `(tactic| omega) => `(tactic| first | lia | omega)
open PySem PySem.SetTable PyProof.Rows
section
variable {prog:Program} {w:World} {A:Around} {E:Value→Shared→Prop} {s:Shared}
variable {a:Addr} {xs:List (List Int × Addr)} {o:Obj} {es:Array (Int × Value)} {ep:Nat} {t:SetTable}
theorem UY (S:SetX prog w s.heap a xs) (hu:A.units < cLine) {k:List Int} {x:Addr} (hk:IK prog w s.heap k x) (hl:xs.length < 300) {Q:Bool→Shared→Prop}
  (hT:∀ y,(k,y)∈xs→Q false s)
  (hF:(∀ y,(k,y) ∉ xs)→∀ h' xs',Heap.SameBut a s.heap h'→SetX prog w h' a xs'→(∀ p,p∈xs'↔p∈xs∨p = (k,x))→xs'.length = xs.length + 1→Q true { s with heap:=h' }) :
  wpAny (model prog w) A (setAddHashed a (.ref x) ((tk prog w).hash k)) Q E s:=by
 obtain ⟨o,es,ep,t,S⟩:=S
 unfold setAddHashed setAddHashedIn
 refine wpAny_holding (wpAny_bind (wpAny_setState_of S.get S.dat S.fits ?_))
 dsimp only
 have hbs:byScan (.ref x) es = false:=rfl
 rw [hbs]
 simp only [Bool.false_eq_true,if_false]
 obtain ⟨e,he,hne⟩:=S.tb.room S.len
 obtain ⟨N,hN,eN⟩:=TN S.tb.mask (Pr.start t.mask ((tk prog w).hash k)) he
 have hm511:t.mask≤511:=by rcases S.tb.mask with h | h | h | h <;> omega
 refine wpAny_bind (Jj S hu hk (fun i y e => ?_) (fun hno n hf hw => ?_) 100000 0 none (OW t _) (fun c hc => absurd hc (Nat.not_lt_zero _)) ⟨N,Nat.zero_le _,by rw [eN]; exact hne,by omega⟩)
 ·dsimp only
  exact wpAny_pure (hT y (List.mem_of_getElem? e))
 ·dsimp only
  refine wpAny_bind (wpAny_setState_of S.get S.dat S.fits ?_)
  dsimp only
  obtain ⟨p1,p2,p3,p4,p5,p6⟩:=S.tb.put hf hw
  generalize hJ:(advN t.mask n (start t.mask ((tk prog w).hash k))).j = J at *
  generalize hput:t.put J = tp at *
  obtain ⟨t1,q⟩:=tp
  dsimp only at p1 p2 p3 p4 p5 p6 ⊢
  rw [List.length_map] at p2
  rw [p4,S.pl]
  simp only [if_true]
  refine wpAny_bind (WY hk ?_)
  simp only [if_true]
  refine wpAny_bind (wpAny_storeSet_of S.get S.dat ?_ (by
   rw [Do _ _ _ (by rw [S.size]; exact p2),S.size,sizeLine_eq]; omega))
  have hes1:(insertAt es q ((tk prog w).hash k,.ref x)).toList = NI (xs.take q ++ (k,x) :: xs.drop q) prog w:=by
   rw [BJ,S.es]
   simp [NI]
  have hmem:∀ p,p∈xs.take q ++ (k,x) :: xs.drop q↔p∈xs∨p = (k,x):=fun p => by
   rw [List.mem_append,List.mem_cons]
   constructor
   ·rintro (h | h | h)
    ·exact .inl (List.mem_of_mem_take h)
    ·exact .inr h
    ·exact .inl (List.mem_of_mem_drop h)
   ·rintro (h | h)
    ·rw [← List.take_append_drop q xs] at h
     rcases List.mem_append.mp h with h | h
     ·exact .inl h
     ·exact .inr (.inr h)
    ·exact .inr (.inl h)
  have hlen:(xs.take q ++ (k,x) :: xs.drop q).length = xs.length + 1:=by
   rw [List.length_append,List.length_cons,List.length_take,List.length_drop]; omega
  have hnod:((xs.take q ++ (k,x) :: xs.drop q).map (·.1)).Nodup:=by
   have hxs:(xs.take q).map (·.1) ++ (xs.drop q).map (·.1) = xs.map (·.1):=by rw [← List.map_append,List.take_append_drop]
   have nd:=S.nd
   rw [← hxs] at nd
   rw [List.map_append,List.map_cons]
   have hkn:k ∉ (xs.take q).map (·.1) ++ (xs.drop q).map (·.1):=by
    rw [hxs]
    intro hm
    obtain ⟨⟨k',y⟩,hp,rfl⟩:=List.mem_map.mp hm
    obtain ⟨i,hi⟩:=List.getElem?_of_mem hp
    exact hno i y hi
   rw [List.mem_append,not_or] at hkn
   obtain ⟨n1,n2,n3⟩:=List.nodup_append.mp nd
   refine List.nodup_append.mpr ⟨n1,List.nodup_cons.mpr ⟨hkn.2,n2⟩,fun b hb c hc => ?_⟩
   rcases List.mem_cons.mp hc with rfl | hc
   ·rintro rfl; exact hkn.1 hb
   ·exact n3 b hb c hc
  have hsb:=Heap.SameBut.update s.heap a (Obj.putSet (insertAt es q ((tk prog w).hash k,.ref x)) t1)
  have hg1:=Ha (s:=s) S.get S.dat (insertAt es q ((tk prog w).hash k,.ref x)) t1
  have hkey1:∀ (i:Nat) (k':List Int) (x':Addr),(xs.take q ++ (k,x) :: xs.drop q)[i]? = some (k',x')→IK prog w (s.heap.update a (Obj.putSet (insertAt es q ((tk prog w).hash k,.ref x)) t1)) k' x':=fun i k' x' e => by
   have ik:IK prog w s.heap k' x':=by
    rcases (hmem _).mp (List.mem_of_getElem? e) with h | h
    ·obtain ⟨j,hj⟩:=List.getElem?_of_mem h
     exact S.key j k' x' hj
    ·cases h; exact hk
   exact Co ik fun u hu => (hsb.2 x' (OZ ik S.get S.ex)).trans hu
  have htb1:Tb t1 ((xs.take q ++ (k,x) :: xs.drop q).map fun p => (tk prog w).hash p.1):=by
   simpa using p1
  have hno':∀ y,(k,y) ∉ xs:=fun y hy => by
   obtain ⟨i,hi⟩:=List.getElem?_of_mem hy
   exact hno i y hi
  have hfill:t1.fill = xs.length + 1:=by
   unfold SetTable.fill
   rw [htb1.dum]
   have:=htb1.size
   rw [List.length_map,hlen] at this
   rw [this]; rfl
  have hroom:=S.room
  simp only [Bool.not_false,Bool.true_and]
  cases htf:t1.tooFull with
  | true =>
   simp only [if_true]
   have htf':t1.mask * 3≤(xs.length + 1) * 5:=by
    unfold SetTable.tooFull at htf
    rw [hfill] at htf
    simpa using htf
   rw [S.size]
   refine wpAny_bind (Oa (s:={ s with heap:=s.heap.update a (Obj.putSet (insertAt es q ((tk prog w).hash k,.ref x)) t1) }) hg1 S.ex rfl hes1 hkey1 hnod htb1 (by rw [p4]; exact S.pl) (by rw [p5]; exact S.led) hlen (by rw [p3]; exact hroom) htf' hl fun h' xs' sb sx mm ll => ?_)
   refine wpAny_pure (hF hno' h' xs' (hsb.trans sb) sx (fun p => (mm p).trans (hmem p)) (ll.trans hlen))
  | false =>
   simp only [Bool.false_eq_true,if_false]
   refine wpAny_pure (hF hno' _ _ hsb ⟨_,_,_,t1,hg1,S.ex,rfl,hes1,hkey1,hnod,htb1,by rw [p4]; exact S.pl,?_,by rw [p5]; exact S.led⟩ hmem hlen)
   unfold SetTable.tooFull at htf
   rw [hfill] at htf
   rw [hlen]
   simpa using htf
def IU (ks:List (List Int × Addr)) (xs:List (List Int × Addr)):Prop:=(∀ p,p∈xs→p∈ks)∧(∀ k y,(k,y)∈ks→∃ y',(k,y')∈xs)∧xs.length≤ks.length
theorem SetX.keep' {h h':Heap} (S:SetX prog w h a xs) (ha:∀ u,h.get? a = some u→h'.get? a = some u) (hk:∀ k x,(k,x)∈xs→∀ u,h.get? x = some u→h'.get? x = some u):SetX prog w h' a xs:=by
 obtain ⟨o,es,ep,t,S⟩:=S
 exact ⟨o,es,ep,t,ha _ S.get,S.ex,S.dat,S.es,fun i k x e => Co (S.key i k x e) (hk k x (List.mem_of_getElem? e)),S.nd,S.tb,S.pl,S.room,S.led⟩
theorem Rg {I l:Addr} {items:Array Value} {ps:List (List Int × Addr)} (hh:A.in1.handled = none) (hne:l≠I) (hI:a≠I) (hla:a≠l) (hps:items.toList = ps.map fun p => Value.ref p.2) (hz:ps.length≤300) (hu:A.units + 1 < cLine)
  {R:Result→Shared→Prop}:∀ (n i:Nat) (s:Shared) (xs:List (List Int × Addr)),n = ps.length - i→i≤ps.length→s.heap.IsListIter I l i→s.heap.IsList l items→(∀ k x,(k,x)∈ps→IK prog w s.heap k x∧x≠I)→SetX prog w s.heap a xs→IU (ps.take i) xs →
   (∀ h' tk' xs',(∀ b u,b≠a→b≠I→s.heap.get? b = some u→h'.get? b = some u)→SetX prog w h' a xs'→IU ps xs'→R (.ok (.ret .none)) { s with heap:=h',toks:=tk' }) →
   codeAny (model prog w) A (.builtin "set.update.loop" ⟨[.ref a,.ref I],[]⟩) R s:=by
 have W:=Walks.list (A:=A.in1) (prog:=prog) (w:=w) hh I l hne items
 have hsz:items.size = ps.length:=by rw [← Array.length_toList,hps,List.length_map]
 intro n
 induction n with
 | zero =>
  intro i s xs hn hi hit hl hp hX hS hR
  have:i = ps.length:=by omega
  subst this
  rw [List.take_length] at hS
  refine codeAny_builtin PyProof.Rows.F.entry_set_update_loop ?_
  rw [Around.under_plainId PyProof.Rows.F.plain_set_update_loop _]
  show wpAny _ A.in1 (pyNext (.ref I) >>= _) _ _ s
  refine wpAny_bind (wpAny_pyNext_list_end hh hit hl (by simp [hsz]) fun h' hk => ?_)
  show wpAny _ A.in1 (ret Value.none) _ _ _
  refine wpAny_pure (hR h' s.toks xs (fun b u _ hb e => hk b u hb e) (hX.keep' (fun u e => hk a u hI e) fun k x hx u e => hk x u (hp k x (hS.1 _ hx)).2 e) hS)
 | succ n ih =>
  intro i s xs hn hi hit hl hp hX hS hR
  have hlt:i < ps.length:=by omega
  obtain ⟨⟨k,x⟩,hkx⟩:∃ p,ps[i]? = some p:=⟨_,by simp [hlt]; rfl⟩
  have hitem:items[i]? = some (.ref x):=by
   have:items[i]? = items.toList[i]?:=by simp
   rw [this,hps,List.getElem?_map,hkx]; rfl
  refine codeAny_builtin PyProof.Rows.F.entry_set_update_loop ?_
  rw [Around.under_plainId PyProof.Rows.F.plain_set_update_loop _]
  show wpAny _ A.in1 (pyNext (.ref I) >>= _) _ _ s
  refine wpAny_bind (wpAny_pyNext_list_item hit hl hitem fun h1 hit1 sb1 => ?_)
  have hk1:∀ b u,b≠I→s.heap.get? b = some u→h1.get? b = some u:=fun b u hb e => (sb1.2 b hb).trans e
  have kx:=hp k x (List.mem_of_getElem? hkx)
  have hX1:SetX prog w h1 a xs:=hX.keep' (fun u e => hk1 a u hI e) fun k x hx u e => hk1 x u (hp k x (List.mem_of_mem_take (hS.1 _ hx))).2 e
  have ik1:∀ k x,(k,x)∈ps→IK prog w h1 k x∧x≠I:=fun k x hx => ⟨Co (hp k x hx).1 fun u e => hk1 x u (hp k x hx).2 e,(hp k x hx).2⟩
  have hl1:h1.IsList l items:=hl.at fun o e => hk1 l o hne e
  show wpAny _ A.in1 (holding [Value.ref x] (setAdd a (.ref x)) >>= _) _ _ _
  refine wpAny_bind (wpAny_holding ?_)
  unfold setAdd
  refine wpAny_holding ?_
  refine wpAny_bind ((tk prog w).pyHash (s:={ s with heap:=h1 }) hu (ik1 k x (List.mem_of_getElem? hkx)).1 ?_)
  have htake:ps.take (i + 1) = ps.take i ++ [(k,x)]:=by rw [List.take_add_one,hkx]; rfl
  have hlen:xs.length≤i:=by have:=hS.2.2; rw [List.length_take] at this; omega
  refine UY (s:={ s with heap:=h1,toks:=s.toks + (tk prog w).draws k }) hX1 hu (ik1 k x (List.mem_of_getElem? hkx)).1 (by omega) (fun y hy => ?_) (fun hno h2 xs' sb sx mm ll => ?_)
  ·refine wpAny_pure ⟨plainId_quiet PyProof.Rows.F.plain_set_update_loop _,ih (i + 1) _ xs (by omega) (by omega) hit1 hl1 ik1 hX1 ⟨fun p hp' => by rw [htake]; exact List.mem_append_left _ (hS.1 p hp'),fun k' y' hm => ?_,by rw [htake,List.length_append]; have:=hS.2.2; omega⟩ fun h' tk' xs' kp sx so => hR h' tk' xs' (fun b u h1' h2' e => kp b u h1' h2' (hk1 b u h2' e)) sx so⟩
   rw [htake] at hm
   rcases List.mem_append.mp hm with hm | hm
   ·exact hS.2.1 k' y' hm
   ·cases List.mem_singleton.mp hm
    exact ⟨y,hy⟩
  ·have keep2:∀ b u,b≠a→h1.get? b = some u→h2.get? b = some u:=fun b u hb e => (sb.2 b hb).trans e
   have nea:∀ k x,(k,x)∈ps→x≠a:=fun k x hx => by
    obtain ⟨o,es,ep,t,S⟩:=hX1
    exact OZ (ik1 k x hx).1 S.get S.ex
   refine wpAny_pure ⟨plainId_quiet PyProof.Rows.F.plain_set_update_loop _,ih (i + 1) { s with heap:=h2,toks:=s.toks + (tk prog w).draws k } xs' (by omega) (by omega) (hit1.at fun o e => keep2 I o (Ne.symm hI) e) (hl1.at fun o e => keep2 l o (Ne.symm hla) e)
    (fun k x hx => ⟨Co (ik1 k x hx).1 fun u e => keep2 x u (nea k x hx) e,(hp k x hx).2⟩) sx ⟨fun p hp' => ?_,fun k' y' hm => ?_,by rw [htake,List.length_append,ll]; have:=hS.2.2; simp; omega⟩ fun h' tk' xs2 kp sx so => hR h' tk' xs2 (fun b u h1' h2' e => kp b u h1' h2' (keep2 b u h1' (hk1 b u h2' e))) sx so⟩
   ·rw [htake]
    rcases (mm p).mp hp' with h | h
    ·exact List.mem_append_left _ (hS.1 p h)
    ·exact List.mem_append_right _ (List.mem_singleton.mpr h)
   ·rw [htake] at hm
    rcases List.mem_append.mp hm with hm | hm
    ·obtain ⟨y2,hy2⟩:=hS.2.1 k' y' hm
     exact ⟨y2,(mm _).mpr (.inl hy2)⟩
    ·cases List.mem_singleton.mp hm
     exact ⟨x,(mm _).mpr (.inr rfl)⟩
end
end StT
namespace StT
open PySem PySem.SetTable PyProof.Rows
theorem Ak:Slot "set_iterator" "__next__" "set_iterator.__next__" :=
 .of (owner:="set_iterator") (n:="__next__") (by rw [typeLookup_type,builtinLookup_eq_fast]; kernel_rfl) (by decide +kernel) (by decide +kernel) (by decide +kernel)
  (by first | exact .inl (by decide +kernel) | exact .inr (by decide +kernel)) (by rw [isSubtype_type]; kernel_rfl)
theorem DE:Slot "set_iterator" "__iter__" "set_iterator.__iter__" :=
 .of (owner:="set_iterator") (n:="__iter__") (by rw [typeLookup_type,builtinLookup_eq_fast]; kernel_rfl) (by decide +kernel) (by decide +kernel) (by decide +kernel)
  (by first | exact .inl (by decide +kernel) | exact .inr (by decide +kernel)) (by rw [isSubtype_type]; kernel_rfl)
theorem CV:entryFor table "set_iterator.__next__" = some Builtin.«set_iterator.__next__»:=entryFor_of_tree (by kernel_rfl)
theorem Eu:entryFor table "set_iterator.__iter__" = some Builtin.«dict_keyiterator.__iter__» :=
 entryFor_alias (id':="dict_keyiterator.__iter__") (by kernel_rfl) (by first | rfl | decide +kernel | (unfold String.splitOn; simp +decide [String.splitOnAux])) (by decide +kernel) (by kernel_rfl)
theorem GK:entryFor table "set.__iter__" = some Builtin.«frozenset.__iter__» :=
 entryFor_alias (id':="frozenset.__iter__") (by kernel_rfl) (by first | rfl | decide +kernel | (unfold String.splitOn; simp +decide [String.splitOnAux])) (by decide +kernel) (by kernel_rfl)
theorem FQ:Manifest.owners.lookup (String.ofList ['r','o','t','a','r','e','t','i','_','t','e','s'].reverse) = some Manifest.sig_set_iterator:=by kernel_rfl
theorem DF (a:Value):argsOk "set_iterator.__next__" ⟨[a],[]⟩:=by
 unfold argsOk; rw [signature?_of (id:="set_iterator.__next__") (n:=['_','_','t','x','e','n','_','_']) (o:=['r','o','t','a','r','e','t','i','_','t','e','s']) (by kernel_rfl) FQ]; kernel_rfl
theorem FV (a:Value):argsOk "set_iterator.__iter__" ⟨[a],[]⟩:=by
 unfold argsOk; rw [signature?_of (id:="set_iterator.__iter__") (n:=['_','_','r','e','t','i','_','_']) (o:=['r','o','t','a','r','e','t','i','_','t','e','s']) (by kernel_rfl) FQ]; kernel_rfl
theorem MC {α:Type}:∀ (l:List α) (i:Nat) (h:i < l.length),(l[i] :: l.eraseIdx i).Perm l
 | x :: l,0,_ => List.Perm.refl _
 | x :: l,i + 1,h => by
  have ih:=MC l i (by simpa using h)
  simp only [List.getElem_cons_succ,List.eraseIdx_cons_succ]
  exact (List.Perm.swap _ _ _).trans (ih.cons x)
theorem MD {α:Type} (next:Nat→Nat):∀ (n k:Nat) (left:List α) (out:Array α),left.length = n→(pickOrder.go next n k left out).toList.Perm (out.toList ++ left)
 | 0,k,left,out,h => by
  have:left = []:=List.length_eq_zero_iff.mp h
  subst this
  simp [pickOrder.go]
 | n + 1,k,left,out,h => by
  have hlt:next k % left.length < left.length:=Nat.mod_lt _ (by omega)
  have e:left[next k % left.length]? = some left[next k % left.length]:=by simp [hlt]
  rw [pickOrder.go,e]
  have ih:=MD next n (k + 1) (left.eraseIdx (next k % left.length)) (out.push left[next k % left.length]) (by rw [List.length_eraseIdx_of_lt hlt]; omega)
  refine ih.trans ?_
  rw [Array.toList_push,List.append_assoc]
  exact List.Perm.append_left _ (MC left _ hlt)
theorem NJ {α:Type} (next:Nat→Nat) (xs:Array α):(pickOrder next xs).toList.Perm xs.toList:=by
 have:=MD next xs.size 0 xs.toList #[] (by simp)
 simp only [List.nil_append] at this
 exact this
def Ds (w:World) (a:Addr) (ep:Nat) (es:Array (Int × Value)):Array (Int × Value):=if w.params.followText "set-order" = true then pickOrder (w.params.setOrder a ep) es else es
theorem Hb (w:World) (a:Addr) (ep:Nat) (es:Array (Int × Value)):(Ds w a ep es).toList.Perm es.toList:=by
 unfold Ds
 split
 ·exact NJ _ _
 ·exact List.Perm.refl _
theorem Ev (w:World) (a:Addr) (ep:Nat) (es:Array (Int × Value)):(Ds w a ep es).size = es.size:=by
 rw [← Array.length_toList,← Array.length_toList]; exact (Hb w a ep es).length_eq
theorem Kt {xs:Array Nat} (r:OV xs) {i:Nat} (hi:i≤xs.size) {slot:Nat} (hs:(i = 0∧slot = 0)∨(0 < i∧∃ j,xs[i - 1]? = some j∧slot = j + 1)):below xs slot = i:=by
 obtain ⟨b1,b2,b3⟩:=Cl (j:=slot) r
 rcases hs with ⟨rfl,rfl⟩ | ⟨h0,j,hj,rfl⟩
 ·apply Classical.byContradiction
  intro hne
  have h0:0 < xs.size:=by omega
  have:=b2 0 xs[0] (by omega) (by simp [h0])
  omega
 ·have hlt:i - 1 < xs.size:=(Array.getElem?_eq_some_iff.mp hj).1
  rcases Nat.lt_trichotomy (below xs (j + 1)) i with hl | he | hg
  ·have hx:xs[below xs (j + 1)]? = some xs[below xs (j + 1)]:=by simp [show below xs (j + 1) < xs.size by omega]
   have h1:=b3 _ _ (Nat.le_refl _) hx
   by_cases hq:below xs (j + 1) = i - 1
   ·have hx2:xs[below xs (j + 1)]? = some j:=by rw [hq]; exact hj
    have:=Option.some.inj (hx.symm.trans hx2)
    omega
   ·have:=GD r hx hj (by omega)
    omega
  ·exact he
  ·have hx:xs[i]? = some xs[i]:=by simp [show i < xs.size by omega]
   have h1:=b2 i _ hg hx
   have:=GD r hj hx (by omega)
   omega
section
variable {prog:Program} {w:World} {A:Around} {E:Value→Shared→Prop} {s:Shared}
variable {a:Addr} {xs:List (List Int × Addr)} {o:Obj} {es:Array (Int × Value)} {ep:Nat} {t:SetTable}
def CW (w:World) (h:Heap) (I a:Addr) (t:SetTable) (ep n i:Nat):Prop:=∃ slot:Nat,h.get? I = some { cls:=.type "set_iterator",dict:=none,data:=.fields #[rawInt slot,rawInt i,.ref a,rawInt n,rawInt ep],slots:=#[] } ∧
 (w.params.followText "set-order" = false→(i = 0∧slot = 0)∨(0 < i∧∃ j,t.place[i - 1]? = some j∧slot = j + 1))
theorem GL (hg:s.heap.get? a = some o) (hd:o.data = .set es ep t) (hf:t.fits es.size = true) (hr:OV t.place) (hpl:t.plain = true) (hled:t.led = !w.params.followText "set-order") {i slot:Nat} (hi:i≤es.size)
  (hs:w.params.followText "set-order" = false→(i = 0∧slot = 0)∨(0 < i∧∃ j,t.place[i - 1]? = some j∧slot = j + 1)) {Q:Option (Value × Nat)→Shared→Prop}
  (hsome:∀ e slot',(Ds w a ep es)[i]? = some e→(w.params.followText "set-order" = false→∃ j,t.place[i]? = some j∧slot' = j + 1)→Q (some (e.2,slot')) s) (hnone:i = es.size→Q none s):wpAny (model prog w) A (setNext a slot i ep) Q E s:=by
 have hps:t.place.size = es.size:=by
  simp only [SetTable.fits,Bool.and_eq_true,beq_iff_eq] at hf
  exact hf.1
 have ask:∀ {R:Bool→Shared→Prop},R (w.params.followText "set-order") s→wpAny (model prog w) A setsByText R E s:=fun h => wpAny_bind (wpAny_askSetting (wpAny_pure h))
 unfold setNext
 refine wpAny_bind (wpAny_setState_of hg hd hf ?_)
 dsimp only
 refine wpAny_bind (ask ?_)
 cases hb:w.params.followText "set-order" with
 | true =>
  simp only [if_true]
  rw [if_neg (by simp)]
  refine wpAny_bind ?_
  unfold setWalk
  refine wpAny_bind (wpAny_setState_of hg hd hf ?_)
  dsimp only
  refine wpAny_bind (ask ?_)
  rw [hb]
  simp only [if_true]
  refine wpAny_bind (wpAny_askSetting (wpAny_pure ?_))
  refine wpAny_pure ?_
  have ho:Ds w a ep es = pickOrder (w.params.setOrder a ep) es:=by unfold Ds; rw [if_pos hb]
  show Q (((pickOrder (w.params.setOrder a ep) es)[i]?).map fun e => (e.2,slot)) s
  rw [← ho]
  cases he:(Ds w a ep es)[i]? with
  | some e => exact hsome e slot he fun z => by rw [hb] at z; cases z
  | none =>
   refine hnone ?_
   have:=Array.getElem?_eq_none_iff.mp he
   rw [Ev] at this
   omega
 | false =>
  rw [hb] at hled
  simp only [Bool.false_eq_true,if_false]
  have hdr:(!t.plain && decide (es.size > 1)) = false:=by rw [hpl]; rfl
  show wpAny _ _ (if (!t.plain && decide (es.size > 1)) = true then _ else _) _ _ s
  rw [hdr]
  simp only [Bool.false_eq_true,if_false]
  refine wpAny_bind ?_
  show wpAny _ _ (if (!t.led && !es.isEmpty) = true then _ else pure ()) _ _ s
  rw [hled]
  simp only [Bool.not_false,Bool.not_true,Bool.false_and,Bool.false_eq_true,if_false]
  refine wpAny_pure ?_
  rw [Kt hr (by omega) (hs hb)]
  have ho:Ds w a ep es = es:=by unfold Ds; rw [if_neg (by rw [hb]; decide)]
  by_cases hlt:i < es.size
  ·have e1:es[i]? = some es[i]:=by simp [hlt]
   have e2:t.place[i]? = some (t.place[i]'(by omega)):=by simp [show i < t.place.size by omega]
   rw [e1,e2]
   exact wpAny_pure (hsome es[i] _ (by rw [ho]; exact e1) fun _ => ⟨_,e2,rfl⟩)
  ·have e1:es[i]? = none:=by simp; omega
   rw [e1]
   exact wpAny_pure (hnone (by omega))
end
section
variable {prog:Program} {w:World} {A:Around} {E:Value→Shared→Prop} {s:Shared}
variable {a I:Addr} {xs:List (List Int × Addr)} {o:Obj} {es:Array (Int × Value)} {ep:Nat} {t:SetTable}
structure Wk (w:World) (o:Obj) (es:Array (Int × Value)) (ep:Nat) (t:SetTable):Prop where
 cls:o.cls = .type "set"
 dat:o.data = .set es ep t
 fits:t.fits es.size = true
 ris:OV t.place
 pl:t.plain = true
 led:t.led = !w.params.followText "set-order"
theorem SetD.wk (S:SetD prog w s.heap a xs o es ep t):Wk w o es ep t:=⟨S.ex.1,S.dat,S.fits,S.tb.ris,S.pl,S.led⟩
theorem CJ (K:Wk w o es ep t) (hg:s.heap.get? a = some o) {Q:Array (Int × Value)→Shared→Prop} (h:Q es s):wpAny (model prog w) A (setEntries a) Q E s:=by
 unfold setEntries
 exact wpAny_bind (wpAny_setState_of hg K.dat K.fits (wpAny_pure h))
theorem NK (K:Wk w o es ep t) (hg:s.heap.get? a = some o) (hne:a≠I) {i:Nat} (hi:i < es.size) (it:CW w s.heap I a t ep es.size i) {Q:Option Value→Shared→Prop}
  (hQ:∀ e h',(Ds w a ep es)[i]? = some e→CW w h' I a t ep es.size (i + 1)→Heap.SameBut I s.heap h'→Q (some e.2) { s with heap:=h' }):wpAny (model prog w) A (pyNext (.ref I)) Q E s:=by
 obtain ⟨slot,ho,hsl⟩:=it
 have hT:s.TypeIs (.ref I) "set_iterator":=⟨_,ho,rfl⟩
 unfold pyNext
 refine wpAny_bind (wpAny_attempt (wpAny_callSpecial?_slot (name:=Str.ofString "__next__") hT Ak (wpAny_call_entry Ak hT CV ?_ (DF _))))
 refine wpAny_bind (wpAny_pure ?_)
 refine wpAny_bind (wpAny_fieldsOf ho rfl ?_)
 show wpAny _ _ (setEntries a >>= _) _ _ s
 refine wpAny_bind (CJ K hg ?_)
 rw [if_neg (by simp)]
 show wpAny _ _ (setNext a ((slot:Int).toNat) ((i:Int).toNat) ((ep:Int).toNat) >>= _) _ _ s
 simp only [Int.toNat_natCast]
 refine wpAny_bind (GL hg K.dat K.fits K.ris K.pl K.led (Nat.le_of_lt hi) hsl (fun e slot' he hs' => ?_) fun z => by omega)
 dsimp only
 refine wpAny_bind (wpAny_setField_rec ho (by simp) fun h1 ho1 hs1 => ?_)
 refine wpAny_bind (wpAny_setField_rec (s:={ s with heap:=h1 }) ho1 (by simp) fun h2 ho2 hs2 => ?_)
 refine wpAny_pure ⟨_,rfl,wpAny_pure (hQ e h2 he ⟨slot',?_,fun hb => .inr ⟨Nat.succ_pos _,?_⟩⟩ (hs1.trans hs2))⟩
 ·simpa using ho2
 ·simpa using hs' hb
theorem Ob (K:Wk w o es ep t) (hh:A.handled = none) (hg:s.heap.get? a = some o) (hne:a≠I) (it:CW w s.heap I a t ep es.size es.size) {Q:Option Value→Shared→Prop}
  (hQ:∀ h',Heap.ExtBut I s.heap h'→Q none { s with heap:=h' }):wpAny (model prog w) A (pyNext (.ref I)) Q E s:=by
 obtain ⟨slot,ho,hsl⟩:=it
 have hT:s.TypeIs (.ref I) "set_iterator":=⟨_,ho,rfl⟩
 unfold pyNext
 refine wpAny_bind (wpAny_attempt (wpAny_callSpecial?_slot (name:=Str.ofString "__next__") hT Ak (wpAny_call_entry Ak hT CV ?_ (DF _))))
 refine wpAny_bind (wpAny_pure ?_)
 refine wpAny_bind (wpAny_fieldsOf ho rfl ?_)
 show wpAny _ _ (setEntries a >>= _) _ _ s
 refine wpAny_bind (CJ K hg ?_)
 rw [if_neg (by simp)]
 show wpAny _ _ (setNext a ((slot:Int).toNat) ((es.size:Int).toNat) ((ep:Int).toNat) >>= _) _ _ s
 simp only [Int.toNat_natCast]
 refine wpAny_bind (GL hg K.dat K.fits K.ris K.pl K.led (Nat.le_refl _) hsl (fun e slot' he hs' => ?_) fun z => ?_)
 ·have:=(Array.getElem?_eq_some_iff.mp he).1
  rw [Ev] at this
  omega
 dsimp only
 refine wpAny_bind (wpAny_setField_rec ho (by simp) fun h1 ho1 hs1 => ?_)
 show wpAny _ _ (newExc (.type "StopIteration") [] >>= _) _ _ _
 refine wpAny_bind ?_
 simp only [newExc,newTuple]
 refine wpAny_bind (wpAny_newObj_type ?_ (by size_fits))
 refine wpAny_bind (m:=firstArgMember _ _) (wpAny_of_eq (a:=Value.none) (by first | rfl | (simp only [firstArgMember]; rfl)) ?_)
 refine wpAny_newObj_type ?_ (by size_fits)
 simp only [raiseNew]
 refine wpAny_bind (wpAny_handled ?_)
 rw [show A.in1.handled = none from hh]
 refine wpAny_bind (wpAny_pure (wpAny_throw ?_))
 refine wpAny_bind (wpAny_isInstance (T:="StopIteration") (b:=true) ⟨_,Heap.get?_push_size _ rfl,rfl⟩ isSubtype_stop ?_)
 exact wpAny_pure (hQ _ ((hs1.extBut.push _).push _))
theorem NL {n i:Nat} (it:CW w s.heap I a t ep n i) {Q:Value→Shared→Prop} (h:Q (.ref I) s):wpAny (model prog w) A (pyIter (.ref I)) Q E s:=by
 obtain ⟨slot,ho,_⟩:=it
 have hT:s.TypeIs (.ref I) "set_iterator":=⟨_,ho,rfl⟩
 refine wpAny_pyIter_slot hT DE (wpAny_call_entry DE hT Eu ?_ (FV _))
 show wpAny _ _ (ret (.ref I)) _ _ s
 exact wpAny_pure ⟨_,rfl,"set_iterator",_,hT,Ak.lookup,h⟩
theorem Oc (K:Wk w o es ep t) (hg:s.heap.get? a = some o) {Q:Value→Shared→Prop}
  (h:Q (.ref s.heap.objs.size) { s with heap:=s.heap.push { cls:=.type "set_iterator",data:=.fields #[rawInt 0,rawInt 0,.ref a,rawInt es.size,rawInt ep] } }):wpAny (model prog w) A (pyIter (.ref a)) Q E s:=by
 have hT:s.TypeIs (.ref a) "set":=⟨_,hg,K.cls⟩
 have ask:∀ {A:Around} {E:Value→Shared→Prop} {R:Bool→Shared→Prop},R (w.params.followText "set-order") s→wpAny (model prog w) A setsByText R E s:=fun h => wpAny_bind (wpAny_askSetting (wpAny_pure h))
 refine wpAny_pyIter_slot hT PySem.F.slot_set_iter (wpAny_call_entry PySem.F.slot_set_iter hT GK ?_ (PySem.F.args_set_iter_1 _))
 unfold Builtin.«frozenset.__iter__»
 refine wpAny_bind (wpAny_bind (wpAny_pure (wpAny_pure ?_)))
 refine wpAny_bind (wpAny_bind (CJ K hg (wpAny_pure ?_)))
 refine wpAny_bind ?_
 unfold setDrawn
 refine wpAny_bind (wpAny_setState_of hg K.dat K.fits ?_)
 dsimp only
 refine wpAny_bind (ask (wpAny_pure ?_))
 have hdr:(!w.params.followText "set-order" && (!t.plain && decide (es.size > 1))) = false:=by rw [K.pl]; simp
 show wpAny _ _ (if (!w.params.followText "set-order" && (!t.plain && decide (es.size > 1))) = true then _ else _) _ _ s
 rw [hdr]
 simp only [Bool.false_eq_true,if_false]
 refine wpAny_bind (wpAny_pure ?_)
 refine wpAny_bind (wpAny_setEpoch_of hg K.dat K.fits ?_)
 refine wpAny_bind ?_
 unfold newFields
 refine wpAny_newObj_type ?_
 refine wpAny_pure ⟨_,rfl,"set_iterator",_,⟨_,Heap.get?_push_size _ rfl,rfl⟩,Ak.lookup,h⟩
theorem NM (K:Wk w o es ep t) (hh:A.handled = none) (hne:a≠I):Walks prog w A I [I,a] [I] es.size (fun i v => ∃ h,(Ds w a ep es)[i]? = some (h,v)) (fun i h => CW w h I a t ep es.size i∧h.get? a = some o) where
 sub:=fun b hb => by simp at hb; simp [hb]
 frame:=fun i h h' st hk => by
  obtain ⟨⟨slot,h1,h2⟩,h3⟩:=st
  exact ⟨⟨slot,hk I (by simp) _ h1,h2⟩,hk a (by simp) _ h3⟩
 item:=fun i s Q E hi st hQ => NK K st.2 hne hi st.1 fun e h' he it' sb => hQ e.2 h' s.toks ⟨e.1,he⟩ ⟨it',(sb.2 a hne).trans st.2⟩ fun b o hb e => (sb.2 b (fun z => hb (by simp [z]))).trans e
 done:=fun s Q E st hQ => Ob K hh st.2 hne st.1 fun h' he => hQ h' s.toks fun b o hb e => he b o (fun z => hb (by simp [z])) e
 self:=fun i s Q E st hQ => NL st.1 hQ
theorem Od {r:Addr} {Q:Bool→Shared→Prop} (hT:s.TypeIs (.ref r) "set") (h:Q false s):wpAny (model prog w) A (Builtin.List.listLengthHint (.ref r)) Q E s:=by
 unfold Builtin.List.listLengthHint
 refine wpAny_bind (wpAny_specialOf hT PySem.F.slot_set_len.lookup ?_)
 generalize hid:("set.__len__" : String) = id0
 wp_delta
 rw [show splitId id0 = some ("set","__len__") from by subst hid; decide +kernel]
 subst hid
 refine wpAny_bind (wpAny_isInstance (T:="set") (b:=true) hT (by rw [isSubtype_type]; kernel_rfl) ?_)
 refine wpAny_ite_split (fun hab => absurd hab (by decide)) (fun _ => ?_)
 refine wpAny_ite_split (fun _ => ?_) (fun hab => absurd (by decide +kernel) hab)
 refine wpAny_bind (wpAny_typeOf hT ?_)
 exact wpAny_pure h
theorem Rh (K:Wk w o es ep t):PySem.W.KdlSrc prog w "set" a a es.size (fun i v => ∃ h,(Ds w a ep es)[i]? = some (h,v)) (fun h => h.get? a = some o) where
 type:=fun _ hm => ⟨_,hm,K.cls⟩
 there:=fun _ hm => ⟨Heap.lt_size hm,Heap.lt_size hm⟩
 keep:=fun _ _ hm hk => hk a (.inl rfl) _ hm
 notList:=by decide
 notTuple:=by decide
 hint:=fun _ _ _ _ hm hq => Od ⟨_,hm,K.cls⟩ hq
 iter:=fun A s hh hm => ⟨_,_,(fun _ _ hq => Oc K hm hq),NM K hh (Nat.ne_of_lt (Heap.lt_size hm)),⟨⟨0,Heap.get?_push_size _ rfl,fun _ => .inl ⟨rfl,rfl⟩⟩,Heap.get?_push_of_some _ hm⟩⟩
end
end StT
namespace SrtG
open PySem PyProof.Rows
def ME:Bool→Keyed→Array Keyed→Nat→Nat→Nat→StateT SortSt Sem (Option Nat):=sortPriv% PySem.Builtin.gallop
def UZ (left:Bool) (key:Keyed) (arr:Array Keyed) (base i:Nat):StateT SortSt Sem (Option Bool):=do
 let x ← elem' arr (base + i)
 if left then lt' x key else return (← lt' key x).map (!·)
section
variable {prog:Program} {w:World} {A:Around} {E:Value→Shared→Prop} {s:Shared}
def Of (prog:Program) (w:World) (A:Around) (E:Value→Shared→Prop) (s:Shared) (kd:SortKind) (U:Keyed→Prop) (rk:Keyed→Int):Prop :=
 ∀ (st:SortSt) (x y:Keyed) (Q:Option Bool→SortSt→Prop),kindOf st = kd→U x→U y→Q (some (decide (rk x < rk y))) st→wpS (model prog w) A E s (lt' x y) Q st
variable {kd:SortKind} {U:Keyed→Prop} {rk:Keyed→Int}
def RK (rk:Keyed→Int) (xs:Array Keyed) (i:Nat):Int:=match xs[i]? with
 | some p => rk p
 | none => 0
def AllU (U:Keyed→Prop) (xs:Array Keyed):Prop:=∀ (i:Nat) (p:Keyed),xs[i]? = some p→U p
def bt (left:Bool) (rk:Keyed→Int) (key:Keyed) (arr:Array Keyed) (base i:Nat):Bool:=if left then decide (RK rk arr (base + i) < rk key) else !decide (rk key < RK rk arr (base + i))
theorem Ri {left:Bool} {key:Keyed} {arr:Array Keyed} {base i:Nat} {st:SortSt} {Q:Option Bool→SortSt→Prop} (C:Of prog w A E s kd U rk) (hk:kindOf st = kd) (hK:U key) (hU:AllU U arr) (hi:base + i < arr.size)
  (h:Q (some (bt left rk key arr base i)) st):wpS (model prog w) A E s (UZ left key arr base i) Q st:=by
 unfold UZ
 have e:arr[base + i]? = some arr[base + i]:=getElem?_pos arr (base + i) hi
 rw [elem'_eq,e]
 refine wpS_bind (wpS_pure ?_)
 have eR:RK rk arr (base + i) = rk arr[base + i]:=by unfold RK; rw [e]
 unfold bt at h
 rw [eR] at h
 cases left with
 | true =>
  rw [if_pos rfl] at h ⊢
  exact C st _ _ _ hk (hU _ _ e) hK h
 | false =>
  rw [if_neg Bool.false_ne_true] at h ⊢
  exact wpS_bind (C st _ _ _ hk hK (hU _ _ e) (wpS_pure h))
def TR (P:Nat→Bool) (n r:Nat):Prop:=r≤n∧(∀ i,i < r→P i = true)∧∀ i,r≤i→i < n→P i = false
theorem Og {α:Type} {P:Nat→Bool} {b:Nat→StateT SortSt Sem (Option Bool)} {n l h:Nat} {st:SortSt} (hb:∀ i (Q:Option Bool→SortSt→Prop),i < n→Q (some (P i)) st→wpS (model prog w) A E s (b i) Q st)
  (mono:∀ i j,i≤j→j < n→P j = true→P i = true) (hl:l≤h) (hn:h≤n) (h1:∀ i,i < l→P i = true) (h2:∀ i,h≤i→i < n→P i = false) :
  wpS (model prog w) A E s (forIn [:n] ((none:Option (Option Nat)),l,h) fun x __s =>
   if __s.snd.fst ≥ __s.snd.snd then pure (ForInStep.done (none,__s.snd.fst,__s.snd.snd))
   else do
    let __x ← b (__s.snd.fst + (__s.snd.snd - __s.snd.fst) / 2)
    match __x with
     | some mr =>
      if mr = true then pure (ForInStep.yield (none,__s.snd.fst + (__s.snd.snd - __s.snd.fst) / 2 + 1,__s.snd.snd))
      else pure (ForInStep.yield (none,__s.snd.fst,__s.snd.fst + (__s.snd.snd - __s.snd.fst) / 2))
     | x => pure (ForInStep.done (some none,__s.snd.fst,__s.snd.snd))) (fun c st' => st' = st∧c.1 = none∧TR P n c.2.2) st:=by
 refine wpS_forRange (I:=fun x c st' => st' = st∧∃ l h,c = (none,l,h)∧l≤h∧h≤n∧(∀ i,i < l→P i = true)∧(∀ i,h≤i→i < n→P i = false)∧h - l≤n - x) ?_ ?_ ⟨rfl,l,h,rfl,hl,hn,h1,h2,by omega⟩
 ·rintro x c st' _ hx ⟨rfl,l,h,rfl,hl,hn,h1,h2,hm⟩
  dsimp only
  by_cases hlh:l ≥ h
  ·rw [if_pos hlh]
   have e:l = h:=by omega
   subst e
   exact wpS_pure ⟨rfl,rfl,hn,h1,h2⟩
  ·rw [if_neg hlh]
   refine wpS_bind (hb _ _ (by omega) ?_)
   dsimp only
   cases hP:P (l + (h - l) / 2) with
   | true =>
    rw [if_pos rfl]
    exact wpS_pure ⟨rfl,_,_,rfl,by omega,hn,fun i hi => mono i _ (by omega) (by omega) hP,h2,by omega⟩
   | false =>
    rw [if_neg Bool.false_ne_true]
    refine wpS_pure ⟨rfl,_,_,rfl,by omega,by omega,h1,fun i hi hin => ?_,by omega⟩
    cases q:P i with
    | false => rfl
    | true => rw [mono _ i hi hin q] at hP; cases hP
 ·rintro c st' ⟨rfl,l,h,rfl,hl,hn,h1,h2,hm⟩
  have e:l = h:=by
   have:max 0 n = n:=by omega
   rw [this] at hm
   omega
  subst e
  exact ⟨rfl,rfl,hn,h1,h2⟩
theorem Ax {left : Bool} {key : Keyed} {arr : Array Keyed} {base n hint : Nat} {st : SortSt} {Q : Option Nat → SortSt → Prop} (C : Of prog w A E s kd U rk) (hk : kindOf st = kd) (hK : U key) (hU : AllU U arr) (hb : base + n ≤ arr.size) (hh : hint < n)
    (mono : ∀ i j, i ≤ j → j < n → bt left rk key arr base j = true → bt left rk key arr base i = true)
    (h : ∀ r, TR (bt left rk key arr base) n r → Q (some r) st) : wpS (model prog w) A E s (ME left key arr base n hint) Q st := by
  delta ME
  have hbey : ∀ i (Q : Option Bool → SortSt → Prop), i < n → Q (some (bt left rk key arr base i)) st → wpS (model prog w) A E s (UZ left key arr base i) Q st := fun i Q hi q => Ri C hk hK hU (by omega) q
  have fals : ∀ i j, i ≤ j → j < n → bt left rk key arr base i = false → bt left rk key arr base j = false := fun i j hij hj e => by
    cases q : bt left rk key arr base j with
    | false => rfl
    | true => rw [mono i j hij hj q] at e; cases e
  refine wpS_bind (hbey _ _ hh ?_)
  dsimp only
  cases hP : bt left rk key arr base hint with
  | true =>
    rw [if_pos rfl]
    refine wpS_bind (wpS_mono (wpS_forRange (I := fun x c st' => st' = st ∧ ∃ la o, c = (none, la, o) ∧ la < o ∧ x + 1 ≤ o ∧ hint + la < n ∧ bt left rk key arr base (hint + la) = true)
      (Q := fun c st' => st' = st ∧ ∃ la o, c = (none, la, o) ∧ la < o ∧ hint + la < n ∧ bt left rk key arr base (hint + la) = true ∧ (n - hint ≤ o ∨ bt left rk key arr base (hint + o) = false)) ?_ ?_ ⟨rfl, 0, 1, rfl, by omega, by omega, hh, hP⟩) ?_)
    · rintro x c st' _ hx ⟨rfl, la, o, rfl, h1, h2, h3, h4⟩
      dsimp only
      by_cases ho : o ≥ n - hint
      · rw [if_pos ho]
        exact wpS_pure ⟨rfl, la, o, rfl, h1, h3, h4, .inl ho⟩
      · rw [if_neg ho]
        refine wpS_bind (hbey _ _ (by omega) ?_)
        dsimp only
        cases hq : bt left rk key arr base (hint + o) with
        | false =>
          rw [if_pos (by decide)]
          exact wpS_pure ⟨rfl, la, o, rfl, h1, h3, h4, .inr hq⟩
        | true =>
          rw [if_neg (by decide)]
          exact wpS_pure ⟨rfl, o, _, rfl, by omega, by omega, by omega, hq⟩
    · rintro c st' ⟨rfl, la, o, rfl, h1, h2, h3, h4⟩
      exact ⟨rfl, la, o, rfl, h1, h3, h4, .inl (by have : max 0 n = n := by omega
                                                   omega)⟩
    · rintro c st' ⟨rfl, la, o, rfl, h1, h3, h4, h5⟩
      dsimp only
      refine wpS_bind (wpS_mono (Og (α := Unit) hbey mono (by omega) (by omega) (fun i hi => mono i (hint + la) (by omega) h3 h4) (fun i hi hin => ?_)) ?_)
      · rcases h5 with h5 | h5
        · omega
        · exact fals (hint + o) i (by omega) hin h5
      · rintro ⟨c1, c2, c3⟩ st'' ⟨rfl, e, pt⟩
        cases e
        exact wpS_pure (h _ pt)
  | false =>
    rw [if_neg Bool.false_ne_true]
    refine wpS_bind (wpS_mono (wpS_forRange (I := fun x c st' => st' = st ∧ ∃ la o, c = (none, la, o) ∧ la < o ∧ x + 1 ≤ o ∧ la ≤ hint ∧ bt left rk key arr base (hint - la) = false)
      (Q := fun c st' => st' = st ∧ ∃ la o, c = (none, la, o) ∧ la < o ∧ la ≤ hint ∧ bt left rk key arr base (hint - la) = false ∧ (hint + 1 ≤ o ∨ bt left rk key arr base (hint - o) = true)) ?_ ?_ ⟨rfl, 0, 1, rfl, by omega, by omega, by omega, hP⟩) ?_)
    · rintro x c st' _ hx ⟨rfl, la, o, rfl, h1, h2, h3, h4⟩
      dsimp only
      by_cases ho : o ≥ hint + 1
      · rw [if_pos ho]
        exact wpS_pure ⟨rfl, la, o, rfl, h1, h3, h4, .inl ho⟩
      · rw [if_neg ho]
        refine wpS_bind (hbey _ _ (by omega) ?_)
        dsimp only
        cases hq : bt left rk key arr base (hint - o) with
        | true =>
          rw [if_pos rfl]
          exact wpS_pure ⟨rfl, la, o, rfl, h1, h3, h4, .inr hq⟩
        | false =>
          rw [if_neg Bool.false_ne_true]
          exact wpS_pure ⟨rfl, o, _, rfl, by omega, by omega, by omega, hq⟩
    · rintro c st' ⟨rfl, la, o, rfl, h1, h2, h3, h4⟩
      exact ⟨rfl, la, o, rfl, h1, h3, h4, .inl (by have : max 0 n = n := by omega
                                                   omega)⟩
    · rintro c st' ⟨rfl, la, o, rfl, h1, h3, h4, h5⟩
      dsimp only
      refine wpS_bind (wpS_mono (Og (α := Unit) hbey mono (by omega) (by omega) (fun i hi => ?_) (fun i hi hin => fals (hint - la) i hi hin h4)) ?_)
      · rcases h5 with h5 | h5
        · omega
        · exact mono i (hint - o) (by omega) (by omega) h5
      · rintro ⟨c1, c2, c3⟩ st'' ⟨rfl, e, pt⟩
        cases e
        exact wpS_pure (h _ pt)
end
local macro_rules | `(tactic| omega) => `(tactic| first | lia | omega)
open PySem PyProof.Rows
variable {rk:Keyed→Int}
def Ew (rk:Keyed→Int) (a:Array Keyed):Prop:=∀ i j,i≤j→j < a.size→RK rk a i≤RK rk a j
structure Mrg (rk:Keyed→Int) (a b out:Array Keyed) (i j:Nat):Prop where
 hi:i≤a.size
 hj:j≤b.size
 perm:out.toList.Perm (a.toList.take i ++ b.toList.take j)
 srt:out.toList.Pairwise fun x y => rk x≤rk y
 ha:∀ x,x∈out.toList→∀ y,i≤y→y < a.size→rk x≤RK rk a y
 hb:∀ x,x∈out.toList→∀ y,j≤y→y < b.size→rk x≤RK rk b y
structure Fin2 (rk:Keyed→Int) (a b r:Array Keyed):Prop where
 perm:r.toList.Perm (a.toList ++ b.toList)
 srt:r.toList.Pairwise fun x y => rk x≤rk y
theorem Aq {a:Array Keyed} {i:Nat} (h:i < a.size):RK rk a i = rk a[i]:=by
 unfold RK
 rw [getElem?_pos a i h]
theorem Mrg.sym {a b out:Array Keyed} {i j:Nat} (m:Mrg rk a b out i j):Mrg rk b a out j i :=
 ⟨m.hj,m.hi,m.perm.trans List.perm_append_comm,m.srt,m.hb,m.ha⟩
theorem Mrg.pushA {a b out:Array Keyed} {i j:Nat} (m:Mrg rk a b out i j) (sa:Ew rk a) (h:i < a.size) (hb:∀ y,j≤y→y < b.size→rk a[i]≤RK rk b y):Mrg rk a b (out.push a[i]) (i + 1) j:=by
 have e:(out.push a[i]).toList = out.toList ++ [a[i]]:=Array.toList_push ..
 have t:a.toList.take (i + 1) = a.toList.take i ++ [a[i]]:=by
  rw [List.take_succ]
  have:a.toList[i]? = some a[i]:=by rw [Array.getElem?_toList]; exact getElem?_pos a i h
  rw [this]; rfl
 refine ⟨h,m.hj,?_,?_,?_,?_⟩
 ·rw [e,t]
  have p1:=m.perm.append_right [a[i]]
  refine p1.trans ?_
  rw [List.append_assoc,List.append_assoc]
  exact List.Perm.append_left _ List.perm_append_comm
 ·rw [e,List.pairwise_append]
  refine ⟨m.srt,List.pairwise_singleton _ _,fun x hx y hy => ?_⟩
  cases List.mem_singleton.mp hy
  have:=m.ha x hx i (Nat.le_refl _) h
  rwa [Aq h] at this
 ·intro x hx y hy hys
  rw [e] at hx
  rcases List.mem_append.mp hx with hx | hx
  ·exact m.ha x hx y (by omega) hys
  ·cases List.mem_singleton.mp hx
   have:=sa i y (by omega) hys
   rwa [Aq h] at this
 ·intro x hx y hy hys
  rw [e] at hx
  rcases List.mem_append.mp hx with hx | hx
  ·exact m.hb x hx y hy hys
  ·cases List.mem_singleton.mp hx
   exact hb y hy hys
theorem Mrg.pushB {a b out:Array Keyed} {i j:Nat} (m:Mrg rk a b out i j) (sb:Ew rk b) (h:j < b.size) (ha:∀ y,i≤y→y < a.size→rk b[j]≤RK rk a y):Mrg rk a b (out.push b[j]) i (j + 1):=(m.sym.pushA sb h ha).sym
theorem IV (a:Array Keyed) (i k:Nat) (h:i + k < a.size):a.extract i (i + (k + 1)) = (a.extract i (i + k)).push a[i + k]:=by
 apply Array.ext'
 rw [Array.toList_push,Array.toList_extract,Array.toList_extract,List.extract_eq_drop_take,List.extract_eq_drop_take]
 have e1:i + (k + 1) - i = k + 1:=by omega
 have e2:i + k - i = k:=by omega
 rw [e1,e2,List.take_succ,List.getElem?_drop,Array.getElem?_toList,getElem?_pos a (i + k) h]
 rfl
theorem Mrg.appA {a b:Array Keyed} {i j:Nat}:∀ (k:Nat) {out:Array Keyed},Mrg rk a b out i j→Ew rk a→i + k≤a.size→(∀ x,x < k→∀ y,j≤y→y < b.size→RK rk a (i + x)≤RK rk b y)→Mrg rk a b (out ++ a.extract i (i + k)) (i + k) j
 | 0,out,m,_,_,_ => by
  have:out ++ a.extract i (i + 0) = out:=by
   apply Array.ext'
   rw [Array.toList_append,Array.toList_extract,List.extract_eq_drop_take]
   have:i + 0 - i = 0:=by omega
   rw [this,List.take_zero,List.append_nil]
  rw [this]; exact m
 | k + 1,out,m,sa,h,hb => by
  have m':=Mrg.appA k m sa (by omega) fun x hx => hb x (by omega)
  have hk:i + k < a.size:=by omega
  rw [IV a i k hk,Array.append_push]
  exact m'.pushA sa hk fun y h1 h2 => by
   have:=hb k (by omega) y h1 h2
   rwa [Aq hk] at this
theorem Mrg.appB {a b:Array Keyed} {i j:Nat} (k:Nat) {out:Array Keyed} (m:Mrg rk a b out i j) (sb:Ew rk b) (h:j + k≤b.size) (ha:∀ x,x < k→∀ y,i≤y→y < a.size→RK rk b (j + x)≤RK rk a y):Mrg rk a b (out ++ b.extract j (j + k)) i (j + k):=(Mrg.appA k m.sym sb h ha).sym
theorem Mrg.fin {a b out:Array Keyed} (m:Mrg rk a b out a.size b.size):Fin2 rk a b out:=by
 have p:=m.perm
 rw [← Array.length_toList,← Array.length_toList,List.take_length,List.take_length] at p
 exact ⟨p,m.srt⟩
theorem Mrg.restAB {a b out:Array Keyed} {i j:Nat} (m:Mrg rk a b out i j) (sa:Ew rk a) (sb:Ew rk b) (h:∀ x y,i≤x→x < a.size→j≤y→y < b.size→RK rk a x≤RK rk b y):Fin2 rk a b (out ++ a.extract i a.size ++ b.extract j b.size):=by
 have hi:=m.hi
 have hj:=m.hj
 have m1:=m.appA (a.size - i) sa (by omega) fun x hx y h1 h2 => h _ _ (by omega) (by omega) h1 h2
 have e1:i + (a.size - i) = a.size:=by omega
 rw [e1] at m1
 have m2:=m1.appB (b.size - j) sb (by omega) fun x hx y h1 h2 => by omega
 have e2:j + (b.size - j) = b.size:=by omega
 rw [e2] at m2
 exact m2.fin
theorem Mrg.restBA {a b out:Array Keyed} {i j:Nat} (m:Mrg rk a b out i j) (sa:Ew rk a) (sb:Ew rk b) (h:∀ x y,i≤x→x < a.size→j≤y→y < b.size→RK rk b y≤RK rk a x):Fin2 rk a b (out ++ b.extract j b.size ++ a.extract i a.size):=by
 have f:=m.sym.restAB sb sa fun x y h1 h2 h3 h4 => h y x h3 h4 h1 h2
 exact ⟨f.perm.trans List.perm_append_comm,f.srt⟩
end SrtG
namespace SrtG
local macro_rules | `(tactic| omega) => `(tactic| first | lia | omega)
open PySem PyProof.Rows
def Jk:Array Keyed→Array Keyed→StateT SortSt Sem (Array Keyed):=sortPriv% PySem.Builtin.mergeLo
def MF:Nat→StateT SortSt Sem Unit:=sortPriv% PySem.Builtin.setMinGallop
theorem Ku (g:Nat):MF g = modify fun s => SortSt.mk' (kindOf s) (arrOf s) (pendingOf s) g (failedOf s):=rfl
abbrev dn (a b out:Array Keyed) (ia ib:Nat):Array Keyed:=out ++ a.extract ia a.size ++ b.extract ib b.size
abbrev la (a b out:Array Keyed) (ia ib:Nat):Array Keyed:=out ++ b.extract ib b.size ++ a.extract ia a.size
section
variable {prog:Program} {w:World} {A:Around} {E:Value→Shared→Prop} {s:Shared} {kd:SortKind} {U:Keyed→Prop} {rk:Keyed→Int}
structure Like (st st':SortSt):Prop where
 kd:kindOf st' = kindOf st
 arr:arrOf st' = arrOf st
 pd:pendingOf st' = pendingOf st
 fl:failedOf st' = failedOf st
theorem Like.refl (st:SortSt):Like st st:=⟨rfl,rfl,rfl,rfl⟩
theorem Cp {g:Nat} {st0 st:SortSt} {Q:Unit→SortSt→Prop} (l:Like st0 st) (h:∀ st',Like st0 st'→Q () st'):wpS (model prog w) A E s (MF g) Q st:=by
 rw [Ku]
 exact wpS_modify (h _ ⟨l.kd,l.arr,l.pd,l.fl⟩)
theorem AL {arr:Array Keyed} {i:Nat} {st:SortSt} {Q:Keyed→SortSt→Prop} (hi:i < arr.size) (h:Q arr[i] st):wpS (model prog w) A E s (elem' arr i) Q st:=by
 rw [elem'_eq,getElem?_pos arr i hi]
 exact wpS_pure h
structure Hd (rk:Keyed→Int) (a b out:Array Keyed) (i j n:Nat):Prop where
 m:Mrg rk a b out i j
 hi:i + 1 < a.size
 hj:j < b.size
 hn:n≤i + j
theorem Jl {a b:Array Keyed} {st:SortSt} {Q:Array Keyed→SortSt→Prop} (C:Of prog w A E s kd U rk) (hk:kindOf st = kd) (uA:AllU U a) (uB:AllU U b) (sa:Ew rk a) (sb:Ew rk b) (ha0:0 < a.size) (hb0:0 < b.size)
  (hfst:RK rk b 0≤RK rk a 0) (hlst:RK rk b (b.size - 1)≤RK rk a (a.size - 1))
  (h:∀ r st',Like st st'→Fin2 rk a b r→Q r st'):wpS (model prog w) A E s (Jk a b) Q st:=by
 have Udn:∀ {out i j},Mrg rk a b out i j→i = a.size∨j = b.size→Fin2 rk a b (dn a b out i j):=fun m hh => m.restAB sa sb fun x y _ _ _ _ => by omega
 have Ula:∀ {out i j},Mrg rk a b out i j→i + 1 = a.size→Fin2 rk a b (la a b out i j):=fun {out i j} m hh => m.restBA sa sb fun x y h1 h2 h3 h4 => by
  have e1:=sb y (b.size - 1) (by omega) (by omega)
  have e:x = a.size - 1:=by omega
  subst e
  omega
 have uAt:∀ {i} (hi:i < a.size),U a[i]:=fun hi => uA _ _ (getElem?_pos a _ hi)
 have uBt:∀ {i} (hi:i < b.size),U b[i]:=fun hi => uB _ _ (getElem?_pos b _ hi)
 delta Jk
 refine wpS_bind (wpS_lift (wpAny_rule ⟨rfl,?_⟩))
 refine wpS_bind (AL hb0 ?_)
 have m0:Mrg rk a b #[] 0 0:=⟨by omega,by omega,List.Perm.nil,List.Pairwise.nil,(fun x hx => by cases hx),(fun x hx => by cases hx)⟩
 have m1:Mrg rk a b #[b[0]] 0 1:=m0.pushB sb hb0 fun y _ hy => by
  have e1:=sa 0 y (by omega) hy
  rw [← Aq (rk:=rk) hb0]
  omega
 dsimp only
 by_cases c1:1 = b.size
 ·rw [if_pos (beq_iff_eq.mpr c1)]
  exact wpS_pure (h _ _ (Like.refl _) (Udn m1 (.inr c1)))
 rw [if_neg (fun q => c1 (beq_iff_eq.mp q))]
 by_cases c2:0 + 1 = a.size
 ·rw [if_pos (beq_iff_eq.mpr c2)]
  exact wpS_pure (h _ _ (Like.refl _) (Ula m1 c2))
 rw [if_neg (fun q => c2 (beq_iff_eq.mp q))]
 refine wpS_bind (wpS_get ?_)
 refine wpS_bind (wpS_mono (wpS_forRange (I:=fun x c st' => Like st st'∧∃ out i j mg,c = (none,out,i,j,mg)∧Hd rk a b out i j (x + 1))
  (Q:=fun c st' => Like st st'∧∃ r,c.1 = some r∧Fin2 rk a b r) ?_ ?_ ⟨Like.refl _,_,_,_,_,rfl,m1,by omega,by omega,by omega⟩) ?_)
 ·rintro x c st1 _ hx ⟨lk,out,i,j,mg,rfl,hd⟩
  dsimp only
  refine wpS_bind (wpS_mono (wpS_forRange (I:=fun _ c st' => Like st st'∧∃ out i j ac bc,c = (none,out,i,j,ac,bc)∧Hd rk a b out i j (x + 1))
   (Q:=fun c st' => Like st st'∧((∃ r,c.1 = some r∧Fin2 rk a b r)∨∃ out i j ac bc,c = (none,out,i,j,ac,bc)∧Hd rk a b out i j (x + 1))) ?_ ?_ ⟨lk,_,_,_,_,_,rfl,hd⟩) ?_)
  ·rintro x1 c st2 _ hx1 ⟨lk,out,i,j,ac,bc,rfl,hd⟩
   have hia:i < a.size:=by have:=hd.hi; omega
   have hjb:=hd.hj
   have hin:=hd.hn
   dsimp only
   refine wpS_bind (AL hd.hj ?_)
   refine wpS_bind (AL hia ?_)
   refine wpS_bind (C _ _ _ _ (lk.kd.trans hk) (uBt hd.hj) (uAt hia) ?_)
   dsimp only
   by_cases hlt:rk b[j] < rk a[i]
   ·rw [if_pos (by exact decide_eq_true hlt)]
    have m:=hd.m.pushB sb hd.hj fun y h1 h2 => by
     have:=sa i y h1 h2
     rw [Aq hia] at this
     omega
    refine wpS_bind (AL hd.hj ?_)
    by_cases c3:j + 1 = b.size
    ·rw [if_pos (beq_iff_eq.mpr c3)]
     exact wpS_pure ⟨lk,.inl ⟨_,rfl,Udn m (.inr c3)⟩⟩
    rw [if_neg (fun q => c3 (beq_iff_eq.mp q))]
    have hd':Hd rk a b (out.push b[j]) i (j + 1) (x + 1):=⟨m,hd.hi,by have:=hd.hj; omega,by omega⟩
    split
    ·exact wpS_pure ⟨lk,.inr ⟨_,_,_,_,_,rfl,hd'⟩⟩
    ·exact wpS_pure ⟨lk,_,_,_,_,_,rfl,hd'⟩
   ·rw [if_neg (fun q => hlt (of_decide_eq_true q))]
    have m:=hd.m.pushA sa hia fun y h1 h2 => by
     have:=sb j y h1 h2
     rw [Aq hd.hj] at this
     omega
    refine wpS_bind (AL hia ?_)
    by_cases c3:i + 1 + 1 = a.size
    ·rw [if_pos (beq_iff_eq.mpr c3)]
     exact wpS_pure ⟨lk,.inl ⟨_,rfl,Ula m c3⟩⟩
    rw [if_neg (fun q => c3 (beq_iff_eq.mp q))]
    have hd':Hd rk a b (out.push a[i]) (i + 1) j (x + 1):=⟨m,by have:=hd.hi; omega,hd.hj,by omega⟩
    split
    ·exact wpS_pure ⟨lk,.inr ⟨_,_,_,_,_,rfl,hd'⟩⟩
    ·exact wpS_pure ⟨lk,_,_,_,_,_,rfl,hd'⟩
  ·rintro c st2 ⟨lk,hh⟩
   exact ⟨lk,.inr hh⟩
  rintro c st2 ⟨lk,⟨r,e,f⟩ | ⟨out,i,j,ac,bc,rfl,hd⟩⟩
  ·obtain ⟨c1,c2⟩:=c
   cases e
   exact wpS_pure ⟨lk,_,rfl,f⟩
  dsimp only
  refine wpS_bind (wpS_lift (wpAny_rule ⟨rfl,?_⟩))
  refine wpS_bind (wpS_mono (wpS_forRange (I:=fun y c st' => Like st st'∧∃ out i j mg ac bc,c = (none,out,i,j,mg,ac,bc)∧Hd rk a b out i j (x + 1 + y))
   (Q:=fun c st' => Like st st'∧((∃ r,c.1 = some r∧Fin2 rk a b r)∨∃ out i j mg ac bc,c = (none,out,i,j,mg,ac,bc)∧Hd rk a b out i j (x + 1 + 1))) ?_ ?_ ⟨lk,_,_,_,_,_,_,rfl,hd⟩) ?_)
  ·rintro x1 c st2 _ hx1 ⟨lk,out,i,j,mg,ac,bc,rfl,hd⟩
   have hia:i < a.size:=by have:=hd.hi; omega
   have hjb:=hd.hj
   have hin:=hd.hn
   dsimp only
   refine dite (mg > 1) (fun hmg => ?_) (fun hmg => ?_)
   all_goals first | rw [if_pos hmg] | rw [if_neg hmg]
   all_goals
    refine wpS_bind (Cp lk fun st3 lk => ?_)
    refine wpS_bind (AL hjb ?_)
    refine wpS_bind (Ax C (lk.kd.trans hk) (uBt hjb) uA (by omega) (by omega) ?_ ?_)
    ·intro p q hpq hq e
     unfold bt at e ⊢
     rw [if_neg Bool.false_ne_true] at e ⊢
     have e':=of_decide_eq_false (Bool.not_eq_true' _ |>.mp e)
     have:=sa (i + p) (i + q) (by omega) (by omega)
     exact (Bool.not_eq_true' _).mpr (decide_eq_false (by omega))
    rintro k ⟨kn,kt,kf⟩
    have kt':∀ x,x < k→RK rk a (i + x)≤RK rk b j:=fun x hx => by
     have e:=kt x hx
     unfold bt at e
     rw [if_neg Bool.false_ne_true] at e
     have e':=of_decide_eq_false (Bool.not_eq_true' _ |>.mp e)
     rw [Aq hjb]
     omega
    have kf':∀ y,i + k≤y→y < a.size→rk b[j]≤RK rk a y:=fun y h1 h2 => by
     have e:=kf (y - i) (by omega) (by omega)
     unfold bt at e
     rw [if_neg Bool.false_ne_true] at e
     have e':=of_decide_eq_true (Bool.not_eq_false' _ |>.mp e)
     have ey:i + (y - i) = y:=by omega
     rw [ey] at e'
     omega
    have m:=hd.m.appA k sa (by omega) fun x hx y h1 h2 => by
     have:=sb j y h1 h2
     have:=kt' x hx
     omega
    dsimp only
    by_cases k0:k > 0
    ·rw [if_pos k0]
     by_cases c3:i + k + 1 = a.size
     ·rw [if_pos (beq_iff_eq.mpr c3)]
      exact wpS_pure ⟨lk,.inl ⟨_,rfl,Ula m c3⟩⟩
     rw [if_neg (fun q => c3 (beq_iff_eq.mp q))]
     by_cases c4:i + k = a.size
     ·rw [if_pos (beq_iff_eq.mpr c4)]
      exact wpS_pure ⟨lk,.inl ⟨_,rfl,Udn m (.inl c4)⟩⟩
     rw [if_neg (fun q => c4 (beq_iff_eq.mp q))]
     have hi':i + k < a.size:=by omega
     have hi2:i + k + 1 < a.size:=by omega
     have hn':x + 1 + x1≤i + k + j:=by omega
     refine wpS_bind (AL hjb ?_)
     have m2:=m.pushB sb hjb kf'
     by_cases c5:j + 1 = b.size
     ·rw [if_pos (beq_iff_eq.mpr c5)]
      exact wpS_pure ⟨lk,.inl ⟨_,rfl,Udn m2 (.inr c5)⟩⟩
     rw [if_neg (fun q => c5 (beq_iff_eq.mp q))]
     refine wpS_bind (AL hi' ?_)
     refine wpS_bind (Ax C (lk.kd.trans hk) (uAt hi') uB (by omega) (by omega) ?_ ?_)
     ·intro p q hpq hq e
      unfold bt at e ⊢
      rw [if_pos rfl] at e ⊢
      have e':=of_decide_eq_true e
      have:=sb (j + 1 + p) (j + 1 + q) (by omega) (by omega)
      exact decide_eq_true (by omega)
     rintro k2 ⟨k2n,k2t,k2f⟩
     have k2t':∀ x,x < k2→∀ y,_≤y→y < a.size→RK rk b (j + 1 + x)≤RK rk a y:=fun x hx y h1 h2 => by
      have e:=k2t x hx
      unfold bt at e
      rw [if_pos rfl] at e
      have e':=of_decide_eq_true e
      have:=sa _ y h1 h2
      rw [Aq hi'] at this
      omega
     have k2f':∀ y,j + 1 + k2≤y→y < b.size→rk (a[i + k]'hi')≤RK rk b y:=fun y h1 h2 => by
      have e:=k2f (y - (j + 1)) (by omega) (by omega)
      unfold bt at e
      rw [if_pos rfl] at e
      have e':=of_decide_eq_false e
      have ey:j + 1 + (y - (j + 1)) = y:=by omega
      rw [ey] at e'
      omega
     dsimp only
     by_cases k20:k2 > 0
     ·rw [if_pos k20]
      have m3:=m2.appB k2 sb (by omega) k2t'
      by_cases c6:j + 1 + k2 = b.size
      ·rw [if_pos (beq_iff_eq.mpr c6)]
       exact wpS_pure ⟨lk,.inl ⟨_,rfl,Udn m3 (.inr c6)⟩⟩
      rw [if_neg (fun q => c6 (beq_iff_eq.mp q))]
      have m4:=m3.pushA sa hi' k2f'
      refine wpS_bind (AL hi' ?_)
      split
      ·rename_i c7
       exact wpS_pure ⟨lk,.inl ⟨_,rfl,Ula m4 (beq_iff_eq.mp c7)⟩⟩
      ·rename_i c7
       have c7':¬ _ = _:=fun q => c7 (beq_iff_eq.mpr q)
       split
       ·exact wpS_pure ⟨lk,.inr ⟨_,_,_,_,_,_,rfl,m4,by omega,by omega,by omega⟩⟩
       ·exact wpS_pure ⟨lk,_,_,_,_,_,_,rfl,m4,by omega,by omega,by omega⟩
     ·rw [if_neg k20]
      have e2:j + 1 + k2 = j + 1:=by omega
      rw [e2] at k2f'
      have m4:=m2.pushA sa hi' k2f'
      refine wpS_bind (AL hi' ?_)
      split
      ·rename_i c7
       exact wpS_pure ⟨lk,.inl ⟨_,rfl,Ula m4 (beq_iff_eq.mp c7)⟩⟩
      ·rename_i c7
       have c7':¬ _ = _:=fun q => c7 (beq_iff_eq.mpr q)
       split
       ·exact wpS_pure ⟨lk,.inr ⟨_,_,_,_,_,_,rfl,m4,by omega,by omega,by omega⟩⟩
       ·exact wpS_pure ⟨lk,_,_,_,_,_,_,rfl,m4,by omega,by omega,by omega⟩
    ·rw [if_neg k0]
     have e0:i + k = i:=by omega
     rw [e0] at kf'
     clear m
     have m:=hd.m
     have hi2:=hd.hi
     have hi':=hia
     have hn':=hin
     refine wpS_bind (AL hjb ?_)
     have m2:=m.pushB sb hjb kf'
     by_cases c5:j + 1 = b.size
     ·rw [if_pos (beq_iff_eq.mpr c5)]
      exact wpS_pure ⟨lk,.inl ⟨_,rfl,Udn m2 (.inr c5)⟩⟩
     rw [if_neg (fun q => c5 (beq_iff_eq.mp q))]
     refine wpS_bind (AL hi' ?_)
     refine wpS_bind (Ax C (lk.kd.trans hk) (uAt hi') uB (by omega) (by omega) ?_ ?_)
     ·intro p q hpq hq e
      unfold bt at e ⊢
      rw [if_pos rfl] at e ⊢
      have e':=of_decide_eq_true e
      have:=sb (j + 1 + p) (j + 1 + q) (by omega) (by omega)
      exact decide_eq_true (by omega)
     rintro k2 ⟨k2n,k2t,k2f⟩
     have k2t':∀ x,x < k2→∀ y,_≤y→y < a.size→RK rk b (j + 1 + x)≤RK rk a y:=fun x hx y h1 h2 => by
      have e:=k2t x hx
      unfold bt at e
      rw [if_pos rfl] at e
      have e':=of_decide_eq_true e
      have:=sa _ y h1 h2
      rw [Aq hi'] at this
      omega
     have k2f':∀ y,j + 1 + k2≤y→y < b.size→rk (a[i]'hi')≤RK rk b y:=fun y h1 h2 => by
      have e:=k2f (y - (j + 1)) (by omega) (by omega)
      unfold bt at e
      rw [if_pos rfl] at e
      have e':=of_decide_eq_false e
      have ey:j + 1 + (y - (j + 1)) = y:=by omega
      rw [ey] at e'
      omega
     dsimp only
     by_cases k20:k2 > 0
     ·rw [if_pos k20]
      have m3:=m2.appB k2 sb (by omega) k2t'
      by_cases c6:j + 1 + k2 = b.size
      ·rw [if_pos (beq_iff_eq.mpr c6)]
       exact wpS_pure ⟨lk,.inl ⟨_,rfl,Udn m3 (.inr c6)⟩⟩
      rw [if_neg (fun q => c6 (beq_iff_eq.mp q))]
      have m4:=m3.pushA sa hi' k2f'
      refine wpS_bind (AL hi' ?_)
      split
      ·rename_i c7
       exact wpS_pure ⟨lk,.inl ⟨_,rfl,Ula m4 (beq_iff_eq.mp c7)⟩⟩
      ·rename_i c7
       have c7':¬ _ = _:=fun q => c7 (beq_iff_eq.mpr q)
       split
       ·exact wpS_pure ⟨lk,.inr ⟨_,_,_,_,_,_,rfl,m4,by omega,by omega,by omega⟩⟩
       ·exact wpS_pure ⟨lk,_,_,_,_,_,_,rfl,m4,by omega,by omega,by omega⟩
     ·rw [if_neg k20]
      have e2:j + 1 + k2 = j + 1:=by omega
      rw [e2] at k2f'
      have m4:=m2.pushA sa hi' k2f'
      refine wpS_bind (AL hi' ?_)
      split
      ·rename_i c7
       exact wpS_pure ⟨lk,.inl ⟨_,rfl,Ula m4 (beq_iff_eq.mp c7)⟩⟩
      ·rename_i c7
       have c7':¬ _ = _:=fun q => c7 (beq_iff_eq.mpr q)
       split
       ·exact wpS_pure ⟨lk,.inr ⟨_,_,_,_,_,_,rfl,m4,by omega,by omega,by omega⟩⟩
       ·exact wpS_pure ⟨lk,_,_,_,_,_,_,rfl,m4,by omega,by omega,by omega⟩
  ·rintro c st2 ⟨lk,out,i,j,mg,ac,bc,rfl,hd⟩
   have e:max 0 (a.size + b.size) = a.size + b.size:=by omega
   rw [e] at hd
   exact ⟨lk,.inr ⟨_,_,_,_,_,_,rfl,hd.m,hd.hi,hd.hj,by have:=hd.hn; omega⟩⟩
  rintro c st2 ⟨lk,⟨r,e,f⟩ | ⟨out,i,j,mg,ac,bc,rfl,hd⟩⟩
  ·obtain ⟨c1,c2⟩:=c
   cases e
   exact wpS_pure ⟨lk,_,rfl,f⟩
  dsimp only
  refine wpS_bind (Cp lk fun st3 lk => ?_)
  exact wpS_pure ⟨lk,_,_,_,_,rfl,hd⟩
 ·rintro c st1 ⟨lk,out,i,j,mg,rfl,hd⟩
  have e:max 0 (a.size + b.size) = a.size + b.size:=by omega
  rw [e] at hd
  have:=hd.hn
  have:=hd.hi
  have:=hd.hj
  omega
 ·rintro c st1 ⟨lk,r,e,f⟩
  obtain ⟨c1,c2⟩:=c
  cases e
  exact wpS_pure (h _ _ lk f)
end
end SrtG
namespace SrtG
local macro_rules | `(tactic| omega) => `(tactic| first | lia | omega)
open PySem PyProof.Rows
variable {rk:Keyed→Int}
structure Mrh (rk:Keyed→Int) (a b out:Array Keyed) (i j:Nat):Prop where
 hi:i≤a.size
 hj:j≤b.size
 perm:out.toList.Perm (a.toList.drop i ++ b.toList.drop j)
 srt:out.toList.Pairwise fun x y => rk y≤rk x
 ha:∀ x,x∈out.toList→∀ y,y < i→RK rk a y≤rk x
 hb:∀ x,x∈out.toList→∀ y,y < j→RK rk b y≤rk x
theorem Mrh.sym {a b out:Array Keyed} {i j:Nat} (m:Mrh rk a b out i j):Mrh rk b a out j i :=
 ⟨m.hj,m.hi,m.perm.trans List.perm_append_comm,m.srt,m.hb,m.ha⟩
theorem Mrh.pushA {a b out:Array Keyed} {i j:Nat} (m:Mrh rk a b out (i + 1) j) (sa:Ew rk a) (h:i < a.size) (hb:∀ y,y < j→RK rk b y≤rk a[i]):Mrh rk a b (out.push a[i]) i j:=by
 have e:(out.push a[i]).toList = out.toList ++ [a[i]]:=Array.toList_push ..
 have t:a.toList.drop i = a[i] :: a.toList.drop (i + 1):=by
  have hl:i < a.toList.length:=by rw [Array.length_toList]; exact h
  rw [List.drop_eq_getElem_cons hl]
  rfl
 refine ⟨by omega,m.hj,?_,?_,?_,?_⟩
 ·rw [e,t]
  exact List.perm_append_comm.trans (m.perm.cons a[i])
 ·rw [e,List.pairwise_append]
  refine ⟨m.srt,List.pairwise_singleton _ _,fun x hx y hy => ?_⟩
  cases List.mem_singleton.mp hy
  have:=m.ha x hx i (Nat.lt_succ_self _)
  rwa [Aq h] at this
 ·intro x hx y hy
  rw [e] at hx
  rcases List.mem_append.mp hx with hx | hx
  ·exact m.ha x hx y (by omega)
  ·cases List.mem_singleton.mp hx
   have:=sa y i (by omega) h
   rwa [Aq h] at this
 ·intro x hx y hy
  rw [e] at hx
  rcases List.mem_append.mp hx with hx | hx
  ·exact m.hb x hx y hy
  ·cases List.mem_singleton.mp hx
   exact hb y hy
theorem Mrh.pushB {a b out:Array Keyed} {i j:Nat} (m:Mrh rk a b out i (j + 1)) (sb:Ew rk b) (h:j < b.size) (ha:∀ y,y < i→RK rk a y≤rk b[j]):Mrh rk a b (out.push b[j]) i j:=(m.sym.pushA sb h ha).sym
theorem IW (a:Array Keyed) (l h:Nat) (hl:l < h) (hh:h≤a.size):(a.extract l h).reverse = (a.extract (l + 1) h).reverse.push (a[l]'(by omega)):=by
 apply Array.ext'
 rw [Array.toList_push,Array.toList_reverse,Array.toList_reverse,Array.toList_extract,Array.toList_extract,List.extract_eq_drop_take,List.extract_eq_drop_take]
 have hln:l < a.toList.length:=by rw [Array.length_toList]; omega
 have e1:h - l = (h - (l + 1)) + 1:=by omega
 rw [List.drop_eq_getElem_cons hln,e1,List.take_succ_cons,List.reverse_cons]
 rfl
theorem Mrh.appA {a b:Array Keyed} {i j:Nat}:∀ (k:Nat) {out:Array Keyed},Mrh rk a b out i j→Ew rk a→k≤i→(∀ x,i - k≤x→x < i→∀ y,y < j→RK rk b y≤RK rk a x)→Mrh rk a b (out ++ (a.extract (i - k) i).reverse) (i - k) j
 | 0,out,m,_,_,_ => by
  have:out ++ (a.extract (i - 0) i).reverse = out:=by
   apply Array.ext'
   rw [Array.toList_append,Array.toList_reverse,Array.toList_extract,List.extract_eq_drop_take]
   have:i - (i - 0) = 0:=by omega
   rw [this,List.take_zero,List.reverse_nil,List.append_nil]
  rw [this]; exact m
 | k + 1,out,m,sa,h,hb => by
  have hi:=m.hi
  have m':=Mrh.appA k m sa (by omega) fun x hx => hb x (by omega)
  have hk:i - (k + 1) < a.size:=by omega
  have e:i - (k + 1) + 1 = i - k:=by omega
  rw [IW a (i - (k + 1)) i (by omega) hi,Array.append_push,e]
  rw [← e] at m'
  have q:=m'.pushA sa hk fun y h1 => by
   have:=hb (i - (k + 1)) (by omega) (by omega) y h1
   rwa [Aq hk] at this
  rw [e] at q
  exact q
theorem Mrh.appA' {a b out:Array Keyed} {i j l:Nat} (m:Mrh rk a b out i j) (sa:Ew rk a) (h:l≤i) (hb:∀ x,l≤x→x < i→∀ y,y < j→RK rk b y≤RK rk a x):Mrh rk a b (out ++ (a.extract l i).reverse) l j:=by
 have e:i - (i - l) = l:=by omega
 have q:=m.appA (i - l) sa (by omega) (by rw [e]; exact hb)
 rwa [e] at q
theorem Mrh.appB' {a b out:Array Keyed} {i j l:Nat} (m:Mrh rk a b out i j) (sb:Ew rk b) (h:l≤j) (ha:∀ x,l≤x→x < j→∀ y,y < i→RK rk a y≤RK rk b x):Mrh rk a b (out ++ (b.extract l j).reverse) i l:=(m.sym.appA' sb h ha).sym
theorem Mrh.fin {a b out:Array Keyed} (m:Mrh rk a b out 0 0):Fin2 rk a b out.reverse:=by
 have p:=m.perm
 rw [List.drop_zero,List.drop_zero] at p
 constructor
 ·rw [Array.toList_reverse]
  exact (List.reverse_perm _).trans p
 ·rw [Array.toList_reverse,List.pairwise_reverse]
  exact m.srt
theorem Mrh.restAB {a b out:Array Keyed} {i j:Nat} (m:Mrh rk a b out i j) (sa:Ew rk a) (sb:Ew rk b) (h:∀ x y,x < i→y < j→RK rk a x≤RK rk b y):Fin2 rk a b (a.extract 0 i ++ b.extract 0 j ++ out.reverse):=by
 have m1:=m.appB' (l:=0) sb (by omega) fun x _ hx y hy => h y x hy hx
 have m2:=m1.appA' (l:=0) sa (by omega) fun x _ _ y hy => by omega
 have f:=m2.fin
 have e:(out ++ (b.extract 0 j).reverse ++ (a.extract 0 i).reverse).reverse = a.extract 0 i ++ b.extract 0 j ++ out.reverse:=by
  apply Array.ext'
  rw [Array.toList_reverse,Array.toList_append,Array.toList_append,Array.toList_append,Array.toList_append,Array.toList_reverse,Array.toList_reverse,Array.toList_reverse,List.reverse_append,List.reverse_append,List.reverse_reverse,List.reverse_reverse,List.append_assoc]
 rwa [e] at f
theorem Mrh.restBA {a b out:Array Keyed} {i j:Nat} (m:Mrh rk a b out i j) (sa:Ew rk a) (sb:Ew rk b) (h:∀ x y,x < i→y < j→RK rk b y≤RK rk a x):Fin2 rk a b (b.extract 0 j ++ a.extract 0 i ++ out.reverse):=by
 have f:=m.sym.restAB sb sa fun x y h1 h2 => h y x h2 h1
 exact ⟨f.perm.trans List.perm_append_comm,f.srt⟩
def Jm:Array Keyed→Array Keyed→StateT SortSt Sem (Array Keyed):=sortPriv% PySem.Builtin.mergeHi
abbrev ZO (a b out:Array Keyed) (i j:Nat):Array Keyed:=a.extract 0 i ++ b.extract 0 j ++ out.reverse
abbrev ZP (a b out:Array Keyed) (i j:Nat):Array Keyed:=b.extract 0 j ++ a.extract 0 i ++ out.reverse
end SrtG
namespace SrtG
local macro_rules | `(tactic| omega) => `(tactic| first | lia | omega)
open PySem PyProof.Rows
variable {prog:Program} {w:World} {A:Around} {E:Value→Shared→Prop} {s:Shared} {kd:SortKind} {U:Keyed→Prop} {rk:Keyed→Int}
theorem Mrh.pushA1 {a b out:Array Keyed} {i j:Nat} (m:Mrh rk a b out i j) (sa:Ew rk a) (h0:0 < i) (h:i - 1 < a.size) (hb:∀ y,y < j→RK rk b y≤rk a[i - 1]):Mrh rk a b (out.push a[i - 1]) (i - 1) j:=by
 cases i with
 | zero => omega
 | succ i => exact m.pushA sa h hb
structure Hh (rk:Keyed→Int) (a b out:Array Keyed) (i j n:Nat):Prop where
 m:Mrh rk a b out i j
 hi:0 < i
 hj:1 < j
 hn:i + j + n≤a.size + b.size
theorem Jn {a b:Array Keyed} {st:SortSt} {Q:Array Keyed→SortSt→Prop} (C:Of prog w A E s kd U rk) (hk:kindOf st = kd) (uA:AllU U a) (uB:AllU U b) (sa:Ew rk a) (sb:Ew rk b) (ha0:0 < a.size) (hb0:0 < b.size)
  (hfst:RK rk b 0≤RK rk a 0) (hlst:RK rk b (b.size - 1)≤RK rk a (a.size - 1))
  (h:∀ r st',Like st st'→Fin2 rk a b r→Q r st'):wpS (model prog w) A E s (Jm a b) Q st:=by
 have Udn:∀ {out i j},Mrh rk a b out i j→i = 0∨j = 0→Fin2 rk a b (ZO a b out i j):=fun m hh => m.restAB sa sb fun x y _ _ => by omega
 have Ula:∀ {out i j},Mrh rk a b out i j→j = 1→Fin2 rk a b (ZP a b out i j):=fun {out i j} m hh => m.restBA sa sb fun x y h1 h2 => by
  have hi:=m.hi
  have e1:=sa 0 x (by omega) (by omega)
  have e:y = 0:=by omega
  subst e
  omega
 have uAt:∀ {i} (hi:i < a.size),U a[i]:=fun hi => uA _ _ (getElem?_pos a _ hi)
 have uBt:∀ {i} (hi:i < b.size),U b[i]:=fun hi => uB _ _ (getElem?_pos b _ hi)
 have hal:a.size - 1 < a.size:=by omega
 delta Jm
 refine wpS_bind (wpS_lift (wpAny_rule ⟨rfl,?_⟩))
 refine wpS_bind (AL hal ?_)
 have m0:Mrh rk a b #[] (a.size - 1 + 1) b.size:=by
  have e:a.size - 1 + 1 = a.size:=by omega
  rw [e]
  refine ⟨by omega,by omega,?_,List.Pairwise.nil,(fun x hx => by cases hx),(fun x hx => by cases hx)⟩
  rw [← Array.length_toList,← Array.length_toList,List.drop_length,List.drop_length]
  exact List.Perm.nil
 have m1:Mrh rk a b #[a[a.size - 1]] (a.size - 1) b.size:=m0.pushA sa hal fun y hy => by
  have e1:=sb y (b.size - 1) (by omega) (by omega)
  rw [← Aq (rk:=rk) hal]
  omega
 dsimp only
 by_cases c1:a.size - 1 = 0
 ·rw [if_pos (beq_iff_eq.mpr c1)]
  exact wpS_pure (h _ _ (Like.refl _) (Udn m1 (.inl c1)))
 rw [if_neg (fun q => c1 (beq_iff_eq.mp q))]
 by_cases c2:b.size = 1
 ·rw [if_pos (beq_iff_eq.mpr c2)]
  exact wpS_pure (h _ _ (Like.refl _) (Ula m1 c2))
 rw [if_neg (fun q => c2 (beq_iff_eq.mp q))]
 refine wpS_bind (wpS_get ?_)
 refine wpS_bind (wpS_mono (wpS_forRange (I:=fun x c st' => Like st st'∧∃ out i j mg,c = (none,i,j,out,mg)∧Hh rk a b out i j (x + 1))
  (Q:=fun c st' => Like st st'∧∃ r,c.1 = some r∧Fin2 rk a b r) ?_ ?_ ⟨Like.refl _,_,_,_,_,rfl,m1,by omega,by omega,by omega⟩) ?_)
 ·rintro x c st1 _ hx ⟨lk,out,i,j,mg,rfl,hd⟩
  dsimp only
  refine wpS_bind (wpS_mono (wpS_forRange (I:=fun _ c st' => Like st st'∧∃ out i j ac bc,c = (none,i,j,out,ac,bc)∧Hh rk a b out i j (x + 1))
   (Q:=fun c st' => Like st st'∧((∃ r,c.1 = some r∧Fin2 rk a b r)∨∃ out i j ac bc,c = (none,i,j,out,ac,bc)∧Hh rk a b out i j (x + 1))) ?_ ?_ ⟨lk,_,_,_,_,_,rfl,hd⟩) ?_)
  ·rintro x1 c st2 _ hx1 ⟨lk,out,i,j,ac,bc,rfl,hd⟩
   have hi0:=hd.hi
   have hj0:=hd.hj
   have hin:=hd.hn
   have hia:i - 1 < a.size:=by have:=hd.m.hi; omega
   have hjb:j - 1 < b.size:=by have:=hd.m.hj; omega
   have ei:i - 1 + 1 = i:=by omega
   have ej:j - 1 + 1 = j:=by omega
   have m:=hd.m
   dsimp only
   refine wpS_bind (AL hjb ?_)
   refine wpS_bind (AL hia ?_)
   refine wpS_bind (C _ _ _ _ (lk.kd.trans hk) (uBt hjb) (uAt hia) ?_)
   dsimp only
   by_cases hlt:rk b[j - 1] < rk a[i - 1]
   ·rw [if_pos (by exact decide_eq_true hlt)]
    rw [← ei] at m
    have m:=m.pushA sa hia fun y h1 => by
     have:=sb y (j - 1) (by omega) hjb
     rw [Aq hjb] at this
     omega
    refine wpS_bind (AL hia ?_)
    by_cases c3:i - 1 = 0
    ·rw [if_pos (beq_iff_eq.mpr c3)]
     exact wpS_pure ⟨lk,.inl ⟨_,rfl,Udn m (.inl c3)⟩⟩
    rw [if_neg (fun q => c3 (beq_iff_eq.mp q))]
    have hd':Hh rk a b (out.push a[i - 1]) (i - 1) j (x + 1):=⟨m,by omega,by omega,by omega⟩
    split
    ·exact wpS_pure ⟨lk,.inr ⟨_,_,_,_,_,rfl,hd'⟩⟩
    ·exact wpS_pure ⟨lk,_,_,_,_,_,rfl,hd'⟩
   ·rw [if_neg (fun q => hlt (of_decide_eq_true q))]
    rw [← ej] at m
    have m:=m.pushB sb hjb fun y h1 => by
     have:=sa y (i - 1) (by omega) hia
     rw [Aq hia] at this
     omega
    refine wpS_bind (AL hjb ?_)
    by_cases c3:j - 1 = 1
    ·rw [if_pos (beq_iff_eq.mpr c3)]
     exact wpS_pure ⟨lk,.inl ⟨_,rfl,Ula m c3⟩⟩
    rw [if_neg (fun q => c3 (beq_iff_eq.mp q))]
    have hd':Hh rk a b (out.push b[j - 1]) i (j - 1) (x + 1):=⟨m,by omega,by omega,by omega⟩
    split
    ·exact wpS_pure ⟨lk,.inr ⟨_,_,_,_,_,rfl,hd'⟩⟩
    ·exact wpS_pure ⟨lk,_,_,_,_,_,rfl,hd'⟩
  ·rintro c st2 ⟨lk,hh⟩
   exact ⟨lk,.inr hh⟩
  rintro c st2 ⟨lk,⟨r,e,f⟩ | ⟨out,i,j,ac,bc,rfl,hd⟩⟩
  ·obtain ⟨c1,c2⟩:=c
   cases e
   exact wpS_pure ⟨lk,_,rfl,f⟩
  dsimp only
  refine wpS_bind (wpS_lift (wpAny_rule ⟨rfl,?_⟩))
  refine wpS_bind (wpS_mono (wpS_forRange (I:=fun y c st' => Like st st'∧∃ out i j mg ac bc,c = (none,i,j,out,mg,ac,bc)∧Hh rk a b out i j (x + 1 + y))
   (Q:=fun c st' => Like st st'∧((∃ r,c.1 = some r∧Fin2 rk a b r)∨∃ out i j mg ac bc,c = (none,i,j,out,mg,ac,bc)∧Hh rk a b out i j (x + 1 + 1))) ?_ ?_ ⟨lk,_,_,_,_,_,_,rfl,hd⟩) ?_)
  ·rintro x1 c st2 _ hx1 ⟨lk,out,i,j,mg,ac,bc,rfl,hd⟩
   have hi0:=hd.hi
   have hj0:=hd.hj
   have hin:=hd.hn
   have hia:=hd.m.hi
   have hjl:=hd.m.hj
   have hjb:j - 1 < b.size:=by omega
   dsimp only
   refine dite (mg > 1) (fun hmg => ?_) (fun hmg => ?_)
   all_goals first | rw [if_pos hmg] | rw [if_neg hmg]
   all_goals
    refine wpS_bind (Cp lk fun st3 lk => ?_)
    refine wpS_bind (AL hjb ?_)
    refine wpS_bind (Ax C (lk.kd.trans hk) (uBt hjb) uA (by omega) (by omega) ?_ ?_)
    ·intro p q hpq hq e
     unfold bt at e ⊢
     rw [if_neg Bool.false_ne_true] at e ⊢
     have e':=of_decide_eq_false (Bool.not_eq_true' _ |>.mp e)
     have:=sa (0 + p) (0 + q) (by omega) (by omega)
     exact (Bool.not_eq_true' _).mpr (decide_eq_false (by omega))
    rintro p ⟨kn,kt,kf⟩
    have kf':∀ y,y < p→RK rk a y≤rk b[j - 1]:=fun y hy => by
     have e:=kt y hy
     unfold bt at e
     rw [if_neg Bool.false_ne_true] at e
     have e':=of_decide_eq_false (Bool.not_eq_true' _ |>.mp e)
     rw [Nat.zero_add] at e'
     omega
    have kt':∀ x,p≤x→x < i→∀ y,y < j→RK rk b y≤RK rk a x:=fun x h1 h2 y h3 => by
     have e:=kf x h1 h2
     unfold bt at e
     rw [if_neg Bool.false_ne_true] at e
     have e':=of_decide_eq_true (Bool.not_eq_false' _ |>.mp e)
     rw [Nat.zero_add] at e'
     have:=sb y (j - 1) (by omega) hjb
     rw [Aq hjb] at this
     omega
    have m:=hd.m.appA' sa kn kt'
    dsimp only
    by_cases k0:i - p > 0
    ·rw [if_pos k0]
     by_cases c3:p = 0
     ·rw [if_pos (beq_iff_eq.mpr c3)]
      exact wpS_pure ⟨lk,.inl ⟨_,rfl,Udn m (.inl c3)⟩⟩
     rw [if_neg (fun q => c3 (beq_iff_eq.mp q))]
     have hI:0 < p:=by omega
     have ej:j - 1 + 1 = j:=by omega
     rw [← ej] at m
     have m2:=m.pushB sb hjb kf'
     refine wpS_bind (AL hjb ?_)
     by_cases c5:j - 1 = 1
     ·rw [if_pos (beq_iff_eq.mpr c5)]
      exact wpS_pure ⟨lk,.inl ⟨_,rfl,Ula m2 (by omega)⟩⟩
     rw [if_neg (fun q => c5 (beq_iff_eq.mp q))]
     have hI1:p - 1 < a.size:=by omega
     refine wpS_bind (AL hI1 ?_)
     refine wpS_bind (Ax C (lk.kd.trans hk) (uAt hI1) uB (by omega) (by omega) ?_ ?_)
     ·intro p q hpq hq e
      unfold bt at e ⊢
      rw [if_pos rfl] at e ⊢
      have e':=of_decide_eq_true e
      have:=sb (0 + p) (0 + q) (by omega) (by omega)
      exact decide_eq_true (by omega)
     rintro q ⟨k2n,k2t,k2f⟩
     have k2t':∀ y,y < q→RK rk b y≤rk (a[p - 1]'hI1):=fun y hx => by
      have e:=k2t y hx
      unfold bt at e
      rw [if_pos rfl] at e
      have e':=of_decide_eq_true e
      rw [Nat.zero_add] at e'
      omega
     have k2f':∀ x,q≤x→x < j - 1→∀ y,y < p→RK rk a y≤RK rk b x:=fun x h1 h2 y h3 => by
      have e:=k2f x h1 h2
      unfold bt at e
      rw [if_pos rfl] at e
      have e':=of_decide_eq_false e
      rw [Nat.zero_add] at e'
      have:=sa y (p - 1) (by omega) hI1
      rw [Aq hI1] at this
      omega
     have eI:p - 1 + 1 = p:=by omega
     dsimp only
     by_cases k20:j - 1 - q > 0
     ·rw [if_pos k20]
      have m3:=m2.appB' sb k2n k2f'
      by_cases c6:q = 1
      ·rw [if_pos (beq_iff_eq.mpr c6)]
       exact wpS_pure ⟨lk,.inl ⟨_,rfl,Ula m3 (by omega)⟩⟩
      rw [if_neg (fun q => c6 (beq_iff_eq.mp q))]
      by_cases c8:q = 0
      ·rw [if_pos (beq_iff_eq.mpr c8)]
       exact wpS_pure ⟨lk,.inl ⟨_,rfl,Udn m3 (.inr c8)⟩⟩
      rw [if_neg (fun q => c8 (beq_iff_eq.mp q))]
      have m4:=m3.pushA1 sa hI hI1 k2t'
      refine wpS_bind (AL hI1 ?_)
      by_cases c7:p - 1 = 0
      ·rw [if_pos (beq_iff_eq.mpr c7)]
       exact wpS_pure ⟨lk,.inl ⟨_,rfl,Udn m4 (.inl c7)⟩⟩
      rw [if_neg (fun q => c7 (beq_iff_eq.mp q))]
      split
      ·exact wpS_pure ⟨lk,.inr ⟨_,_,_,_,_,_,rfl,m4,by omega,by omega,by omega⟩⟩
      ·exact wpS_pure ⟨lk,_,_,_,_,_,_,rfl,m4,by omega,by omega,by omega⟩
     ·rw [if_neg k20]
      have e2:q = j - 1:=by omega
      rw [e2] at k2t'
      have m4:=m2.pushA1 sa hI hI1 k2t'
      refine wpS_bind (AL hI1 ?_)
      by_cases c7:p - 1 = 0
      ·rw [if_pos (beq_iff_eq.mpr c7)]
       exact wpS_pure ⟨lk,.inl ⟨_,rfl,Udn m4 (.inl c7)⟩⟩
      rw [if_neg (fun q => c7 (beq_iff_eq.mp q))]
      split
      ·exact wpS_pure ⟨lk,.inr ⟨_,_,_,_,_,_,rfl,m4,by omega,by omega,by omega⟩⟩
      ·exact wpS_pure ⟨lk,_,_,_,_,_,_,rfl,m4,by omega,by omega,by omega⟩
    ·rw [if_neg k0]
     have e0:p = i:=by omega
     rw [e0] at kf'
     clear m
     have m:=hd.m
     have hI:=hi0
     have ej:j - 1 + 1 = j:=by omega
     rw [← ej] at m
     have m2:=m.pushB sb hjb kf'
     refine wpS_bind (AL hjb ?_)
     by_cases c5:j - 1 = 1
     ·rw [if_pos (beq_iff_eq.mpr c5)]
      exact wpS_pure ⟨lk,.inl ⟨_,rfl,Ula m2 (by omega)⟩⟩
     rw [if_neg (fun q => c5 (beq_iff_eq.mp q))]
     have hI1:i - 1 < a.size:=by omega
     refine wpS_bind (AL hI1 ?_)
     refine wpS_bind (Ax C (lk.kd.trans hk) (uAt hI1) uB (by omega) (by omega) ?_ ?_)
     ·intro p q hpq hq e
      unfold bt at e ⊢
      rw [if_pos rfl] at e ⊢
      have e':=of_decide_eq_true e
      have:=sb (0 + p) (0 + q) (by omega) (by omega)
      exact decide_eq_true (by omega)
     rintro q ⟨k2n,k2t,k2f⟩
     have k2t':∀ y,y < q→RK rk b y≤rk (a[i - 1]'hI1):=fun y hx => by
      have e:=k2t y hx
      unfold bt at e
      rw [if_pos rfl] at e
      have e':=of_decide_eq_true e
      rw [Nat.zero_add] at e'
      omega
     have k2f':∀ x,q≤x→x < j - 1→∀ y,y < i→RK rk a y≤RK rk b x:=fun x h1 h2 y h3 => by
      have e:=k2f x h1 h2
      unfold bt at e
      rw [if_pos rfl] at e
      have e':=of_decide_eq_false e
      rw [Nat.zero_add] at e'
      have:=sa y (i - 1) (by omega) hI1
      rw [Aq hI1] at this
      omega
     have eI:i - 1 + 1 = i:=by omega
     dsimp only
     by_cases k20:j - 1 - q > 0
     ·rw [if_pos k20]
      have m3:=m2.appB' sb k2n k2f'
      by_cases c6:q = 1
      ·rw [if_pos (beq_iff_eq.mpr c6)]
       exact wpS_pure ⟨lk,.inl ⟨_,rfl,Ula m3 (by omega)⟩⟩
      rw [if_neg (fun q => c6 (beq_iff_eq.mp q))]
      by_cases c8:q = 0
      ·rw [if_pos (beq_iff_eq.mpr c8)]
       exact wpS_pure ⟨lk,.inl ⟨_,rfl,Udn m3 (.inr c8)⟩⟩
      rw [if_neg (fun q => c8 (beq_iff_eq.mp q))]
      have m4:=m3.pushA1 sa hI hI1 k2t'
      refine wpS_bind (AL hI1 ?_)
      by_cases c7:i - 1 = 0
      ·rw [if_pos (beq_iff_eq.mpr c7)]
       exact wpS_pure ⟨lk,.inl ⟨_,rfl,Udn m4 (.inl c7)⟩⟩
      rw [if_neg (fun q => c7 (beq_iff_eq.mp q))]
      split
      ·exact wpS_pure ⟨lk,.inr ⟨_,_,_,_,_,_,rfl,m4,by omega,by omega,by omega⟩⟩
      ·exact wpS_pure ⟨lk,_,_,_,_,_,_,rfl,m4,by omega,by omega,by omega⟩
     ·rw [if_neg k20]
      have e2:q = j - 1:=by omega
      rw [e2] at k2t'
      have m4:=m2.pushA1 sa hI hI1 k2t'
      refine wpS_bind (AL hI1 ?_)
      by_cases c7:i - 1 = 0
      ·rw [if_pos (beq_iff_eq.mpr c7)]
       exact wpS_pure ⟨lk,.inl ⟨_,rfl,Udn m4 (.inl c7)⟩⟩
      rw [if_neg (fun q => c7 (beq_iff_eq.mp q))]
      split
      ·exact wpS_pure ⟨lk,.inr ⟨_,_,_,_,_,_,rfl,m4,by omega,by omega,by omega⟩⟩
      ·exact wpS_pure ⟨lk,_,_,_,_,_,_,rfl,m4,by omega,by omega,by omega⟩
  ·rintro c st2 ⟨lk,out,i,j,mg,ac,bc,rfl,hd⟩
   have e:max 0 (a.size + b.size) = a.size + b.size:=by omega
   rw [e] at hd
   exact ⟨lk,.inr ⟨_,_,_,_,_,_,rfl,hd.m,hd.hi,hd.hj,by have:=hd.hn; omega⟩⟩
  rintro c st2 ⟨lk,⟨r,e,f⟩ | ⟨out,i,j,mg,ac,bc,rfl,hd⟩⟩
  ·obtain ⟨c1,c2⟩:=c
   cases e
   exact wpS_pure ⟨lk,_,rfl,f⟩
  dsimp only
  refine wpS_bind (Cp lk fun st3 lk => ?_)
  exact wpS_pure ⟨lk,_,_,_,_,rfl,hd⟩
 ·rintro c st1 ⟨lk,out,i,j,mg,rfl,hd⟩
  have e:max 0 (a.size + b.size) = a.size + b.size:=by omega
  rw [e] at hd
  have:=hd.hn
  have:=hd.hi
  have:=hd.hj
  omega
 ·rintro c st1 ⟨lk,r,e,f⟩
  obtain ⟨c1,c2⟩:=c
  cases e
  exact wpS_pure (h _ _ lk f)
end SrtG
namespace SrtG
local macro_rules | `(tactic| omega) => `(tactic| first | lia | omega)
open PySem PyProof.Rows
variable {rk:Keyed→Int}
def Seg (rk:Keyed→Int) (arr:Array Keyed) (lo hi:Nat):Prop:=∀ x y,lo≤x→x≤y→y < hi→RK rk arr x≤RK rk arr y
structure Upd (rk:Keyed→Int) (arr arr':Array Keyed) (lo hi:Nat):Prop where
 perm:arr'.toList.Perm arr.toList
 out:∀ x,x < lo∨hi≤x→arr'[x]? = arr[x]?
 seg:Seg rk arr' lo hi
theorem CK {arr arr':Array Keyed} {x:Nat} (h:arr'[x]? = arr[x]?):RK rk arr' x = RK rk arr x:=by unfold RK; rw [h]
abbrev back (l:List (Keyed × Nat)) (lo:Nat) (arr:Array Keyed):Array Keyed:=l.foldl (fun a (p,j) => a.setIfInBounds (lo + j) p) arr
theorem GM (lo:Nat):∀ (l:List Keyed) (n:Nat) (arr:Array Keyed),lo + n + l.length≤arr.size→∀ x,(back (l.zipIdx n) lo arr)[x]? = if lo + n≤x∧x < lo + n + l.length then l[x - (lo + n)]? else arr[x]?
 | [],n,arr,_,x => by
  rw [if_neg (by rintro ⟨h1,h2⟩; simp only [List.length_nil] at h2; omega)]
  rfl
 | p :: l,n,arr,h,x => by
  rw [List.length_cons] at h
  have e:back ((p :: l).zipIdx n) lo arr = back (l.zipIdx (n + 1)) lo (arr.setIfInBounds (lo + n) p):=by rw [List.zipIdx_cons]; rfl
  rw [e,GM lo l (n + 1) _ (by rw [Array.size_setIfInBounds]; omega) x,List.length_cons]
  by_cases c:lo + (n + 1)≤x∧x < lo + (n + 1) + l.length
  ·rw [if_pos c,if_pos (by omega)]
   have e2:x - (lo + n) = (x - (lo + (n + 1))) + 1:=by omega
   rw [e2,List.getElem?_cons_succ]
  ·rw [if_neg c,Array.getElem?_setIfInBounds]
   by_cases c2:lo + n = x
   ·rw [if_pos c2,if_pos (by omega),if_pos (by omega)]
    have e2:x - (lo + n) = 0:=by omega
    rw [e2]; rfl
   ·rw [if_neg c2,if_neg (by omega)]
theorem NN {arr:Array Keyed} {l:List Keyed} {lo:Nat} (h:lo + l.length≤arr.size):(back l.zipIdx lo arr).toList = arr.toList.take lo ++ l ++ arr.toList.drop (lo + l.length):=by
 apply List.ext_getElem?
 intro x
 rw [Array.getElem?_toList,GM lo l 0 arr (by omega) x]
 have hlen:arr.toList.length = arr.size:=Array.length_toList
 by_cases c1:x < lo
 ·rw [if_neg (by omega),List.append_assoc,List.getElem?_append_left (by rw [List.length_take]; omega),List.getElem?_take,if_pos c1,Array.getElem?_toList]
 ·by_cases c2:x < lo + l.length
  ·rw [if_pos (by omega),List.getElem?_append_left (by rw [List.length_append,List.length_take]; omega),List.getElem?_append_right (by rw [List.length_take]; omega),List.length_take]
   have e:min lo arr.toList.length = lo:=by omega
   rw [e]
   rfl
  ·rw [if_neg (by omega),List.getElem?_append_right (by rw [List.length_append,List.length_take]; omega),List.getElem?_drop,List.length_append,List.length_take]
   have e:lo + l.length + (x - (min lo arr.toList.length + l.length)) = x:=by omega
   rw [e,Array.getElem?_toList]
theorem Oh {arr merged:Array Keyed} {lo hi s0 e0:Nat} (hhi:lo≤hi) (hs:s0≤lo) (he:hi≤e0) (hz:e0≤arr.size) (perm:merged.toList.Perm (arr.extract lo hi).toList) (srt:merged.toList.Pairwise fun x y => rk x≤rk y)
  (hL:∀ x z,s0≤x→x < lo→x≤z→z < e0→RK rk arr x≤RK rk arr z) (hR:∀ z y,s0≤z→z≤y→hi≤y→y < e0→RK rk arr z≤RK rk arr y):Upd rk arr (back merged.toList.zipIdx lo arr) s0 e0:=by
 have hx:(arr.extract lo hi).toList = (arr.toList.drop lo).take (hi - lo):=by rw [Array.toList_extract,List.extract_eq_drop_take]
 have hlenA:arr.toList.length = arr.size:=Array.length_toList
 have hlen:merged.toList.length = hi - lo:=by
  rw [perm.length_eq,hx,List.length_take,List.length_drop]
  omega
 have hfit:lo + merged.toList.length≤arr.size:=by omega
 have hget:=GM lo merged.toList 0 arr (by omega)
 have hmid:∀ m,m∈merged.toList→∃ z,lo≤z∧z < hi∧rk m = RK rk arr z:=fun m hm => by
  have hm':=perm.mem_iff.mp hm
  rw [hx] at hm'
  obtain ⟨i,hi'⟩:=List.mem_iff_getElem?.mp hm'
  rw [List.getElem?_take] at hi'
  split at hi'
  ·rename_i hlt
   rw [List.getElem?_drop,Array.getElem?_toList] at hi'
   exact ⟨lo + i,by omega,by omega,by unfold RK; rw [hi']⟩
  ·cases hi'
 have hRK:∀ x,lo≤x→x < hi→∃ m,m∈merged.toList∧merged.toList[x - lo]? = some m∧RK rk (back merged.toList.zipIdx lo arr) x = rk m:=fun x h1 h2 => by
  have hl:x - lo < merged.toList.length:=by omega
  refine ⟨_,List.getElem_mem hl,List.getElem?_eq_getElem hl,?_⟩
  unfold RK
  rw [hget x,if_pos (by omega)]
  have e:x - (lo + 0) = x - lo:=by omega
  rw [e,List.getElem?_eq_getElem hl]
 have hout:∀ x,x < lo∨hi≤x→(back merged.toList.zipIdx lo arr)[x]? = arr[x]?:=fun x h => by
  rw [hget x,if_neg (by omega)]
 refine ⟨?_,fun x h => hout x (by omega),?_⟩
 ·rw [NN hfit]
  have e:arr.toList = arr.toList.take lo ++ ((arr.toList.drop lo).take (hi - lo)) ++ arr.toList.drop (lo + merged.toList.length):=by
   rw [List.append_assoc]
   have e2:lo + merged.toList.length = lo + (hi - lo):=by omega
   rw [e2,← List.drop_drop,List.take_append_drop,List.take_append_drop]
  rw [hx] at perm
  have:=(perm.append_left (arr.toList.take lo)).append_right (arr.toList.drop (lo + merged.toList.length))
  rw [← e] at this
  exact this
 ·intro x y h1 h2 h3
  by_cases cx:x < lo
  ·rw [CK (hout x (.inl cx))]
   by_cases cy:lo≤y∧y < hi
   ·obtain ⟨m,hm,_,e⟩:=hRK y cy.1 cy.2
    obtain ⟨z,z1,z2,ez⟩:=hmid m hm
    rw [e,ez]
    exact hL x z h1 cx (by omega) (by omega)
   ·rw [CK (hout y (by omega))]
    exact hL x y h1 cx h2 h3
  ·by_cases cx2:x < hi
   ·obtain ⟨m,hm,hm2,e⟩:=hRK x (by omega) cx2
    rw [e]
    by_cases cy:y < hi
    ·obtain ⟨m',hm',hm2',e'⟩:=hRK y (by omega) cy
     rw [e']
     by_cases exy:x = y
     ·subst exy
      rw [hm2] at hm2'
      cases hm2'
      exact Int.le_refl _
     ·have hl:y - lo < merged.toList.length:=by omega
      have hl':x - lo < merged.toList.length:=by omega
      have:=List.pairwise_iff_getElem.mp srt (x - lo) (y - lo) hl' hl (by omega)
      rw [List.getElem?_eq_getElem hl'] at hm2
      rw [List.getElem?_eq_getElem hl] at hm2'
      cases hm2
      cases hm2'
      exact this
    ·rw [CK (hout y (by omega))]
     obtain ⟨z,z1,z2,ez⟩:=hmid m hm
     rw [ez]
     exact hR z y (by omega) (by omega) (by omega) h3
   ·rw [CK (hout x (by omega)),CK (hout y (by omega))]
    exact hR x y h1 h2 (by omega) h3
end SrtG
namespace SrtG
local macro_rules | `(tactic| omega) => `(tactic| first | lia | omega)
open PySem PyProof.Rows
variable {rk:Keyed→Int}
theorem FZ {arr:Array Keyed} {l h:Nat} (hh:h≤arr.size):(arr.extract l h).size = h - l:=by rw [Array.size_extract]; omega
theorem Oi {arr:Array Keyed} {l h x:Nat} (hx:x < h - l) (hh:h≤arr.size):(arr.extract l h)[x]? = arr[l + x]?:=by
 rw [← Array.getElem?_toList,Array.toList_extract,List.extract_eq_drop_take,List.getElem?_take,if_pos hx,List.getElem?_drop,Array.getElem?_toList]
theorem Hc {arr:Array Keyed} {l h x:Nat} (hx:x < h - l) (hh:h≤arr.size):RK rk (arr.extract l h) x = RK rk arr (l + x):=by unfold RK; rw [Oi hx hh]
theorem AllU.ex {U:Keyed→Prop} {arr:Array Keyed} {l h:Nat} (u:AllU U arr) (hh:h≤arr.size):AllU U (arr.extract l h):=fun i p e => by
 have hi:i < (arr.extract l h).size:=by
  apply Classical.byContradiction
  intro hn
  rw [Array.getElem?_eq_none (Nat.le_of_not_lt hn)] at e
  cases e
 rw [FZ hh] at hi
 rw [Oi hi hh] at e
 exact u _ _ e
theorem Seg.ex {arr:Array Keyed} {l h:Nat} (sg:Seg rk arr l h) (hh:h≤arr.size):Ew rk (arr.extract l h):=fun i j hij hj => by
 rw [FZ hh] at hj
 rw [Hc (by omega) hh,Hc hj hh]
 exact sg _ _ (by omega) (by omega) (by omega)
section
variable {prog:Program} {w:World} {A:Around} {E:Value→Shared→Prop} {s:Shared} {kd:SortKind} {U:Keyed→Prop}
theorem Rj {st st':SortSt} {Q:PUnit→SortSt→Prop} (h:Q ⟨⟩ st'):wpS (model prog w) A E s (set st':StateT SortSt Sem PUnit) Q st:=by
 unfold wpS; rw [StateT.run_set]; exact wpAny_pure ⟨rfl,h⟩
theorem Jo {i sa na pa sb nb pb:Nat} {st:SortSt} {Q:Bool→SortSt→Prop} (C:Of prog w A E s kd U rk) (hk:kindOf st = kd) (hU:AllU U (arrOf st)) (hf:failedOf st = none)
  (h1:(pendingOf st)[i]? = some (sa,na,pa)) (h2:(pendingOf st)[i + 1]? = some (sb,nb,pb)) (hsb:sb = sa + na) (hna:0 < na) (hnb:0 < nb) (hsz:sb + nb≤(arrOf st).size) (S1:Seg rk (arrOf st) sa sb) (S2:Seg rk (arrOf st) sb (sb + nb))
  (h:∀ st',kindOf st' = kd→failedOf st' = none→pendingOf st' = ((pendingOf st).setIfInBounds i (sa,na + nb,pa)).eraseIdxIfInBounds (i + 1)→Upd rk (arrOf st) (arrOf st') sa (sb + nb)→Q true st') :
  wpS (model prog w) A E s (mergeAt' i) Q st:=by
 delta mergeAt'
 refine wpS_bind (wpS_get ?_)
 rw [h1,h2]
 dsimp only
 refine wpS_bind (Rj ?_)
 have hsbz:sb < (arrOf st).size:=by omega
 have uAt:∀ {i} (hi:i < (arrOf st).size),U (arrOf st)[i]:=fun hi => hU _ _ (getElem?_pos (arrOf st) _ hi)
 refine wpS_bind (AL (arr:=arrOf st) hsbz ?_)
 refine wpS_bind (Ax (arr:=arrOf st) C hk (uAt hsbz) hU (by omega) hna ?_ ?_)
 ·intro p q hpq hq e
  unfold bt at e ⊢
  rw [if_neg Bool.false_ne_true] at e ⊢
  have e':=of_decide_eq_false (Bool.not_eq_true' _ |>.mp e)
  have:=S1 (sa + p) (sa + q) (by omega) (by omega) (by omega)
  exact (Bool.not_eq_true' _).mpr (decide_eq_false (by omega))
 rintro k ⟨kn,kt,kf⟩
 have kt':∀ x,sa≤x→x < sa + k→RK rk (arrOf st) x≤RK rk (arrOf st) sb:=fun x hx1 hx => by
  have e:=kt (x - sa) (by omega)
  unfold bt at e
  rw [if_neg Bool.false_ne_true] at e
  have e':=of_decide_eq_false (Bool.not_eq_true' _ |>.mp e)
  have ex:sa + (x - sa) = x:=by omega
  rw [ex] at e'
  rw [Aq hsbz]
  omega
 have kf':∀ x,sa + k≤x→x < sb→RK rk (arrOf st) sb < RK rk (arrOf st) x:=fun x hx1 hx => by
  have e:=kf (x - sa) (by omega) (by omega)
  unfold bt at e
  rw [if_neg Bool.false_ne_true] at e
  have e':=of_decide_eq_true (Bool.not_eq_false' _ |>.mp e)
  have ex:sa + (x - sa) = x:=by omega
  rw [ex] at e'
  rw [Aq hsbz]
  omega
 dsimp only
 by_cases c1:na - k = 0
 ·rw [if_pos (beq_iff_eq.mpr c1)]
  refine wpS_pure (h _ hk hf rfl ⟨List.Perm.refl _,fun _ _ => rfl,fun x y hx1 hx2 hx3 => ?_⟩)
  by_cases cy:y < sb
  ·exact S1 x y hx1 hx2 cy
  ·by_cases cx:x < sb
   ·have e1:=kt' x hx1 (by omega)
    have e2:=S2 sb y (by omega) (by omega) hx3
    exact Int.le_trans e1 e2
   ·exact S2 x y (by omega) hx2 hx3
 rw [if_neg (fun q => c1 (beq_iff_eq.mp q))]
 have el:sa + k + (na - k) - 1 = sb - 1:=by omega
 rw [el]
 have hlz:sb - 1 < (arrOf st).size:=by omega
 refine wpS_bind (AL (arr:=arrOf st) hlz ?_)
 refine wpS_bind (Ax (arr:=arrOf st) C hk (uAt hlz) hU (by omega) (by omega) ?_ ?_)
 ·intro p q hpq hq e
  unfold bt at e ⊢
  rw [if_pos rfl] at e ⊢
  have e':=of_decide_eq_true e
  have:=S2 (sb + p) (sb + q) (by omega) (by omega) (by omega)
  exact decide_eq_true (by omega)
 rintro n2 ⟨nn,nt,nf⟩
 have nt':∀ x,sb≤x→x < sb + n2→RK rk (arrOf st) x < RK rk (arrOf st) (sb - 1):=fun x hx1 hx => by
  have e:=nt (x - sb) (by omega)
  unfold bt at e
  rw [if_pos rfl] at e
  have e':=of_decide_eq_true e
  have ex:sb + (x - sb) = x:=by omega
  rw [ex] at e'
  rw [Aq hlz]
  omega
 have nf':∀ x,sb + n2≤x→x < sb + nb→RK rk (arrOf st) (sb - 1)≤RK rk (arrOf st) x:=fun x hx1 hx => by
  have e:=nf (x - sb) (by omega) (by omega)
  unfold bt at e
  rw [if_pos rfl] at e
  have e':=of_decide_eq_false e
  have ex:sb + (x - sb) = x:=by omega
  rw [ex] at e'
  rw [Aq hlz]
  omega
 dsimp only
 have hlast:=kf' (sb - 1) (by omega) (by omega)
 by_cases c2:n2 = 0
 ·have:=nf' sb (by omega) (by omega)
  omega
 rw [if_neg (fun q => c2 (beq_iff_eq.mp q))]
 have hy:sb + n2≤(arrOf st).size:=by omega
 have hx':sb≤(arrOf st).size:=by omega
 have sA:Ew rk ((arrOf st).extract (sa + k) sb):=Seg.ex (fun x y q1 q2 q3 => S1 x y (by omega) q2 q3) hx'
 have sB:Ew rk ((arrOf st).extract sb (sb + n2)):=Seg.ex (fun x y q1 q2 q3 => S2 x y q1 q2 (by omega)) hy
 have zA:((arrOf st).extract (sa + k) sb).size = sb - (sa + k):=FZ hx'
 have zB:((arrOf st).extract sb (sb + n2)).size = sb + n2 - sb:=FZ hy
 have q0:RK rk ((arrOf st).extract sb (sb + n2)) 0≤RK rk ((arrOf st).extract (sa + k) sb) 0:=by
  rw [Hc (by omega) hy,Hc (by omega) hx']
  have:=kf' (sa + k + 0) (by omega) (by omega)
  exact Int.le_of_lt this
 have q1:RK rk ((arrOf st).extract sb (sb + n2)) (((arrOf st).extract sb (sb + n2)).size - 1)≤RK rk ((arrOf st).extract (sa + k) sb) (((arrOf st).extract (sa + k) sb).size - 1):=by
  rw [zA,zB,Hc (by omega) hy,Hc (by omega) hx']
  have:=nt' (sb + (sb + n2 - sb - 1)) (by omega) (by omega)
  have e:sa + k + (sb - (sa + k) - 1) = sb - 1:=by omega
  rw [e]
  exact Int.le_of_lt this
 have fin:∀ r (st':SortSt),Like (setPending st (((pendingOf st).setIfInBounds i (sa,na + nb,pa)).eraseIdxIfInBounds (i + 1))) st'→Fin2 rk ((arrOf st).extract (sa + k) sb) ((arrOf st).extract sb (sb + n2)) r →
   wpS (model prog w) A E s (do
    modify fun z => setArr z (back r.toList.zipIdx (sa + k) (arrOf z))
    return (failedOf (← get)).isNone) Q st':=fun r st' lk f => by
  refine wpS_bind (wpS_modify ?_)
  refine wpS_bind (wpS_get ?_)
  have e:(failedOf st').isNone = true:=by rw [lk.fl]; show (failedOf st).isNone = true; rw [hf]; rfl
  show wpS _ _ _ _ (pure ((failedOf st').isNone)) _ _
  rw [e]
  refine wpS_pure (h _ (lk.kd.trans hk) (lk.fl.trans hf) lk.pd ?_)
  have ea:arrOf st' = arrOf st:=lk.arr
  show Upd rk (arrOf st) (back r.toList.zipIdx (sa + k) (arrOf st')) sa (sb + nb)
  rw [ea]
  refine Oh (hi:=sb + n2) (by omega) (by omega) (by omega) hsz ?_ f.srt ?_ ?_
  ·have e2:((arrOf st).extract (sa + k) (sb + n2)).toList = ((arrOf st).extract (sa + k) sb).toList ++ ((arrOf st).extract sb (sb + n2)).toList:=by
    rw [Array.toList_extract,Array.toList_extract,Array.toList_extract,List.extract_eq_drop_take,List.extract_eq_drop_take,List.extract_eq_drop_take]
    have e3:sb + n2 - (sa + k) = (sb - (sa + k)) + (sb + n2 - sb):=by omega
    rw [e3,List.take_add,List.drop_drop]
    have e4:sa + k + (sb - (sa + k)) = sb:=by omega
    rw [e4]
   rw [e2]
   exact f.perm
  ·intro x z hx1 hx2 hx3 hx4
   by_cases cz:z < sb
   ·exact S1 x z hx1 hx3 cz
   ·have e1:=kt' x hx1 hx2
    have e2:=S2 sb z (by omega) (by omega) hx4
    exact Int.le_trans e1 e2
  ·intro z y hx1 hx2 hx3 hx4
   by_cases cz:z < sb
   ·have e1:=S1 z (sb - 1) hx1 (by omega) (by omega)
    exact Int.le_trans e1 (nf' y hx3 hx4)
   ·exact S2 z y (by omega) hx2 hx4
 by_cases c3:na - k≤n2
 ·rw [if_pos c3]
  exact wpS_bind (Jl (a:=(arrOf st).extract (sa + k) sb) (b:=(arrOf st).extract sb (sb + n2)) C hk (hU.ex hx') (hU.ex hy) sA sB (by omega) (by omega) q0 q1 fin)
 ·rw [if_neg c3]
  exact wpS_bind (Jn (a:=(arrOf st).extract (sa + k) sb) (b:=(arrOf st).extract sb (sb + n2)) C hk (hU.ex hx') (hU.ex hy) sA sB (by omega) (by omega) q0 q1 fin)
end
end SrtG
namespace SrtG
open PySem PyProof.Rows
variable {rk:Keyed→Int}
structure Kp (st0 st:SortSt) (lo hi:Nat):Prop where
 kd:kindOf st = kindOf st0
 pd:pendingOf st = pendingOf st0
 fl:failedOf st = failedOf st0
 perm:(arrOf st).toList.Perm (arrOf st0).toList
 out:∀ x,x < lo∨hi≤x→(arrOf st)[x]? = (arrOf st0)[x]?
theorem Kp.refl (st:SortSt) (lo hi:Nat):Kp st st lo hi:=⟨rfl,rfl,rfl,List.Perm.refl _,fun _ _ => rfl⟩
theorem Kp.size {st0 st:SortSt} {lo hi:Nat} (k:Kp st0 st lo hi):(arrOf st).size = (arrOf st0).size:=by
 rw [← Array.length_toList,← Array.length_toList]; exact k.perm.length_eq
theorem AllU.of_perm {U:Keyed→Prop} {a b:Array Keyed} (u:AllU U a) (p:b.toList.Perm a.toList):AllU U b:=fun i q e => by
 have hm:q∈b.toList:=by rw [← Array.getElem?_toList] at e; exact List.mem_of_getElem? e
 have hm':=p.mem_iff.mp hm
 obtain ⟨j,hj⟩:=List.mem_iff_getElem?.mp hm'
 rw [Array.getElem?_toList] at hj
 exact u j q hj
theorem Kp.setA {st0 st:SortSt} {lo hi:Nat} (k:Kp st0 st lo hi) {xs:Array Keyed} (hp:xs.toList.Perm (arrOf st).toList) (ho:∀ x,x < lo∨hi≤x→xs[x]? = (arrOf st)[x]?):Kp st0 (setArr st xs) lo hi :=
 ⟨k.kd,k.pd,k.fl,hp.trans k.perm,fun x hx => (ho x hx).trans (k.out x hx)⟩
theorem DO {xs ys:Array Keyed} {i j:Nat} (h:xs[i]? = ys[j]?):RK rk xs i = RK rk ys j:=by unfold RK; rw [h]
theorem Hf {xs:Array Keyed} {src d:Nat} (hs:src < xs.size) (hd:d≤src) (k:Nat):RK rk (bubble xs src d) k = if k = src - d then RK rk xs src else if src - d < k∧k≤src then RK rk xs (k - 1) else RK rk xs k:=by
 have e:=getElem?_bubble hs d hd k
 by_cases c1:k = src - d
 ·rw [if_pos c1] at e ⊢; exact DO e
 ·rw [if_neg c1] at e ⊢
  by_cases c2:src - d < k∧k≤src
  ·rw [if_pos c2] at e ⊢; exact DO e
  ·rw [if_neg c2] at e ⊢; exact DO e
section
variable {prog:Program} {w:World} {A:Around} {E:Value→Shared→Prop} {s:Shared} {kd:SortKind} {U:Keyed→Prop}
theorem BS {st:SortSt} {i j:Nat} {Q:Option Bool→SortSt→Prop} (C:Of prog w A E s kd U rk) (hk:kindOf st = kd) (hU:AllU U (arrOf st)) (hi:i < (arrOf st).size) (hj:j < (arrOf st).size)
  (h:Q (some (decide (RK rk (arrOf st) i < RK rk (arrOf st) j))) st):wpS (model prog w) A E s (ltAt' i j) Q st:=by
 rw [ltAt'_eq]
 refine wpS_bind (wpS_get ?_)
 refine wpS_bind (AL hi ?_)
 refine wpS_bind (AL hj ?_)
 rw [Aq hi,Aq hj] at h
 exact C _ _ _ _ hk (hU _ _ (getElem?_pos (arrOf st) _ hi)) (hU _ _ (getElem?_pos (arrOf st) _ hj)) h
theorem Kv {st:SortSt} {lo n ok:Nat} {Q:Bool→SortSt→Prop} (C:Of prog w A E s kd U rk) (hk:kindOf st = kd) (hU:AllU U (arrOf st)) (hn:lo + n≤(arrOf st).size) (hok:ok≤n) (hs:Seg rk (arrOf st) lo (lo + ok))
  (h:∀ st',Kp st st' lo (lo + n)→Seg rk (arrOf st') lo (lo + n)→Q true st'):wpS (model prog w) A E s (binarySort' lo n ok) Q st:=by
 rw [binarySort'_eq]
 refine wpS_bind (wpS_mono (wpS_forRange (I:=fun k c st' => c = (none,())∧Kp st st' lo (lo + n)∧Seg rk (arrOf st') lo (lo + min k n))
  (Q:=fun c st' => c = (none,())∧Kp st st' lo (lo + n)∧Seg rk (arrOf st') lo (lo + n)) ?step ?fin ?init) ?post)
 case post =>
  rintro c st' ⟨rfl,hB',hs'⟩
  exact wpS_pure (h st' hB' hs')
 case init =>
  refine ⟨rfl,Kp.refl _ _ _,fun i j hi hij hj => ?_⟩
  by_cases c1:ok = 0
  ·have:i = j:=by omega
   subst this; exact Int.le_refl _
  ·exact hs i j hi hij (by omega)
 case fin =>
  rintro c st' ⟨hc,hB',hs'⟩
  refine ⟨hc,hB',?_⟩
  have e:min (max (max ok 1) n) n = n:=by omega
  rwa [e] at hs'
 case step =>
  rintro k c st' hak hkn ⟨rfl,hB',hs'⟩
  have e:min k n = k:=by omega
  rw [e] at hs'
  have hz:=hB'.size
  have hks:lo + k < (arrOf st').size:=by omega
  have hU':=hU.of_perm hB'.perm
  refine wpS_bind (wpS_mono (wpS_forRange (I:=fun x c st'' => st'' = st'∧∃ l r,c = (none,l,r)∧l≤r∧r≤k∧r - l≤k - x ∧
    (∀ i,i < l→RK rk (arrOf st') (lo + i)≤RK rk (arrOf st') (lo + k))∧(∀ i,r≤i→i < k→RK rk (arrOf st') (lo + k) < RK rk (arrOf st') (lo + i)))
   (Q:=fun c st'' => st'' = st'∧∃ l r,c = (none,l,r)∧l≤k ∧
    (∀ i,i < l→RK rk (arrOf st') (lo + i)≤RK rk (arrOf st') (lo + k))∧(∀ i,l≤i→i < k→RK rk (arrOf st') (lo + k) < RK rk (arrOf st') (lo + i))) ?istep ?ifin ?iinit) ?ipost)
  case iinit => exact ⟨rfl,0,k,rfl,by omega,by omega,by omega,fun i hi => by omega,fun i h1 h2 => by omega⟩
  case ifin =>
   rintro c st'' ⟨rfl,l,r,rfl,hlr,hrk,hm,hlo,hhi⟩
   have:l = r:=by omega
   subst this
   exact ⟨rfl,l,l,rfl,hrk,hlo,hhi⟩
  case istep =>
   rintro x c st'' _ hxk ⟨rfl,l,r,rfl,hlr,hrk,hm,hlo,hhi⟩
   dsimp only
   by_cases hge:l ≥ r
   ·rw [if_pos hge]
    have:l = r:=by omega
    subst this
    exact wpS_pure ⟨rfl,l,l,rfl,hrk,hlo,hhi⟩
   ·rw [if_neg hge]
    refine wpS_bind (BS C (hB'.kd.trans hk) hU' hks (by omega) ?_)
    dsimp only
    by_cases hless:RK rk (arrOf st'') (lo + k) < RK rk (arrOf st'') (lo + (l + r) / 2)
    ·rw [if_pos (decide_eq_true hless)]
     refine wpS_pure ⟨rfl,l,(l + r) / 2,rfl,by omega,by omega,by omega,hlo,fun i q1 q2 => ?_⟩
     exact Int.lt_of_lt_of_le hless (hs' _ _ (by omega) (by omega) (by omega))
    ·rw [if_neg (fun q => hless (of_decide_eq_true q))]
     refine wpS_pure ⟨rfl,(l + r) / 2 + 1,r,rfl,by omega,by omega,by omega,fun i q1 => ?_,hhi⟩
     exact Int.le_trans (hs' (lo + i) (lo + (l + r) / 2) (by omega) (by omega) (by omega)) (Int.not_lt.mp hless)
  case ipost =>
   rintro c st'' ⟨rfl,l,r,rfl,hlk,hlo,hhi⟩
   show wpS _ _ _ _ (do moveDown' (lo + k) (lo + l); pure (ForInStep.yield (none,()))) _ _
   rw [moveDown'_eq]
   have ed:lo + k - (lo + l) = k - l:=by omega
   refine wpS_bind (wpS_modify (wpS_pure ⟨rfl,hB'.setA (Array.perm_iff_toList_perm.mp (bubble_perm _ _ _)) ?_,?_⟩))
   ·intro x hx
    rw [ed,getElem?_bubble hks _ (by omega),if_neg (by omega),if_neg (by omega)]
   have e2:lo + min (k + 1) n = lo + k + 1:=by omega
   rw [e2]
   intro i j hi hij hj
   show RK rk (bubble (arrOf st'') (lo + k) (lo + k - (lo + l))) i≤RK rk (bubble (arrOf st'') (lo + k) (lo + k - (lo + l))) j
   rw [ed,Hf hks (by omega),Hf hks (by omega)]
   have e3:lo + k - (k - l) = lo + l:=by omega
   rw [e3]
   have hlo':∀ i,lo≤i→i < lo + l→RK rk (arrOf st'') i≤RK rk (arrOf st'') (lo + k):=fun i q1 q2 => by
    have:=hlo (i - lo) (by omega)
    have e4:lo + (i - lo) = i:=by omega
    rwa [e4] at this
   have hhi':∀ i,lo + l≤i→i < lo + k→RK rk (arrOf st'') (lo + k)≤RK rk (arrOf st'') i:=fun i q1 q2 => by
    have:=hhi (i - lo) (by omega) (by omega)
    have e4:lo + (i - lo) = i:=by omega
    rw [e4] at this
    exact Int.le_of_lt this
   repeat' split
   all_goals first
    | (exfalso; omega)
    | exact Int.le_refl _
    | exact hlo' _ (by omega) (by omega)
    | exact hhi' _ (by omega) (by omega)
    | exact hs' _ _ (by omega) (by omega) (by omega)
end
local macro_rules | `(tactic| omega) => `(tactic| first | lia | omega)
open PySem PyProof.Rows
variable {rk:Keyed→Int}
def Dsc (rk:Keyed→Int) (arr:Array Keyed) (lo hi:Nat):Prop:=∀ x y,lo≤x→x≤y→y < hi→RK rk arr y≤RK rk arr x
theorem NO {xs:Array Keyed} {i j:Nat} (hj:j≤xs.size) (k:Nat):RK rk (mirror xs i j ((j - i) / 2)) k = if i≤k∧k < j then RK rk xs (i + j - 1 - k) else RK rk xs k:=by
 have e:=getElem?_mirror_all (i:=i) hj k
 by_cases c1:i≤k∧k < j
 ·rw [if_pos c1] at e ⊢; exact DO e
 ·rw [if_neg c1] at e ⊢; exact DO e
section
variable {prog:Program} {w:World} {A:Around} {E:Value→Shared→Prop} {s:Shared} {kd:SortKind} {U:Keyed→Prop}
theorem EL {st0 st:SortSt} {lo hi i j:Nat} {Q:Unit→SortSt→Prop} (k:Kp st0 st lo hi) (h1:lo≤i) (h2:j≤hi) (hj:j≤(arrOf st).size)
  (h:∀ st',Kp st0 st' lo hi→(∀ k,RK rk (arrOf st') k = if i≤k∧k < j then RK rk (arrOf st) (i + j - 1 - k) else RK rk (arrOf st) k)→Q () st'):wpS (model prog w) A E s (reverseSlice' i j) Q st:=by
 rw [reverseSlice'_eq]
 refine wpS_modify (h _ (k.setA (Array.perm_iff_toList_perm.mp (mirror_perm _ _ _ _)) fun x hx => ?_) fun k => NO hj k)
 rw [getElem?_mirror_all hj,if_neg (by omega)]
theorem DP {st0 st:SortSt} {lo hi i j:Nat} {Q:Unit→SortSt→Prop} (k:Kp st0 st lo hi) (h1:lo≤i) (h2:j≤hi) (hj:j≤(arrOf st).size) (heq:∀ k,i≤k→k < j→RK rk (arrOf st) k = RK rk (arrOf st) (j - 1))
  (h:∀ st',Kp st0 st' lo hi→(∀ k,RK rk (arrOf st') k = RK rk (arrOf st) k)→Q () st'):wpS (model prog w) A E s (reverseSlice' i j) Q st:=by
 refine EL (rk:=rk) k h1 h2 hj fun st' k' e => h st' k' fun x => ?_
 rw [e x]
 split
 ·rw [heq _ (by omega) (by omega),heq x (by omega) (by omega)]
 ·rfl
theorem Seg.up {arr:Array Keyed} {lo n:Nat} (sg:Seg rk arr lo (lo + n)) (h1:1≤n) (hx:¬ RK rk arr (lo + n) < RK rk arr (lo + n - 1)):Seg rk arr lo (lo + (n + 1)):=fun i j hi hij hj => by
 by_cases c:j < lo + n
 ·exact sg i j hi hij c
 ·have e:j = lo + n:=by omega
  subst e
  by_cases c2:i = lo + n
  ·subst c2; exact Int.le_refl _
  ·exact Int.le_trans (sg i (lo + n - 1) hi (by omega) (by omega)) (Int.not_lt.mp hx)
theorem Dsc.up {arr arr':Array Keyed} {lo n:Nat} (sg:Dsc rk arr lo (lo + n)) (h1:1≤n) (hx:RK rk arr (lo + n)≤RK rk arr (lo + n - 1)) (he:∀ k,RK rk arr' k = RK rk arr k):Dsc rk arr' lo (lo + (n + 1)):=fun i j hi hij hj => by
 rw [he,he]
 by_cases c:j < lo + n
 ·exact sg i j hi hij c
 ·have e:j = lo + n:=by omega
  subst e
  by_cases c2:i = lo + n
  ·subst c2; exact Int.le_refl _
  ·exact Int.le_trans hx (sg i (lo + n - 1) hi (by omega) (by omega))
theorem Kw {st:SortSt} {lo nrem:Nat} {Q:Option Nat→SortSt→Prop} (C:Of prog w A E s kd U rk) (hk:kindOf st = kd) (hU:AllU U (arrOf st)) (hn:lo + nrem≤(arrOf st).size) (h1:1≤nrem)
  (h:∀ m st',Kp st st' lo (lo + nrem)→1≤m→m≤nrem→Seg rk (arrOf st') lo (lo + m)→Q (some m) st') :
  wpS (model prog w) A E s (countRun' lo nrem) Q st:=by
 rw [countRun'_eq]
 refine wpS_bind (wpS_mono (wpS_forRange (I:=fun x c st' => st' = st∧c = (none,x)∧Seg rk (arrOf st) lo (lo + x))
  (Q:=fun c st' => st' = st∧∃ n,c = (none,n)∧1≤n∧n≤nrem∧Seg rk (arrOf st) lo (lo + n)∧(n = nrem∨RK rk (arrOf st) (lo + n) < RK rk (arrOf st) (lo + n - 1))) ?step ?fin ⟨rfl,rfl,fun i j hi hij hj => by have:i = j:=(by omega); subst this; exact Int.le_refl _⟩) ?post)
 case fin =>
  rintro c st' ⟨rfl,rfl,hs'⟩
  have e:max 1 nrem = nrem:=by omega
  rw [e] at hs' ⊢
  exact ⟨rfl,nrem,rfl,h1,Nat.le_refl _,hs',.inl rfl⟩
 case step =>
  rintro x c st' hax hxn ⟨rfl,rfl,hs'⟩
  dsimp only
  refine wpS_bind (BS C hk hU (by omega) (by omega) ?_)
  dsimp only
  by_cases hless:RK rk (arrOf st') (lo + x) < RK rk (arrOf st') (lo + x - 1)
  ·rw [if_pos (decide_eq_true hless)]
   exact wpS_pure ⟨rfl,x,rfl,hax,by omega,hs',.inr hless⟩
  ·rw [if_neg (fun q => hless (of_decide_eq_true q))]
   exact wpS_pure ⟨rfl,rfl,hs'.up hax hless⟩
 case post =>
  rintro c st' ⟨rfl,n,rfl,hn1,hn2,hsn,hor⟩
  dsimp only
  by_cases hnn:n = nrem
  ·rw [if_pos (beq_iff_eq.mpr hnn)]
   exact wpS_pure (h n _ (Kp.refl _ _ _) hn1 hn2 hsn)
  rw [if_neg (fun q => hnn (beq_iff_eq.mp q))]
  have hlt:=hor.resolve_left hnn
  by_cases hgt:n > 1
  ·rw [if_pos hgt]
   refine wpS_bind (BS C hk hU (by omega) (by omega) ?_)
   dsimp only
   by_cases hrose:RK rk (arrOf st') lo < RK rk (arrOf st') (lo + n - 1)
   ·rw [if_pos (decide_eq_true hrose)]
    exact wpS_pure (h n _ (Kp.refl _ _ _) hn1 hn2 hsn)
   rw [if_neg (fun q => hrose (of_decide_eq_true q))]
   have hall:∀ k,lo≤k→k < lo + n→RK rk (arrOf st') k = RK rk (arrOf st') (lo + n - 1):=fun k q1 q2 => by
    have a1:=hsn lo k (by omega) q1 q2
    have a2:=hsn k (lo + n - 1) q1 (by omega) (by omega)
    omega
   refine wpS_bind (DP (rk:=rk) (Kp.refl st' lo (lo + nrem)) (Nat.le_refl _) (by omega) (by omega) hall fun st2 kp hRK => ?_)
   have hd:Dsc rk (arrOf st2) lo (lo + (n + 1)):=Dsc.up (arr:=arrOf st') (fun i j q1 q2 q3 => by rw [hall i q1 (by omega),hall j (by omega) q3]; exact Int.le_refl _) hn1 (Int.le_of_lt hlt) hRK
   refine wpS_bind (wpS_lift (wpAny_rule ⟨rfl,?_⟩))
   refine wpS_bind (wpS_mono (wpS_forRange (I:=fun x c st3 => ∃ neq,c = (none,x,neq)∧Kp st' st3 lo (lo + nrem)∧Dsc rk (arrOf st3) lo (lo + x)∧neq + 1≤x∧(∀ i,lo + x - (neq + 1)≤i→i < lo + x→RK rk (arrOf st3) i = RK rk (arrOf st3) (lo + x - 1)))
    (Q:=fun c st3 => ∃ m neq,c = (none,m,neq)∧Kp st' st3 lo (lo + nrem)∧n + 1≤m∧m≤nrem∧Dsc rk (arrOf st3) lo (lo + m)∧neq + 1≤m∧(∀ i,lo + m - (neq + 1)≤i→i < lo + m→RK rk (arrOf st3) i = RK rk (arrOf st3) (lo + m - 1))) ?_ ?_ ⟨0,rfl,kp,hd,by omega,fun i q1 q2 => by congr 1; omega⟩) ?_)
   ·rintro x c st3 hax hxn ⟨neq,rfl,kp,hd,hq,he⟩
    have hz:=kp.size
    have hU3:=hU.of_perm kp.perm
    dsimp only
    refine wpS_bind (BS C (kp.kd.trans hk) hU3 (by omega) (by omega) ?_)
    dsimp only
    by_cases hless:RK rk (arrOf st3) (lo + x) < RK rk (arrOf st3) (lo + x - 1)
    ·rw [if_pos (decide_eq_true hless)]
     by_cases hneq:neq > 0
     ·rw [if_pos hneq]
      refine wpS_bind (DP (rk:=rk) kp (by omega) (by omega) (by omega) he fun st4 kp4 hRK => ?_)
      exact wpS_pure ⟨0,rfl,kp4,hd.up (by omega) (Int.le_of_lt hless) hRK,by omega,fun i q1 q2 => by congr 1; omega⟩
     ·rw [if_neg hneq]
      exact wpS_pure ⟨0,rfl,kp,hd.up (by omega) (Int.le_of_lt hless) fun _ => rfl,by omega,fun i q1 q2 => by congr 1; omega⟩
    ·rw [if_neg (fun q => hless (of_decide_eq_true q))]
     refine wpS_bind (BS C (kp.kd.trans hk) hU3 (by omega) (by omega) ?_)
     dsimp only
     by_cases hlarger:RK rk (arrOf st3) (lo + x - 1) < RK rk (arrOf st3) (lo + x)
     ·rw [if_pos (decide_eq_true hlarger)]
      exact wpS_pure ⟨x,neq,rfl,kp,hax,by omega,hd,hq,he⟩
     ·rw [if_neg (fun q => hlarger (of_decide_eq_true q))]
      have heqx:RK rk (arrOf st3) (lo + x) = RK rk (arrOf st3) (lo + x - 1):=by omega
      refine wpS_pure ⟨neq + 1,rfl,kp,hd.up (by omega) (by omega) fun _ => rfl,by omega,fun i q1 q2 => ?_⟩
      have e1:lo + (x + 1) - 1 = lo + x:=by omega
      rw [e1]
      by_cases hix:i = lo + x
      ·rw [hix]
      ·rw [heqx]; exact he i (by omega) (by omega)
   ·rintro c st3 ⟨neq,rfl,kp,hd,hq,he⟩
    have e:max (n + 1) nrem = nrem:=by omega
    rw [e] at hd hq he ⊢
    exact ⟨nrem,neq,rfl,kp,by omega,Nat.le_refl _,hd,hq,he⟩
   rintro c st3 ⟨m,neq,rfl,kp,hm1,hm2,hd,hq,he⟩
   have hz:=kp.size
   dsimp only
   have rest:∀ (st4:SortSt),Kp st' st4 lo (lo + nrem)→Dsc rk (arrOf st4) lo (lo + m)→∀ st5,Kp st' st5 lo (lo + nrem)→(∀ k,RK rk (arrOf st5) k = if lo≤k∧k < lo + m then RK rk (arrOf st4) (lo + (lo + m) - 1 - k) else RK rk (arrOf st4) k)→Seg rk (arrOf st5) lo (lo + m):=fun st4 _ d4 st5 _ e5 i j q1 q2 q3 => by
    rw [e5,e5,if_pos (by omega),if_pos (by omega)]
    exact d4 _ _ (by omega) (by omega) (by omega)
   by_cases hneq:neq > 0
   ·rw [if_pos hneq]
    refine wpS_bind (DP (rk:=rk) kp (by omega) (by omega) (by omega) he fun st4 kp4 hRK => ?_)
    have d4:Dsc rk (arrOf st4) lo (lo + m):=fun i j q1 q2 q3 => by rw [hRK,hRK]; exact hd i j q1 q2 q3
    have hz4:=kp4.size
    refine wpS_bind (EL (rk:=rk) kp4 (Nat.le_refl _) (by omega) (by omega) fun st5 kp5 e5 => ?_)
    have s5:=rest _ kp4 d4 st5 kp5 e5
    have hz5:=kp5.size
    have hU5:=hU.of_perm kp5.perm
    refine wpS_bind (wpS_mono (wpS_forRange (I:=fun x c st6 => st6 = st5∧c = (none,x)∧Seg rk (arrOf st5) lo (lo + x))
     (Q:=fun c st6 => st6 = st5∧∃ n,c = (none,n)∧1≤n∧n≤nrem∧Seg rk (arrOf st5) lo (lo + n)) ?_ ?_ ⟨rfl,rfl,s5⟩) ?_)
    ·rintro x c st6 hax hxn ⟨rfl,rfl,hs'⟩
     dsimp only
     refine wpS_bind (BS C (kp5.kd.trans hk) hU5 (by omega) (by omega) ?_)
     dsimp only
     by_cases hless:RK rk (arrOf st6) (lo + x) < RK rk (arrOf st6) (lo + x - 1)
     ·rw [if_pos (decide_eq_true hless)]
      exact wpS_pure ⟨rfl,x,rfl,by omega,by omega,hs'⟩
     ·rw [if_neg (fun q => hless (of_decide_eq_true q))]
      exact wpS_pure ⟨rfl,rfl,hs'.up (by omega) hless⟩
    ·rintro c st6 ⟨rfl,rfl,hs'⟩
     have e:max m nrem = nrem:=by omega
     rw [e] at hs' ⊢
     exact ⟨rfl,nrem,rfl,h1,Nat.le_refl _,hs'⟩
    rintro c st6 ⟨rfl,n5,rfl,q1,q2,q3⟩
    exact wpS_pure (h n5 _ kp5 q1 q2 q3)
   ·rw [if_neg hneq]
    have kp4:=kp
    have d4:=hd
    have hz4:=hz
    refine wpS_bind (EL (rk:=rk) kp4 (Nat.le_refl _) (by omega) (by omega) fun st5 kp5 e5 => ?_)
    have s5:=rest _ kp4 d4 st5 kp5 e5
    have hz5:=kp5.size
    have hU5:=hU.of_perm kp5.perm
    refine wpS_bind (wpS_mono (wpS_forRange (I:=fun x c st6 => st6 = st5∧c = (none,x)∧Seg rk (arrOf st5) lo (lo + x))
     (Q:=fun c st6 => st6 = st5∧∃ n,c = (none,n)∧1≤n∧n≤nrem∧Seg rk (arrOf st5) lo (lo + n)) ?_ ?_ ⟨rfl,rfl,s5⟩) ?_)
    ·rintro x c st6 hax hxn ⟨rfl,rfl,hs'⟩
     dsimp only
     refine wpS_bind (BS C (kp5.kd.trans hk) hU5 (by omega) (by omega) ?_)
     dsimp only
     by_cases hless:RK rk (arrOf st6) (lo + x) < RK rk (arrOf st6) (lo + x - 1)
     ·rw [if_pos (decide_eq_true hless)]
      exact wpS_pure ⟨rfl,x,rfl,by omega,by omega,hs'⟩
     ·rw [if_neg (fun q => hless (of_decide_eq_true q))]
      exact wpS_pure ⟨rfl,rfl,hs'.up (by omega) hless⟩
    ·rintro c st6 ⟨rfl,rfl,hs'⟩
     have e:max m nrem = nrem:=by omega
     rw [e] at hs' ⊢
     exact ⟨rfl,nrem,rfl,h1,Nat.le_refl _,hs'⟩
    rintro c st6 ⟨rfl,n5,rfl,q1,q2,q3⟩
    exact wpS_pure (h n5 _ kp5 q1 q2 q3)
  ·rw [if_neg hgt]
   have hd:Dsc rk (arrOf st') lo (lo + (n + 1)):=Dsc.up (arr:=arrOf st') (fun i j q1 q2 q3 => by have:i = j:=(by omega); subst this; exact Int.le_refl _) hn1 (Int.le_of_lt hlt) fun _ => rfl
   have kp:=Kp.refl st' lo (lo + nrem)
   refine wpS_bind (wpS_lift (wpAny_rule ⟨rfl,?_⟩))
   refine wpS_bind (wpS_mono (wpS_forRange (I:=fun x c st3 => ∃ neq,c = (none,x,neq)∧Kp st' st3 lo (lo + nrem)∧Dsc rk (arrOf st3) lo (lo + x)∧neq + 1≤x∧(∀ i,lo + x - (neq + 1)≤i→i < lo + x→RK rk (arrOf st3) i = RK rk (arrOf st3) (lo + x - 1)))
    (Q:=fun c st3 => ∃ m neq,c = (none,m,neq)∧Kp st' st3 lo (lo + nrem)∧n + 1≤m∧m≤nrem∧Dsc rk (arrOf st3) lo (lo + m)∧neq + 1≤m∧(∀ i,lo + m - (neq + 1)≤i→i < lo + m→RK rk (arrOf st3) i = RK rk (arrOf st3) (lo + m - 1))) ?_ ?_ ⟨0,rfl,kp,hd,by omega,fun i q1 q2 => by congr 1; omega⟩) ?_)
   ·rintro x c st3 hax hxn ⟨neq,rfl,kp,hd,hq,he⟩
    have hz:=kp.size
    have hU3:=hU.of_perm kp.perm
    dsimp only
    refine wpS_bind (BS C (kp.kd.trans hk) hU3 (by omega) (by omega) ?_)
    dsimp only
    by_cases hless:RK rk (arrOf st3) (lo + x) < RK rk (arrOf st3) (lo + x - 1)
    ·rw [if_pos (decide_eq_true hless)]
     by_cases hneq:neq > 0
     ·rw [if_pos hneq]
      refine wpS_bind (DP (rk:=rk) kp (by omega) (by omega) (by omega) he fun st4 kp4 hRK => ?_)
      exact wpS_pure ⟨0,rfl,kp4,hd.up (by omega) (Int.le_of_lt hless) hRK,by omega,fun i q1 q2 => by congr 1; omega⟩
     ·rw [if_neg hneq]
      exact wpS_pure ⟨0,rfl,kp,hd.up (by omega) (Int.le_of_lt hless) fun _ => rfl,by omega,fun i q1 q2 => by congr 1; omega⟩
    ·rw [if_neg (fun q => hless (of_decide_eq_true q))]
     refine wpS_bind (BS C (kp.kd.trans hk) hU3 (by omega) (by omega) ?_)
     dsimp only
     by_cases hlarger:RK rk (arrOf st3) (lo + x - 1) < RK rk (arrOf st3) (lo + x)
     ·rw [if_pos (decide_eq_true hlarger)]
      exact wpS_pure ⟨x,neq,rfl,kp,hax,by omega,hd,hq,he⟩
     ·rw [if_neg (fun q => hlarger (of_decide_eq_true q))]
      have heqx:RK rk (arrOf st3) (lo + x) = RK rk (arrOf st3) (lo + x - 1):=by omega
      refine wpS_pure ⟨neq + 1,rfl,kp,hd.up (by omega) (by omega) fun _ => rfl,by omega,fun i q1 q2 => ?_⟩
      have e1:lo + (x + 1) - 1 = lo + x:=by omega
      rw [e1]
      by_cases hix:i = lo + x
      ·rw [hix]
      ·rw [heqx]; exact he i (by omega) (by omega)
   ·rintro c st3 ⟨neq,rfl,kp,hd,hq,he⟩
    have e:max (n + 1) nrem = nrem:=by omega
    rw [e] at hd hq he ⊢
    exact ⟨nrem,neq,rfl,kp,by omega,Nat.le_refl _,hd,hq,he⟩
   rintro c st3 ⟨m,neq,rfl,kp,hm1,hm2,hd,hq,he⟩
   have hz:=kp.size
   dsimp only
   have rest:∀ (st4:SortSt),Kp st' st4 lo (lo + nrem)→Dsc rk (arrOf st4) lo (lo + m)→∀ st5,Kp st' st5 lo (lo + nrem)→(∀ k,RK rk (arrOf st5) k = if lo≤k∧k < lo + m then RK rk (arrOf st4) (lo + (lo + m) - 1 - k) else RK rk (arrOf st4) k)→Seg rk (arrOf st5) lo (lo + m):=fun st4 _ d4 st5 _ e5 i j q1 q2 q3 => by
    rw [e5,e5,if_pos (by omega),if_pos (by omega)]
    exact d4 _ _ (by omega) (by omega) (by omega)
   by_cases hneq:neq > 0
   ·rw [if_pos hneq]
    refine wpS_bind (DP (rk:=rk) kp (by omega) (by omega) (by omega) he fun st4 kp4 hRK => ?_)
    have d4:Dsc rk (arrOf st4) lo (lo + m):=fun i j q1 q2 q3 => by rw [hRK,hRK]; exact hd i j q1 q2 q3
    have hz4:=kp4.size
    refine wpS_bind (EL (rk:=rk) kp4 (Nat.le_refl _) (by omega) (by omega) fun st5 kp5 e5 => ?_)
    have s5:=rest _ kp4 d4 st5 kp5 e5
    have hz5:=kp5.size
    have hU5:=hU.of_perm kp5.perm
    refine wpS_bind (wpS_mono (wpS_forRange (I:=fun x c st6 => st6 = st5∧c = (none,x)∧Seg rk (arrOf st5) lo (lo + x))
     (Q:=fun c st6 => st6 = st5∧∃ n,c = (none,n)∧1≤n∧n≤nrem∧Seg rk (arrOf st5) lo (lo + n)) ?_ ?_ ⟨rfl,rfl,s5⟩) ?_)
    ·rintro x c st6 hax hxn ⟨rfl,rfl,hs'⟩
     dsimp only
     refine wpS_bind (BS C (kp5.kd.trans hk) hU5 (by omega) (by omega) ?_)
     dsimp only
     by_cases hless:RK rk (arrOf st6) (lo + x) < RK rk (arrOf st6) (lo + x - 1)
     ·rw [if_pos (decide_eq_true hless)]
      exact wpS_pure ⟨rfl,x,rfl,by omega,by omega,hs'⟩
     ·rw [if_neg (fun q => hless (of_decide_eq_true q))]
      exact wpS_pure ⟨rfl,rfl,hs'.up (by omega) hless⟩
    ·rintro c st6 ⟨rfl,rfl,hs'⟩
     have e:max m nrem = nrem:=by omega
     rw [e] at hs' ⊢
     exact ⟨rfl,nrem,rfl,h1,Nat.le_refl _,hs'⟩
    rintro c st6 ⟨rfl,n5,rfl,q1,q2,q3⟩
    exact wpS_pure (h n5 _ kp5 q1 q2 q3)
   ·rw [if_neg hneq]
    have kp4:=kp
    have d4:=hd
    have hz4:=hz
    refine wpS_bind (EL (rk:=rk) kp4 (Nat.le_refl _) (by omega) (by omega) fun st5 kp5 e5 => ?_)
    have s5:=rest _ kp4 d4 st5 kp5 e5
    have hz5:=kp5.size
    have hU5:=hU.of_perm kp5.perm
    refine wpS_bind (wpS_mono (wpS_forRange (I:=fun x c st6 => st6 = st5∧c = (none,x)∧Seg rk (arrOf st5) lo (lo + x))
     (Q:=fun c st6 => st6 = st5∧∃ n,c = (none,n)∧1≤n∧n≤nrem∧Seg rk (arrOf st5) lo (lo + n)) ?_ ?_ ⟨rfl,rfl,s5⟩) ?_)
    ·rintro x c st6 hax hxn ⟨rfl,rfl,hs'⟩
     dsimp only
     refine wpS_bind (BS C (kp5.kd.trans hk) hU5 (by omega) (by omega) ?_)
     dsimp only
     by_cases hless:RK rk (arrOf st6) (lo + x) < RK rk (arrOf st6) (lo + x - 1)
     ·rw [if_pos (decide_eq_true hless)]
      exact wpS_pure ⟨rfl,x,rfl,by omega,by omega,hs'⟩
     ·rw [if_neg (fun q => hless (of_decide_eq_true q))]
      exact wpS_pure ⟨rfl,rfl,hs'.up (by omega) hless⟩
    ·rintro c st6 ⟨rfl,rfl,hs'⟩
     have e:max m nrem = nrem:=by omega
     rw [e] at hs' ⊢
     exact ⟨rfl,nrem,rfl,h1,Nat.le_refl _,hs'⟩
    rintro c st6 ⟨rfl,n5,rfl,q1,q2,q3⟩
    exact wpS_pure (h n5 _ kp5 q1 q2 q3)
end
end SrtG
namespace SrtG
local macro_rules | `(tactic| omega) => `(tactic| first | lia | omega)
open PySem PyProof.Rows
variable {rk:Keyed→Int}
abbrev Oj:=Nat × Nat × Nat
def Cov (rk:Keyed→Int) (arr:Array Keyed):Nat→List Oj→Nat→Prop
 | a,[],hi => a = hi
 | a,e :: l,hi => e.1 = a∧0 < e.2.1∧Seg rk arr a (a + e.2.1)∧Cov rk arr (a + e.2.1) l hi
theorem Cov.le {arr:Array Keyed}:∀ {l:List Oj} {a hi:Nat},Cov rk arr a l hi→a + l.length≤hi
 | [],a,hi,h => by have:a = hi:=h; simp only [List.length_nil]; omega
 | e :: l,a,hi,h => by have:=Cov.le h.2.2.2; have:=h.2.1; rw [List.length_cons]; omega
theorem Cov.app {arr:Array Keyed}:∀ {l1:List Oj} {l2:List Oj} {a hi:Nat},Cov rk arr a (l1 ++ l2) hi↔∃ m,Cov rk arr a l1 m∧Cov rk arr m l2 hi
 | [],l2,a,hi => ⟨fun h => ⟨a,rfl,h⟩,fun ⟨m,h1,h2⟩ => by have:a = m:=h1; subst this; exact h2⟩
 | e :: l1,l2,a,hi => ⟨fun ⟨h1,h2,h3,h4⟩ => by
   obtain ⟨m,q1,q2⟩:=Cov.app.mp h4
   exact ⟨m,⟨h1,h2,h3,q1⟩,q2⟩,fun ⟨m,⟨h1,h2,h3,h4⟩,q2⟩ => ⟨h1,h2,h3,Cov.app.mpr ⟨m,h4,q2⟩⟩⟩
theorem Cov.cong {arr arr':Array Keyed}:∀ {l:List Oj} {a hi:Nat},(∀ x,a≤x→x < hi→RK rk arr' x = RK rk arr x)→Cov rk arr a l hi→Cov rk arr' a l hi
 | [],_,_,_,h => h
 | e :: l,a,hi,hx,⟨h1,h2,h3,h4⟩ => by
  have hl:=h4.le
  exact ⟨h1,h2,fun x y q1 q2 q3 => by rw [hx x q1 (by omega),hx y (by omega) (by omega)]; exact h3 x y q1 q2 q3,h4.cong fun x q1 q2 => hx x (by omega) q2⟩
theorem Ua {p:Array Oj} {i:Nat} (h:i + 1 < p.size):∃ l1 e1 e2 l2,p.toList = l1 ++ e1 :: e2 :: l2∧l1.length = i∧p[i]? = some e1∧p[i + 1]? = some e2:=by
 have hl:p.toList.length = p.size:=Array.length_toList
 have h1:i < p.toList.length:=by omega
 have h2:i + 1 < p.toList.length:=by omega
 refine ⟨p.toList.take i,p.toList[i],p.toList[i + 1],p.toList.drop (i + 2),?_,?_,?_,?_⟩
 ·rw [← List.drop_eq_getElem_cons h2,← List.drop_eq_getElem_cons h1,List.take_append_drop]
 ·rw [List.length_take]; omega
 ·rw [← Array.getElem?_toList]; exact List.getElem?_eq_getElem h1
 ·rw [← Array.getElem?_toList]; exact List.getElem?_eq_getElem h2
theorem Ub {p:Array Oj} {i:Nat} {e e1 e2:Oj} {l1 l2:List Oj} (hp:p.toList = l1 ++ e1 :: e2 :: l2) (hl:l1.length = i):((p.setIfInBounds i e).eraseIdxIfInBounds (i + 1)).toList = l1 ++ e :: l2:=by
 have hz:i + 1 < p.size:=by
  rw [← Array.length_toList,hp,List.length_append,List.length_cons,List.length_cons]; omega
 have hz':i + 1 < (p.setIfInBounds i e).size:=by rw [Array.size_setIfInBounds]; exact hz
 unfold Array.eraseIdxIfInBounds
 rw [dif_pos hz',Array.toList_eraseIdx,Array.toList_setIfInBounds,hp]
 subst hl
 rw [List.set_append_right _ _ (Nat.le_refl _),Nat.sub_self,List.set_cons_zero,List.eraseIdx_append_of_length_le (by omega)]
 have e:l1.length + 1 - l1.length = 1:=by omega
 rw [e]
 rfl
structure Bs (kd:SortKind) (a₀:Array Keyed) (st:SortSt):Prop where
 kd:kindOf st = kd
 fl:failedOf st = none
 perm:(arrOf st).toList.Perm a₀.toList
theorem Bs.size {kd:SortKind} {a₀:Array Keyed} {st:SortSt} (b:Bs kd a₀ st):(arrOf st).size = a₀.size:=by
 rw [← Array.length_toList,← Array.length_toList]; exact b.perm.length_eq
theorem Bs.kp {kd:SortKind} {a₀:Array Keyed} {st st':SortSt} {lo hi:Nat} (b:Bs kd a₀ st) (k:Kp st st' lo hi):Bs kd a₀ st':=⟨k.kd.trans b.kd,k.fl.trans b.fl,k.perm.trans b.perm⟩
section
variable {prog:Program} {w:World} {A:Around} {E:Value→Shared→Prop} {s:Shared} {kd:SortKind} {U:Keyed→Prop} {a₀:Array Keyed}
theorem Dt {i hi:Nat} {st:SortSt} {Q:Bool→SortSt→Prop} (C:Of prog w A E s kd U rk) (hU:AllU U a₀) (b:Bs kd a₀ st) (hc:Cov rk (arrOf st) 0 (pendingOf st).toList hi) (hhi:hi≤a₀.size) (hi1:i + 1 < (pendingOf st).size)
  (h:∀ st',Bs kd a₀ st'→Cov rk (arrOf st') 0 (pendingOf st').toList hi→(pendingOf st').size + 1 = (pendingOf st).size→(∀ x,hi≤x→RK rk (arrOf st') x = RK rk (arrOf st) x)→Q true st'):wpS (model prog w) A E s (mergeAt' i) Q st:=by
 obtain ⟨l1,⟨s1,n1,p1⟩,⟨s2,n2,p2⟩,l2,hp,hl,e1,e2⟩:=Ua hi1
 have hc0:=hc
 rw [hp] at hc0
 obtain ⟨m,c1,q1,q2,q3,q4,q5,q6,q7⟩:=Cov.app.mp hc0
 dsimp only at q1 q2 q3 q4 q5 q6 q7
 subst q1
 have hle:=q7.le
 have hz:=b.size
 refine Jo C b.kd (hU.of_perm b.perm) b.fl e1 e2 q4 q2 q5 (by omega) (by rw [q4]; exact q3) (by rw [q4]; exact q6) fun st' k1 k2 k3 u => ?_
 have hj:=Ub (e:=(s1,n1 + n2,p1)) hp hl
 have c1le:=c1.le
 refine h st' ⟨k1,k2,u.perm.trans b.perm⟩ ?_ ?_ ?_
 ·rw [k3,hj]
  refine Cov.app.mpr ⟨s1,c1.cong fun x _ hx => CK (u.out x (.inl hx)),rfl,by show 0 < n1 + n2; omega,?_,?_⟩
  ·show Seg rk (arrOf st') s1 (s1 + (n1 + n2))
   have:=u.seg
   rw [q4,Nat.add_assoc] at this
   exact this
  ·show Cov rk (arrOf st') (s1 + (n1 + n2)) l2 hi
   rw [← Nat.add_assoc]
   exact q7.cong fun x hx _ => CK (u.out x (.inr (by omega)))
 ·rw [← Array.length_toList,← Array.length_toList,k3,hj,hp,List.length_append,List.length_append,List.length_cons,List.length_cons,List.length_cons]
  omega
 ·intro x hx
  exact CK (u.out x (.inr (by omega)))
end
end SrtG
namespace SrtG
local macro_rules | `(tactic| omega) => `(tactic| first | lia | omega)
open PySem PyProof.Rows
variable {rk:Keyed→Int}
theorem Cov.shape {arr:Array Keyed}:∀ {l l':List Oj} {a hi:Nat},l'.map (fun e => (e.1,e.2.1)) = l.map (fun e => (e.1,e.2.1))→Cov rk arr a l hi→Cov rk arr a l' hi
 | [],[],_,_,_,h => h
 | e :: l,e' :: l',a,hi,hm,⟨h1,h2,h3,h4⟩ => by
  rw [List.map_cons,List.map_cons] at hm
  injection hm with hm1 hm2
  injection hm1 with q1 q2
  exact ⟨q1.trans h1,by rw [q2]; exact h2,by rw [q2]; exact h3,by rw [q2]; exact h4.shape hm2⟩
 | [],_ :: _,_,_,hm,_ => by cases hm
 | _ :: _,[],_,_,hm,_ => by cases hm
theorem Cov.power {arr:Array Keyed} {p:Array Oj} {i pw hi:Nat} (h:Cov rk arr 0 p.toList hi):Cov rk arr 0 (p.modify i fun e => (e.1,e.2.1,pw)).toList hi:=by
 refine h.shape ?_
 apply List.ext_getElem?
 intro j
 rw [List.getElem?_map,List.getElem?_map,Array.getElem?_toList,Array.getElem?_toList,Array.getElem?_modify]
 split
 ·cases p[j]? <;> rfl
 ·rfl
section
variable {prog:Program} {w:World} {A:Around} {E:Value→Shared→Prop} {s:Shared} {kd:SortKind} {U:Keyed→Prop} {a₀:Array Keyed}
theorem Ol {st:SortSt} {Q:Unit→SortSt→Prop} (C:Of prog w A E s kd U rk) (hU:AllU U a₀) (b:Bs kd a₀ st) (hp:pendingOf st = #[])
  (h:∀ st',Bs kd a₀ st'→Ew rk (arrOf st')→Q () st'):wpS (model prog w) A E s sortRuns' Q st:=by
 rw [sortRuns'_eq]
 refine wpS_bind (wpS_get ?_)
 dsimp only
 have hz:=b.size
 refine wpS_bind (wpS_mono (wpS_forRange
  (I:=fun x c st' => ∃ lo,c = (none,lo)∧x≤lo∧lo≤(arrOf st).size∧Bs kd a₀ st'∧Cov rk (arrOf st') 0 (pendingOf st').toList lo)
  (Q:=fun c st' => c.1 = none∧Bs kd a₀ st'∧Cov rk (arrOf st') 0 (pendingOf st').toList (arrOf st).size) ?step ?fin ⟨0,rfl,Nat.le_refl _,Nat.zero_le _,b,by rw [hp]; rfl⟩) ?post)
 case fin =>
  rintro c st' ⟨lo,rfl,h1,h2,bs,cv⟩
  have e:lo = (arrOf st).size:=by omega
  subst e
  exact ⟨rfl,bs,cv⟩
 case step =>
  rintro x c st1 _ hx ⟨lo,rfl,h1,h2,bs,cv⟩
  dsimp only
  have hz1:=bs.size
  by_cases cl:lo ≥ (arrOf st).size
  ·rw [if_pos cl]
   have e:lo = (arrOf st).size:=by omega
   subst e
   exact wpS_pure ⟨rfl,bs,cv⟩
  rw [if_neg cl]
  have nextOf:∀ (st3:SortSt) (n:Nat),Bs kd a₀ st3→Cov rk (arrOf st3) 0 (pendingOf st3).toList lo→0 < n→lo + n≤(arrOf st).size→Seg rk (arrOf st3) lo (lo + n)→∀ {c:Option PUnit × Nat},c = (none,lo + n)→∃ lo',c = (none,lo')∧x + 1≤lo'∧lo'≤(arrOf st).size∧Bs kd a₀ (setPending st3 ((pendingOf st3).push (lo,n,0)))∧Cov rk (arrOf (setPending st3 ((pendingOf st3).push (lo,n,0)))) 0 (pendingOf (setPending st3 ((pendingOf st3).push (lo,n,0)))).toList lo':=fun st3 n bs3 cv3 hpos hfit sg c hc => by
   refine ⟨lo + n,hc,by omega,hfit,⟨bs3.kd,bs3.fl,bs3.perm⟩,?_⟩
   show Cov rk (arrOf st3) 0 ((pendingOf st3).push (lo,n,0)).toList (lo + n)
   rw [Array.toList_push]
   exact Cov.app.mpr ⟨lo,cv3,rfl,hpos,sg,rfl⟩
  refine wpS_bind (Kw C bs.kd (hU.of_perm bs.perm) (by omega) (by omega) fun n st2 kp2 hn1 hn2 sg2 => ?_)
  have bs2:=bs.kp kp2
  have cv2:Cov rk (arrOf st2) 0 (pendingOf st2).toList lo:=by
   rw [kp2.pd]
   exact cv.cong fun x _ hx => CK (kp2.out x (.inl hx))
  dsimp only
  by_cases cm:n < minRun' (arrOf st).size (arrOf st).size 0
  ·rw [if_pos cm]
   refine wpS_bind (wpS_lift (wpAny_rule ⟨rfl,?_⟩))
   have hz2:=bs2.size
   refine wpS_bind (Kv (n:=min ((arrOf st).size - lo) (minRun' (arrOf st).size (arrOf st).size 0)) C bs2.kd (hU.of_perm bs2.perm) (by omega) (by omega) sg2 fun st3 kp3 sg3 => ?_)
   rw [if_neg (by decide)]
   have bs3:=bs2.kp kp3
   have cv3:Cov rk (arrOf st3) 0 (pendingOf st3).toList lo:=by
    rw [kp3.pd]
    exact cv2.cong fun x _ hx => CK (kp3.out x (.inl hx))
   have hpos:0 < min ((arrOf st).size - lo) (minRun' (arrOf st).size (arrOf st).size 0):=by omega
   have hfit:lo + min ((arrOf st).size - lo) (minRun' (arrOf st).size (arrOf st).size 0)≤(arrOf st).size:=by omega
   refine wpS_bind (wpS_get ?_)
   cases hb:(pendingOf st3).back? with
   | none =>
    dsimp only
    exact wpS_bind (wpS_modify (wpS_pure (nextOf st3 _ bs3 cv3 hpos hfit sg3 rfl)))
   | some e =>
    obtain ⟨s1,n1,p1⟩:=e
    dsimp only
    refine wpS_bind (wpS_mono (wpS_forRange (I:=fun _ c st4 => c = (none,())∧Bs kd a₀ st4∧Cov rk (arrOf st4) 0 (pendingOf st4).toList lo∧∀ x,lo≤x→RK rk (arrOf st4) x = RK rk (arrOf st3) x)
     (Q:=fun c st4 => c = (none,())∧Bs kd a₀ st4∧Cov rk (arrOf st4) 0 (pendingOf st4).toList lo∧∀ x,lo≤x→RK rk (arrOf st4) x = RK rk (arrOf st3) x) ?_ (fun _ _ q => q) ⟨rfl,bs3,cv3,fun _ _ => rfl⟩) ?_)
    ·rintro y c st4 _ _ ⟨rfl,bs4,cv4,ou4⟩
     refine wpS_bind (wpS_get ?_)
     by_cases cp:(pendingOf st4).size > 1
     ·rw [if_pos cp]
      obtain ⟨o1,o2,o3⟩:=(pendingOf st4)[(pendingOf st4).size - 2]
      have hge:(pendingOf st4)[(pendingOf st4).size - 2]? = some (pendingOf st4)[(pendingOf st4).size - 2]:=getElem?_pos _ _ (by omega)
      rw [hge]
      dsimp only
      by_cases co:(pendingOf st4)[(pendingOf st4).size - 2].2.2≤power' (arrOf st).size (2 * s1 + n1) (2 * s1 + n1 + n1 + min ((arrOf st).size - lo) (minRun' (arrOf st).size (arrOf st).size 0)) (arrOf st).size
      ·rw [if_pos co]
       exact wpS_pure ⟨rfl,bs4,cv4,ou4⟩
      ·rw [if_neg co]
       refine wpS_bind (Dt C hU bs4 cv4 (by omega) (by omega) fun st5 bs5 cv5 _ ou5 => ?_)
       rw [if_neg (by decide)]
       exact wpS_pure ⟨rfl,bs5,cv5,fun x hx => (ou5 x hx).trans (ou4 x hx)⟩
     ·rw [if_neg cp]
      exact wpS_pure ⟨rfl,bs4,cv4,ou4⟩
    ·rintro c st4 ⟨rfl,bs4,cv4,ou4⟩
     dsimp only
     refine wpS_bind (wpS_modify ?_)
     refine wpS_bind (wpS_modify (wpS_pure ?_))
     have sg4:Seg rk (arrOf st4) lo (lo + min ((arrOf st).size - lo) (minRun' (arrOf st).size (arrOf st).size 0)):=fun i j q1 q2 q3 => by rw [ou4 i q1,ou4 j (by omega)]; exact sg3 i j q1 q2 q3
     exact nextOf (setPending st4 ((pendingOf st4).modify ((pendingOf st4).size - 1) fun e => (e.1,e.2.1,power' (arrOf st).size (2 * s1 + n1) (2 * s1 + n1 + n1 + min ((arrOf st).size - lo) (minRun' (arrOf st).size (arrOf st).size 0)) (arrOf st).size))) _ ⟨bs4.kd,bs4.fl,bs4.perm⟩ (Cov.power cv4) hpos hfit sg4 rfl
  ·rw [if_neg cm]
   have bs3:=bs2
   have cv3:=cv2
   have sg3:=sg2
   have hpos:0 < n:=by omega
   have hfit:lo + n≤(arrOf st).size:=by omega
   refine wpS_bind (wpS_get ?_)
   cases hb:(pendingOf st2).back? with
   | none =>
    dsimp only
    exact wpS_bind (wpS_modify (wpS_pure (nextOf st2 _ bs3 cv3 hpos hfit sg3 rfl)))
   | some e =>
    obtain ⟨s1,n1,p1⟩:=e
    dsimp only
    refine wpS_bind (wpS_mono (wpS_forRange (I:=fun _ c st4 => c = (none,())∧Bs kd a₀ st4∧Cov rk (arrOf st4) 0 (pendingOf st4).toList lo∧∀ x,lo≤x→RK rk (arrOf st4) x = RK rk (arrOf st2) x)
     (Q:=fun c st4 => c = (none,())∧Bs kd a₀ st4∧Cov rk (arrOf st4) 0 (pendingOf st4).toList lo∧∀ x,lo≤x→RK rk (arrOf st4) x = RK rk (arrOf st2) x) ?_ (fun _ _ q => q) ⟨rfl,bs3,cv3,fun _ _ => rfl⟩) ?_)
    ·rintro y c st4 _ _ ⟨rfl,bs4,cv4,ou4⟩
     refine wpS_bind (wpS_get ?_)
     by_cases cp:(pendingOf st4).size > 1
     ·rw [if_pos cp]
      obtain ⟨o1,o2,o3⟩:=(pendingOf st4)[(pendingOf st4).size - 2]
      have hge:(pendingOf st4)[(pendingOf st4).size - 2]? = some (pendingOf st4)[(pendingOf st4).size - 2]:=getElem?_pos _ _ (by omega)
      rw [hge]
      dsimp only
      by_cases co:(pendingOf st4)[(pendingOf st4).size - 2].2.2≤power' (arrOf st).size (2 * s1 + n1) (2 * s1 + n1 + n1 + n) (arrOf st).size
      ·rw [if_pos co]
       exact wpS_pure ⟨rfl,bs4,cv4,ou4⟩
      ·rw [if_neg co]
       refine wpS_bind (Dt C hU bs4 cv4 (by omega) (by omega) fun st5 bs5 cv5 _ ou5 => ?_)
       rw [if_neg (by decide)]
       exact wpS_pure ⟨rfl,bs5,cv5,fun x hx => (ou5 x hx).trans (ou4 x hx)⟩
     ·rw [if_neg cp]
      exact wpS_pure ⟨rfl,bs4,cv4,ou4⟩
    ·rintro c st4 ⟨rfl,bs4,cv4,ou4⟩
     dsimp only
     refine wpS_bind (wpS_modify ?_)
     refine wpS_bind (wpS_modify (wpS_pure ?_))
     have sg4:Seg rk (arrOf st4) lo (lo + n):=fun i j q1 q2 q3 => by rw [ou4 i q1,ou4 j (by omega)]; exact sg3 i j q1 q2 q3
     exact nextOf (setPending st4 ((pendingOf st4).modify ((pendingOf st4).size - 1) fun e => (e.1,e.2.1,power' (arrOf st).size (2 * s1 + n1) (2 * s1 + n1 + n1 + n) (arrOf st).size))) _ ⟨bs4.kd,bs4.fl,bs4.perm⟩ (Cov.power cv4) hpos hfit sg4 rfl
 case post =>
  rintro ⟨c1,c2⟩ st1 ⟨e,bs,cv⟩
  cases e
  dsimp only
  have done:∀ st',Bs kd a₀ st'→Cov rk (arrOf st') 0 (pendingOf st').toList (arrOf st).size→(pendingOf st').size≤1→Ew rk (arrOf st'):=fun st' bs' cv' hl => by
   have hz':=bs'.size
   intro i j hij hj
   rw [← Array.length_toList] at hl
   revert cv' hl
   generalize (pendingOf st').toList = l
   intro cv' hl
   match l,cv',hl with
   | [],cv',_ =>
    have:0 = (arrOf st).size:=cv'
    omega
   | [e],cv',_ =>
    obtain ⟨q1,q2,q3,q4⟩:=cv'
    have:0 + e.2.1 = (arrOf st).size:=q4
    exact q3 i j (by omega) hij (by omega)
   | _ :: _ :: _,_,hl => simp only [List.length_cons] at hl; omega
  have hlen:=cv.le
  rw [Array.length_toList] at hlen
  refine wpS_bind (wpS_mono (wpS_forRange (I:=fun x c st' => c = (none,())∧Bs kd a₀ st'∧Cov rk (arrOf st') 0 (pendingOf st').toList (arrOf st).size∧(pendingOf st').size + x≤(arrOf st).size)
   (Q:=fun c st' => c = (none,())∧Bs kd a₀ st'∧Cov rk (arrOf st') 0 (pendingOf st').toList (arrOf st).size∧(pendingOf st').size≤1) ?_ ?_ ⟨rfl,bs,cv,by omega⟩) ?_)
  ·rintro x c st2 _ hx ⟨rfl,bs2,cv2,hm⟩
   refine wpS_bind (wpS_get ?_)
   by_cases cp:(pendingOf st2).size≤1
   ·rw [if_pos cp]
    exact wpS_pure ⟨rfl,bs2,cv2,cp⟩
   ·rw [if_neg cp]
    refine wpS_bind (Dt C hU bs2 cv2 (by omega) ?_ fun st5 bs5 cv5 hs5 _ => ?_)
    ·split <;> split <;> omega
    ·rw [if_neg (by decide)]
     exact wpS_pure ⟨rfl,bs5,cv5,by omega⟩
  ·rintro c st2 ⟨rfl,bs2,cv2,hm⟩
   exact ⟨rfl,bs2,cv2,by omega⟩
  ·rintro c st2 ⟨rfl,bs2,cv2,hm⟩
   exact wpS_pure (h _ bs2 (done _ bs2 cv2 hm))
end
end SrtG
namespace SrtG
open PySem PyProof.Rows
def Kx (h:Heap) (v:Value) (a b:Int):Prop:=∃ x o t u n,v = .ref x∧h.get? x = some o∧o.data = .seq #[.int a t,.int b u] n
def MG (h:Heap) (k:Keyed):Int:=match k.1 with
  | .ref x => match h.get? x with
    | some o => match o.data with
     | .seq xs _ => match (xs[0]?:Option Value),(xs[1]?:Option Value) with
      | some (.int a _),some (.int b _) => 65536 * a + b
      | _,_ => 0
     | _ => 0
    | _ => 0
  | _ => 0
theorem Ex {h:Heap} {k:Keyed} {a b:Int} (p:Kx h k.1 a b):MG h k = 65536 * a + b:=by
 obtain ⟨x,o,t,u,n,e1,e2,e3⟩:=p
 unfold MG
 rw [e1]
 dsimp only
 rw [e2]
 dsimp only
 rw [e3]
 rfl
def TU (h:Heap) (k:Keyed):Prop:=∃ a b,Kx h k.1 a b∧0≤b∧b < 65536
variable {prog:Program} {w:World} {A:Around} {E:Value→Shared→Prop} {s:Shared}
theorem NP:Of prog w A E s (tuples' true) (TU s.heap) (MG s.heap):=by
 intro st x y Q hk hx hy h
 obtain ⟨a,b,px,b0,b1⟩:=hx
 obtain ⟨c,d,py,d0,d1⟩:=hy
 rw [Ex px,Ex py] at h
 obtain ⟨p,o,t,u,n,e1,e2,e3⟩:=px
 obtain ⟨p',o',t',u',n',e1',e2',e3'⟩:=py
 rw [lt'_eq]
 refine wpS_bind (wpS_get ?_)
 rw [hk,e1,e1']
 refine wpS_bind (wpS_lift (wpAny_attempt ?_))
 refine PySem.W.kat_lt e2 e3 e2' e3' ?_
 have fin:∀ r:Bool,r = decide (65536 * a + b < 65536 * c + d)→(s = s∧wpS (model prog w) A E s (match (Except.ok r:Except Value Bool) with
   | .ok b => pure (some b)
   | .error e => do
    modify (fun s => SortSt.mk' (kindOf s) (arrOf s) (pendingOf s) (gallopOf s) (some e))
    pure none) Q st):=fun r hr => ⟨rfl,by rw [hr]; exact wpS_pure h⟩
 refine PySem.W.kat_cons (wpAny_eqBool_int ?_)
 refine PySem.W.kat_go (fun e => ?_) (fun e => ?_)
 ·have e':=eq_of_beq e
  refine PySem.W.kat_yes (PySem.W.kat_cons (wpAny_eqBool_int ?_))
  refine PySem.W.kat_go (fun q => ?_) (fun q => ?_)
  ·have q':=eq_of_beq q
   exact PySem.W.kat_yes (PySem.W.kat_nil (fin _ (by rw [e',q']; simp)))
  ·exact PySem.W.kat_no (PySem.W.kat_one _ _ (lt_int (fin _ (by congr 1; rw [e']; apply propext; constructor <;> intro <;> omega))))
 ·have e':a≠c:=fun q => by rw [q] at e; simp at e
  refine PySem.W.kat_no (oneLt_int (fin _ ?_))
  congr 1
  apply propext
  constructor <;> intro <;> omega
open PySem.Calls PySem.W
def TupAt (h:Heap) (v:Value) (a b:Int):Prop:=∃ x o t u n,v = .ref x∧h.get? x = some o∧o.cls = .type "tuple"∧o.data = .seq #[.int a t,.int b u] n
def TupsOk (h:Heap) (vs:List Value):Prop:=∀ v,v∈vs→∃ a b,TupAt h v a b∧0≤b∧b < 65536
theorem TupAt.pair {h:Heap} {v:Value} {a b:Int} (t:TupAt h v a b):Kx h v a b:=by
 obtain ⟨x,o,t,u,n,e1,e2,_,e4⟩:=t
 exact ⟨x,o,t,u,n,e1,e2,e4⟩
theorem TupsOk.kat {h:Heap}:∀ {vs:List Value},TupsOk h vs→∃ fs:List Value,KatTups h vs fs∧fs.length = vs.length∧∀ v∈fs,∃ a t,v = .int a t
 | [],_ => ⟨[],KatTups.nil,rfl,fun v hv => by cases hv⟩
 | v :: vs,ok => by
  obtain ⟨fs,k,hl,hf⟩:=TupsOk.kat (vs:=vs) fun v hv => ok v (.tail _ hv)
  obtain ⟨a,b,⟨x,o,t,u,n,rfl,e,hc,hd⟩,_,_⟩:=ok v (.head _)
  exact ⟨.int a t :: fs,KatTups.cons e hc hd rfl k,by rw [List.length_cons,List.length_cons,hl],fun v hv => by
   rcases List.mem_cons.mp hv with rfl | hv
   ·exact ⟨a,t,rfl⟩
   ·exact hf v hv⟩
theorem GN:∀ (vs:List Value),vs.zip vs = vs.map fun v => (v,v)
 | [] => rfl
 | v :: vs => by rw [List.zip_cons_cons,List.map_cons,GN vs]
variable {prog:Program} {w:World} {A:Around} {E:Value→Shared→Prop} {s:Shared}
theorem NQ {vs:List Value} {Q:SortSt→Shared→Prop} (ok:TupsOk s.heap vs)
  (h:∀ st',failedOf st' = none→((arrOf st').map (·.2)).toList.Perm vs→((arrOf st').map (·.2)).toList.Pairwise (fun x y => MG s.heap (x,x)≤MG s.heap (y,y))→Q st' s) :
  wpAny (model prog w) A ((sortRuns').run (SortSt.mk' (tuples' true) (vs.toArray.zip vs.toArray) #[] 7 none)) (fun r s' => Q r.2 s') E s:=by
 have hz:(vs.toArray.zip vs.toArray) = (vs.map fun v => (v,v)).toArray:=by
  apply Array.ext'
  rw [Array.toList_zip]
  show vs.zip vs = vs.map fun v => (v,v)
  exact GN vs
 have hU:AllU (TU s.heap) (vs.toArray.zip vs.toArray):=fun i p e => by
  rw [hz] at e
  have e':(vs.map fun v => ((v,v):Keyed))[i]? = some p:=by rw [← Array.getElem?_toList] at e; exact e
  obtain ⟨v,hv,rfl⟩:=List.mem_map.mp (List.mem_of_getElem? e')
  obtain ⟨a,b,q1,q2,q3⟩:=ok v hv
  exact ⟨a,b,q1.pair,q2,q3⟩
 have hwp:wpS (model prog w) A E s sortRuns' (fun _ st' => Q st' s) (SortSt.mk' (tuples' true) (vs.toArray.zip vs.toArray) #[] 7 none):=by
  refine Ol (a₀:=vs.toArray.zip vs.toArray) (rk:=MG s.heap) NP hU ⟨rfl,rfl,List.Perm.refl _⟩ rfl fun st' b srt => ?_
  have hpm:=b.perm
  rw [hz] at hpm
  have hsame:∀ k,k∈(arrOf st').toList→k = (k.2,k.2):=fun k hk => by
   obtain ⟨v,_,rfl⟩:=List.mem_map.mp (hpm.mem_iff.mp hk)
   rfl
  refine h st' b.fl ?_ ?_
  ·rw [Array.toList_map]
   have:=hpm.map (fun k:Keyed => k.2)
   rw [show ((vs.map fun v => ((v,v):Keyed)).toArray.toList.map fun k:Keyed => k.2) = vs from by
    show (vs.map fun v => ((v,v):Keyed)).map (fun k:Keyed => k.2) = vs
    rw [List.map_map]
    exact List.map_id vs] at this
   exact this
  ·rw [Array.toList_map,List.pairwise_map]
   refine List.pairwise_iff_getElem.mpr fun i j hi hj hij => ?_
   have hi':i < (arrOf st').size:=by rw [← Array.length_toList]; exact hi
   have hj':j < (arrOf st').size:=by rw [← Array.length_toList]; exact hj
   have q:=srt i j (Nat.le_of_lt hij) hj'
   rw [Aq hi',Aq hj'] at q
   have e1:=hsame (arrOf st').toList[i] (List.getElem_mem hi)
   have e2:=hsame (arrOf st').toList[j] (List.getElem_mem hj)
   rw [← e1,← e2]
   exact q
 exact wpAny_mono hwp (fun r s' q => by rw [q.1]; exact q.2) fun _ _ e => e
variable {prog:Program} {w:World} {A:Around} {E:Value→Shared→Prop} {s:Shared}
theorem TupsOk.kept {h h':Heap} {vs:List Value} (ok:TupsOk h vs) (k:∀ b o,o.cls = .type "tuple"→h.get? b = some o→h'.get? b = some o):TupsOk h' vs:=fun v hv => by
 obtain ⟨a,b,⟨x,o,t,u,n,e1,e2,e3,e4⟩,q⟩:=ok v hv
 exact ⟨a,b,⟨x,o,t,u,n,e1,k _ _ e3 e2,e3,e4⟩,q⟩
theorem TupsOk.rk {h h':Heap} {vs:List Value} (ok:TupsOk h vs) (k:∀ b o,o.cls = .type "tuple"→h.get? b = some o→h'.get? b = some o) {v:Value} (hv:v∈vs):MG h' (v,v) = MG h (v,v):=by
 obtain ⟨a,b,t,q⟩:=ok v hv
 obtain ⟨x,o,t',u,n,e1,e2,e3,e4⟩:=t
 rw [Ex (k:=(v,v)) (TupAt.pair ⟨x,o,t',u,n,e1,e2,e3,e4⟩),Ex (k:=(v,v)) (TupAt.pair ⟨x,o,t',u,n,e1,k _ _ e3 e2,e3,e4⟩)]
theorem Ky {a:Addr} {vs:List Value} {n:Nat} {P:PySem.Fin→Shared→Prop} (ho:s.heap.get? a = some (seqObj "list" vs.toArray n)) (ok:TupsOk s.heap vs) (h2:2≤vs.length) (hn:vs.length≤4096)
  (h:∀ out c h',out.Perm vs→out.Pairwise (fun x y => MG s.heap (x,x)≤MG s.heap (y,y))→h'.get? a = some (seqObj "list" (List.toArray out) c)→(∀ b o,b≠a→s.heap.get? b = some o→h'.get? b = some o)→P (.done (.ret .none)) { s with heap:=h' }) :
  wpAny (model prog w) A (Builtin.«list.sort» ⟨[.ref a],[]⟩) P E s:=by
 obtain ⟨e1,ho1⟩:∃ e1,(s.heap.update a (Obj.mapSeq fun _ => (#[]:Array Value))).get? a = some (seqObj "list" #[] e1):=⟨_,get?_update_seq ho fun _ => #[]⟩
 have keep:∀ b o,b≠a→s.heap.get? b = some o→(((s.heap.update a (Obj.mapSeq fun _ => (#[]:Array Value))).push (seqObj "tuple" vs.toArray 0)).push (seqObj "list" #[] 0)).get? b = some o:=fun b o hb e =>
  Heap.get?_push_of_some _ (Heap.get?_push_of_some _ (by rw [Heap.get?_update_ne _ _ _ _ hb]; exact e))
 have keepT:∀ b o,o.cls = .type "tuple"→s.heap.get? b = some o→(((s.heap.update a (Obj.mapSeq fun _ => (#[]:Array Value))).push (seqObj "tuple" vs.toArray 0)).push (seqObj "list" #[] 0)).get? b = some o:=fun b o ht e => by
  refine keep b o (fun q => ?_) e
  rw [q,ho] at e
  cases e
  exact absurd (show Value.type "list" = Value.type "tuple" from ht) (by decide)
 have ho3:(((s.heap.update a (Obj.mapSeq fun _ => (#[]:Array Value))).push (seqObj "tuple" vs.toArray 0)).push (seqObj "list" #[] 0)).get? a = some (seqObj "list" #[] e1):=Heap.get?_push_of_some _ (Heap.get?_push_of_some _ ho1)
 have ok3:=ok.kept keepT
 have rk3:=fun {v} (hv:v∈vs) => ok.rk keepT hv
 rw [list_sort_plain]
 refine wpAny_bind (listItems_at ho rfl ?_)
 refine wpAny_bind (listUpdate_at ho rfl ?_ (by rw [List.size_toArray,sizeLine_eq]; omega) (Nat.zero_le _))
 refine wpAny_bind (seqEpoch_at ho1 rfl ?_)
 refine wpAny_bind (wpAny_newTuple ?_ (by show vs.length≤_; rw [sizeLine_eq]; omega))
 refine wpAny_bind (wpAny_newList ?_ (Nat.zero_le _))
 refine wpAny_holding ?_
 show wpAny (model prog w) A _ P E { s with heap:=((s.heap.update a (Obj.mapSeq fun _ => (#[]:Array Value))).push (seqObj "tuple" vs.toArray 0)).push (seqObj "list" #[] 0) }
 generalize hG:((s.heap.update a (Obj.mapSeq fun _ => (#[]:Array Value))).push (seqObj "tuple" vs.toArray 0)).push (seqObj "list" #[] 0) = G at keep ho3 ok3 rk3 ⊢
 dsimp only
 have hn2:¬ vs.toArray.size < 2:=by rw [List.size_toArray]; omega
 rw [if_neg hn2,if_neg hn2]
 obtain ⟨fs,kt,hl,hf⟩:=ok3.kat
 refine wpAny_bind (kat_kind (s:={ s with heap:=G }) (T:=Value.type "int") kt (by omega) (fun v hv => by
  obtain ⟨x,t,rfl⟩:=hf v hv
  exact fun _ _ _ _ _ q => wpAny_pure q) rfl ?_)
 refine wpAny_bind (wpAny_mono (NQ (s:={ s with heap:=G }) (Q:=fun st' s' => s' = { s with heap:=G }∧failedOf st' = none∧((arrOf st').map (·.2)).toList.Perm vs∧((arrOf st').map (·.2)).toList.Pairwise (fun x y => MG G (x,x)≤MG G (y,y))) ok3 (fun st' a1 a2 a3 => ⟨rfl,a1,a2,a3⟩)) ?_ fun _ _ e => e)
 rintro ⟨⟨⟩,st'⟩ s' ⟨rfl,hfl,hpm,hpw⟩
 dsimp only
 have hsz:((arrOf st').map (·.2)).size = vs.length:=by rw [← Array.length_toList]; exact hpm.length_eq
 obtain ⟨c2,hc2⟩:∃ c2,(G.update a (Obj.mapSeq fun _ => (arrOf st').map (·.2))).get? a = some (seqObj "list" ((arrOf st').map (·.2)) c2):=⟨_,get?_update_seq ho3 fun _ => (arrOf st').map (·.2)⟩
 refine wpAny_bind (seqEpoch_at ho3 rfl ?_)
 refine wpAny_bind (listUpdate_at ho3 rfl ?_ (Nat.zero_le _) (Nat.le_trans (Nat.le_of_eq hsz) (by rw [sizeLine_eq]; omega)))
 rw [hfl]
 simp only [bne_self_eq_false,Bool.false_eq_true,if_false]
 refine wpAny_pure (h ((arrOf st').map (·.2)).toList c2 _ hpm ?_ hc2 fun b o hb e => by rw [Heap.get?_update_ne _ _ _ _ hb]; exact keep b o hb e)
 refine List.Pairwise.imp_of_mem (fun {x y} hx hy q => ?_) hpw
 rw [rk3 (hpm.mem_iff.mp hx),rk3 (hpm.mem_iff.mp hy)] at q
 exact q
end SrtG
namespace StT
open PySem PySem.SetTable PyProof.Rows
section
variable {prog:Program} {w:World} {A:Around} {E:Value→Shared→Prop} {s:Shared}
abbrev CM (w:World):Obj:={ cls:=.type "set",dict:=none,data:=.set #[] 0 (.fresh 0 0 (!w.params.followText "set-order")) }
theorem Om (a:Value) {Q₁:Value→Shared→Prop} (h:Q₁ (.ref s.heap.objs.size) { s with heap:=s.heap.push (CM w) }) :
  codeAny (model prog w) A (.call (.builtin "set.__new__") ⟨[.type "set",a],[]⟩) (wants Q₁ E) s:=by
 refine codeAny_of_tree ?_
 show wpAny _ A.in1 (do checkBuiltinCall "set.__new__" ⟨[.type "set",a],[]⟩; again (.builtin "set.__new__" ⟨[.type "set",a],[]⟩)) _ _ s
 refine wpAny_bind (wpAny_of_eq (PySem.F.newCall_set_1 a) (wpAny_pure ⟨plainId_quiet PySem.F.plain_set_new _,codeAny_builtin PySem.F.entry_set_new ?_⟩))
 rw [Around.under_plainId PySem.F.plain_set_new _]
 unfold Builtin.«set.__new__» Builtin.Frozenset.newClass
 have hsub:=sub_set_self
 obtain ⟨hp,g,d,tk,os⟩:=s
 dsimp only
 wp_walk
 refine wpAny_askSetting (wpAny_pure ?_)
 dsimp only
 simp only [newObj]
 refine wpAny_bind (wpAny_alloc (wpAny_pure ?_))
 exact wpAny_pure h
theorem Kz {T newId initId:String} {args:List Value} {Q Q₁:Value→Shared→Prop} (ft:TypeCalled T newId initId)
  (hct:checkTypeCall T ⟨args,[]⟩ = pure ())
  (hnew:codeAny (model prog w) A.in1 (.call (.builtin newId) ⟨.type T :: args,[]⟩) (wants Q₁ E) s)
  (hnext:∀ obj s₁,Q₁ obj s₁→s₁.TypeIs obj T∧codeAny (model prog w) A.in1 (.call (.builtin initId) ⟨obj :: args,[]⟩) (wants (fun r s₂ => r = .none∧Q obj s₂) E) s₁) :
  wpAny (model prog w) A (call (.type T) args) Q E s:=by
 obtain ⟨c,tl,hmro⟩:=ft.mro
 have hmade:=ft.made
 have hsub:=ft.sub
 refine wpAny_call (codeAny_of_tree ?_)
 show wpAny _ _ (callAny (.type T) _) _ _ _
 refine wpAny_pure ⟨Code.quiet_builtin _ (by decide +kernel),codeAny_builtin PySem.F.entry_type_call ?_⟩
 rw [Around.under_plain (weight_type_call_type T args []) rfl]
 have h1:=ft.notType
 have h2:=ft.canCreate
 repeat (any_goals (first | assumption | wp_step))
 refine codeAny_mono hnew fun r s₁ hr => ?_
 cases r with
 | error e => exact hr
 | ok fl =>
  cases fl with
  | ret obj =>
   obtain ⟨hT,hsi⟩:=hnext _ _ hr
   have hli:=ft.init.lookup
   have hbi:=ft.init.bind obj
   repeat (any_goals (first | assumption | wp_step))
   refine codeAny_mono hsi fun r₂ s₂ hr₂ => ?_
   cases r₂ with
   | error e => exact hr₂
   | ok fl₂ =>
    cases fl₂ with
    | ret r =>
     obtain ⟨rfl,hq⟩:=hr₂
     repeat (any_goals (first | assumption | wp_step))
    | _ => exact hr₂.elim
  | _ => exact hr.elim
theorem GO {l:Addr} {items:Array Value} {ps:List (List Int × Addr)} {Q:Value→Shared→Prop}
  (hh:A.handled = none) (hl:s.heap.IsList l items) (hps:items.toList = ps.map fun p => Value.ref p.2) (hp:∀ k x,(k,x)∈ps→IK prog w s.heap k x) (hz:ps.length≤300) (hu:A.units + 8 < cLine)
  (h:∀ (h':Heap) (tk:Nat) (xs:List (List Int × Addr)),SetX prog w h' s.heap.objs.size xs→IU ps xs →
   (∀ b o,b < s.heap.objs.size→s.heap.get? b = some o→h'.get? b = some o)→Q (.ref s.heap.objs.size) { s with heap:=h',toks:=tk }) :
  wpAny (model prog w) A (call (.type "set") [.ref l]) Q E s:=by
 refine Kz (Q₁:=fun obj s₁ => obj = .ref s.heap.objs.size∧s₁ = { s with heap:=s.heap.push (CM w) }) PySem.F.called_set (PySem.F.typeCall_set_1 _) (Om _ ⟨rfl,rfl⟩) ?_
 rintro obj s₁ ⟨rfl,rfl⟩
 have hS:(s.heap.push (CM w)).get? s.heap.objs.size = some (CM w):=Heap.get?_push_size _ rfl
 have hT:Shared.TypeIs { s with heap:=s.heap.push (CM w) } (.ref s.heap.objs.size) "set":=⟨_,hS,rfl⟩
 refine ⟨hT,codeAny_call_builtin PySem.F.called_set.init.plain PySem.F.entry_set_init (check_set_init_1 hT ?_)⟩
 obtain ⟨ol,hol,hcl,nl,hdl⟩:=hl
 obtain ⟨ocls,odict,odata,oslots⟩:=ol
 simp only at hcl hdl
 subst hcl; subst hdl
 have hol':(s.heap.push (CM w)).get? l = some { cls:=.type "list",dict:=odict,data:=.seq items nl,slots:=oslots }:=Heap.get?_push_of_some _ hol
 have hsls:=PySem.F.sub_list_set
 have hslf:=PySem.F.sub_list_frozenset
 have hne:(Value.type "list" == Value.type "dict") = false:=by decide
 have hl1:(s.heap.push (CM w)).IsList l items:=⟨_,hol',rfl,nl,rfl⟩
 unfold Builtin.«set.__init__» noKeywords Builtin.Frozenset.updateFrom
 generalize hPI:pyIter = PI
 wp_walk
 subst hPI
 refine wpAny_pyIter_list hl1 ?_
 refine wpAny_bind (wpAny_runValue ?_)
 have hlS:l < s.heap.objs.size:=Heap.lt_size hol
 have hneI:l≠(s.heap.push (CM w)).objs.size:=by
  rw [Heap.size_push]; exact Nat.ne_of_lt (Nat.lt_succ_of_lt hlS)
 have kp:∀ b o,s.heap.get? b = some o→((s.heap.push (CM w)).push { cls:=.type "list_iterator",data:=.fields #[.ref l,.int 0 0] }).get? b = some o:=fun b o e => Heap.get?_push_of_some _ (Heap.get?_push_of_some _ e)
 refine Rg (a:=s.heap.objs.size) (l:=l) (ps:=ps) (by simpa using hh) hneI (by rw [Heap.size_push]; exact Nat.ne_of_lt (Nat.lt_succ_self _)) (Nat.ne_of_gt hlS) hps hz (by
   show A.in1.in1.units + 1 < cLine
   exact Nat.lt_of_le_of_lt (show A.units + 1 + 1 + 1≤A.units + 8 by omega) hu) (ps.length - 0) 0 _ [] rfl (Nat.zero_le _)
  ⟨_,Heap.get?_push_size _ rfl,rfl,rfl⟩ (hl1.push _) (fun k x hx => ⟨Co (hp k x hx) fun u e => kp x u e,?_⟩) ⟨CM w,#[],0,_,Heap.get?_push_of_some _ hS,⟨rfl,rfl,rfl⟩,rfl,rfl,fun i k x e => by simp at e,List.nodup_nil,Tb.fresh _ _ _,rfl,(by show 0 * 5 < 7 * 3; decide),rfl⟩ ⟨fun p hp => by simp at hp,fun k y hy => by simp at hy,by simp⟩ ?_
 ·obtain ⟨o',_,_,ho',_⟩:=hp k x hx
  have:=Heap.lt_size ho'
  rw [Heap.size_push]
  exact Nat.ne_of_lt (Nat.lt_succ_of_lt this)
 ·intro h' tk' xs' kk sx so
  refine wpAny_pure ?_
  show wpAny _ _ (ret Value.none) _ _ _
  refine wpAny_pure ⟨rfl,h h' tk' xs' sx so fun b o hb e => kk b o (Nat.ne_of_lt hb) ?_ (kp b o e)⟩
  rw [Heap.size_push]; exact Nat.ne_of_lt (Nat.lt_succ_of_lt hb)
end
open PySem.Calls PySem.W
section
variable {prog:Program} {w:World} {A:Around} {E:Value→Shared→Prop} {s:Shared}
theorem On {a:Addr} {vs:List Value} {n:Nat} {P:PySem.Fin→Shared→Prop} (ho:s.heap.get? a = some (seqObj "list" vs.toArray n)) (h2:vs.length < 2)
  (h:∀ c h',h'.get? a = some (seqObj "list" vs.toArray c)→(∀ b o,b≠a→s.heap.get? b = some o→h'.get? b = some o)→P (.done (.ret .none)) { s with heap:=h' }) :
  wpAny (model prog w) A (Builtin.«list.sort» ⟨[.ref a],[]⟩) P E s:=by
 obtain ⟨e1,ho1⟩:∃ e1,(s.heap.update a (Obj.mapSeq fun _ => (#[]:Array Value))).get? a = some (seqObj "list" #[] e1):=⟨_,get?_update_seq ho fun _ => #[]⟩
 have keep:∀ b o,b≠a→s.heap.get? b = some o→(((s.heap.update a (Obj.mapSeq fun _ => (#[]:Array Value))).push (seqObj "tuple" vs.toArray 0)).push (seqObj "list" #[] 0)).get? b = some o:=fun b o hb e =>
  Heap.get?_push_of_some _ (Heap.get?_push_of_some _ (by rw [Heap.get?_update_ne _ _ _ _ hb]; exact e))
 have ho3:(((s.heap.update a (Obj.mapSeq fun _ => (#[]:Array Value))).push (seqObj "tuple" vs.toArray 0)).push (seqObj "list" #[] 0)).get? a = some (seqObj "list" #[] e1):=Heap.get?_push_of_some _ (Heap.get?_push_of_some _ ho1)
 rw [list_sort_plain]
 refine wpAny_bind (listItems_at ho rfl ?_)
 refine wpAny_bind (listUpdate_at ho rfl ?_ (by rw [List.size_toArray,sizeLine_eq]; omega) (Nat.zero_le _))
 refine wpAny_bind (seqEpoch_at ho1 rfl ?_)
 refine wpAny_bind (wpAny_newTuple ?_ (by show vs.length≤_; rw [sizeLine_eq]; omega))
 refine wpAny_bind (wpAny_newList ?_ (Nat.zero_le _))
 refine wpAny_holding ?_
 show wpAny (model prog w) A _ P E { s with heap:=((s.heap.update a (Obj.mapSeq fun _ => (#[]:Array Value))).push (seqObj "tuple" vs.toArray 0)).push (seqObj "list" #[] 0) }
 generalize hG:((s.heap.update a (Obj.mapSeq fun _ => (#[]:Array Value))).push (seqObj "tuple" vs.toArray 0)).push (seqObj "list" #[] 0) = G at keep ho3 ⊢
 dsimp only
 have hn2:vs.toArray.size < 2:=by rw [List.size_toArray]; omega
 rw [if_pos hn2,if_pos hn2]
 refine wpAny_bind (wpAny_pure ?_)
 refine wpAny_bind (wpAny_pure ?_)
 dsimp only
 have har:((vs.toArray.zip vs.toArray).map (·.2)) = vs.toArray:=by
  apply Array.ext'
  rw [Array.toList_map,Array.toList_zip]
  show (vs.zip vs).map (·.2) = vs
  rw [SrtG.GN,List.map_map]
  exact List.map_id vs
 have har':(arrOf (SortSt.mk' general' (vs.toArray.zip vs.toArray) #[] 7 none)).map (·.2) = vs.toArray:=har
 rw [har']
 obtain ⟨c2,hc2⟩:∃ c2,(G.update a (Obj.mapSeq fun _ => vs.toArray)).get? a = some (seqObj "list" vs.toArray c2):=⟨_,get?_update_seq ho3 fun _ => vs.toArray⟩
 refine wpAny_bind (seqEpoch_at ho3 rfl ?_)
 refine wpAny_bind (listUpdate_at ho3 rfl ?_ (Nat.zero_le _) (by rw [List.size_toArray,sizeLine_eq]; omega))
 show wpAny _ _ (if (e1 != e1) = true then _ else _) _ _ _
 rw [if_neg (by simp)]
 exact wpAny_pure (h c2 _ hc2 fun b o hb e => by rw [Heap.get?_update_ne _ _ _ _ hb]; exact keep b o hb e)
theorem EM {α β : Type} {f : α → β} {l1 l2 : List β} (h : l1.Perm l2) : ∀ {xs : List α}, l2 = xs.map f → ∃ ys : List α, ys.Perm xs ∧ ys.map f = l1 := by
  induction h with
  | nil => intro xs e; cases xs with
    | nil => exact ⟨[], .refl _, rfl⟩
    | cons x xs => cases e
  | cons x _ ih => intro xs e; cases xs with
    | nil => cases e
    | cons y xs =>
      rw [List.map_cons] at e
      injection e with e1 e2
      obtain ⟨ys, h1, h2⟩ := ih e2
      exact ⟨y :: ys, h1.cons y, by rw [List.map_cons, h2, e1]⟩
  | swap x y l => intro xs e; match xs, e with
    | a :: b :: xs, e =>
      simp only [List.map_cons] at e
      injection e with e1 e2
      injection e2 with e2 e3
      exact ⟨b :: a :: xs, .swap _ _ _, by simp only [List.map_cons]; rw [← e1, ← e2, ← e3]⟩
  | trans _ _ ih1 ih2 => intro xs e
                         obtain ⟨ys, h1, h2⟩ := ih2 e
                         obtain ⟨zs, h3, h4⟩ := ih1 h2.symm
                         exact ⟨zs, h3.trans h1, h4⟩
theorem LA {a:Addr} {xs:List (List Int × Addr)} {Q:Value→Shared→Prop} (hh:A.handled = none) (S:SetX prog w s.heap a xs) (hz:xs.length≤300)
  (hp:∀ k x,(k,x)∈xs→∃ p q,k = [p,q]∧0≤q∧q < 65536)
  (h:∀ (h':Heap) (tk:Nat) (ys:List (List Int × Addr)) (D:Addr) (c:Nat),s.heap.get? D = none→h'.get? D = some (seqObj "list" (ys.map fun p => Value.ref p.2).toArray c)→(∀ b o,s.heap.get? b = some o→h'.get? b = some o) →
   ys.Perm xs→ys.Pairwise (fun x y => 65536 * x.1.getD 0 0 + x.1.getD 1 0≤65536 * y.1.getD 0 0 + y.1.getD 1 0)→Q (.ref D) { s with heap:=h',toks:=tk }) :
  wpAny (model prog w) A (call (.builtin "sorted") [.ref a]) Q E s:=by
 obtain ⟨o,es,ep,t,S⟩:=S
 refine call_function_entry kind_sorted plain_sorted entry_sorted (args_sorted1 _) ?_
 unfold Builtin.«sorted»
 refine wpAny_bind (m:=checkCount "sorted" 1 1 _) (wpAny_pure ?_)
 refine wpAny_bind (kdu_collect (A:=A.in1) (Rh S.wk) hh S.get (by rw [S.size,sizeLine_eq]; omega) fun h1 tk1 acc hk1 hacc => ?_)
 have hsz:acc.toList.length = xs.length:=by rw [Array.length_toList,hacc.1,S.size]
 have hacc2:acc.toList = (Ds w a ep es).toList.map (·.2):=by
  apply List.ext_getElem?
  intro i
  rw [List.getElem?_map]
  by_cases hi:i < acc.size
  ·have e1:acc[i]? = some acc[i]:=by simp [hi]
   obtain ⟨hh',e2⟩:=hacc.2 i _ e1
   have e2':(Ds w a ep es).toList[i]? = some (hh',acc[i]):=by simpa using e2
   rw [e2']
   simpa using e1
  ·have h1':acc.toList[i]? = none:=by simp; omega
   have h2':(Ds w a ep es).toList[i]? = none:=by
    apply List.getElem?_eq_none
    rw [Array.length_toList,Ev,← hacc.1]; omega
   rw [h1',h2']; rfl
 have hperm:acc.toList.Perm (xs.map fun p => Value.ref p.2):=by
  rw [hacc2]
  refine ((Hb w a ep es).map (·.2)).trans ?_
  rw [S.es,NI,List.map_map]
  exact List.Perm.refl _
 have hIK:∀ k x,(k,x)∈xs→IK prog w h1 k x:=fun k x hx => by
  obtain ⟨i,hi⟩:=List.getElem?_of_mem hx
  exact Co (S.key i k x hi) fun u e => hk1 x u e
 have tupAt:∀ k x,(k,x)∈xs→∃ p q,k = [p,q]∧SrtG.TupAt h1 (.ref x) p q∧0≤q∧q < 65536:=fun k x hx => by
  obtain ⟨p,q,rfl,h0,h1'⟩:=hp k x hx
  obtain ⟨o',items,n,ho',hc',hd',hi'⟩:=hIK _ x hx
  refine ⟨p,q,rfl,?_,h0,h1'⟩
  generalize hL:items.toList = L at hi'
  cases hi' with
  | cons i1 i2 =>
   cases i2 with
   | cons i3 i4 =>
    cases i4
    obtain ⟨t1,rfl⟩:=Et i1
    obtain ⟨t2,rfl⟩:=Et i3
    have:items = #[.int p t1,.int q t2]:=by
     apply Array.ext'
     rw [hL]
    exact ⟨x,o',t1,t2,n,rfl,ho',hc',by rw [hd',this]⟩
 refine wpAny_bind (wpAny_newList ?_ (by rw [hsz,sizeLine_eq]; omega))
 have hoL:(h1.push (seqObj "list" acc.toList.toArray 0)).get? h1.objs.size = some (seqObj "list" acc.toList.toArray 0):=Heap.get?_push_size _ rfl
 have hDn:s.heap.get? h1.objs.size = none:=by
  cases e:s.heap.get? h1.objs.size with
  | none => rfl
  | some o' => exact absurd (Heap.lt_size (hk1 _ _ e)) (Nat.lt_irrefl _)
 have hkp:∀ b o,h1.get? b = some o→(h1.push (seqObj "list" acc.toList.toArray 0)).get? b = some o:=fun b o e => Heap.get?_push_of_some _ e
 obtain ⟨ws,hw1,hw2⟩:=EM hperm rfl
 have fin:∀ (out:List Value) (c:Nat) (h2:Heap),out.Perm acc.toList→out.Pairwise (fun x y => SrtG.MG (h1.push (seqObj "list" acc.toList.toArray 0)) (x,x)≤SrtG.MG (h1.push (seqObj "list" acc.toList.toArray 0)) (y,y)) →
   h2.get? h1.objs.size = some (seqObj "list" (List.toArray out) c)→(∀ b o,b≠h1.objs.size→(h1.push (seqObj "list" acc.toList.toArray 0)).get? b = some o→h2.get? b = some o)→Q (.ref h1.objs.size) { s with heap:=h2,toks:=tk1 }:=fun out c h2 pm pw hg hk => by
  obtain ⟨ys,y1,y2⟩:=EM (pm.trans hperm) rfl
  subst y2
  refine h h2 tk1 ys _ c hDn hg (fun b o e => ?_) y1 ?_
  ·have hlt:=Heap.lt_size (hk1 b o e)
   exact hk b o (Nat.ne_of_lt hlt) (hkp b o (hk1 b o e))
  ·rw [List.pairwise_map] at pw
   refine List.Pairwise.imp_of_mem (fun {x y} hx hy q => ?_) pw
   obtain ⟨k1,x1⟩:=x
   obtain ⟨k2,x2⟩:=y
   obtain ⟨p,q',rfl,t1,_⟩:=tupAt k1 x1 (y1.mem_iff.mp hx)
   obtain ⟨p2,q2,rfl,t2,_⟩:=tupAt k2 x2 (y1.mem_iff.mp hy)
   have keepT:∀ {v:Value} {i j:Int},SrtG.TupAt h1 v i j→SrtG.TupAt (h1.push (seqObj "list" acc.toList.toArray 0)) v i j:=fun t => by
    obtain ⟨x,o,t,u,n,e1,e2,e3,e4⟩:=t
    exact ⟨x,o,t,u,n,e1,hkp _ _ e2,e3,e4⟩
   rw [SrtG.Ex (k:=(Value.ref x1,Value.ref x1)) (keepT t1).pair,SrtG.Ex (k:=(Value.ref x2,Value.ref x2)) (keepT t2).pair] at q
   exact q
 refine wpAny_bind (wpAny_holding (wpAny_call_entry slot_list_sort ⟨_,hoL,rfl⟩ entry_list_sort ?body (args_list_sort _)))
 case body =>
  by_cases hlen:acc.toList.length < 2
  ·refine On (s:={ s with heap:=h1.push (seqObj "list" acc.toList.toArray 0),toks:=tk1 }) hoL hlen fun c h2 hg hk => ⟨_,rfl,wpAny_pure ⟨_,rfl,fin acc.toList c h2 (.refl _) ?_ hg hk⟩⟩
   generalize acc.toList = l at hlen
   match l,hlen with
   | [],_ => exact .nil
   | [x],_ => exact List.pairwise_singleton _ _
  ·refine SrtG.Ky (s:={ s with heap:=h1.push (seqObj "list" acc.toList.toArray 0),toks:=tk1 }) hoL (fun v hv => ?_) (by omega) (by omega) fun out c h2 pm pw hg hk => ⟨_,rfl,wpAny_pure ⟨_,rfl,fin out c h2 pm pw hg hk⟩⟩
   obtain ⟨⟨k,x⟩,hx,rfl⟩:=List.mem_map.mp (hperm.mem_iff.mp hv)
   obtain ⟨p,q,rfl,⟨x',o',t1,t2,n,e1,e2,e3,e4⟩,h0,h1'⟩:=tupAt k x hx
   exact ⟨p,q,⟨x',o',t1,t2,n,e1,hkp _ _ e2,e3,e4⟩,h0,h1'⟩
end
end StT
namespace L2
open PySem PySem.Spec PyProof.Rows
section
variable {X:Cx} {pins:List (Addr × Obj)} {σ:St} {H:Hp} {s:Shared} {h':Heap}
theorem Inv.laidF {a:Addr} {o:HO} {t':Nat} (I:Inv X pins σ H s) (k:∀ b u,s.heap.get? b = some u→h'.get? b = some u) (hp:s.heap.get? a = none) (new:ObjOk X.prog X.w (upd H a o) h' a o) :
  Inv X pins σ (upd H a o) { s with heap:=h',toks:=t' }:=by
 have hn:H a = none:=by
  cases q:H a with
  | none => rfl
  | some u =>
   obtain ⟨ob,e⟩:=(I.hok a u q).obj
   rw [hp] at e; cases e
 have ne:∀ b u,s.heap.get? b = some u→b≠a:=fun b u e z => by rw [z,hp] at e; cases e
 refine I.un ⟨fun b u q _ _ _ => k b u q,fun b u q _ _ _ => ⟨u.slots,k b u q⟩,fun b u q n _ => by rw [AI (ne b u q)]; exact n,fun b u q _ => ⟨u,k b u q⟩,fun b xs q => by rw [AI (AR q hn)]; exact q,fun b u xs q => by rw [AI (AR q hn)]; exact q,fun b ps q => ⟨#[],by rw [AI (AR q hn),q]; simp⟩⟩ ?_
 intro b u e
 by_cases hb:b = a
 ·subst hb; rw [AG] at e; cases e; exact new
 ·rw [AI hb] at e
  exact (I.hok b u e).stay (fun c v _ q => k c v q) (fun c q => by rw [AI (AR q hn)]; exact q) fun c xs q => by rw [AI (AR q hn)]; exact q
def WZ (P:Program) (w:World) (a:Addr) (xs:List (List Int × Addr)) (h:Heap):Prop:=∃ o es ep t,h.get? a = some o∧o.ExactSet∧o.data = .set es ep t∧es.toList = StT.NI xs P w∧(xs.map (·.1)).Nodup∧StT.Tb t (xs.map fun p => (StT.tk P w).hash p.1)∧t.plain = true∧xs.length * 5 < t.mask * 3∧t.led = !w.params.followText "set-order"
def SetO (P:Program) (w:World) (a:Addr) (xs:List (List Int × Addr)):HO:=.ext (WZ P w a xs)
theorem Rk {P:Program} {w:World} {H:Hp} {h:Heap} {a:Addr} {xs:List (List Int × Addr)} (S:StT.SetX P w h a xs):ObjOk P w H h a (SetO P w a xs):=by
 obtain ⟨o,es,ep,t,S⟩:=S
 refine ⟨⟨o,es,ep,t,S.get,S.ex,S.dat,S.es,S.nd,S.tb,S.pl,S.room,S.led⟩,⟨o,S.get⟩,fun h1 h2 ⟨o,es,ep,t,g,r⟩ hk => ⟨o,es,ep,t,hk _ g,r⟩⟩
def Oo (K:PySem.W.Frag) (H:Hp) (xs:List (List Int × Addr)):Prop:=∀ k x,(k,x)∈xs→IE K H x (k.map V.int)
theorem Hg {prog:Program} {w:World}:∀ {k:List Int} {us:List Value},Vals (k.map V.int) us→ItemsAre (intKind prog w) k us
 | [],us,r => by rw [List.map_nil] at r; cases r; exact .nil
 | n :: k,us,r => by
  rw [List.map_cons] at r
  cases r with
  | cons r1 r2 =>
   obtain ⟨t,rfl⟩:=r1
   exact .cons (intKind_is _ _ _ _) (Hg r2)
theorem Inv.ik {x:Addr} {k:List Int} (I:Inv X pins σ H s) (h:IE X.K H x (k.map V.int)):StT.IK X.prog X.w s.heap k x:=by
 obtain ⟨its,r,⟨o,ho,hc,n,hd⟩,hz⟩:=I.tuple h
 exact ⟨o,its.toArray,n,ho,hc,hd,by simpa using Hg r⟩
def Yc (X:Cx):List V→Hp→VK→Prop:=fun vs H Q => ∃ a ps,vs = [.ref a]∧SqL X.K H a (ps.map fun p => V.ref p.2)∧Oo X.K H ps∧ps.length≤300 ∧
 ∀ p xs,H p = none→StT.IU ps xs→(xs.map (·.1)).Nodup→Q (.ref p) (upd H p (SetO X.prog X.w p xs))
theorem Hi:∀ {ps:List (List Int × Addr)} {us:List Value},Vals (ps.map fun p => V.ref p.2) us→us = ps.map fun p => Value.ref p.2
 | [],us,r => by rw [List.map_nil] at r; cases r; rfl
 | p :: ps,us,r => by
  rw [List.map_cons] at r
  cases r with
  | cons r1 r2 =>
   rw [Hi r2]
   have r1:_ = Value.ref p.2:=r1
   rw [r1]
   rfl
theorem NR (hc:X.calm = true) (hu:X.A.units + 8 < cLine):BR X (.type "set") (Yc X):=by
 intro pins s σ H vs us Q I r h
 obtain ⟨a,ps,rfl,hl,hk,hz,q⟩:=h
 obtain ⟨u,rfl,ru⟩:=Vals.one r
 cases ru
 obtain ⟨its,rv,p,_⟩:=I.list hl
 refine StT.GO (ps:=ps) (I.ok.hd hc) p.isList (by simpa using Hi rv) (fun k x hx => I.ik (hk k x hx)) hz hu fun h' tk xs sx so kp => ?_
 have hf:H s.heap.objs.size = none:=I.hok.fresh (Nat.le_refl _)
 have nd:(xs.map (·.1)).Nodup:=by obtain ⟨_,_,_,_,S⟩:=sx; exact S.nd
 exact ⟨.ref s.heap.objs.size,upd H s.heap.objs.size (SetO X.prog X.w s.heap.objs.size xs),I.laid (t':=tk) (fun b u e => kp b u (Heap.lt_size e) e) (Nat.le_refl _) (Rk sx),rfl,q _ _ hf so nd⟩
def Uc (X:Cx):List V→Hp→VK→Prop:=fun vs H Q => ∃ p xs,vs = [.ref p]∧H p = some (SetO X.prog X.w p xs)∧Oo X.K H xs∧xs.length≤300∧(∀ k x,(k,x)∈xs→∃ i j,k = [i,j]∧0≤j∧j < 65536) ∧
 ∀ (q:Addr) (ys:List (List Int × Addr)),H q = none→ys.Perm xs→ys.Pairwise (fun x y => 65536 * x.1.getD 0 0 + x.1.getD 1 0≤65536 * y.1.getD 0 0 + y.1.getD 1 0)→Q (.ref q) (upd H q (.lst (ys.map fun p => V.ref p.2)))
theorem Hj:∀ (ps:List (List Int × Addr)),Vals (ps.map fun p => V.ref p.2) (ps.map fun p => Value.ref p.2)
 | [] => .nil
 | p :: ps => .cons rfl (Hj ps)
theorem IX (hc:X.calm = true):BR X (.builtin "sorted") (Uc X):=by
 intro pins s σ H vs us Q I r h
 obtain ⟨p,xs,rfl,hp,hk,hz,h2,q⟩:=h
 obtain ⟨u,rfl,ru⟩:=Vals.one r
 cases ru
 obtain ⟨⟨o,es,ep,t,g1,g2,g3,g4,g5,g6,g7,g8,g9⟩,_,_⟩:=I.hok p _ hp
 refine StT.LA (xs:=xs) (I.ok.hd hc) ⟨o,es,ep,t,g1,g2,g3,g4,fun i k x e => I.ik (hk k x (List.mem_of_getElem? e)),g5,g6,g7,g8,g9⟩ hz h2 fun h' tk ys D c hD hg kp pm pw => ?_
 have hf:H D = none:=I.hok.none_of hD
 refine ⟨.ref D,upd H D (.lst (ys.map fun p => V.ref p.2)),I.laidF (t':=tk) kp hD ⟨?_,_,c,Hj ys,hg⟩,rfl,q D ys hf pm pw⟩
 rw [List.length_map,pm.length_eq,sizeLine_eq]
 omega
end
end L2
namespace ZpT
open PySem PySem.Spec PyProof.Rows
structure Nx (prog:Program) (w:World) (I ax:Addr) (items:Array Value) (St:Nat→Heap→Prop):Prop where
 item:∀ (A:Around) (i:Nat) (s:Shared) (x:Value) (Q:Value→Shared→Prop) (E:Value→Shared→Prop),St i s.heap→items[i]? = some x→(∀ h',St (i + 1) h'→Heap.SameBut I s.heap h'→Q x { s with heap:=h' })→wpAny (model prog w) A (Builtin.SmallTypes.nextOf (.ref I)) Q E s
 fin:∀ (A:Around) (i:Nat) (s:Shared) (Q:Value→Shared→Prop) (E:Value→Shared→Prop),A.handled = none→St i s.heap→items[i]? = none→(∀ h' e,Heap.ExtBut I s.heap h'→(∃ o,h'.get? e = some o∧o.cls = .type "StopIteration")→E (.ref e) { s with heap:=h' })→wpAny (model prog w) A (Builtin.SmallTypes.nextOf (.ref I)) Q E s
 keep:∀ (i:Nat) (h h':Heap),St i h→(∀ o,h.get? I = some o→h'.get? I = some o)→(∀ o,h.get? ax = some o→h'.get? ax = some o)→St i h'
 there:∀ (i:Nat) (h:Heap),St i h→I < h.objs.size
section
variable {prog:Program} {w:World}
end
section
variable {prog:Program} {w:World} {A:Around} {E:Value→Shared→Prop} {s:Shared}
variable {z TI TO i1 i2 l1 l2:Addr} {xs ys:Array Value} {S1 S2:Nat→Heap→Prop}
end
end ZpT
namespace L2
open PySem PySem.Spec PyProof.Rows
section
variable {X:Cx}
end
open PySem.Calls
section
variable {X:Cx}
def Xs (K:PySem.W.Frag) (H:Hp) (a:Addr) (xs:List V):Prop:=SqL K H a xs∨IE K H a xs
theorem Inv.walk {pins:List (Addr × Obj)} {σ:St} {H:Hp} {s:Shared} {a:Addr} {xs:List V} (I:Inv X pins σ H s) (hq:Xs X.K H a xs):∃ its:List Value,Vals xs its∧a < s.heap.objs.size∧∀ (A:Around) (E:Value→Shared→Prop) (Q:Value→Shared→Prop),A.handled = none →
  (∀ (o:Obj) (St:Nat→Heap→Prop),Walks X.prog X.w A s.heap.objs.size [s.heap.objs.size,a] [s.heap.objs.size] its.length (fun i v => its[i]? = some v) St→St 0 (s.heap.push o)→Q (.ref s.heap.objs.size) { s with heap:=s.heap.push o })→wpAny (model X.prog X.w) A (pyIter (.ref a)) Q E s:=by
 rcases hq with hq | hq
 ·obtain ⟨its,rv,p,_⟩:=I.list hq
  have lt:a < s.heap.objs.size:=by obtain ⟨_,_,e,_⟩:=p; exact Heap.lt_size e
  refine ⟨its,rv,lt,fun A E Q hh h => wpAny_pyIter_list p.isList ?_⟩
  have W:=Walks.list (prog:=X.prog) (w:=X.w) (A:=A) hh s.heap.objs.size a (Nat.ne_of_lt lt) its.toArray
  have W':Walks X.prog X.w A s.heap.objs.size [s.heap.objs.size,a] [s.heap.objs.size] its.length (fun i v => its[i]? = some v) (fun i h => h.IsListIter s.heap.objs.size a i∧h.IsList a its.toArray):=by simpa using W
  exact h _ _ W' ⟨⟨_,Heap.get?_push_size _ rfl,rfl,rfl⟩,p.isList.push _⟩
 ·obtain ⟨its,rv,p,_⟩:=I.tuple hq
  have lt:a < s.heap.objs.size:=by obtain ⟨_,e,_⟩:=p; exact Heap.lt_size e
  refine ⟨its,rv,lt,fun A E Q hh h => wpAny_pyIter_tuple (items:=its.toArray) p ?_⟩
  have W:=Walks.tuple (prog:=X.prog) (w:=X.w) (A:=A) hh s.heap.objs.size a (Nat.ne_of_lt lt) its.toArray
  have W':Walks X.prog X.w A s.heap.objs.size [s.heap.objs.size,a] [s.heap.objs.size] its.length (fun i v => its[i]? = some v) (fun i h => h.IsTupleIter s.heap.objs.size a i∧h.IsTuple a its.toArray):=by simpa using W
  have p':s.heap.IsTuple a its.toArray:=p
  exact h _ _ W' ⟨⟨_,Heap.get?_push_size _ rfl,rfl,rfl⟩,p'.at fun o e => Heap.get?_push_of_some _ e⟩
theorem Op {s:Shared} {o:Obj} {h':Heap} (hk:∀ b x,b ∉ [s.heap.objs.size]→(s.heap.push o).get? b = some x→h'.get? b = some x):∀ b x,s.heap.get? b = some x→h'.get? b = some x:=fun b x e =>
 hk b x (by simpa using Nat.ne_of_lt (Heap.lt_size e)) (Heap.get?_push_of_some _ e)
theorem MH {bs:List Bool}:∀ {us:List Value},Vals (bs.map V.bl) us→us = bs.map Value.bool:=by
 induction bs with
 | nil => intro us r; rw [List.map_nil] at r; cases r; rfl
 | cons b bs ih =>
  intro us r
  rw [List.map_cons] at r
  cases r with
  | cons r1 r2 =>
   cases r1
   rw [ih r2]; rfl
theorem Jp (bs:List Bool):((List.range bs.length).all fun i => (bs[i]?).getD true) = bs.all id:=LSm.range_all bs
theorem LB (bs:List Bool):((List.range bs.length).any fun i => (bs[i]?).getD false) = bs.any id:=LSm.range_any bs
theorem Oq (hc:X.calm = true):BR X (.builtin "all") (fun vs H Q => ∃ (a:Addr) (bs:List Bool),vs = [.ref a]∧Xs X.K H a (bs.map V.bl)∧Q (.bl (bs.all id)) H):=by
 intro pins s σ H vs us Q I r h
 obtain ⟨a,bs,rfl,hq,q⟩:=h
 obtain ⟨u,rfl,ru⟩:=Fq r
 cases ru
 obtain ⟨its,rv,lt,wk⟩:=I.walk hq
 have e:=MH rv
 refine call_all_walk (wk X.A.in1 _ _ (I.ok.hd hc) fun o St W st => ⟨_,_,_,_,_,_,fun i => (bs[i]?).getD true,rfl,W,st,fun i v s' Q' E' hP hQ => ?_,fun h' tk hk => ?_⟩)
 ·rw [e,List.getElem?_map] at hP
  cases hb:bs[i]? with
  | none => rw [hb] at hP; cases hP
  | some b =>
   rw [hb] at hP
   cases hP
   simp only [hb,Option.getD_some] at hQ
   exact wpAny_truthy_bool hQ
 ·have e2:its.length = bs.length:=by rw [e,List.length_map]
  rw [e2,Jp]
  exact ⟨.bl _,H,I.kept (t':=tk) (Op hk),rfl,q⟩
theorem Os (hc:X.calm = true):BR X (.builtin "any") (fun vs H Q => ∃ (a:Addr) (bs:List Bool),vs = [.ref a]∧Xs X.K H a (bs.map V.bl)∧Q (.bl (bs.any id)) H):=by
 intro pins s σ H vs us Q I r h
 obtain ⟨a,bs,rfl,hq,q⟩:=h
 obtain ⟨u,rfl,ru⟩:=Fq r
 cases ru
 obtain ⟨its,rv,lt,wk⟩:=I.walk hq
 have e:=MH rv
 refine call_any_walk (wk X.A.in1 _ _ (I.ok.hd hc) fun o St W st => ⟨_,_,_,_,_,_,fun i => (bs[i]?).getD false,rfl,W,st,fun i v s' Q' E' hP hQ => ?_,fun h' tk hk => ?_⟩)
 ·rw [e,List.getElem?_map] at hP
  cases hb:bs[i]? with
  | none => rw [hb] at hP; cases hP
  | some b =>
   rw [hb] at hP
   cases hP
   simp only [hb,Option.getD_some] at hQ
   exact wpAny_truthy_bool hQ
 ·have e2:its.length = bs.length:=by rw [e,List.length_map]
  rw [e2,LB]
  exact ⟨.bl _,H,I.kept (t':=tk) (Op hk),rfl,q⟩
theorem Jq:BR X (.type "tuple") (fun vs H Q => ∃ a xs,vs = [.ref a]∧SqL X.K H a xs∧∀ p,H p = none→Q (.ref p) (upd H p (.tup xs))):=by
 intro pins s σ H vs us Q I r h
 obtain ⟨a,xs,rfl,hq,q⟩:=h
 obtain ⟨u,rfl,ru⟩:=Fq r
 cases ru
 obtain ⟨its,rv,p,hz⟩:=I.list hq
 have hl:=rv.length
 refine call_tuple_list p.isList (fun h' hk => ?_) (by simpa [← hl] using hz)
 have hn:s.heap.get? h'.objs.size = none:=by
  cases e:s.heap.get? h'.objs.size with
  | none => rfl
  | some o => exact absurd (Heap.lt_size (hk _ _ e)) (Nat.lt_irrefl _)
 exact ⟨.ref h'.objs.size,upd H h'.objs.size (.tup xs),I.laidF (t':=s.toks) (fun b u e => Heap.get?_push_of_some _ (hk b u e)) hn ⟨hz,its,rv,⟨_,Heap.get?_push_size _ rfl,rfl,_,rfl⟩⟩,rfl,q _ (I.hok.none_of hn)⟩
theorem LD:BR X (.type "list") (fun vs H Q => ∃ a xs,vs = [.ref a]∧Xs X.K H a xs∧∀ p,H p = none→Q (.ref p) (upd H p (.lst xs))):=by
 intro pins s σ H vs us Q I r h
 obtain ⟨a,xs,rfl,hq,q⟩:=h
 obtain ⟨u,rfl,ru⟩:=Fq r
 cases ru
 have hf:H s.heap.objs.size = none:=I.hok.fresh (Nat.le_refl _)
 have fin:∀ (its:List Value) (h':Heap) (c:Nat),Vals xs its→xs.length≤sizeLine→(∀ b o',s.heap.get? b = some o'→h'.get? b = some o')→h'.get? s.heap.objs.size = some { cls:=.type "list",dict:=none,data:=.seq its.toArray c,slots:=#[] }→EP X pins σ Q (.ref s.heap.objs.size) { s with heap:=h' }:=fun its h' c rv hz hk hD =>
  ⟨.ref s.heap.objs.size,upd H s.heap.objs.size (.lst xs),I.laid (t':=s.toks) hk (Nat.le_refl _) ⟨hz,its,c,rv,hD⟩,rfl,q _ hf⟩
 rcases hq with hq | hq
 ·obtain ⟨its,rv,⟨o,n,ho,hc,hd,hdt⟩,hz⟩:=I.list hq
  have hl:=rv.length
  exact call_list_seq (hsz:=by simpa [← hl] using hz) a (.inl rfl) ho hc hdt fun h' c' hk hD => fin its h' c' rv hz hk hD
 ·obtain ⟨its,rv,⟨o,ho,hc,n,hdt⟩,hz⟩:=I.tuple hq
  have hl:=rv.length
  exact call_list_seq (hsz:=by simpa [← hl] using hz) a (.inr rfl) ho hc hdt fun h' c' hk hD => fin its h' c' rv hz hk hD
end
end L2
namespace HT
open PySem PySem.Spec PyProof.Rows
section
open PySem.SeqAt
open PySem.AutoSeq1 (wpAny_loadPart')
open PySem.MeetsSeq PySem.MeetsSeq2 PySem.MeetsSeq3
end
section
variable {prog:Program} {w:World} {A:Around} {E:Value→Shared→Prop} {s:Shared}
theorem Dl {t sl:Addr} {items:Array Value} {vl vu:Value} {lo hi:Option Int} {Q:Value→Shared→Prop} (ht:IsTup s.heap t items) (hs:s.heap.IsSliceOf sl vl vu .none) (pl:IsPart vl lo) (pu:IsPart vu hi)
  (h1:BK items.size 0 lo = 0) (h2:BK items.size items.size hi = items.size) (h:Q (.ref t) s):wpAny (model prog w) A (getItem (.ref t) (.ref sl)) Q E s:=by
 obtain ⟨os,hos,hcs,hds⟩:=id hs
 have hTs:s.TypeIs (.ref sl) "slice":=⟨os,hos,hcs⟩
 unfold getItem
 try with_reducible refine wpAny_holding ?_
 first | refine wpAny_bind (wpAny_pure ?_) | skip
 refine wpAny_bind (wpAny_sequenceKey ht.typeIs (by decide) ?_)
 refine wpAny_bind (wpAny_callSpecial?_slot (name:=Str.ofString "__getitem__") ht.typeIs PyProof.Rows.slot_tuple_getitem
  (wpAny_call_entry PyProof.Rows.slot_tuple_getitem ht.typeIs entry_tuple_getitem ?_ (args_tuple_getitem _ _)))
 show wpAny _ _ (Builtin.Tuple.tupleItemsOf (.ref t) >>= _) _ _ s
 refine wpAny_bind (tupleItemsOf_ ht ?_)
 refine wpAny_bind (wpAny_typeOf hTs ?_)
 rw [if_pos (by decide)]
 refine wpAny_bind (CU hs pl pu ?_)
 rw [h1,h2]
 show wpAny _ _ (if (((0:Nat):Int) == 0 && (1:Int) == 1 && (items.size - 0) == items.size) = true then _ else _) _ _ s
 rw [if_pos (by simp)]
 unfold Builtin.Tuple.tupleIsExact
 refine wpAny_bind (wpAny_bind (wpAny_typeOf ht.typeIs (wpAny_pure ?_)))
 rw [if_pos (by decide)]
 exact wpAny_bind (wpAny_rule (wpAny_pure ⟨_,rfl,wpAny_pure h⟩))
end
end HT
namespace L2
open PySem PySem.Spec PyProof.Rows
section
variable {X:Cx} {e:Expr} {te:TE} {pos p2 p3 p4:Pos}
def Wa (K:PySem.W.Frag):V→Option Int→Option Int→Hp→VK→Prop:=fun x lo hi H Q => ∃ a xs,x = .ref a∧IE K H a xs∧∀ p H',((p = a∧H' = H∧Em xs lo hi = xs)∨(H p = none∧H' = upd H p (.tup (Em xs lo hi))))→Q (.ref p) H'
theorem Rm:Xp X (Wa X.K):=by
 intro pins s σ H x v vl vu lo hi sl Q I rx hs pl pu h
 obtain ⟨a,xs,rfl,hx,q⟩:=h
 cases rx
 by_cases hw:HT.BK xs.length 0 lo = 0∧HT.BK xs.length xs.length hi = xs.length
 ·obtain ⟨its,r,ht,hz⟩:=I.tuple hx
  have hlen:its.toArray.size = xs.length:=by rw [List.size_toArray]; exact r.length.symm
  refine ⟨"tuple",_,PyProof.Rows.slot_tuple_getitem.lookup,ht.typeIs,HT.Dl ht hs pl pu (by rw [hlen]; exact hw.1) (by rw [hlen]; exact hw.2) ⟨.ref a,H,I,rfl,q a H (.inl ⟨rfl,rfl,?_⟩)⟩⟩
  unfold Em
  rw [hw.1,hw.2]
  simp
 ·exact UK pins s σ H (.ref a) (.ref a) vl vu lo hi sl Q I rfl hs pl pu ⟨a,xs,rfl,hx,hw,fun p hp => q p _ (.inr ⟨hp,rfl⟩)⟩
end
end L2
namespace L2.TL
open PySem PySem.Spec PyProof.Rows
inductive T where
 | non | bl (b:Bool) | int (i:Int) | str (x:Str) | tup (ts:List T) | lst (ts:List T) | frz (ts:List T) | dct | raw (v:V)
abbrev AM:=Addr→Option (List T)
def BB (O:AM) (a:Addr) (ts:List T):AM:=fun b => if b = a then some ts else O b
def EN (O:AM) (a:Addr):AM:=fun b => if b = a then none else O b
theorem AO {O:AM} {a:Addr} {ts:List T}:BB O a ts a = some ts:=by unfold BB; rw [if_pos rfl]
theorem Af {O:AM} {a b:Addr} {ts:List T} (h:b≠a):BB O a ts b = O b:=by unfold BB; rw [if_neg h]
theorem EO {O:AM} {a:Addr} {ts us:List T}:BB (BB O a ts) a us = BB O a us:=by
 funext b; unfold BB; split <;> rfl
theorem Cq {O:AM} {a:Addr}:EN O a a = none:=by unfold EN; rw [if_pos rfl]
theorem EQ {O:AM} {a b:Addr} (h:b≠a):EN O a b = O b:=by unfold EN; rw [if_neg h]
mutual
inductive Rep (K:PySem.W.Frag) (O:AM) (H:Hp):V→T→Prop
 | non:Rep K O H .non .non
 | bl (b:Bool):Rep K O H (.bl b) (.bl b)
 | int (i:Int):Rep K O H (.int i) (.int i)
 | str (x:Str):Rep K O H (.str x) (.str x)
 | tup {a:Addr} {xs:List V} {ts:List T}:H a = some (.tup xs)→Reps K O H xs ts→Rep K O H (.ref a) (.tup ts)
 | lst {a:Addr} {xs:List V} {ts:List T}:H a = some (.lst xs)→O a = none→Reps K O H xs ts→Rep K O H (.ref a) (.lst ts)
 | frz {a:Addr} {o:Obj} {xs:List V} {ts:List T}:H a = some (.frz o (.lst xs))→Reps K O H xs ts→Rep K O H (.ref a) (.frz ts)
 | dct {a:Addr}:H a = some (.dK [])→Rep K O H (.ref a) .dct
 | raw (v:V):Rep K O H v (.raw v)
inductive Reps (K:PySem.W.Frag) (O:AM) (H:Hp):List V→List T→Prop
 | nil:Reps K O H [] []
 | cons {v:V} {t:T} {vs:List V} {ts:List T}:Rep K O H v t→Reps K O H vs ts→Reps K O H (v :: vs) (t :: ts)
end
section
variable {K:PySem.W.Frag} {O O' O1:AM} {H H' H1:Hp}
mutual
theorem Rep.mono (hT:∀ a o,H a = some o→(∀ xs,o≠.lst xs)→H' a = some o) (hL:∀ a xs,H a = some (.lst xs)→O a = none→H' a = some (.lst xs)∧O' a = none):∀ {v:V} {t:T},Rep K O H v t→Rep K O' H' v t
 | _,_,.non => .non
 | _,_,.bl b => .bl b
 | _,_,.int i => .int i
 | _,_,.str x => .str x
 | _,_,.tup h r => .tup (hT _ _ h fun _ z => by cases z) (Reps.mono hT hL r)
 | _,_,.lst h o r => .lst (hL _ _ h o).1 (hL _ _ h o).2 (Reps.mono hT hL r)
 | _,_,.frz h r => .frz (hT _ _ h fun _ z => by cases z) (Reps.mono hT hL r)
 | _,_,.dct h => .dct (hT _ _ h fun _ z => by cases z)
 | _,_,.raw v => .raw v
theorem Reps.mono (hT:∀ a o,H a = some o→(∀ xs,o≠.lst xs)→H' a = some o) (hL:∀ a xs,H a = some (.lst xs)→O a = none→H' a = some (.lst xs)∧O' a = none):∀ {v:List V} {t:List T},Reps K O H v t→Reps K O' H' v t
 | _,_,.nil => .nil
 | _,_,.cons h r => .cons (Rep.mono hT hL h) (Reps.mono hT hL r)
end
theorem Reps.length:∀ {vs:List V} {ts:List T},Reps K O H vs ts→vs.length = ts.length
 | _,_,.nil => rfl
 | _,_,.cons _ r => congrArg (· + 1) r.length
theorem Reps.get:∀ {vs:List V} {ts:List T} {i:Nat} {t:T},Reps K O H vs ts→ts[i]? = some t→∃ v,vs[i]? = some v∧Rep K O H v t
 | _,_,_,_,.nil,e => by simp at e
 | _,_,0,_,.cons h _,e => by simp at e; subst e; exact ⟨_,rfl,h⟩
 | _,_,i + 1,t,.cons _ r,e => by
  obtain ⟨u,h1,h2⟩:=Reps.get (i:=i) (t:=t) r (by simpa using e)
  exact ⟨u,by simpa using h1,h2⟩
theorem Reps.append:∀ {vs ws:List V} {ts us:List T},Reps K O H vs ts→Reps K O H ws us→Reps K O H (vs ++ ws) (ts ++ us)
 | _,_,_,_,.nil,s => s
 | _,_,_,_,.cons h r,s => .cons h (r.append s)
theorem Reps.take:∀ {vs:List V} {ts:List T} (n:Nat),Reps K O H vs ts→Reps K O H (vs.take n) (ts.take n)
 | _,_,0,_ => .nil
 | _,_,_ + 1,.nil => .nil
 | _,_,n + 1,.cons h r => .cons h (r.take n)
theorem Reps.drop:∀ {vs:List V} {ts:List T} (n:Nat),Reps K O H vs ts→Reps K O H (vs.drop n) (ts.drop n)
 | _,_,0,r => r
 | _,_,_ + 1,.nil => .nil
 | _,_,n + 1,.cons h r => r.drop n
theorem Reps.set {x:V} {t:T} (h:Rep K O H x t):∀ {vs:List V} {ts:List T} (i:Nat),Reps K O H vs ts→Reps K O H (vs.set i x) (ts.set i t)
 | _,_,_,.nil => .nil
 | _,_,0,.cons _ r => .cons h r
 | _,_,i + 1,.cons q r => .cons q (Reps.set h i r)
theorem Reps.one {v:V} {t:T} (h:Rep K O H v t):Reps K O H [v] [t]:=.cons h .nil
def Kp (O:AM) (H:Hp) (O':AM) (H':Hp):Prop:=∀ b o,H b = some o→O b = none→H' b = some o∧O' b = none
def OwnOk (K:PySem.W.Frag) (O:AM) (H:Hp):Prop:=∀ a ts,O a = some ts→∃ xs,H a = some (.lst xs)∧Reps K O H xs ts
theorem OwnOk.free (w:OwnOk K O H) {a:Addr} {o:HO} (h:H a = some o) (hn:∀ xs,o≠.lst xs):O a = none:=by
 cases e:O a with
 | none => rfl
 | some ts =>
  obtain ⟨xs,e',_⟩:=w a ts e
  rw [h] at e'
  exact absurd (Option.some.inj e') (hn xs)
theorem OwnOk.none_of (w:OwnOk K O H) {a:Addr} (h:H a = none):O a = none:=by
 cases e:O a with
 | none => rfl
 | some ts =>
  obtain ⟨xs,e',_⟩:=w a ts e
  rw [h] at e'; cases e'
theorem Kp.refl:Kp O H O H:=fun _ _ h n => ⟨h,n⟩
theorem Kp.trans (a:Kp O H O1 H1) (b:Kp O1 H1 O' H'):Kp O H O' H':=fun c o h n => b c o (a c o h n).1 (a c o h n).2
theorem Kp.oth (k:Kp O H O' H') (w:OwnOk K O H) {a:Addr} {o:HO} (h:H a = some o) (hn:∀ xs,o≠.lst xs):H' a = some o:=(k a _ h (w.free h hn)).1
theorem Kp.lst (k:Kp O H O' H') {a:Addr} {xs:List V} (h:H a = some (.lst xs)) (n:O a = none):H' a = some (.lst xs)∧O' a = none:=k a _ h n
theorem Rep.kp (k:Kp O H O' H') (w:OwnOk K O H) {v:V} {t:T} (r:Rep K O H v t):Rep K O' H' v t:=r.mono (fun _ _ h hn => k.oth w h hn) fun _ _ => k.lst
theorem Reps.kp (k:Kp O H O' H') (w:OwnOk K O H) {v:List V} {t:List T} (r:Reps K O H v t):Reps K O' H' v t:=r.mono (fun _ _ h hn => k.oth w h hn) fun _ _ => k.lst
structure Frm (K:PySem.W.Frag) (O:AM) (H:Hp) (O':AM) (H':Hp):Prop where
 kp:Kp O H O' H'
 own:∀ b ts,O b = some ts→∃ ts',O' b = some ts'
 ok:OwnOk K O' H'
theorem Frm.refl (w:OwnOk K O H):Frm K O H O H:=⟨.refl,fun _ ts e => ⟨ts,e⟩,w⟩
theorem Frm.trans (a:Frm K O H O1 H1) (b:Frm K O1 H1 O' H'):Frm K O H O' H':=⟨a.kp.trans b.kp,fun c ts e => by
 obtain ⟨t1,e1⟩:=a.own c ts e
 exact b.own c t1 e1,b.ok⟩
theorem BT {p:Addr} {o:HO} (w:OwnOk K O H) (hp:H p = none):Kp O H O (upd H p o):=fun b u h n => ⟨by rw [AI (AR h hp)]; exact h,n⟩
theorem Frm.new {p:Addr} {o:HO} (w:OwnOk K O H) (hp:H p = none):Frm K O H O (upd H p o) where
 kp:=BT w hp
 own:=fun _ ts e => ⟨ts,e⟩
 ok:=fun a ts e => by
  obtain ⟨xs,h,r⟩:=w a ts e
  exact ⟨xs,by rw [AI (AR h hp)]; exact h,r.kp (BT w hp) w⟩
theorem IY {p:Addr} {o:HO} {ts:List T} (w:OwnOk K O H) (hp:H p = none):Kp O H (BB O p ts) (upd H p o):=fun b u h n => by
 have:=AR h hp
 rw [AI this,Af this]
 exact ⟨h,n⟩
theorem Frm.newO {p:Addr} {xs:List V} {ts:List T} (w:OwnOk K O H) (hp:H p = none) (r:Reps K O H xs ts):Frm K O H (BB O p ts) (upd H p (.lst xs)) where
 kp:=IY w hp
 own:=fun b us e => by
  by_cases hb:b = p
  ·exact ⟨ts,by rw [hb,AO]⟩
  ·exact ⟨us,by rw [Af hb]; exact e⟩
 ok:=fun a us e => by
  by_cases hb:a = p
  ·subst hb
   rw [AO] at e; cases e
   exact ⟨xs,AG,r.kp (IY w hp) w⟩
  ·rw [Af hb] at e
   obtain ⟨ys,h,q⟩:=w a us e
   exact ⟨ys,by rw [AI hb]; exact h,q.kp (IY w hp) w⟩
theorem LE {a:Addr} {o:HO} {ts us:List T} (ha:O a = some ts):Kp O H (BB O a us) (upd H a o):=fun b u h n => by
 have:b≠a:=fun z => by rw [z,ha] at n; cases n
 rw [AI this,Af this]
 exact ⟨h,n⟩
theorem Frm.put {a:Addr} {xs:List V} {ts us:List T} (w:OwnOk K O H) (ha:O a = some ts) (r:Reps K O H xs us):Frm K O H (BB O a us) (upd H a (.lst xs)) where
 kp:=LE ha
 own:=fun b vs e => by
  by_cases hb:b = a
  ·exact ⟨us,by rw [hb,AO]⟩
  ·exact ⟨vs,by rw [Af hb]; exact e⟩
 ok:=fun b vs e => by
  by_cases hb:b = a
  ·subst hb
   rw [AO] at e; cases e
   exact ⟨xs,AG,r.kp (LE ha) w⟩
  ·rw [Af hb] at e
   obtain ⟨ys,h,q⟩:=w b vs e
   exact ⟨ys,by rw [AI hb]; exact h,q.kp (LE ha) w⟩
theorem Db {a:Addr}:Kp O H (EN O a) H:=fun b u h n => ⟨h,by
 by_cases hb:b = a
 ·rw [hb,Cq]
 ·rw [EQ hb]; exact n⟩
theorem OwnOk.drop {a:Addr} (w:OwnOk K O H):OwnOk K (EN O a) H:=fun b ts e => by
 by_cases hb:b = a
 ·rw [hb,Cq] at e; cases e
 ·rw [EQ hb] at e
  obtain ⟨xs,h,r⟩:=w b ts e
  exact ⟨xs,h,r.kp Db w⟩
theorem OwnOk.rep {a:Addr} {ts:List T} (w:OwnOk K O H) (e:O a = some ts):Rep K (EN O a) H (.ref a) (.lst ts):=by
 obtain ⟨xs,h,r⟩:=w a ts e
 exact .lst h Cq (r.kp Db w)
end
def Rl (K:PySem.W.Frag) (O:AM) (H:Hp) (σ:St) (ρ:List (Option T)):Prop:=σ.length = ρ.length∧∀ (i:Nat) (t:T),ρ[i]? = some (some t)→∃ v,σ[i]? = some (some v)∧Rep K O H v t
section
variable {K:PySem.W.Frag} {O O':AM} {H H':Hp} {σ:St} {ρ:List (Option T)}
theorem Rl.kp (k:Kp O H O' H') (w:OwnOk K O H) (r:Rl K O H σ ρ):Rl K O' H' σ ρ:=⟨r.1,fun i t e => by
 obtain ⟨v,h1,h2⟩:=r.2 i t e
 exact ⟨v,h1,h2.kp k w⟩⟩
theorem Rl.set {i:Nat} {v:V} {t:T} (r:Rl K O H σ ρ) (h:Rep K O H v t):Rl K O H (σ.set i (some v)) (ρ.set i (some t)):=⟨by simpa using r.1,fun j u e => by
 by_cases hj:j = i
 ·subst hj
  have hl:j < ρ.length:=by
   have:=(List.getElem?_eq_some_iff.mp e).1
   simpa using this
  rw [List.getElem?_set_self hl] at e
  cases e
  exact ⟨v,by rw [List.getElem?_set_self (by rw [r.1]; exact hl)],h⟩
 ·rw [List.getElem?_set_ne (Ne.symm hj)] at e ⊢
  exact r.2 j u e⟩
end
structure Zx where
 X:Cx
 Oe:AM
 He:Hp
 Xi:Value→AM→Prop
abbrev Zx.K (Z:Zx):PySem.W.Frag:=Z.X.K
def Zx.W (Z:Zx):St→XK:=fun _ cls d H' => d = none∧∃ O',Z.Xi cls O'∧Frm Z.K Z.Oe Z.He O' H'
structure Asr (Z:Zx) (ρ:List (Option T)) (O:AM) (σ:St) (H:Hp):Prop where
 rl:Rl Z.K O H σ ρ
 fr:Frm Z.K Z.Oe Z.He O H
section
variable {Z:Zx} {ρ:List (Option T)} {O O':AM} {σ:St} {H H':Hp}
theorem Asr.ok (a:Asr Z ρ O σ H):OwnOk Z.K O H:=a.fr.ok
theorem Asr.step (a:Asr Z ρ O σ H) (f:Frm Z.K O H O' H'):Asr Z ρ O' σ H':=⟨a.rl.kp f.kp a.ok,a.fr.trans f⟩
theorem Asr.refl (a:Asr Z ρ O σ H):Frm Z.K O H O H:=.refl a.ok
end
abbrev BX:=T→AM→Prop
abbrev MI:=List T→AM→Prop
abbrev JM:=Bool→AM→Prop
def Acc (K:PySem.W.Frag) (O:AM) (H:Hp) (Φ:BX) (Q:VK):Prop:=∀ v H' t O',Φ t O'→Frm K O H O' H'→Rep K O' H' v t→Q v H'
def Yd (K:PySem.W.Frag) (O:AM) (H:Hp) (Φ:MI) (Q:List V→Hp→Prop):Prop:=∀ vs H' ts O',Φ ts O'→Frm K O H O' H'→Reps K O' H' vs ts→Q vs H'
def AccT (K:PySem.W.Frag) (O:AM) (H:Hp) (Φ:JM) (Q:Bool→Hp→Prop):Prop:=∀ b H' O',Φ b O'→Frm K O H O' H'→Q b H'
def tW (Z:Zx) (ρ:List (Option T)) (O:AM) (Φ:BX):TE:=fun σ H Q => Asr Z ρ O σ H∧Acc Z.K O H Φ Q
def Yw (Z:Zx) (ρ:List (Option T)) (O:AM) (Φ:MI):TA:=fun σ H Q => Asr Z ρ O σ H∧Yd Z.K O H Φ Q
def Wb (Z:Zx) (ρ:List (Option T)) (O:AM) (Φ:JM):TT:=fun σ H Q => Asr Z ρ O σ H∧AccT Z.K O H Φ Q
def WE (Z:Zx) (ρ:List (Option T)) (O:AM) (e:Expr) (Φ:BX):Prop:=PE Z.X e (tW Z ρ O Φ)
def WA (Z:Zx) (ρ:List (Option T)) (O:AM) (es:List Expr) (Φ:MI):Prop:=PA Z.X es (Yw Z ρ O Φ)
def WT (Z:Zx) (ρ:List (Option T)) (O:AM) (e:Expr) (Φ:JM):Prop:=PT Z.X e (Wb Z ρ O Φ)
def WW (Z:Zx) (ρ:List (Option T)) (O:AM) (e:Expr) (Φ:JM):Prop:=PW Z.X e (Wb Z ρ O Φ)
def ET (Z:Zx) (ρ:List (Option T)) (O:AM) (e:Expr) (t:T):Prop:=∀ Φ:BX,Φ t O→WE Z ρ O e Φ
def EA (Z:Zx) (ρ:List (Option T)) (O:AM) (es:List Expr) (ts:List T):Prop:=∀ Φ:MI,Φ ts O→WA Z ρ O es Φ
def EB (Z:Zx) (ρ:List (Option T)) (O:AM) (e:Expr) (b:Bool):Prop:=∀ Φ:JM,Φ b O→WT Z ρ O e Φ
theorem PE.weak {X:Cx} {e:Expr} {t t':TE} (h:PE X e t) (w:∀ σ H Q,t' σ H Q→t σ H Q):PE X e t':=fun pins s σ H Q I q => h pins s σ H Q I (w σ H Q q)
theorem PA.weak {X:Cx} {e:List Expr} {t t':TA} (h:PA X e t) (w:∀ σ H Q,t' σ H Q→t σ H Q):PA X e t':=fun pos pins s σ H Q I q => h pos pins s σ H Q I (w σ H Q q)
theorem PT.weak {X:Cx} {e:Expr} {t t':TT} (h:PT X e t) (w:∀ σ H Q,t' σ H Q→t σ H Q):PT X e t':=fun pins s σ H Q I q => h pins s σ H Q I (w σ H Q q)
theorem PW.weak {X:Cx} {e:Expr} {t t':TT} (h:PW X e t) (w:∀ σ H Q,t' σ H Q→t σ H Q):PW X e t':=fun whole pins s σ H Q I q => h whole pins s σ H Q I (w σ H Q q)
theorem PS.weak {X:Cx} {e:Stmt} {t t':TS} (h:PS X e t) (w:∀ D σ H,t' D σ H→t D σ H):PS X e t':=fun pins s σ H D I q => h pins s σ H D I (w D σ H q)
theorem PSs.weak {X:Cx} {e:List Stmt} {t t':TS} (h:PSs X e t) (w:∀ D σ H,t' D σ H→t D σ H):PSs X e t':=fun pins s σ H D I q => h pins s σ H D I (w D σ H q)
def tX (Z:Zx) (ρ:List (Option T)) (e:Expr):TE:=fun σ H Q => ∃ O Φ,WE Z ρ O e Φ∧tW Z ρ O Φ σ H Q
theorem BU {Z:Zx} {ρ:List (Option T)} {e:Expr}:PE Z.X e (tX Z ρ e):=fun pins s σ H Q I ⟨_,_,w,q⟩ => w pins s σ H Q I q
def ZQ (Z:Zx) (ρ:List (Option T)) (e:List Expr):TA:=fun σ H Q => ∃ O Φ,WA Z ρ O e Φ∧Yw Z ρ O Φ σ H Q
theorem HB {Z:Zx} {ρ:List (Option T)} {e:List Expr}:PA Z.X e (ZQ Z ρ e):=fun pos pins s σ H Q I ⟨_,_,w,q⟩ => w pos pins s σ H Q I q
def ZR (Z:Zx) (ρ:List (Option T)) (e:Expr):TT:=fun σ H Q => ∃ O Φ,WW Z ρ O e Φ∧Wb Z ρ O Φ σ H Q
theorem Wc {Z:Zx} {ρ:List (Option T)} {e:Expr}:PW Z.X e (ZR Z ρ e):=fun whole pins s σ H Q I ⟨_,_,w,q⟩ => w whole pins s σ H Q I q
section
variable {Z:Zx} {ρ:List (Option T)} {O:AM} {e a b:Expr} {es:List Expr} {Φ Φ':BX} {pos:Pos} {t ta tb:T} {ts:List T}
theorem Acc.mono {K:PySem.W.Frag} {H:Hp} {Q:VK} (h:Acc K O H Φ' Q) (w:∀ t O',Φ t O'→Φ' t O'):Acc K O H Φ Q:=fun v H' t O' p => h v H' t O' (w t O' p)
theorem Acc.step {K:PySem.W.Frag} {H H1:Hp} {O1:AM} {Q:VK} (h:Acc K O H Φ Q) (f:Frm K O H O1 H1):Acc K O1 H1 Φ Q:=fun v H' t O' p f' r => h v H' t O' p (f.trans f') r
theorem AccT.step {K:PySem.W.Frag} {H H1:Hp} {O1:AM} {Φ:JM} {Q:Bool→Hp→Prop} (h:AccT K O H Φ Q) (f:Frm K O H O1 H1):AccT K O1 H1 Φ Q:=fun v H' O' p f' => h v H' O' p (f.trans f')
theorem Dc (h:WE Z ρ O e Φ) (w:∀ t O',Φ t O'→Φ' t O'):WE Z ρ O e Φ':=PE.weak h fun _ _ _ q => ⟨q.1,q.2.mono w⟩
theorem ET.we (h:ET Z ρ O e t) (p:Φ t O):WE Z ρ O e Φ:=h Φ p
theorem Ud {i:Nat} {x:Str} (hN:Z.X.N[i]? = some x) (hv:Vj Z.X.env.scope x) (e:ρ[i]? = some (some t)) (p:Φ t O) (hd:(x == ("__debug__" : Str)) = false:=by decide) (hcd:(x == ("__classdict__" : Str)) = false:=by decide):WE Z ρ O (.Name x pos) Φ :=
 PE.weak (No hN hv hd hcd) fun σ H Q q => by
  obtain ⟨v,h1,h2⟩:=q.1.rl.2 i t e
  exact ⟨v,h1,q.2 v H t O p q.1.refl h2⟩
theorem ev (i:Nat) {x:Str} (e:ρ[i]? = some (some t):=by rfl) (hN:Z.X.N[i]? = some x:=by rfl) (hv:Vj Z.X.env.scope x:=by first | exact Or.inl rfl | exact Or.inr (Or.inl rfl) | exact Or.inr (Or.inr rfl)) (hd:(x == ("__debug__" : Str)) = false:=by decide)
  (hcd:(x == ("__classdict__" : Str)) = false:=by decide):ET Z ρ O (.Name x pos) t:=fun _ p => Ud hN hv e p hd hcd
theorem NS {v:V} (h:PE Z.X e (tC v)) (r:∀ O H,Rep Z.K O H v t):ET Z ρ O e t:=fun _ p => PE.weak h fun _ H _ q => q.2 v H _ O p q.1.refl (r O H)
theorem AB {i:Int} {j:Nat}:ET Z ρ O (.Constant (.int i) j pos) (.int i):=NS IC fun _ _ => .int i
theorem Jr {i:Bool} {j:Nat}:ET Z ρ O (.Constant (.bool i) j pos) (.bl i):=NS Np fun _ _ => .bl i
theorem Ue {j:Nat}:ET Z ρ O (.Constant .none j pos) .non:=NS Tq fun _ _ => .non
theorem Du {x:Str} {j:Nat}:ET Z ρ O (.Constant (.str x) j pos) (.str x):=NS Bb fun _ _ => .str x
theorem MJ {x:Str} {i:Int} (hm:∃ t:Tok,Z.X.mg x = some (.int i t)) (hg:Gl Z.X x:=by rfl) (hd:(x == ("__debug__" : Str)) = false:=by decide):ET Z ρ O (.Name x pos) (.int i):=by
 cases hm with
 | intro t hm => exact NS (Bg (v:=.int i) hg hm ⟨t,rfl⟩ hd) fun _ _ => .int i
theorem Wd {x:Str} {n:String} (hm:Z.X.mg x = none) (hv:bootBuiltins x = some (.type n)) (hg:Gl Z.X x:=by rfl) (hn:x≠"__name__":=by decide) (hd:(x == ("__debug__" : Str)) = false:=by decide):ET Z ρ O (.Name x pos) (.raw (.ty n)) :=
 NS (Li (v:=.ty n) hg hm hv rfl hn hd) fun _ _ => .raw _
def RT (K:PySem.W.Frag) (r:R2) (ta tb:T) (O:AM) (Φ:BX):Prop:=∀ H v w Q,OwnOk K O H→Rep K O H v ta→Rep K O H w tb→Acc K O H Φ Q→r v w H Q
def RP (K:PySem.W.Frag) (r:R2) (ta tb:T) (O:AM) (t:T):Prop:=∀ Φ:BX,Φ t O→RT K r ta tb O Φ
theorem IZ {r:R2} {σ:St} {H:Hp} {Q:VK} (q:tW Z ρ O Φ σ H Q) (h:WE Z ρ O a fun ta O1 => WE Z ρ O1 b fun tb O2 => RT Z.K r ta tb O2 Φ):Vy r (tX Z ρ a) (tX Z ρ b) σ H Q :=
 ⟨O,_,h,q.1,fun v H1 ta O1 p f1 r1 => ⟨O1,_,p,q.1.step f1,fun w H2 tb O2 p2 f2 r2 => p2 H2 v w Q f2.ok (r1.kp f2.kp f1.ok) r2 (q.2.step (f1.trans f2))⟩⟩
theorem DG {op:Operator} {r:R2} (ho:DJ Z.X (binaryOp op) r) (h:WE Z ρ O a fun ta O1 => WE Z ρ O1 b fun tb O2 => RT Z.K r ta tb O2 Φ):WE Z ρ O (.BinOp a op b pos) Φ :=
 PE.weak (Sw ho BU BU) fun _ _ _ q => IZ q h
theorem Uf {op:CmpOp} {r:R2} (ho:DJ Z.X (compareOp op) r) (hm:behindInMarks op b = false) (h:WE Z ρ O a fun ta O1 => WE Z ρ O1 b fun tb O2 => RT Z.K r ta tb O2 Φ):WE Z ρ O (.Compare a [op] [b] pos) Φ :=
 PE.weak (RG ho BU BU hm) fun _ _ _ q => IZ q h
theorem GP {op:Operator} {r:R2} (ho:DJ Z.X (binaryOp op) r) (hp:RP Z.K r ta tb O t) (ha:ET Z ρ O a ta) (hb:ET Z ρ O b tb):ET Z ρ O (.BinOp a op b pos) t:=fun Φ p => DG ho (ha _ (hb _ (hp Φ p)))
theorem GQ {op:CmpOp} {r:R2} (ho:DJ Z.X (compareOp op) r) (hm:behindInMarks op b = false) (hp:RP Z.K r ta tb O t) (ha:ET Z ρ O a ta) (hb:ET Z ρ O b tb):ET Z ρ O (.Compare a [op] [b] pos) t:=fun Φ p => Uf ho hm (ha _ (hb _ (hp Φ p)))
theorem MK {r:R2} (ho:WL Z.X r) (hs:DY b) (h:WE Z ρ O a fun ta O1 => WE Z ρ O1 b fun tb O2 => RT Z.K r ta tb O2 Φ):WE Z ρ O (.Subscript a b pos) Φ :=
 PE.weak (OG ho BU BU hs) fun _ _ _ q => IZ q h
theorem Ot {r:R2} (ho:WL Z.X r) (hs:DY b) (hp:RP Z.K r ta tb O t) (ha:ET Z ρ O a ta) (hb:ET Z ρ O b tb):ET Z ρ O (.Subscript a b pos) t:=fun Φ p => MK ho hs (ha _ (hb _ (hp Φ p)))
theorem BL {Φ:MI} (p:Φ [] O):WA Z ρ O [] Φ:=PA.weak An fun _ H _ q => q.2 [] H [] O p q.1.refl .nil
theorem Dd {Φ:MI} (h:WE Z ρ O e fun t O1 => WA Z ρ O1 es fun ts O2 => Φ (t :: ts) O2) (hs:starEach (e :: es) Z.X.env = (false,eval e Z.X.env) :: starEach es Z.X.env:=by rfl):WA Z ρ O (e :: es) Φ :=
 PA.weak (AJ BU HB hs) fun σ H Q q => ⟨O,_,h,q.1,fun v H1 t O1 p f1 r1 => ⟨O1,_,p,q.1.step f1,fun vs H2 ts O2 p2 f2 r2 => q.2 _ H2 _ O2 p2 (f1.trans f2) (.cons (r1.kp f2.kp f1.ok) r2)⟩⟩
theorem AD:EA Z ρ O [] []:=fun _ p => BL p
theorem AT (h:ET Z ρ O e t) (hr:EA Z ρ O es ts) (hs:starEach (e :: es) Z.X.env = (false,eval e Z.X.env) :: starEach es Z.X.env:=by rfl):EA Z ρ O (e :: es) (t :: ts):=fun Φ p => Dd (h _ (hr _ p)) hs
theorem Ey {x1} (h:WA Z ρ O es fun ts O1 => ts.length≤sizeLine∧Φ (.tup ts) O1):WE Z ρ O (.Tuple es x1 pos) Φ :=
 PE.weak (IH h) fun σ H Q q => ⟨q.1,fun vs H1 ts O1 p f r => ⟨by rw [r.length]; exact p.1,fun a ha => q.2 _ _ _ O1 p.2 (f.trans (.new f.ok ha)) (.tup AG (r.kp (BT f.ok ha) f.ok))⟩⟩
theorem Ah {x1} (h:EA Z ρ O es ts) (hl:ts.length≤sizeLine:=by first | (show 1≤sizeLine; decide) | (show 2≤sizeLine; decide) | (show 3≤sizeLine; decide) | (show 0≤sizeLine; decide)):ET Z ρ O (.Tuple es x1 pos) (.tup ts):=fun _ p => Ey (h _ ⟨hl,p⟩)
theorem Ia (h:WA Z ρ O es fun ts O1 => ts.length≤sizeLine∧Φ (.lst ts) O1):WE Z ρ O (.List es pos) Φ :=
 PE.weak (Ft h) fun σ H Q q => ⟨q.1,fun vs H1 ts O1 p f r => ⟨by rw [r.length]; exact p.1,fun a ha => q.2 _ _ _ O1 p.2 (f.trans (.new f.ok ha)) (.lst AG (f.ok.none_of ha) (r.kp (BT f.ok ha) f.ok))⟩⟩
theorem Ay (h:EA Z ρ O es ts) (hl:ts.length≤sizeLine):ET Z ρ O (.List es pos) (.lst ts):=fun _ p => Ia (h _ ⟨hl,p⟩)
theorem Fa (h:WA Z ρ O es fun ts O1 => ts.length≤sizeLine∧∀ a,O1 a = none→Φ (.raw (.ref a)) (BB O1 a ts)):WE Z ρ O (.List es pos) Φ :=
 PE.weak (Ft h) fun σ H Q q => ⟨q.1,fun vs H1 ts O1 p f r => ⟨by rw [r.length]; exact p.1,fun a ha => q.2 _ _ _ _ (p.2 a (f.ok.none_of ha)) (f.trans (.newO f.ok ha r)) (.raw _)⟩⟩
end
section
variable {K:PySem.W.Frag} {O:AM} {H:Hp} {v:V}
theorem Rep.int_inv {i:Int} (r:Rep K O H v (.int i)):v = .int i:=by cases r; rfl
theorem Rep.bl_inv {i:Bool} (r:Rep K O H v (.bl i)):v = .bl i:=by cases r; rfl
theorem Rep.str_inv {i:Str} (r:Rep K O H v (.str i)):v = .str i:=by cases r; rfl
theorem Rep.raw_inv {i:V} (r:Rep K O H v (.raw i)):v = i:=by cases r; rfl
theorem Rep.tup_inv {ts:List T} (r:Rep K O H v (.tup ts)):∃ a xs,v = .ref a∧H a = some (.tup xs)∧Reps K O H xs ts:=by
 cases r with
 | tup h r => exact ⟨_,_,rfl,h,r⟩
theorem Rep.lst_inv {ts:List T} (r:Rep K O H v (.lst ts)):∃ a xs,v = .ref a∧H a = some (.lst xs)∧O a = none∧Reps K O H xs ts:=by
 cases r with
 | lst h o r => exact ⟨_,_,rfl,h,o,r⟩
theorem Reps.cons_inv {vs:List V} {t:T} {ts:List T} (r:Reps K O H vs (t :: ts)):∃ v vs',vs = v :: vs'∧Rep K O H v t∧Reps K O H vs' ts:=by
 cases r with
 | cons h r => exact ⟨_,_,rfl,h,r⟩
theorem Reps.nil_inv {vs:List V} (r:Reps K O H vs []):vs = []:=by cases r; rfl
theorem Reps.one_inv {vs:List V} {t:T} (r:Reps K O H vs [t]):∃ v,vs = [v]∧Rep K O H v t:=by
 obtain ⟨v,vs',rfl,h,r⟩:=r.cons_inv
 cases r.nil_inv
 exact ⟨v,rfl,h⟩
theorem Reps.two_inv {vs:List V} {t u:T} (r:Reps K O H vs [t,u]):∃ v w,vs = [v,w]∧Rep K O H v t∧Rep K O H w u:=by
 obtain ⟨v,vs',rfl,h,r⟩:=r.cons_inv
 obtain ⟨w,rfl,h2⟩:=r.one_inv
 exact ⟨v,w,rfl,h,h2⟩
theorem Reps.ints:∀ {vs:List V} {ns:List Int},Reps K O H vs (ns.map T.int)→vs = ns.map V.int
 | _,[],r => r.nil_inv
 | _,n :: ns,r => by
  obtain ⟨v,vs',rfl,h,r⟩:=Reps.cons_inv r
  rw [h.int_inv,Reps.ints r]
  rfl
end
section
variable {Z:Zx} {ρ:List (Option T)} {O:AM} {e a b c:Expr} {es:List Expr} {Φ Φ':BX} {pos:Pos} {t ta tb:T} {ts:List T} {K:PySem.W.Frag} {i j:Int}
theorem FR {g:Int→Int→Int}:RP K (Qu fun i j => .int (g i j)) (.int i) (.int j) O (.int (g i j)):=fun Φ p H v w Q ok r1 r2 q => ⟨i,j,r1.int_inv,r2.int_inv,q _ H _ O p (.refl ok) (.int _)⟩
theorem FS {g:Int→Int→Bool}:RP K (Qu fun i j => .bl (g i j)) (.int i) (.int j) O (.bl (g i j)):=fun Φ p H v w Q ok r1 r2 q => ⟨i,j,r1.int_inv,r2.int_inv,q _ H _ O p (.refl ok) (.bl _)⟩
theorem Rn {C:Int→Int→Prop} {g:Int→Int→Int} (hc:C i j):RP K (rI C fun i j => .int (g i j)) (.int i) (.int j) O (.int (g i j)):=fun Φ p H v w Q ok r1 r2 q => ⟨i,j,r1.int_inv,r2.int_inv,hc,q _ H _ O p (.refl ok) (.int _)⟩
theorem Ai (ha:ET Z ρ O a (.int i)) (hb:ET Z ρ O b (.int j)):ET Z ρ O (.BinOp a .Add b pos) (.int (i + j)):=GP Dp FR ha hb
theorem Bu (ha:ET Z ρ O a (.int i)) (hb:ET Z ρ O b (.int j)):ET Z ρ O (.BinOp a .Sub b pos) (.int (i - j)):=GP UC FR ha hb
theorem Ez (ha:ET Z ρ O a (.int i)) (hb:ET Z ρ O b (.int j)) (h:CMul i j):ET Z ρ O (.BinOp a .Mult b pos) (.int (i * j)):=GP UD (Rn h) ha hb
theorem Fb (ha:ET Z ρ O a (.int i)) (hb:ET Z ρ O b (.int j)) (h:WB i j):ET Z ρ O (.BinOp a .FloorDiv b pos) (.int (i / j)):=GP RF (Rn h) ha hb
theorem FA (ha:ET Z ρ O a (.int i)) (hb:ET Z ρ O b (.int j)) (h:0 < j):ET Z ρ O (.BinOp a .Mod b pos) (.int (i % j)):=GP UE (Rn h) ha hb
theorem Ou (ha:ET Z ρ O a (.int i)) (hb:ET Z ρ O b (.int j)) (h:WC i j):ET Z ρ O (.BinOp a .Pow b pos) (.int (i ^ j.toNat)):=GP UF (Rn h) ha hb
theorem TV (ha:ET Z ρ O a (.int i)) (hb:ET Z ρ O b (.int j)):ET Z ρ O (.Compare a [.Gt] [b] pos) (.bl (decide (j < i))):=GQ Sz (Ad _) FS ha hb
theorem We (ha:ET Z ρ O a (.int i)) (hb:ET Z ρ O b (.int j)):ET Z ρ O (.Compare a [.GtE] [b] pos) (.bl (decide (j≤i))):=GQ TB (Ad _) FS ha hb
theorem LF:RP K YO (.int i) (.int j) O (.bl (decide (i = j))):=fun Φ p H v w Q ok r1 r2 q => by
 cases r1.int_inv; cases r2.int_inv
 refine ⟨rfl,?_⟩
 have:decide (V.int i = V.int j) = decide (i = j):=by simp
 rw [this]
 exact q _ H _ O p (.refl ok) (.bl _)
theorem Ov:RP K Yt (.int i) (.int j) O (.bl (!decide (i = j))):=fun Φ p H v w Q ok r1 r2 q => by
 cases r1.int_inv; cases r2.int_inv
 refine ⟨rfl,?_⟩
 have:decide (V.int i = V.int j) = decide (i = j):=by simp
 rw [this]
 exact q _ H _ O p (.refl ok) (.bl _)
theorem Ug (ha:ET Z ρ O a (.int i)) (hb:ET Z ρ O b (.int j)):ET Z ρ O (.Compare a [.NotEq] [b] pos) (.bl (!decide (i = j))):=GQ OA (Ad _) Ov ha hb
theorem Wf {op:UnaryOp} {g:Int→Int} (ho:Xn Z.X (unaryOp op) (rU fun i => .int (g i))) (h:ET Z ρ O a (.int i)):ET Z ρ O (.UnaryOp op a pos) (.int (g i)):=fun Φ p =>
 PE.weak (Sx ho BU) fun σ H Q q => ⟨O,_,h (fun t O' => t = .int i∧O' = O) ⟨rfl,rfl⟩,q.1,fun v H1 t O1 ⟨e1,e2⟩ f r => by
  subst e1; subst e2
  exact ⟨i,r.int_inv,q.2 _ H1 _ _ p f (.int _)⟩⟩
theorem Uh (h:ET Z ρ O a (.int i)):ET Z ρ O (.UnaryOp .USub a pos) (.int (-i)):=Wf Ny h
theorem Ow {op op':CmpOp} {r r':R2} {tc:T} {x y:Bool} (ho:DJ Z.X (compareOp op) r) (ho':DJ Z.X (compareOp op') r') (hp:RP Z.K r ta tb O (.bl x)) (hp':x = true→RP Z.K r' tb tc O (.bl y))
  (ha:ET Z ρ O a ta) (hb:ET Z ρ O b tb) (hc:x = true→ET Z ρ O c tc) (hm:lastMarks [op,op'] [b,c] = false:=by with_unfolding_all rfl):ET Z ρ O (.Compare a [op,op'] [b,c] pos) (.bl (x && y)):=fun Φ p =>
 by
 refine PE.weak (OC ho ho' (BU (ρ:=ρ)) (BU (ρ:=ρ)) (BU (ρ:=ρ)) hm) fun σ H Q q => ?_
 refine ⟨O,_,ha (fun t O' => t = ta∧O' = O) ⟨rfl,rfl⟩,q.1,?_⟩
 rintro v H1 _ _ ⟨rfl,rfl⟩ f1 r1
 refine ⟨_,_,hb (fun t O' => t = tb∧O' = _) ⟨rfl,rfl⟩,q.1.step f1,?_⟩
 rintro w H2 _ _ ⟨rfl,rfl⟩ f2 r2
 refine hp (fun t O' => t = .bl x∧O' = _) ⟨rfl,rfl⟩ H2 v w _ f2.ok (r1.kp f2.kp f1.ok) r2 ?_
 rintro z H3 _ _ ⟨rfl,rfl⟩ f3 r3
 refine ⟨x,r3.bl_inv,?_⟩
 cases x with
 | false => exact IL (q.2 _ H3 _ _ p (f1.trans (f2.trans f3)) (.bl _))
 | true =>
  refine JV ⟨_,_,hc rfl (fun t O' => t = tc∧O' = _) ⟨rfl,rfl⟩,q.1.step (f1.trans (f2.trans f3)),?_⟩
  rintro w' H4 _ _ ⟨rfl,rfl⟩ f4 r4
  exact hp' rfl _ p H4 w w' _ f4.ok (r2.kp (f3.trans f4).kp f2.ok) r4 (q.2.step (f1.trans (f2.trans (f3.trans f4))))
def TruT (O:AM):T→Bool→Prop
 | .non,k => k = false
 | .bl b,k => k = b
 | .int i,k => k = (i != 0)
 | .str y,k => y.length≤sizeLine∧k = ((y.length:Int) != 0)
 | .tup ts,k => k = !ts.isEmpty
 | .lst ts,k => k = !ts.isEmpty
 | .frz ts,k => k = !ts.isEmpty
 | .dct,_ => False
 | .raw (.ref a),k => ∃ ts,O a = some ts∧k = !ts.isEmpty
 | .raw _,_ => False
theorem Reps.isEmpty {vs:List V} {ts:List T} {H:Hp} (r:Reps K O H vs ts):vs.isEmpty = ts.isEmpty:=by cases r <;> rfl
theorem TruT.v {H:Hp} {v:V} {k:Bool} (h:TruT O t k) (r:Rep K O H v t) (ok:OwnOk K O H):UH K v H k:=by
 cases r with
 | non => exact h
 | bl => exact h
 | int => exact h
 | str => exact h
 | tup h1 r =>
  have h:k = !_:=h
  exact .inr (.inl ⟨_,.inl (.inl h1),by rw [h,r.isEmpty]⟩)
 | lst h1 o r =>
  have h:k = !_:=h
  exact .inl ⟨_,.inl (.inl h1),by rw [h,r.isEmpty]⟩
 | frz h1 r =>
  have h:k = !_:=h
  exact .inl ⟨_,.inl (.inr ⟨_,h1⟩),by rw [h,r.isEmpty]⟩
 | dct => exact h.elim
 | raw v =>
  cases v with
  | ref a =>
   obtain ⟨ts,e,h⟩:=h
   obtain ⟨xs,h1,r⟩:=ok a ts e
   exact .inl ⟨xs,.inl (.inl h1),by rw [h,r.isEmpty]⟩
  | _ => exact h.elim
theorem Ox {Φ:JM} (h:WE Z ρ O e fun t O' => ∃ k,TruT O' t k∧Φ k O') (he:∀ whole,isTrue e Z.X.env whole = (do let v ← whole; standAt e.pos; holding [v] (truthy v)):=by intro _; rfl):WT Z ρ O e Φ :=
 PT.weak (JP BU he) fun σ H Q q => ⟨O,_,h,q.1,fun v H1 t O1 ⟨k,tr,p⟩ f r => ⟨k,tr.v r f.ok,q.2 k H1 O1 p f⟩⟩
theorem Oy {k:Bool} (h:ET Z ρ O e t) (tr:TruT O t k) (he:∀ whole,isTrue e Z.X.env whole = (do let v ← whole; standAt e.pos; holding [v] (truthy v)):=by intro _; rfl):EB Z ρ O e k:=fun Φ p => Ox (h _ ⟨k,tr,p⟩) he
theorem CY {k:Bool} (h:ET Z ρ O e (.bl k)) (he:∀ whole,isTrue e Z.X.env whole = (do let v ← whole; standAt e.pos; holding [v] (truthy v)):=by intro _; rfl):EB Z ρ O e k:=Oy h rfl he
theorem Ib {Φ:JM} {op:CmpOp} {r:R2} (ho:DJ Z.X (compareOp op) r) (hm:behindInMarks op b = false) (h:WE Z ρ O a fun ta O1 => WE Z ρ O1 b fun tb O2 => RT Z.K r ta tb O2 fun t O3 => ∃ k,t = .bl k∧Φ k O3):WT Z ρ O (.Compare a [op] [b] pos) Φ :=
 PT.weak (EE ho BU BU hm) fun σ H Q q => IZ (Φ:=fun t O3 => ∃ k,t = .bl k∧Φ k O3) ⟨q.1,fun v H' t O' ⟨k,e,p⟩ f r => by
  subst e
  exact ⟨k,r.bl_inv,q.2 k H' O' p f⟩⟩ h
theorem Ab {op:CmpOp} {r:R2} {k:Bool} (ho:DJ Z.X (compareOp op) r) (hm:behindInMarks op b = false) (hp:RP Z.K r ta tb O (.bl k)) (ha:ET Z ρ O a ta) (hb:ET Z ρ O b tb):EB Z ρ O (.Compare a [op] [b] pos) k:=fun Φ p =>
 Ib ho hm (ha _ (hb _ (hp _ ⟨k,rfl,p⟩)))
theorem Wg (ha:ET Z ρ O a (.int i)) (hb:ET Z ρ O b (.int j)):EB Z ρ O (.Compare a [.Lt] [b] pos) (decide (i < j)):=Ab Sy (Ad _) FS ha hb
theorem TW (ha:ET Z ρ O a (.int i)) (hb:ET Z ρ O b (.int j)):EB Z ρ O (.Compare a [.LtE] [b] pos) (decide (i≤j)):=Ab OB (Ad _) FS ha hb
theorem Oz (ha:ET Z ρ O a (.int i)) (hb:ET Z ρ O b (.int j)):EB Z ρ O (.Compare a [.Gt] [b] pos) (decide (j < i)):=Ab Sz (Ad _) FS ha hb
theorem Wh (ha:ET Z ρ O a (.int i)) (hb:ET Z ρ O b (.int j)):EB Z ρ O (.Compare a [.GtE] [b] pos) (decide (j≤i)):=Ab TB (Ad _) FS ha hb
theorem Cr (ha:ET Z ρ O a (.int i)) (hb:ET Z ρ O b (.int j)):EB Z ρ O (.Compare a [.Eq] [b] pos) (decide (i = j)):=Ab HI (Ad _) LF ha hb
theorem Dv (ha:ET Z ρ O a (.int i)) (hb:ET Z ρ O b (.int j)):EB Z ρ O (.Compare a [.NotEq] [b] pos) (!decide (i = j)):=Ab OA (Ad _) Ov ha hb
theorem Ro {k:Int} (ha:ET Z ρ O a (.int i)) (hb:ET Z ρ O b (.int j)) (hc:ET Z ρ O c (.int k)) (hm:lastMarks [CmpOp.LtE,.LtE] [b,c] = false:=by with_unfolding_all rfl):ET Z ρ O (.Compare a [.LtE,.LtE] [b,c] pos) (.bl (decide (i≤j) && decide (j≤k))):=Ow OB OB FS (fun _ => FS) ha hb (fun _ => hc) hm
theorem Ui {Φ:JM} (h:WT Z ρ O a fun k O' => Φ (!k) O'):WT Z ρ O (.UnaryOp .Not a pos) Φ:=PT.weak (Nr h) fun σ H Q q => ⟨q.1,fun k H1 O1 p f => q.2 _ H1 O1 p f⟩
theorem Az {k:Bool} (h:EB Z ρ O a k):EB Z ρ O (.UnaryOp .Not a pos) (!k):=fun Φ p => Ui (h _ p)
def EW (Z:Zx) (ρ:List (Option T)) (O:AM) (e:Expr) (b:Bool):Prop:=∀ Φ:JM,Φ b O→WW Z ρ O e Φ
theorem EW.eb {k:Bool} (h:EW Z ρ O e k):EB Z ρ O e k:=fun Φ p => (h Φ p).pt
theorem Rp {Φ:JM} (h:WT Z ρ O a Φ):WW Z ρ O (.BoolOp .And [a] pos) Φ:=RA h
theorem Uj {Φ:JM} (h:WT Z ρ O a Φ):WW Z ρ O (.BoolOp .Or [a] pos) Φ:=Nq h
theorem Uk {Φ:JM} (h:WT Z ρ O a fun k O1 => if k = true then WW Z ρ O1 (.BoolOp .And (b :: es) pos) Φ else Φ false O1):WW Z ρ O (.BoolOp .And (a :: b :: es) pos) Φ :=
 PW.weak (Tr h Wc) fun σ H Q q => ⟨q.1,fun k H1 O1 p f => by
  cases k with
  | true => rw [if_pos rfl] at p ⊢; exact ⟨O1,_,p,q.1.step f,q.2.step f⟩
  | false => rw [if_neg Bool.false_ne_true] at p ⊢; exact q.2 _ H1 O1 p f⟩
theorem Wi {Φ:JM} (h:WT Z ρ O a fun k O1 => if k = true then Φ true O1 else WW Z ρ O1 (.BoolOp .Or (b :: es) pos) Φ):WW Z ρ O (.BoolOp .Or (a :: b :: es) pos) Φ :=
 PW.weak (Su h Wc) fun σ H Q q => ⟨q.1,fun k H1 O1 p f => by
  cases k with
  | true => rw [if_pos rfl] at p ⊢; exact q.2 _ H1 O1 p f
  | false => rw [if_neg Bool.false_ne_true] at p ⊢; exact ⟨O1,_,p,q.1.step f,q.2.step f⟩⟩
theorem Cu {k:Bool} (h:EB Z ρ O a k):EW Z ρ O (.BoolOp .And [a] pos) k:=fun Φ p => Rp (h _ p)
theorem Cv {k:Bool} (h:EB Z ρ O a k):EW Z ρ O (.BoolOp .Or [a] pos) k:=fun Φ p => Uj (h _ p)
theorem Cw {x y:Bool} (ha:EB Z ρ O a x) (hb:x = true→EW Z ρ O (.BoolOp .And (b :: es) pos) y):EW Z ρ O (.BoolOp .And (a :: b :: es) pos) (x && y):=fun Φ p => Uk (ha _ (by
 cases x with
 | true => rw [if_pos rfl]; exact hb rfl _ p
 | false => rw [if_neg Bool.false_ne_true]; exact p))
theorem Be {x y:Bool} (ha:EB Z ρ O a x) (hb:x = false→EW Z ρ O (.BoolOp .Or (b :: es) pos) y):EW Z ρ O (.BoolOp .Or (a :: b :: es) pos) (x || y):=fun Φ p => Wi (ha _ (by
 cases x with
 | true => rw [if_pos rfl]; exact p
 | false => rw [if_neg Bool.false_ne_true]; exact hb rfl _ p))
theorem PB {op} (h:ET Z ρ O a t):ET Z ρ O (.BoolOp op [a] pos) t:=fun Φ p => Ts (h Φ p)
theorem PC {x y:Bool} (ha:ET Z ρ O a (.bl x)) (hb:x = true→ET Z ρ O (.BoolOp .And (b :: es) pos) (.bl y)):ET Z ρ O (.BoolOp .And (a :: b :: es) pos) (.bl (x && y)):=fun Φ p =>
 by
 refine PE.weak (Tt (BU (ρ:=ρ)) (BU (ρ:=ρ))) fun σ H Q q => ?_
 refine ⟨O,_,ha (fun t O' => t = .bl x∧O' = O) ⟨rfl,rfl⟩,q.1,?_⟩
 rintro v H1 _ _ ⟨rfl,rfl⟩ f r
 refine ⟨x,r.bl_inv,?_⟩
 cases x with
 | true => exact JV ⟨_,_,hb rfl _ p,q.1.step f,q.2.step f⟩
 | false => exact IL (q.2 _ H1 _ _ p f (.bl _))
theorem PD {x:Bool} (ha:ET Z ρ O a (.bl x)):ET Z ρ O (.UnaryOp .Not a pos) (.bl (!x)):=fun Φ p =>
 PE.weak (Tu BU) fun σ H Q q => ⟨O,_,ha (fun t O' => t = .bl x∧O' = O) ⟨rfl,rfl⟩,q.1,fun v H1 t O1 ⟨e1,e2⟩ f r => by
  subst e1; subst e2
  exact ⟨x,r.bl_inv,q.2 _ H1 _ _ p f (.bl _)⟩⟩
theorem Wj (h:WT Z ρ O c fun k O1 => if k = true then WE Z ρ O1 a Φ else WE Z ρ O1 b Φ):WE Z ρ O (.IfExp c a b pos) Φ :=
 PE.weak (Nt h BU BU) fun σ H Q q => ⟨q.1,fun k H1 O1 p f => by
  cases k with
  | true => rw [if_pos rfl] at p ⊢; exact ⟨O1,_,p,q.1.step f,q.2.step f⟩
  | false => rw [if_neg Bool.false_ne_true] at p ⊢; exact ⟨O1,_,p,q.1.step f,q.2.step f⟩⟩
theorem Reps.atI {vs:List V} {H:Hp} (r:Reps K O H vs ts) (e:L2.atI ts i = some t):∃ v,L2.atI vs i = some v∧Rep K O H v t:=by
 unfold L2.atI at e ⊢
 rw [r.length]
 cases hx:RM ts.length i with
 | none => rw [hx] at e; cases e
 | some j => rw [hx] at e; exact r.get e
theorem PF (e:atI ts i = some t):RP K (WM K) (.tup ts) (.int i) O t:=fun Φ p H v w Q ok r1 r2 q => by
 obtain ⟨a,xs,rfl,h1,r1⟩:=r1.tup_inv
 obtain ⟨x,ex,rx⟩:=r1.atI e
 exact ⟨a,xs,i,x,rfl,r2.int_inv,.inl (.inl h1),ex,q _ H _ O p (.refl ok) rx⟩
theorem Ic (e:atI ts i = some t):RP K (UL K) (.lst ts) (.int i) O t:=fun Φ p H v w Q ok r1 r2 q => by
 obtain ⟨a,xs,rfl,h1,o1,r1⟩:=r1.lst_inv
 obtain ⟨x,ex,rx⟩:=r1.atI e
 exact ⟨a,xs,i,x,rfl,r2.int_inv,.inl (.inl h1),ex,q _ H _ O p (.refl ok) rx⟩
theorem Ul {a:Addr} (ha:O a = some ts) (e:atI ts i = some t):RP K (UL K) (.raw (.ref a)) (.int i) O t:=fun Φ p H v w Q ok r1 r2 q => by
 cases r1.raw_inv
 obtain ⟨xs,h1,r1⟩:=ok a ts ha
 obtain ⟨x,ex,rx⟩:=r1.atI e
 exact ⟨a,xs,i,x,rfl,r2.int_inv,.inl (.inl h1),ex,q _ H _ O p (.refl ok) rx⟩
theorem AK (ha:ET Z ρ O a (.tup ts)) (hb:ET Z ρ O b (.int i)) (e:atI ts i = some t:=by rfl) (hs:DY b:=by exact fun _ _ => rfl):ET Z ρ O (.Subscript a b pos) t:=Ot OH hs (PF e) ha hb
theorem Bc (ha:ET Z ρ O a (.lst ts)) (hb:ET Z ρ O b (.int i)) (e:atI ts i = some t:=by rfl) (hs:DY b:=by exact fun _ _ => rfl):ET Z ρ O (.Subscript a b pos) t:=Ot DZ hs (Ic e) ha hb
theorem Dw {p:Addr} (hp:O p = some ts) (ha:ET Z ρ O a (.raw (.ref p))) (hb:ET Z ρ O b (.int i)) (e:atI ts i = some t:=by rfl) (hs:DY b:=by exact fun _ _ => rfl):ET Z ρ O (.Subscript a b pos) t:=Ot DZ hs (Ul hp e) ha hb
end
abbrev Cy:=List T→AM→BX→(Value→AM→Prop)→Prop
def Dm (K:PySem.W.Frag) (s:Cy):Sp:=fun vs H Q E => ∃ ts O Φ Ξ,Reps K O H vs ts∧OwnOk K O H∧s ts O Φ Ξ∧Acc K O H Φ Q∧∀ cls O' H',Ξ cls O'→Frm K O H O' H'→E cls none H'
structure FnT (P:Program) (w:World) (K:PySem.W.Frag) (mg:Str→Option Value) (base:Heap) (x:Str) (k:Nat) (ps:List Str) (s:Cy):Prop where
 ex:∃ f fd,FnOk P w K mg base (CXe P w) k f fd ps (Dm K s)∧mg x = some (.ref f)∧PySem.W.keepIn K (.ref f) = true∧Binds K fd ps []
def PH (φ:List T→T→Prop):Cy:=fun ts O Φ _ => ∃ t,φ ts t∧Φ t O
section
variable {Z:Zx} {ρ:List (Option T)} {O:AM} {e a b c:Expr} {es:List Expr} {Φ Φ':BX} {pos p:Pos} {t ta tb:T} {ts:List T} {K:PySem.W.Frag} {i j:Int} {x:Str}
theorem AX {k:Nat} {ps:List Str} {s:Cy} (G:FnT Z.X.prog Z.X.w Z.X.K Z.X.mg Z.X.base x k ps s) (hr:Room k Z.X.A) (xf:XFly Z.X Z.W) (h:WA Z ρ O (e :: es) fun ts O1 => s ts O1 Φ Z.Xi) (hg:Gl Z.X x:=by rfl)
  (hdb:(x == ("__debug__" : Str)) = false:=by decide) (he:starEach (e :: es) Z.X.env = (false,eval e Z.X.env) :: starEach es Z.X.env:=by rfl) (hpl:(backTo pos (starEach es Z.X.env)).any (·.1) = false:=by rfl):WE Z ρ O (.Call (.Name x p) (e :: es) [] pos) Φ:=by
 obtain ⟨f,fd,F,hm,hk,hb⟩:=G.ex
 refine PE.weak (GA xf F hr hg hm hk hb (HB (ρ:=ρ)) hdb he hpl) fun σ H Q q => ?_
 exact ⟨O,_,h,q.1,fun vs H1 ts O1 p f r => ⟨ts,O1,Φ,Z.Xi,r,f.ok,p,q.2.step f,fun cls O' H' x f' => ⟨rfl,O',x,(q.1.fr.trans f).trans f'⟩⟩⟩
theorem Bz {k:Nat} {ps:List Str} {s:Cy} (G:FnT Z.X.prog Z.X.w Z.X.K Z.X.mg Z.X.base x k ps s) (hr:Room k Z.X.A) (xf:XFly Z.X Z.W) (h:EA Z ρ O (e :: es) ts) (hs:∀ Φ:BX,Φ t O→s ts O Φ Z.Xi) (hg:Gl Z.X x:=by rfl)
  (hdb:(x == ("__debug__" : Str)) = false:=by decide) (he:starEach (e :: es) Z.X.env = (false,eval e Z.X.env) :: starEach es Z.X.env:=by rfl) (hpl:(backTo pos (starEach es Z.X.env)).any (·.1) = false:=by rfl):ET Z ρ O (.Call (.Name x p) (e :: es) [] pos) t :=
 fun Φ p => AX G hr xf (h _ (hs Φ p)) hg hdb he hpl
theorem At {k:Nat} {ps:List Str} {φ:List T→T→Prop} (G:FnT Z.X.prog Z.X.w Z.X.K Z.X.mg Z.X.base x k ps (PH φ)) (hr:Room k Z.X.A) (xf:XFly Z.X Z.W) (h:EA Z ρ O (e :: es) ts) (hs:φ ts t) (hg:Gl Z.X x:=by rfl)
  (hdb:(x == ("__debug__" : Str)) = false:=by decide) (he:starEach (e :: es) Z.X.env = (false,eval e Z.X.env) :: starEach es Z.X.env:=by rfl) (hpl:(backTo pos (starEach es Z.X.env)).any (·.1) = false:=by rfl):ET Z ρ O (.Call (.Name x p) (e :: es) [] pos) t :=
 Bz G hr xf h (fun Φ p => ⟨t,hs,p⟩) hg hdb he hpl
def CT (K:PySem.W.Frag) (r:List V→Hp→VK→Prop) (ts:List T) (O:AM) (Φ:BX):Prop:=∀ H vs Q,OwnOk K O H→Reps K O H vs ts→Acc K O H Φ Q→r vs H Q
def CP (K:PySem.W.Frag) (r:List V→Hp→VK→Prop) (ts:List T) (O:AM) (t:T):Prop:=∀ Φ:BX,Φ t O→CT K r ts O Φ
theorem GR {id:String} {r:List V→Hp→VK→Prop} (hc:BR Z.X (.builtin id) r) (hm:Z.X.mg x = none) (hv:bootBuiltins x = some (.builtin id)) (h:WA Z ρ O (e :: es) fun ts O1 => CT Z.K r ts O1 Φ) (hg:Gl Z.X x:=by rfl) (hn:x≠"__name__":=by decide) (hdb:(x == ("__debug__" : Str)) = false:=by decide)
  (he:starEach (e :: es) Z.X.env = (false,eval e Z.X.env) :: starEach es Z.X.env:=by rfl) (hpl:(backTo pos (starEach es Z.X.env)).any (·.1) = false:=by rfl):WE Z ρ O (.Call (.Name x p) (e :: es) [] pos) Φ :=
 PE.weak (As hc hg hm hv (HB (ρ:=ρ)) hn hdb he hpl) fun σ H Q q => ⟨O,_,h,q.1,fun vs H1 ts O1 p f r => p H1 vs Q f.ok r (q.2.step f)⟩
theorem Hk {id:String} {r:List V→Hp→VK→Prop} (hc:BR Z.X (.type id) r) (hm:Z.X.mg x = none) (hv:bootBuiltins x = some (.type id)) (h:WA Z ρ O (e :: es) fun ts O1 => CT Z.K r ts O1 Φ) (hg:Gl Z.X x:=by rfl) (hn:x≠"__name__":=by decide) (hdb:(x == ("__debug__" : Str)) = false:=by decide)
  (he:starEach (e :: es) Z.X.env = (false,eval e Z.X.env) :: starEach es Z.X.env:=by rfl) (hpl:(backTo pos (starEach es Z.X.env)).any (·.1) = false:=by rfl):WE Z ρ O (.Call (.Name x p) (e :: es) [] pos) Φ :=
 PE.weak (HR hc hg hm hv (HB (ρ:=ρ)) hn hdb he hpl) fun σ H Q q => ⟨O,_,h,q.1,fun vs H1 ts O1 p f r => p H1 vs Q f.ok r (q.2.step f)⟩
theorem Bv {id:String} {r:List V→Hp→VK→Prop} (hc:BR Z.X (.builtin id) r) (hm:Z.X.mg x = none) (hv:bootBuiltins x = some (.builtin id)) (h:EA Z ρ O (e :: es) ts) (hp:CP Z.K r ts O t) (hg:Gl Z.X x:=by rfl) (hn:x≠"__name__":=by decide) (hdb:(x == ("__debug__" : Str)) = false:=by decide)
  (he:starEach (e :: es) Z.X.env = (false,eval e Z.X.env) :: starEach es Z.X.env:=by rfl) (hpl:(backTo pos (starEach es Z.X.env)).any (·.1) = false:=by rfl):ET Z ρ O (.Call (.Name x p) (e :: es) [] pos) t:=fun Φ q => GR hc hm hv (h _ (hp Φ q)) hg hn hdb he hpl
theorem Hl {id:String} {r:List V→Hp→VK→Prop} (hc:BR Z.X (.type id) r) (hm:Z.X.mg x = none) (hv:bootBuiltins x = some (.type id)) (h:EA Z ρ O (e :: es) ts) (hp:CP Z.K r ts O t) (hg:Gl Z.X x:=by rfl) (hn:x≠"__name__":=by decide) (hdb:(x == ("__debug__" : Str)) = false:=by decide)
  (he:starEach (e :: es) Z.X.env = (false,eval e Z.X.env) :: starEach es Z.X.env:=by rfl) (hpl:(backTo pos (starEach es Z.X.env)).any (·.1) = false:=by rfl):ET Z ρ O (.Call (.Name x p) (e :: es) [] pos) t:=fun Φ q => Hk hc hm hv (h _ (hp Φ q)) hg hn hdb he hpl
def MT (K:PySem.W.Frag) (ty:String) (r:V→List V→Hp→VK→Prop) (t:T) (ts:List T) (O:AM) (Φ:BX):Prop:=∀ H v vs Q,OwnOk K O H→Rep K O H v t→Reps K O H vs ts→Acc K O H Φ Q→r v vs H Q
def Ye (K:PySem.W.Frag) (ty:String) (O:AM) (t:T):Prop:=∀ H v,OwnOk K O H→Rep K O H v t→YW K ty v H
theorem PJ {o:Expr} {name:Str} {apos cpos:Pos} {ty id:String} {r:V→List V→Hp→VK→Prop} (pa:PlainAttrs ty) (slot:Slot ty name id) (hty:typeOf (.builtin id) = pure (.type "method_descriptor")) (hm:Yv Z.X id r)
  (h:WE Z ρ O o fun t O1 => Ye Z.K ty O1 t∧WA Z ρ O1 (e :: es) fun ts O2 => MT Z.K ty r t ts O2 Φ)
  (hbase:attributeBase o name Z.X.env (eval o Z.X.env) = eval o Z.X.env:=by rfl)
  (hfew:((backTo cpos (starEach (e :: es) Z.X.env)).all (fun x => !x.1) && (backToKw cpos (keywordEach [] Z.X.env)).all (fun x => x.1.isSome)
   && decide ((e :: es).length + ([]:List Keyword).length + (if ([]:List Keyword).isEmpty then 0 else 1) < 30)) = true:=by rfl)
  (hline:(apos.endLine == cpos.line) = true:=by rfl) (hs:starEach (e :: es) Z.X.env = (false,eval e Z.X.env) :: starEach es Z.X.env:=by rfl) (hplain:(backTo cpos (starEach es Z.X.env)).any (·.1) = false:=by rfl):WE Z ρ O (.Call (.Attribute o name apos) (e :: es) [] cpos) Φ :=
 PE.weak (OK pa slot hty hm (BU (ρ:=ρ)) (HB (ρ:=ρ)) hbase hfew hline hs hplain) fun σ H Q q => ⟨O,_,h,q.1,fun v H1 t O1 ⟨ty,p⟩ f1 r1 => ⟨ty H1 v f1.ok r1,O1,_,p,q.1.step f1,fun vs H2 ts O2 p2 f2 r2 =>
  p2 H2 v vs Q f2.ok (r1.kp f2.kp f1.ok) r2 (q.2.step (f1.trans f2))⟩⟩
theorem ML {a:Addr} (ha:O a = some ts):Ye K "list" O (.raw (.ref a)):=fun H v ok r => by
 cases r.raw_inv
 obtain ⟨xs,h,_⟩:=ok a ts ha
 exact .inl ⟨rfl,xs,.inl (.inl h)⟩
theorem Rq:Ye K "list" O (.lst ts):=fun H v ok r => by
 obtain ⟨a,xs,rfl,h,_⟩:=r.lst_inv
 exact .inl ⟨rfl,xs,.inl (.inl h)⟩
theorem LG {a:Addr} {u:T} (ha:O a = some ts) (hl:ts.length < sizeLine) (p:Φ .non (BB O a (ts ++ [u]))):MT K "list" Lq (.raw (.ref a)) [u] O Φ:=fun H v vs Q ok r1 r2 q => by
 cases r1.raw_inv
 obtain ⟨w,rfl,r3⟩:=r2.one_inv
 obtain ⟨xs,h,r⟩:=ok a ts ha
 exact ⟨a,xs,w,rfl,rfl,h,by rw [r.length]; exact hl,q _ _ _ _ p (.put ok ha (r.append (.one r3))) .non⟩
theorem FB {o:Expr} {apos cpos:Pos} (h:WE Z ρ O o fun t O1 => ∃ a,t = .raw (.ref a)∧(∃ ts,O1 a = some ts)∧WE Z ρ O1 e fun u O2 => ∃ ts,O2 a = some ts∧ts.length < sizeLine∧Φ .non (BB O2 a (ts ++ [u])))
  (hbase:attributeBase o "append" Z.X.env (eval o Z.X.env) = eval o Z.X.env:=by rfl)
  (hfew:((backTo cpos (starEach [e] Z.X.env)).all (fun x => !x.1) && (backToKw cpos (keywordEach [] Z.X.env)).all (fun x => x.1.isSome)
   && decide ([e].length + ([]:List Keyword).length + (if ([]:List Keyword).isEmpty then 0 else 1) < 30)) = true:=by rfl)
  (hline:(apos.endLine == cpos.line) = true:=by rfl) (hs:starEach [e] Z.X.env = (false,eval e Z.X.env) :: starEach [] Z.X.env:=by rfl) (hplain:(backTo cpos (starEach [] Z.X.env)).any (·.1) = false:=by rfl):WE Z ρ O (.Call (.Attribute o "append" apos) [e] [] cpos) Φ:=by
 refine PJ PySem.F.plainAttrs_list PySem.F.slot_list_append PySem.F.type_list_append HU (Dc h ?_) hbase hfew hline hs hplain
 rintro t O1 ⟨a,rfl,⟨ts,hts⟩,w⟩
 refine ⟨ML hts,Dd (Dc w ?_) hs⟩
 rintro u O2 ⟨us,h1,h2,p⟩
 exact BL (LG h1 h2 p)
end
abbrev LH:=List (Option T)→AM→Prop
structure Es where
 nx:LH
 rt:BX
 bk:LH:=fun _ _ => False
 ct:LH:=fun _ _ => False
def AccN (Z:Zx) (O:AM) (H:Hp) (N:LH) (D:St→Hp→Prop):Prop:=∀ ρ' O' σ' H',N ρ' O'→Asr Z ρ' O' σ' H'→Kp O H O' H'→D σ' H'
structure AccS (Z:Zx) (O:AM) (H:Hp) (Ψ:Es) (D:Ends):Prop where
 nx:AccN Z O H Ψ.nx D.nx
 rt:∀ v H' t O',Ψ.rt t O'→Frm Z.K Z.Oe Z.He O' H'→Rep Z.K O' H' v t→D.rt v H'
 bk:AccN Z O H Ψ.bk D.bk
 ct:AccN Z O H Ψ.ct D.ct
def tS (Z:Zx) (ρ:List (Option T)) (O:AM) (Ψ:Es):TS:=fun D σ H => Asr Z ρ O σ H∧AccS Z O H Ψ D
def WS (Z:Zx) (ρ:List (Option T)) (O:AM) (s:Stmt) (Ψ:Es):Prop:=PS Z.X s (tS Z ρ O Ψ)
def DI (Z:Zx) (ρ:List (Option T)) (O:AM) (s:List Stmt) (Ψ:Es):Prop:=PSs Z.X s (tS Z ρ O Ψ)
def ZS (Z:Zx) (ss:List Stmt):TS:=fun D σ H => ∃ ρ O Ψ,DI Z ρ O ss Ψ∧tS Z ρ O Ψ D σ H
theorem MM {Z:Zx} {ss:List Stmt}:PSs Z.X ss (ZS Z ss):=fun pins s σ H D I ⟨_,_,_,w,q⟩ => w pins s σ H D I q
section
variable {Z:Zx} {ρ:List (Option T)} {O O1:AM} {e a b c:Expr} {es:List Expr} {Ψ:Es} {pos p:Pos} {t ta tb:T} {ts:List T} {i j:Nat} {x:Str} {s:Stmt} {ss:List Stmt} {H H1:Hp} {D:Ends}
theorem AccN.step {N:LH} {D:St→Hp→Prop} (h:AccN Z O H N D) (k:Kp O H O1 H1):AccN Z O1 H1 N D:=fun ρ' O' σ' H' n a k' => h ρ' O' σ' H' n a (k.trans k')
theorem AccS.step (h:AccS Z O H Ψ D) (k:Kp O H O1 H1):AccS Z O1 H1 Ψ D:=⟨h.nx.step k,h.rt,h.bk.step k,h.ct.step k⟩
theorem Ac (h:Ψ.nx ρ O):DI Z ρ O [] Ψ:=PSs.weak Dz fun D σ H q => q.2.nx ρ O σ H h q.1 .refl
theorem AF (h:WS Z ρ O s { Ψ with nx:=fun ρ' O' => DI Z ρ' O' ss Ψ }):DI Z ρ O (s :: ss) Ψ :=
 PSs.weak (BQ h MM) fun D σ H q => ⟨q.1,fun ρ' O' σ' H' w a k => ⟨ρ',O',Ψ,w,a,q.2.step k⟩,q.2.rt,q.2.bk,q.2.ct⟩
theorem AH (h:WS Z ρ O s Ψ):DI Z ρ O [s] Ψ:=PSs.weak (Bh h) fun _ _ _ q => q
theorem Fc {Ψ':Es} (h:WS Z ρ O s Ψ) (n:∀ ρ' O',Ψ.nx ρ' O'→Ψ'.nx ρ' O') (r:∀ t O',Ψ.rt t O'→Ψ'.rt t O') (bk:∀ ρ' O',Ψ.bk ρ' O'→Ψ'.bk ρ' O') (ct:∀ ρ' O',Ψ.ct ρ' O'→Ψ'.ct ρ' O'):WS Z ρ O s Ψ' :=
 PS.weak h fun D σ H q => ⟨q.1,fun ρ' O' σ' H' w => q.2.nx ρ' O' σ' H' (n ρ' O' w),fun v H' t O' w => q.2.rt v H' t O' (r t O' w),fun ρ' O' σ' H' w => q.2.bk ρ' O' σ' H' (bk ρ' O' w),fun ρ' O' σ' H' w => q.2.ct ρ' O' σ' H' (ct ρ' O' w)⟩
theorem GS {p:Addr} {n:Nat} (hp:O p = some ts) (he:Z.Oe p = none) (hn:ρ[n]? = some (some (.raw (.ref p)))) (h:DI Z (ρ.set n (some (.lst ts))) (EN O p) ss Ψ):DI Z ρ O ss Ψ:=PSs.weak h fun D σ H q => by
 refine ⟨⟨?_,⟨q.1.fr.kp.trans Db,fun b us e => ?_,q.1.ok.drop⟩⟩,q.2.step Db⟩
 ·have r1:=q.1.rl.kp (Db (a:=p)) q.1.ok
  obtain ⟨v,e1,e2⟩:=q.1.rl.2 n _ hn
  cases e2.raw_inv
  have r2:=r1.set (i:=n) (q.1.ok.rep hp)
  have:σ.set n (some (.ref p)) = σ:=by
   apply List.ext_getElem?
   intro m
   by_cases hm:m = n
   ·subst hm
    have hl:m < σ.length:=(List.getElem?_eq_some_iff.mp e1).1
    rw [List.getElem?_set_self hl,e1]
   ·rw [List.getElem?_set_ne (Ne.symm hm)]
  rw [this] at r2
  exact r2
 ·obtain ⟨us',e'⟩:=q.1.fr.own b us e
  have:b≠p:=fun z => by rw [z,he] at e; cases e
  exact ⟨us',by rw [EQ this]; exact e'⟩
theorem AS (h:WE Z ρ O e Ψ.rt):WS Z ρ O (.Return (some e) pos) Ψ:=PS.weak (DL h) fun D σ H q => ⟨q.1,fun v H' t O' p f r => q.2.rt v H' t O' p (q.1.fr.trans f) r⟩
theorem CA (h:WE Z ρ O e fun _ O' => Ψ.nx ρ O') (hs:swapsWith e none pos.line Z.X.env = pure false:=by rfl):WS Z ρ O (.Expr e pos) Ψ :=
 PS.weak (RB h hs) fun D σ H q => ⟨q.1,fun v H' t O' p f r => q.2.nx ρ O' σ H' p (q.1.step f) f.kp⟩
theorem AQ (i:Nat) (h:WE Z ρ O e fun t O' => Ψ.nx (ρ.set i (some t)) O') (hN:Z.X.N.Nodup) {pos':Pos} (hi:Z.X.N[i]? = some x:=by rfl) (hx:Qt Z.X.env.scope x:=by first | exact Or.inl rfl | exact Or.inr rfl) (hs:swapsWith e (some (.Name x pos')) pos.line Z.X.env = pure false:=by rfl)
  (hf:Z.X.fn x = true∨Z.X.env.scope.names.lookup x = some .local:=by first | exact .inl rfl | exact .inr rfl):WS Z ρ O (.Assign [.Name x pos'] e pos) Ψ :=
 PS.weak (IF hN hi hx h hs hf) fun D σ H q => ⟨q.1,fun v H' t O' p f r => q.2.nx _ O' _ H' p ⟨(q.1.step f).rl.set r,(q.1.step f).fr⟩ f.kp⟩
theorem PK {ea eb:List Stmt} (h:WT Z ρ O c fun k O1 => if k = true then DI Z ρ O1 ea Ψ else DI Z ρ O1 eb Ψ):WS Z ρ O (.If c ea eb pos) Ψ :=
 PS.weak (JO h MM MM) fun D σ H q => ⟨q.1,fun k H1 O1 p f => by
  cases k with
  | true => rw [if_pos rfl] at p ⊢; exact ⟨ρ,O1,Ψ,p,q.1.step f,q.2.step f.kp⟩
  | false => rw [if_neg Bool.false_ne_true] at p ⊢; exact ⟨ρ,O1,Ψ,p,q.1.step f,q.2.step f.kp⟩⟩
theorem AZ {ea eb:List Stmt} {k:Bool} (hc:EB Z ρ O c k) (h1:k = true→DI Z ρ O ea Ψ) (h2:k = false→DI Z ρ O eb Ψ):WS Z ρ O (.If c ea eb pos) Ψ:=PK (hc _ (by
 cases k with
 | true => rw [if_pos rfl]; exact h1 rfl
 | false => rw [if_neg Bool.false_ne_true]; exact h2 rfl))
def tG (Z:Zx) (n:Nat) (ρ:List (Option T)) (O:AM) (t:T) (ρ':List (Option T)):TG:=fun v σ H Q => Asr Z ρ O σ H∧Rep Z.K O H v t∧∀ σ',Asr Z ρ' O σ' H→(σ'.length = σ.length∧∀ j,n≤j→σ'[j]? = σ[j]?)→Q σ' H
def WG (Z:Zx) (n:Nat) (ρ:List (Option T)) (O:AM) (tg:Expr) (t:T) (ρ':List (Option T)):Prop:=PG Z.X tg (tG Z n ρ O t ρ')
theorem PG.weak {X:Cx} {e:Expr} {t t':TG} (h:PG X e t) (w:∀ v σ H Q,t' v σ H Q→t v σ H Q):PG X e t':=fun pins s σ H v u Q I r q => h pins s σ H v u Q I r (w v σ H Q q)
def ZT (Z:Zx) (n:Nat) (tg:Expr):TG:=fun v σ H Q => ∃ ρ O t ρ',WG Z n ρ O tg t ρ'∧tG Z n ρ O t ρ' v σ H Q
theorem Wl {n:Nat} {tg:Expr}:PG Z.X tg (ZT Z n tg):=fun pins s σ H v u Q I r ⟨_,_,_,_,w,q⟩ => w pins s σ H v u Q I r q
theorem AU (i:Nat) {n:Nat} (hN:Z.X.N.Nodup) (hn:i < n) (hi:Z.X.N[i]? = some x:=by rfl) (hx:Qt Z.X.env.scope x:=by first | exact Or.inl rfl | exact Or.inr rfl)
  (hf:Z.X.fn x = true∨Z.X.env.scope.names.lookup x = some .local:=by first | exact .inl rfl | exact .inr rfl):WG Z n ρ O (.Name x pos) t (ρ.set i (some t)) :=
 PG.weak (EC hN hi hx hf) fun v σ H Q q => q.2.2 _ ⟨q.1.rl.set q.2.1,q.1.fr⟩ ⟨by simp,fun j hj => by rw [List.getElem?_set_ne (by omega)]⟩
theorem Bl (i j:Nat) {n:Nat} {y:Str} {p1 p2:Pos} {k:Nat} (hc:Z.X.calm = true) (hN:Z.X.N.Nodup) (hni:i < n) (hnj:j < n) (hi:Z.X.N[i]? = some x:=by rfl) (hj:Z.X.N[j]? = some y:=by rfl) (hx:Qt Z.X.env.scope x:=by first | exact Or.inl rfl | exact Or.inr rfl) (hy:Qt Z.X.env.scope y:=by first | exact Or.inl rfl | exact Or.inr rfl)
  (hf:Z.X.fn x = true∨Z.X.env.scope.names.lookup x = some .local:=by first | exact .inl rfl | exact .inr rfl) (hf2:Z.X.fn y = true∨Z.X.env.scope.names.lookup y = some .local:=by first | exact .inl rfl | exact .inr rfl)
  (hs:(assignEach [.Name x p1,.Name y p2] Z.X.env).map (·.2) = assign (.Name x p1) Z.X.env :: (assignEach [.Name y p2] Z.X.env).map (·.2):=by rfl) (hs2:(assignEach [.Name y p2] Z.X.env).map (·.2) = assign (.Name y p2) Z.X.env :: (assignEach [] Z.X.env).map (·.2):=by rfl)
  (hl:(assignEach [.Name x p1,.Name y p2] Z.X.env).length = 2:=by rfl) (hst:(assignEach [.Name x p1,.Name y p2] Z.X.env).findIdx? (·.1) = none:=by rfl) :
  WG Z n ρ O (.Tuple [.Name x p1,.Name y p2] k pos) (.tup [ta,tb]) ((ρ.set i (some ta)).set j (some tb)) :=
 PG.weak (Tw hc (ED (EC hN hi hx hf) (ED (EC hN hj hy hf2) Lj hs2) hs) hl hst) fun v σ H Q q => by
  obtain ⟨q1,q2,q3⟩:=q
  obtain ⟨a,xs,rfl,h1,r⟩:=q2.tup_inv
  obtain ⟨v,w,rfl,r1,r2⟩:=r.two_inv
  exact ⟨a,_,rfl,.inl (.inl h1),rfl,v,_,rfl,w,_,rfl,rfl,q3 _ ⟨(q1.rl.set r1).set r2,q1.fr⟩ ⟨by simp,fun m hm => by rw [List.getElem?_set_ne (by omega),List.getElem?_set_ne (by omega)]⟩⟩
theorem Um {n:Nat} {tg:Expr} (h:WE Z ρ O e fun t O' => ∃ ρ',WG Z n ρ O' tg t ρ'∧Ψ.nx ρ' O') (hs:swapsWithSole [tg] e pos.line Z.X.env = pure false:=by rfl) (hw:swappedStores [tg] e Z.X.env = pure none:=by rfl)
  (h1:(assignEach [tg] Z.X.env).map (·.2) = [assign tg Z.X.env]:=by rfl):WS Z ρ O (.Assign [tg] e pos) Ψ :=
 PS.weak (Nu h (Wl (n:=n)) hs hw h1) fun D σ H q => ⟨q.1,fun v H' t O' ⟨ρ',wg,p⟩ f r => ⟨ρ,O',t,ρ',wg,q.1.step f,r,fun σ' a _ => q.2.nx _ O' _ H' p a f.kp⟩⟩
theorem PL {o ix:Expr} {px:Pos} (h:WE Z ρ O e fun t O1 => WE Z ρ O1 o fun u O2 => ∃ a,u = .raw (.ref a)∧WE Z ρ O2 ix fun w O3 => ∃ ts k m,w = .int k∧O3 a = some ts∧RM ts.length k = some m∧Ψ.nx ρ (BB O3 a (ts.set m t)))
  (ha:∀ v,assign (.Subscript o ix px) Z.X.env v = (do
   let ov ← holding [v] (eval o Z.X.env)
   let iv ← holding [v,ov] (eval ix Z.X.env)
   standAt px
   holding [v,ov,iv] (setItem ov iv v)
   release [v,ov,iv] []):=by intro _; rfl)
  (hs:swapsWithSole [.Subscript o ix px] e pos.line Z.X.env = pure false:=by rfl) (hw:swappedStores [.Subscript o ix px] e Z.X.env = pure none:=by rfl)
  (h1:(assignEach [.Subscript o ix px] Z.X.env).map (·.2) = [assign (.Subscript o ix px) Z.X.env]:=by rfl):WS Z ρ O (.Assign [.Subscript o ix px] e pos) Ψ:=by
 refine PS.weak (Nu h (Ty (BU (ρ:=ρ)) (BU (ρ:=ρ)) OI ha) hs hw h1) fun D σ H q => ⟨q.1,fun v H1 t O1 p1 f1 r1 => ?_⟩
 refine ⟨O1,_,p1,q.1.step f1,?_⟩
 rintro vo H2 _ O2 ⟨a,rfl,p2⟩ f2 r2
 refine ⟨O2,_,p2,q.1.step (f1.trans f2),?_⟩
 rintro vi H3 _ O3 ⟨ts,k,m,rfl,ho,hm,p3⟩ f3 r3
 cases r2.raw_inv
 obtain ⟨xs,hx,rx⟩:=f3.ok a ts ho
 have r1':=(r1.kp f2.kp f1.ok).kp f3.kp f2.ok
 have f:=f1.trans (f2.trans (f3.trans (Frm.put f3.ok ho (rx.set r1' m))))
 exact ⟨a,xs,k,m,rfl,r3.int_inv,hx,by rw [rx.length]; exact hm,q.2.nx ρ _ σ _ p3 (q.1.step f) f.kp⟩
def NT (K:PySem.W.Frag) (J:It) (O:AM) (H:Hp) (ts:List T):Prop:=∀ O' H',Kp O H O' H'→OwnOk K O' H' →
 (∀ i,i < ts.length→J.go i H')∧(∀ i x H'',J.yld i H' x H''→∀ t,ts[i]? = some t→Frm K O' H' O' H''∧Rep K O' H'' x t)∧∀ i,ts.length≤i→J.stop i H'
def WI (Z:Zx) (ρ:List (Option T)) (O:AM) (tg iter:Expr) (Φ:MI):Prop:=PI Z.X tg iter fun σ H R => Asr Z ρ O σ H∧∀ J H' ts O',Φ ts O'→Frm Z.K O H O' H'→NT Z.K J O' H' ts→R J H'
theorem PI.weak {X:Cx} {tg e:Expr} {t t':TI} (h:PI X tg e t) (w:∀ σ H R,t' σ H R→t σ H R):PI X tg e t':=fun pins s σ H R I q => h pins s σ H R I (w σ H R q)
theorem NU {K:PySem.W.Frag} {a:Addr} {xs:List V} (ok:OwnOk K O H) (h:H a = some (.lst xs)) (n:O a = none) (r:Reps K O H xs ts):NT K (YJ K a) O H ts:=fun O' H' k ok' => by
 have h':=(k.lst h n).1
 have r':=r.kp k ok
 refine ⟨fun i hi => ?_,fun i x H'' y t e => ?_,fun i hi => ⟨xs,.inl (.inl h'),by rw [r.length]; exact hi⟩⟩
 ·obtain ⟨v,e,_⟩:=r'.get (i:=i) (t:=ts[i]) (by simp [hi])
  exact ⟨xs,v,.inl (.inl h'),e⟩
 ·obtain ⟨rfl,y⟩:=y
  obtain ⟨v,e',q⟩:=r'.get e
  have:=y xs (.inl (.inl h'))
  rw [e'] at this; cases this
  exact ⟨.refl ok',q⟩
theorem PM {K:PySem.W.Frag} {a:Addr} {xs:List V} (ok:OwnOk K O H) (h:H a = some (.tup xs)) (r:Reps K O H xs ts):NT K (YK K a) O H ts:=fun O' H' k ok' => by
 have h':IE K H' a xs:=.inl (.inl (k.oth ok h fun _ z => by cases z))
 have r':=r.kp k ok
 refine ⟨fun i hi => ?_,fun i x H'' y t e => ?_,fun i hi => ⟨xs,h',by rw [r.length]; exact hi⟩⟩
 ·obtain ⟨v,e,_⟩:=r'.get (i:=i) (t:=ts[i]) (by simp [hi])
  exact ⟨xs,v,h',e⟩
 ·obtain ⟨rfl,y⟩:=y
  obtain ⟨v,e',q⟩:=r'.get e
  have:=y xs h'
  rw [e'] at this; cases this
  exact ⟨.refl ok',q⟩
def Js (lo:Int) (n:Nat):List T:=(List.range n).map fun (i:Nat) => T.int (lo + i)
theorem BM {lo:Int} {n:Nat}:(Js lo n).length = n:=by simp [Js]
theorem CZ {lo:Int} {n i:Nat} (h:(Js lo n)[i]? = some t):i < n∧t = .int (lo + i):=by
 unfold Js at h
 rw [List.getElem?_map] at h
 by_cases hi:i < n
 ·rw [List.getElem?_range hi] at h
  cases h
  exact ⟨hi,rfl⟩
 ·rw [List.getElem?_eq_none (by simpa using hi)] at h
  cases h
theorem PN {K:PySem.W.Frag} {lo:Int} {n:Nat}:NT K (Xm lo n) O H (Js lo n):=fun O' H' k ok' => by
 refine ⟨fun i hi => by rwa [BM] at hi,fun i x H'' y t e => ?_,fun i hi => by rwa [BM] at hi⟩
 obtain ⟨rfl,rfl⟩:=y
 obtain ⟨_,rfl⟩:=CZ e
 exact ⟨.refl ok',.int _⟩
theorem MN {tg:Expr} {Φ:MI} (h:WE Z ρ O e fun t O' => ∃ ts,t = .lst ts∧Φ ts O'):WI Z ρ O tg e Φ:=PI.weak (RD h) fun σ H R q => ⟨q.1,by
 rintro v H' _ O' ⟨ts,rfl,p⟩ f r
 obtain ⟨a,xs,rfl,h1,n,r⟩:=r.lst_inv
 exact ⟨a,rfl,⟨xs,.inl (.inl h1)⟩,q.2 _ H' ts O' p f (NU f.ok h1 n r)⟩⟩
theorem Uo {tg:Expr} {Φ:MI} (h:WE Z ρ O e fun t O' => ∃ ts,t = .tup ts∧Φ ts O'):WI Z ρ O tg e Φ:=PI.weak (Tz h) fun σ H R q => ⟨q.1,by
 rintro v H' _ O' ⟨ts,rfl,p⟩ f r
 obtain ⟨a,xs,rfl,h1,r⟩:=r.tup_inv
 exact ⟨a,rfl,⟨xs,.inl (.inl h1)⟩,q.2 _ H' ts O' p f (PM f.ok h1 r)⟩⟩
theorem NV {tg:Expr} {Φ:MI} (hm:Z.X.mg "range" = none) (h:WA Z ρ O [a] fun ts O' => ∃ j:Int,ts = [.int j]∧-(2 ^ 62)≤j∧j < 2 ^ 62∧Φ (Js 0 j.toNat) O') (hg:Gl Z.X "range":=by rfl) (hs:starEach [a] Z.X.env = [(false,eval a Z.X.env)]:=by rfl):WI Z ρ O tg (.Call (.Name "range" p) [a] [] pos) Φ :=
 PI.weak (Mu hg hm h hs) fun σ H R q => ⟨q.1,by
  rintro vs H' _ O' ⟨j,rfl,h1,h2,p⟩ f r
  obtain ⟨v,rfl,r'⟩:=r.one_inv
  exact ⟨j,by rw [r'.int_inv],h1,h2,q.2 _ H' _ O' p f PN⟩⟩
def EI (Z:Zx) (ρ:List (Option T)) (O:AM) (tg iter:Expr) (ts:List T):Prop:=∀ Φ:MI,Φ ts O→WI Z ρ O tg iter Φ
theorem BC {tg:Expr} (h:ET Z ρ O e (.lst ts)):EI Z ρ O tg e ts:=fun Φ p => MN (h _ ⟨ts,rfl,p⟩)
theorem CO {tg:Expr} (h:ET Z ρ O e (.tup ts)):EI Z ρ O tg e ts:=fun Φ p => Uo (h _ ⟨ts,rfl,p⟩)
theorem Av {tg:Expr} {k:Int} (hm:Z.X.mg "range" = none) (h:ET Z ρ O a (.int k)) (h1 : -(2 ^ 62)≤k∧k < 2 ^ 62) (hg:Gl Z.X "range":=by rfl) (hs:starEach [a] Z.X.env = [(false,eval a Z.X.env)]:=by rfl):EI Z ρ O tg (.Call (.Name "range" p) [a] [] pos) (Js 0 k.toNat):=fun Φ q => NV hm (AT h AD hs _ ⟨k,rfl,h1.1,h1.2,q⟩) hg hs
theorem FD {tg iter:Expr} {body:List Stmt} (hp:PassesOwn (model Z.X.prog Z.X.w) Z.X.A Z.X.env Z.X.xe) (hc:Z.X.calm = true)
  (h:WI Z ρ O tg iter fun ts O1 => ∃ I:Nat→LH,I 0 ρ O1∧(∀ i t ρ' O',ts[i]? = some t→I i ρ' O'→∃ ρ2,WG Z Z.X.N.length ρ' O' tg t ρ2∧DI Z ρ2 O' body { nx:=I (i + 1),rt:=Ψ.rt,bk:=Ψ.nx,ct:=I (i + 1) })∧∀ ρ' O',I ts.length ρ' O'→Ψ.nx ρ' O')
  (hs:∀ x,foldedSetIterable iter Z.X.env x = pure x:=by intro _; rfl):WS Z ρ O (.For tg iter body [] pos) Ψ:=by
 refine PS.weak (UA hp hc h (Wl (n:=Z.X.N.length)) MM hs) fun D σ H q => ⟨q.1,?_⟩
 rintro J H1 ts O1 ⟨I,i0,step,fin⟩ f1 it
 refine ⟨fun i m σ' H' => m = ts.length - i∧i≤ts.length∧∃ ρ' O',I i ρ' O'∧Asr Z ρ' O' σ' H'∧Kp O1 H1 O' H',⟨ts.length,by simp,Nat.zero_le _,ρ,O1,i0,q.1.step f1,.refl⟩,?_⟩
 rintro i m σ2 H2 ⟨rfl,hi,ρ2,O2,i2,a2,k2⟩
 obtain ⟨g1,g2,g3⟩:=it O2 H2 k2 a2.ok
 by_cases hlt:i < ts.length
 ·refine .inr ⟨g1 i hlt,fun σ' H' => ∃ ρ' O',I (i + 1) ρ' O'∧Asr Z ρ' O' σ' H'∧Kp O1 H1 O' H',fun σ' H' w => ⟨_,by omega,rfl,by omega,w⟩,fun x H3 y => ?_⟩
  obtain ⟨f3,r3⟩:=g2 i x H3 y ts[i] (by simp [hlt])
  obtain ⟨ρ3,wg,wb⟩:=step i ts[i] ρ2 O2 (by simp [hlt]) i2
  refine ⟨ρ2,O2,_,ρ3,wg,a2.step f3,r3,fun σ3 a3 _ => ⟨ρ3,O2,_,wb,a3,?_⟩⟩
  have kk:=(k2.trans f3.kp)
  exact ⟨fun ρ' O' σ' H' w a k => ⟨ρ',O',w,a,kk.trans k⟩,q.2.rt,fun ρ' O' σ' H' w a k => q.2.nx ρ' O' σ' H' w a (f1.kp.trans (kk.trans k)),fun ρ' O' σ' H' w a k => ⟨ρ',O',w,a,kk.trans k⟩⟩
 ·have:i = ts.length:=by omega
  subst this
  exact .inl ⟨g3 _ (Nat.le_refl _),q.2.nx ρ2 O2 σ2 H2 (fin ρ2 O2 i2) a2 (f1.kp.trans k2)⟩
end
def zc (X:Cx) (Oe:AM) (He:Hp):Zx:=⟨X,Oe,He,fun _ _ => False⟩
def GT (nc:List Str) (ρ:List (Option T)) (cap:List (Str × Nat)):List (Option T):=List.replicate nc.length none ++ cap.map fun q => (ρ[q.2]?).join
def Xu (Z:Zx) (ρ:List (Option T)) (O:AM) (ifs:List Expr) (Φ:JM):Prop:=UR Z.X ifs (Wb Z ρ O Φ)
theorem Ca {O:AM} {p:Addr} {ts:List T} (h:O p = none):EN (BB O p ts) p = O:=by
 funext b
 by_cases hb:b = p
 ·rw [hb,Cq,h]
 ·rw [EQ hb,Af hb]
theorem ER {O:AM} {p a:Addr} {ts us:List T} (h:a≠p):BB (BB O p ts) a us = BB (BB O a us) p ts:=by
 funext b
 unfold BB
 by_cases h1:b = a
 ·subst h1; rw [if_pos rfl,if_neg h,if_pos rfl]
 ·rw [if_neg h1,if_neg h1]
section
variable {Z:Zx} {ρ:List (Option T)} {O:AM} {elt tg iter:Expr} {ifs:List Expr} {csc:Scope} {nc:List Str} {cap:List (Str × Nat)} {Φ:BX} {pos:Pos}
theorem Fd {Φ:JM} (h:Φ true O):Xu Z ρ O [] Φ:=fun pins s σ H Q I q => RX pins s σ H Q I (q.2 true H O h q.1.refl)
theorem MO {Φ:JM} {c:Expr} (h:WT Z ρ O c Φ):Xu Z ρ O [c] Φ:=RY h
theorem Wm {K:PySem.W.Frag} {H:Hp} {σ:St} (r:Rl K O H σ ρ):Rl K O H (HA nc σ cap) (GT nc ρ cap):=by
 refine ⟨by simp [By,GT],fun i t e => ?_⟩
 unfold GT at e
 have hi:nc.length≤i:=by
  by_cases hi:i < nc.length
  ·rw [List.getElem?_append_left (by simpa using hi),List.getElem?_replicate] at e
   split at e <;> cases e
  ·omega
 rw [List.getElem?_append_right (by simpa using hi),List.getElem?_map] at e
 simp only [List.length_replicate] at e
 cases hc:cap[i - nc.length]? with
 | none => rw [hc] at e; cases e
 | some q =>
  rw [hc] at e
  have e:(ρ[q.2]?).join = some t:=Option.some.inj e
  have e':ρ[q.2]? = some (some t):=by
   cases h:ρ[q.2]? with
   | none => rw [h] at e; cases e
   | some w => rw [h] at e; exact congrArg some e
  obtain ⟨v,h1,h2⟩:=r.2 q.2 t e'
  refine ⟨v,?_,h2⟩
  show (List.replicate nc.length (none:Option V) ++ By σ cap)[i]? = some (some v)
  rw [List.getElem?_append_right (by simpa using hi)]
  simp only [List.length_replicate]
  unfold By
  rw [List.getElem?_map,hc]
  show some (σ[q.2]?).join = _
  rw [h1]
  rfl
theorem Id {X X':Cx} {Oe:AM} {He:Hp} {Xi Xi':Value→AM→Prop} {σ:St} {H:Hp} (hK:X'.K = X.K) (a:Asr ⟨X,Oe,He,Xi⟩ ρ O σ H):Asr ⟨X',Oe,He,Xi'⟩ ρ O σ H:=by
 obtain ⟨r,f⟩:=a
 refine ⟨?_,?_⟩
 ·show Rl X'.K O H σ ρ
  rw [hK]; exact r
 ·show Frm X'.K Oe He O H
  rw [hK]; exact f
def gA (Z:Zx) (csc:Scope) (nc:List Str) (cap:List (Str × Nat)) (tg:Expr):TG:=fun v σ H Q => ∃ Oe He ρ O t ρ',(∀ X',LcCx Z.X csc (Ae nc cap) X'→WG (zc X' Oe He) nc.length ρ O tg t ρ')∧tG (zc Z.X Oe He) nc.length ρ O t ρ' v σ H Q
def Yg (Z:Zx) (csc:Scope) (nc:List Str) (cap:List (Str × Nat)) (ifs:List Expr):TT:=fun σ H Q => ∃ Oe He ρ O Φ,(∀ X',LcCx Z.X csc (Ae nc cap) X'→Xu (zc X' Oe He) ρ O ifs Φ)∧Wb (zc Z.X Oe He) ρ O Φ σ H Q
def eA (Z:Zx) (csc:Scope) (nc:List Str) (cap:List (Str × Nat)) (e:Expr):TE:=fun σ H Q => ∃ Oe He ρ O Φ,(∀ X',LcCx Z.X csc (Ae nc cap) X'→WE (zc X' Oe He) ρ O e Φ)∧tW (zc Z.X Oe He) ρ O Φ σ H Q
theorem Up {X X':Cx} {N':List Str} (h:LcCx X csc N' X'):X'.K = X.K:=by
 obtain ⟨_,_,_,_,rfl⟩:=h
 rfl
theorem Uq:∀ X',LcCx Z.X csc (Ae nc cap) X'→PG X' tg (gA Z csc nc cap tg):=by
 rintro X' is pins s σ H v u Q I r ⟨Oe,He,ρ,O,t,ρ',w,a,rp,k⟩
 refine w X' is pins s σ H v u Q I r ⟨Id (Up is) a,?_,fun σ' a' h => k σ' (Id (Up is).symm a') h⟩
 show Rep X'.K O H v t
 rw [Up is]; exact rp
theorem PP:∀ X',LcCx Z.X csc (Ae nc cap) X'→UR X' ifs (Yg Z csc nc cap ifs):=by
 rintro X' is pins s σ H Q I ⟨Oe,He,ρ,O,Φ,w,a,k⟩
 refine w X' is pins s σ H Q I ⟨Id (Up is) a,?_⟩
 intro b H' O' p f
 refine k b H' O' p ?_
 have f:Frm X'.K O H O' H':=f
 rw [Up is] at f; exact f
theorem Ur:∀ X',LcCx Z.X csc (Ae nc cap) X'→PE X' elt (eA Z csc nc cap elt):=by
 rintro X' is pins s σ H Q I ⟨Oe,He,ρ,O,Φ,w,a,k⟩
 refine w X' is pins s σ H Q I ⟨Id (Up is) a,?_⟩
 intro v H' t O' p f r
 have f:Frm X'.K O H O' H':=f
 have r:Rep X'.K O' H' v t:=r
 rw [Up is] at f r
 exact k v H' t O' p f r
def Qv (Z:Zx) (ρ:List (Option T)) (elt tg:Expr) (ifs:List Expr) (csc:Scope) (nc:List Str) (cap:List (Str × Nat)) (F:List T→AM→Prop) (ts:List T) (O1:AM):Prop :=
 ∃ I:Nat→List T→AM→Prop,I 0 [] O1∧(∀ i t acc O' p,ts[i]? = some t→I i acc O'→O' p = none→∃ ρ4,∀ X' Oe He,LcCx Z.X csc (Ae nc cap) X'→WG (zc X' Oe He) nc.length (GT nc ρ cap) (BB O' p acc) tg t ρ4 ∧
   Xu (zc X' Oe He) ρ4 (BB O' p acc) ifs fun b O2 => if b = true then ∀ X' Oe He,LcCx Z.X csc (Ae nc cap) X'→WE (zc X' Oe He) ρ4 O2 elt fun y O3 => ∃ O4,O3 = BB O4 p acc∧O4 p = none∧acc.length < sizeLine∧I (i + 1) (acc ++ [y]) O4
    else ∃ O4,O2 = BB O4 p acc∧O4 p = none∧I (i + 1) acc O4)∧∀ acc O',I ts.length acc O'→F acc O'
theorem PQ {F:List T→AM→Prop} {σ:St} {H:Hp} {Q:VK} (a:Asr Z ρ O σ H) (h:WI Z ρ O tg iter (Qv Z ρ elt tg ifs csc nc cap F))
  (fin:∀ acc O' p H',F acc O'→O' p = none→Frm Z.K O H (BB O' p acc) H'→(∀ b us,O b = some us→b≠p)→Q (.ref p) H') :
  Xr (fun σ H R => Asr Z ρ O σ H∧∀ J H' ts O',Qv Z ρ elt tg ifs csc nc cap F ts O'→Frm Z.K O H O' H'→NT Z.K J O' H' ts→R J H') nc cap (gA Z csc nc cap tg) (Yg Z csc nc cap ifs) (eA Z csc nc cap elt) σ H Q:=by
 refine ⟨a,?_⟩
 rintro J H1 ts O1 ⟨I,i0,step,done⟩ f1 it p hp
 have np:O1 p = none:=f1.ok.none_of hp
 have nb:∀ b us,O1 b = some us→b≠p:=fun b us e z => by rw [z,np] at e; cases e
 have fn:=Frm.newO (ts:=[]) (xs:=[]) f1.ok hp .nil
 refine ⟨fun i m H2 => m = ts.length - i∧i≤ts.length∧∃ acc O',I i acc O'∧O' p = none∧Frm Z.K O1 H1 (BB O' p acc) H2,⟨ts.length,by simp,Nat.zero_le _,[],O1,i0,np,fn⟩,?_⟩
 rintro i m H2 ⟨rfl,hi,acc,O2,i2,n2,f2⟩
 obtain ⟨g1,g2,g3⟩:=it _ H2 f2.kp f2.ok
 by_cases hlt:i < ts.length
 ·refine .inr ⟨g1 i hlt,fun H' => ∃ acc O',I (i + 1) acc O'∧O' p = none∧Frm Z.K O1 H1 (BB O' p acc) H',fun H' w => ⟨_,by omega,rfl,by omega,w⟩,fun x H3 y => ?_⟩
  obtain ⟨f3,r3⟩:=g2 i x H3 y ts[i] (by simp [hlt])
  obtain ⟨ρ4,st⟩:=step i ts[i] acc O2 p (by simp [hlt]) i2 n2
  have a3:Asr (zc Z.X (BB O2 p acc) H3) (GT nc ρ cap) (BB O2 p acc) (HA nc σ cap) H3:=⟨Wm ((a.rl.kp f1.kp a.ok).kp (f2.kp.trans f3.kp) f1.ok),.refl f3.ok⟩
  refine ⟨BB O2 p acc,H3,GT nc ρ cap,BB O2 p acc,ts[i],ρ4,fun X' is => (st X' _ _ is).1,a3,r3,fun σ4 a4 hag => ⟨?_,?_⟩⟩
  ·refine ⟨σ4.take nc.length,?_,?_⟩
   ·rw [List.length_take,hag.1]
    simp
   ·have e1:σ4.drop nc.length = By σ cap:=by
     apply List.ext_getElem?
     intro m
     rw [List.getElem?_drop,hag.2 _ (by omega)]
     show (List.replicate nc.length (none:Option V) ++ By σ cap)[nc.length + m]? = _
     rw [List.getElem?_append_right (by simp)]
     simp
    rw [← e1,List.take_append_drop]
  ·refine ⟨BB O2 p acc,H3,ρ4,BB O2 p acc,_,fun X' is => (st X' _ _ is).2,a4,?_⟩
   intro b H5 O5 q5 f5
   cases b with
   | false =>
    rw [if_neg Bool.false_ne_true] at q5 ⊢
    obtain ⟨O4,rfl,n4,i4⟩:=q5
    exact ⟨acc,O4,i4,n4,f2.trans (f3.trans f5)⟩
   | true =>
    rw [if_pos rfl] at q5 ⊢
    refine ⟨BB O2 p acc,H3,ρ4,O5,_,fun X' is => q5 X' _ _ is,a4.step f5,?_⟩
    rintro y H6 t6 O6 ⟨O4,rfl,n4,hlen,i4⟩ f6 r6
    obtain ⟨ys,hys,rys⟩:=f6.ok p acc AO
    refine ⟨ys,hys,by rw [rys.length]; exact hlen,acc ++ [t6],O4,i4,n4,?_⟩
    have fp:=Frm.put (a:=p) f6.ok AO (rys.append (.one r6))
    rw [EO] at fp
    exact f2.trans (f3.trans (f5.trans (f6.trans fp)))
 ·have:i = ts.length:=by omega
  subst this
  refine .inl ⟨g3 _ (Nat.le_refl _),fin acc O2 p H2 (done acc O2 i2) n2 (f1.trans f2) fun b us e => ?_⟩
  obtain ⟨us',e'⟩:=f1.own b us e
  exact nb b us' e'
theorem TX {σ:St} {H:Hp} {Q:VK} (h:WI Z ρ O tg iter (Qv Z ρ elt tg ifs csc nc cap fun acc O' => Φ (.lst acc) O')) (q:tW Z ρ O Φ σ H Q) :
  Xr (fun σ H R => Asr Z ρ O σ H∧∀ J H' ts O',Qv Z ρ elt tg ifs csc nc cap (fun acc O' => Φ (.lst acc) O') ts O'→Frm Z.K O H O' H'→NT Z.K J O' H' ts→R J H') nc cap (gA Z csc nc cap tg) (Yg Z csc nc cap ifs) (eA Z csc nc cap elt) σ H Q:=by
 refine PQ q.1 h fun acc O' p H' p1 n f nb => q.2 _ H' _ O' p1 ?_ ?_
 ·have e:=Ca (ts:=acc) n
  refine ⟨fun b o e1 e2 => ?_,fun b us e1 => ?_,?_⟩
  ·have:=f.kp.trans (Db (a:=p)) b o e1 e2
   rw [e] at this; exact this
  ·obtain ⟨us',e2⟩:=f.own b us e1
   rw [Af (nb b us e1)] at e2
   exact ⟨us',e2⟩
  ·have:=f.ok.drop (a:=p)
   rw [e] at this; exact this
 ·have:=f.ok.rep (a:=p) AO
  rw [Ca n] at this
  exact this
theorem PR (hc:Z.X.calm = true) (ok:LcOk Z.X csc nc cap) (h:WI Z ρ O tg iter (Qv Z ρ elt tg ifs csc nc cap fun acc O' => Φ (.lst acc) O'))
  (hs:∀ x,foldedSetIterable iter Z.X.env x = pure x:=by intro _; rfl):WE Z ρ O (.ListComp elt [⟨tg,iter,ifs,0⟩] csc pos) Φ :=
 PE.weak (WQ hc ok h Uq PP Ur hs) fun σ H Q q => TX h q
theorem ES {i:Nat} {x:Str} {px spos:Pos} {Ψ:Es} (hsw:swapsWith (.ListComp elt [⟨tg,iter,ifs,0⟩] csc pos) (some (.Name x px)) spos.line Z.X.env = pure true) (hN:Z.X.N.Nodup) (hc:Z.X.calm = true) (ok:LcOk Z.X csc nc cap)
  (h:WI Z ρ O tg iter (Qv Z ρ elt tg ifs csc nc cap fun acc O' => Ψ.nx (ρ.set i (some (.lst acc))) O')) (hx:Z.X.N[i]? = some x:=by rfl) (hk:Z.X.env.scope.names.lookup x = some .local:=by rfl)
  (hs:∀ x,foldedSetIterable iter Z.X.env x = pure x:=by intro _; rfl):WS Z ρ O (.Assign [.Name x px] (.ListComp elt [⟨tg,iter,ifs,0⟩] csc pos) spos) Ψ :=
 PS.weak (JY hN hx hk hsw hc ok h Uq PP Ur hs) fun D σ H q => TX (Φ:=fun t O' => Ψ.nx (ρ.set i (some t)) O') h ⟨q.1,fun v H' t O' p f r => q.2.nx _ O' _ H' p ⟨(q.1.step f).rl.set r,(q.1.step f).fr⟩ f.kp⟩
end
def Yh:T→String
 | .non => "NoneType" | .bl _ => "bool" | .int _ => "int" | .str _ => "str" | .tup _ => "tuple" | .lst _ => "list" | .frz _ => "list" | .dct => "dict" | .raw _ => "object"
def BH:T→Bool
 | .raw _ => true
 | _ => false
def PU:T→Bool
 | .int _ => true
 | .bl _ => true
 | _ => false
def LI:T→Bool
 | .bl _ => true
 | _ => false
def MP:T→Bool
 | .tup _ => true
 | _ => false
def LJ (K:PySem.W.Frag) (c:String) (g:T→Bool):Prop:=∀ t,BH t = false→PySem.W.kitOne K (.type (Yh t)) (.type c) = some (g t)
section
variable {K:PySem.W.Frag} {O:AM} {H:Hp} {v:V} {t:T}
theorem Rep.ty (r:Rep K O H v t) (hp:BH t = false):TyOf K H v (.type (Yh t)):=by
 cases r with
 | non => exact .non
 | bl b => exact .bl b
 | int i => exact .int i
 | str i => exact .str i
 | tup h => exact .tup h
 | lst h => exact .lst h
 | frz h => exact .frz h
 | dct h => exact .dK h
 | raw v => cases hp
theorem ZU (K:PySem.W.Frag):PySem.W.kitOne K (.type "NoneType") (.type "int") = some false:=by kernel_rfl
theorem ZV (K:PySem.W.Frag):PySem.W.kitOne K (.type "bool") (.type "int") = some true:=by kernel_rfl
theorem ZW (K:PySem.W.Frag):PySem.W.kitOne K (.type "int") (.type "int") = some true:=by rfl
theorem ZX (K:PySem.W.Frag):PySem.W.kitOne K (.type "str") (.type "int") = some false:=by kernel_rfl
theorem ZY (K:PySem.W.Frag):PySem.W.kitOne K (.type "tuple") (.type "int") = some false:=by kernel_rfl
theorem Yx (K:PySem.W.Frag):PySem.W.kitOne K (.type "list") (.type "int") = some false:=by kernel_rfl
theorem ZZ (K:PySem.W.Frag):PySem.W.kitOne K (.type "dict") (.type "int") = some false:=by kernel_rfl
theorem MQ:LJ K "int" PU:=fun t h => by
 cases t with
 | non => exact ZU K
 | bl b => exact ZV K
 | int i => exact ZW K
 | str i => exact ZX K
 | tup i => exact ZY K
 | lst i => exact Yx K
 | frz i => exact Yx K
 | dct => exact ZZ K
 | raw v => cases h
theorem Za (K:PySem.W.Frag):PySem.W.kitOne K (.type "NoneType") (.type "bool") = some false:=by kernel_rfl
theorem Zb (K:PySem.W.Frag):PySem.W.kitOne K (.type "bool") (.type "bool") = some true:=by rfl
theorem Zc (K:PySem.W.Frag):PySem.W.kitOne K (.type "int") (.type "bool") = some false:=by kernel_rfl
theorem Zd (K:PySem.W.Frag):PySem.W.kitOne K (.type "str") (.type "bool") = some false:=by kernel_rfl
theorem Ze (K:PySem.W.Frag):PySem.W.kitOne K (.type "tuple") (.type "bool") = some false:=by kernel_rfl
theorem Yy (K:PySem.W.Frag):PySem.W.kitOne K (.type "list") (.type "bool") = some false:=by kernel_rfl
theorem Zf (K:PySem.W.Frag):PySem.W.kitOne K (.type "dict") (.type "bool") = some false:=by kernel_rfl
theorem Jt:LJ K "bool" LI:=fun t h => by
 cases t with
 | non => exact Za K
 | bl b => exact Zb K
 | int i => exact Zc K
 | str i => exact Zd K
 | tup i => exact Ze K
 | lst i => exact Yy K
 | frz i => exact Yy K
 | dct => exact Zf K
 | raw v => cases h
theorem Zg (K:PySem.W.Frag):PySem.W.kitOne K (.type "NoneType") (.type "tuple") = some false:=by kernel_rfl
theorem Zh (K:PySem.W.Frag):PySem.W.kitOne K (.type "bool") (.type "tuple") = some false:=by kernel_rfl
theorem Zi (K:PySem.W.Frag):PySem.W.kitOne K (.type "int") (.type "tuple") = some false:=by kernel_rfl
theorem Zj (K:PySem.W.Frag):PySem.W.kitOne K (.type "str") (.type "tuple") = some false:=by kernel_rfl
theorem Zk (K:PySem.W.Frag):PySem.W.kitOne K (.type "tuple") (.type "tuple") = some true:=by rfl
theorem Yz (K:PySem.W.Frag):PySem.W.kitOne K (.type "list") (.type "tuple") = some false:=by kernel_rfl
theorem Zl (K:PySem.W.Frag):PySem.W.kitOne K (.type "dict") (.type "tuple") = some false:=by kernel_rfl
theorem Ie:LJ K "tuple" MP:=fun t h => by
 cases t with
 | non => exact Zg K
 | bl b => exact Zh K
 | int i => exact Zi K
 | str i => exact Zj K
 | tup i => exact Zk K
 | lst i => exact Yz K
 | frz i => exact Yz K
 | dct => exact Zl K
 | raw v => cases h
theorem Us {c:String} {g:T→Bool} (hk:LJ K c g) (hp:BH t = false):CP K (WR K) [t,.raw (.ty c)] O (.bl (g t)):=fun Φ p H vs Q ok r q => by
 obtain ⟨v,w,rfl,r1,r2⟩:=r.two_inv
 cases r2.raw_inv
 exact ⟨v,.ty c,.type (Yh t),.type c,g t,rfl,rfl,.inl (r1.ty hp),hk t hp,q _ H _ O p (.refl ok) (.bl _)⟩
theorem Ut:bootBuiltins "int" = some (.type "int"):=by decide +kernel
theorem TY:bootBuiltins "bool" = some (.type "bool"):=by decide +kernel
theorem Ig:bootBuiltins "tuple" = some (.type "tuple"):=by decide +kernel
theorem Wn:bootBuiltins "list" = some (.type "list"):=by decide +kernel
theorem Yi:bootBuiltins "set" = some (.type "set"):=by decide +kernel
theorem HC:bootBuiltins "isinstance" = some (.builtin "isinstance"):=by decide +kernel
theorem Yj:bootBuiltins "max" = some (.builtin "max"):=by decide +kernel
theorem Yk:bootBuiltins "min" = some (.builtin "min"):=by decide +kernel
theorem Uu:bootBuiltins "len" = some (.builtin "len"):=by decide +kernel
theorem Yl:bootBuiltins "all" = some (.builtin "all"):=by decide +kernel
theorem Ym:bootBuiltins "any" = some (.builtin "any"):=by decide +kernel
theorem Ih:bootBuiltins "sorted" = some (.builtin "sorted"):=by decide +kernel
theorem Reps.bls:∀ {vs:List V} {ns:List Bool},Reps K O H vs (ns.map T.bl)→vs = ns.map V.bl
 | _,[],r => r.nil_inv
 | _,n :: ns,r => by
  obtain ⟨v,vs',rfl,h,r⟩:=Reps.cons_inv r
  rw [h.bl_inv,Reps.bls r]
  rfl
end
section
variable {Z:Zx} {ρ:List (Option T)} {O:AM} {e a b c:Expr} {es:List Expr} {Φ:BX} {pos p:Pos} {t ta tb:T} {ts us:List T} {i j:Int} {x:Str} {lo hi:Expr}
theorem Ii {cn:String} {g:T→Bool} (mI:Z.X.mg "isinstance" = none) (mC:Z.X.mg x = none) (bC:bootBuiltins x = some (.type cn)) (hk:LJ Z.K cn g) (h:ET Z ρ O e t) (hp:BH t = false) {p1:Pos} (hgi:Gl Z.X "isinstance":=by rfl) (hgc:Gl Z.X x:=by rfl)
  (hn:x≠"__name__":=by decide) (hd:(x == ("__debug__" : Str)) = false:=by decide)
  (he:starEach [e,.Name x p1] Z.X.env = (false,eval e Z.X.env) :: starEach [.Name x p1] Z.X.env:=by rfl):ET Z ρ O (.Call (.Name "isinstance" p) [e,.Name x p1] [] pos) (.bl (g t)) :=
 Bv BG mI HC (AT h (AT (Wd mC bC hgc hn hd) AD) he) (Us hk hp) hgi (by decide) (by decide) he
theorem DQ {cn:String} {g:T→Bool} (mI:Z.X.mg "isinstance" = none) (mC:Z.X.mg x = none) (bC:bootBuiltins x = some (.type cn)) (hk:LJ Z.K cn g) (h:ET Z ρ O e t) (hp:BH t = false) {p1:Pos} (hgi:Gl Z.X "isinstance":=by rfl) (hgc:Gl Z.X x:=by rfl)
  (hn:x≠"__name__":=by decide) (hd:(x == ("__debug__" : Str)) = false:=by decide)
  (he:starEach [e,.Name x p1] Z.X.env = (false,eval e Z.X.env) :: starEach [.Name x p1] Z.X.env:=by rfl):EB Z ρ O (.Call (.Name "isinstance" p) [e,.Name x p1] [] pos) (g t) :=
 CY (Ii mI mC bC hk h hp hgi hgc hn hd he)
theorem Bm (m:Z.X.mg "len" = none) (h:ET Z ρ O e (.tup ts)) (hg:Gl Z.X "len":=by rfl) (he:starEach [e] Z.X.env = (false,eval e Z.X.env) :: starEach [] Z.X.env:=by rfl):ET Z ρ O (.Call (.Name "len" p) [e] [] pos) (.int ts.length) :=
 Bv Ci m Uu (AT h AD he) (fun Φ q H vs Q ok r k => by
  obtain ⟨v,rfl,r1⟩:=r.one_inv
  obtain ⟨a,xs,rfl,h1,r1⟩:=r1.tup_inv
  refine ⟨a,xs,rfl,.inr (.inl (.inl h1)),?_⟩
  rw [r1.length]
  exact k _ H _ O q (.refl ok) (.int _)) hg (by decide) (by decide) he
theorem Rs (m:Z.X.mg "len" = none) (h:ET Z ρ O e (.lst ts)) (hg:Gl Z.X "len":=by rfl) (he:starEach [e] Z.X.env = (false,eval e Z.X.env) :: starEach [] Z.X.env:=by rfl):ET Z ρ O (.Call (.Name "len" p) [e] [] pos) (.int ts.length) :=
 Bv Ci m Uu (AT h AD he) (fun Φ q H vs Q ok r k => by
  obtain ⟨v,rfl,r1⟩:=r.one_inv
  obtain ⟨a,xs,rfl,h1,_,r1⟩:=r1.lst_inv
  refine ⟨a,xs,rfl,.inl (.inl (.inl h1)),?_⟩
  rw [r1.length]
  exact k _ H _ O q (.refl ok) (.int _)) hg (by decide) (by decide) he
theorem PV {bs:List Bool} (m:Z.X.mg "all" = none) (hc:Z.X.calm = true) (h:ET Z ρ O e (.lst (bs.map T.bl))) (hg:Gl Z.X "all":=by rfl) (he:starEach [e] Z.X.env = (false,eval e Z.X.env) :: starEach [] Z.X.env:=by rfl):ET Z ρ O (.Call (.Name "all" p) [e] [] pos) (.bl (bs.all id)) :=
 Bv (Oq hc) m Yl (AT h AD he) (fun Φ q H vs Q ok r k => by
  obtain ⟨v,rfl,r1⟩:=r.one_inv
  obtain ⟨a,xs,rfl,h1,_,r1⟩:=r1.lst_inv
  cases r1.bls
  exact ⟨a,bs,rfl,.inl (.inl (.inl h1)),k _ H _ O q (.refl ok) (.bl _)⟩) hg (by decide) (by decide) he
theorem PX {bs:List Bool} (m:Z.X.mg "any" = none) (hc:Z.X.calm = true) (h:ET Z ρ O e (.lst (bs.map T.bl))) (hg:Gl Z.X "any":=by rfl) (he:starEach [e] Z.X.env = (false,eval e Z.X.env) :: starEach [] Z.X.env:=by rfl):ET Z ρ O (.Call (.Name "any" p) [e] [] pos) (.bl (bs.any id)) :=
 Bv (Os hc) m Ym (AT h AD he) (fun Φ q H vs Q ok r k => by
  obtain ⟨v,rfl,r1⟩:=r.one_inv
  obtain ⟨a,xs,rfl,h1,_,r1⟩:=r1.lst_inv
  cases r1.bls
  exact ⟨a,bs,rfl,.inl (.inl (.inl h1)),k _ H _ O q (.refl ok) (.bl _)⟩) hg (by decide) (by decide) he
theorem EU (m:Z.X.mg "min" = none) (hc:Z.X.calm = true) (h:ET Z ρ O a (.int i)) (h2:ET Z ρ O b (.int j)) (hg:Gl Z.X "min":=by rfl) (he:starEach [a,b] Z.X.env = (false,eval a Z.X.env) :: starEach [b] Z.X.env:=by rfl) (he2:starEach [b] Z.X.env = (false,eval b Z.X.env) :: starEach [] Z.X.env:=by rfl) (hpl:(backTo pos (starEach [b] Z.X.env)).any (·.1) = false:=by rfl):ET Z ρ O (.Call (.Name "min" p) [a,b] [] pos) (.int (min i j)) :=
 Bv (Mx hc) m Yk (AT h (AT h2 AD he2) he) (fun Φ q H vs Q ok r k => by
  obtain ⟨v,w,rfl,r1,r2⟩:=r.two_inv
  cases r1.int_inv; cases r2.int_inv
  refine ⟨i,j,rfl,?_⟩
  have:(if j < i then j else i) = min i j:=by split <;> omega
  rw [this]
  exact k _ H _ O q (.refl ok) (.int _)) hg (by decide) (by decide) he hpl
theorem CB (m:Z.X.mg "max" = none) (hc:Z.X.calm = true) (h:ET Z ρ O a (.int i)) (h2:ET Z ρ O b (.int j)) (hg:Gl Z.X "max":=by rfl) (he:starEach [a,b] Z.X.env = (false,eval a Z.X.env) :: starEach [b] Z.X.env:=by rfl) (he2:starEach [b] Z.X.env = (false,eval b Z.X.env) :: starEach [] Z.X.env:=by rfl) (hpl:(backTo pos (starEach [b] Z.X.env)).any (·.1) = false:=by rfl):ET Z ρ O (.Call (.Name "max" p) [a,b] [] pos) (.int (max i j)) :=
 Bv (Mw hc) m Yj (AT h (AT h2 AD he2) he) (fun Φ q H vs Q ok r k => by
  obtain ⟨v,w,rfl,r1,r2⟩:=r.two_inv
  cases r1.int_inv; cases r2.int_inv
  refine ⟨i,j,rfl,?_⟩
  have:(if j > i then j else i) = max i j:=by split <;> omega
  rw [this]
  exact k _ H _ O q (.refl ok) (.int _)) hg (by decide) (by decide) he hpl
theorem Ij {k:Bool} (m:Z.X.mg "int" = none) (h:ET Z ρ O e (.bl k)) (hg:Gl Z.X "int":=by rfl) (he:starEach [e] Z.X.env = (false,eval e Z.X.env) :: starEach [] Z.X.env:=by rfl):ET Z ρ O (.Call (.Name "int" p) [e] [] pos) (.int (if k then 1 else 0)) :=
 Hl My m Ut (AT h AD he) (fun Φ q H vs Q ok r k => by
  obtain ⟨v,rfl,r1⟩:=r.one_inv
  cases r1.bl_inv
  exact .inr ⟨_,rfl,k _ H _ O q (.refl ok) (.int _)⟩) hg (by decide) (by decide) he
theorem GU (m:Z.X.mg "tuple" = none) (h:WE Z ρ O e fun t O' => ∃ ts,t = .lst ts∧Φ (.tup ts) O') (hg:Gl Z.X "tuple":=by rfl) (he:starEach [e] Z.X.env = (false,eval e Z.X.env) :: starEach [] Z.X.env:=by rfl):WE Z ρ O (.Call (.Name "tuple" p) [e] [] pos) Φ :=
 Hk Jq m Ig (Dd (Dc h (by
  rintro t O' ⟨ts,rfl,q⟩
  refine BL fun H vs Q ok r k => ?_
  obtain ⟨v,rfl,r1⟩:=r.one_inv
  obtain ⟨a,xs,rfl,h1,_,r1⟩:=r1.lst_inv
  exact ⟨a,xs,rfl,.inl (.inl h1),fun p hp => k _ _ _ O' q (.new ok hp) (.tup AG (r1.kp (BT ok hp) ok))⟩)) he) hg (by decide) (by decide) he
theorem Cb (m:Z.X.mg "tuple" = none) (h:ET Z ρ O e (.lst ts)) (hg:Gl Z.X "tuple":=by rfl) (he:starEach [e] Z.X.env = (false,eval e Z.X.env) :: starEach [] Z.X.env:=by rfl):ET Z ρ O (.Call (.Name "tuple" p) [e] [] pos) (.tup ts):=fun Φ q => GU m (h _ ⟨ts,rfl,q⟩) hg he
theorem Cc (m:Z.X.mg "list" = none) (h:ET Z ρ O e (.tup ts)) (hg:Gl Z.X "list":=by rfl) (he:starEach [e] Z.X.env = (false,eval e Z.X.env) :: starEach [] Z.X.env:=by rfl):ET Z ρ O (.Call (.Name "list" p) [e] [] pos) (.lst ts) :=
 Hl LD m Wn (AT h AD he) (fun Φ q H vs Q ok r k => by
  obtain ⟨v,rfl,r1⟩:=r.one_inv
  obtain ⟨a,xs,rfl,h1,r1⟩:=r1.tup_inv
  exact ⟨a,xs,rfl,.inr (.inl (.inl h1)),fun p hp => k _ _ _ O q (.new ok hp) (.lst AG (ok.none_of hp) (r1.kp (BT ok hp) ok))⟩) hg (by decide) (by decide) he
end
def LK (ts:List T) (lo hi:Option Int):List T:=(ts.drop (HT.BK ts.length 0 lo)).take (HT.BK ts.length ts.length hi - HT.BK ts.length 0 lo)
section
variable {K:PySem.W.Frag} {O:AM} {H:Hp}
theorem Reps.cut {vs:List V} {ts:List T} {lo hi:Option Int} (r:Reps K O H vs ts):Reps K O H (Em vs lo hi) (LK ts lo hi):=by
 unfold Em LK
 rw [r.length]
 exact (r.drop _).take _
end
section
variable {Z:Zx} {ρ:List (Option T)} {O:AM} {e a b c:Expr} {es:List Expr} {Φ:BX} {pos p p2:Pos} {t ta tb:T} {ts us:List T} {i j:Int} {x:Str} {lo hi:Expr}
theorem Rt {H1 H:Hp} {Q:VK} {o1 o2:Option Int} {v:V} (k:Acc Z.K O H (fun t O' => Φ t O') Q) (f:Frm Z.K O H O H1) (r:Rep Z.K O H1 v (.tup ts)) (p:Φ (.tup (LK ts o1 o2)) O):Wa Z.K v o1 o2 H1 Q:=by
 obtain ⟨a,xs,rfl,h1,r1⟩:=r.tup_inv
 refine ⟨a,xs,rfl,.inl (.inl h1),fun q H' hq => ?_⟩
 rcases hq with ⟨rfl,rfl,e⟩ | ⟨hq,rfl⟩
 ·have rc:=r1.cut (lo:=o1) (hi:=o2)
  rw [e] at rc
  exact k _ _ _ O p f (.tup h1 rc)
 ·exact k _ _ _ O p (f.trans (.new f.ok hq)) (.tup AG ((r1.cut).kp (BT f.ok hq) f.ok))
theorem Uv (h:ET Z ρ O e (.tup ts)) (hl:ET Z ρ O hi (.int i)):ET Z ρ O (.Subscript e (.Slice none (some hi) none p2) pos) (.tup (LK ts none (some i))):=fun Φ q => by
 refine PE.weak (JT Rm (BU (ρ:=ρ)) RL (II (BU (ρ:=ρ)))) fun σ H Q k => ?_
 refine ⟨O,_,h (fun t O' => t = .tup ts∧O' = O) ⟨rfl,rfl⟩,k.1,?_⟩
 rintro v H1 _ _ ⟨rfl,rfl⟩ f1 r1
 refine ⟨_,_,hl (fun t O' => t = .int i∧O' = _) ⟨rfl,rfl⟩,k.1.step f1,?_⟩
 rintro w H2 _ _ ⟨rfl,rfl⟩ f2 r2
 exact ⟨i,r2.int_inv,Rt k.2 (f1.trans f2) (r1.kp f2.kp f1.ok) q⟩
theorem De (hl:ts.length + us.length≤sizeLine) {K:PySem.W.Frag}:RP K WO (.lst ts) (.lst us) O (.lst (ts ++ us)):=fun Φ p H v w Q ok r1 r2 q => by
 obtain ⟨a,xs,rfl,h1,_,r1⟩:=r1.lst_inv
 obtain ⟨b,ys,rfl,h2,_,r2⟩:=r2.lst_inv
 exact ⟨a,b,xs,ys,rfl,rfl,h1,h2,by rw [r1.length,r2.length]; exact hl,fun l hq => q _ _ _ O p (.new ok hq) (.lst AG (ok.none_of hq) ((r1.append r2).kp (BT ok hq) ok))⟩
theorem CC (ha:ET Z ρ O a (.lst ts)) (hb:ET Z ρ O b (.lst us)) (hl:ts.length + us.length≤sizeLine):ET Z ρ O (.BinOp a .Add b pos) (.lst (ts ++ us)):=GP En (De hl) ha hb
theorem Uw:ET Z ρ O (.Dict [] [] pos) .dct:=fun Φ q pins s σ H Q I k =>
 have big:sysModules < s.heap.objs.size:=Nat.lt_trans (by decide) (show mainGlobals < s.heap.objs.size from (I.mod.glob.keeps I.bk).lt)
 have hf:H s.heap.objs.size = none:=I.hok.fresh (Nat.le_refl _)
 wpAny_Dict_empty ⟨.ref s.heap.objs.size,_,I.laid (a:=s.heap.objs.size) (o:=.dK []) (t':=s.toks) (fun _ _ e => Heap.get?_push_of_some _ e) (Nat.le_refl _) ⟨Nat.zero_le _,beq_eq_false_iff_ne.mpr (Ne.symm (Nat.ne_of_lt big)),[],.nil,Heap.DictOf.new s.heap⟩,rfl,k.2 _ _ _ O q (.new k.1.ok hf) (.dct AG)⟩
end
def AC (p:Int × Int):T:=.tup [.int p.1,.int p.2]
def Hm (p q:Int × Int):Prop:=p.1 < q.1∨(p.1 = q.1∧p.2 < q.2)
section
variable {K:PySem.W.Frag} {O:AM} {H:Hp}
theorem GV:∀ {ps:List (Int × Int)} {xs:List V},Reps K O H xs (ps.map AC)→∃ qs:List (List Int × Addr),xs = qs.map (fun p => V.ref p.2)∧qs.map (·.1) = ps.map (fun p => [p.1,p.2])∧∀ k x,(k,x)∈qs→H x = some (.tup (k.map V.int))
 | [],xs,r => ⟨[],r.nil_inv,rfl,fun _ _ h => by cases h⟩
 | p :: ps,xs,r => by
  obtain ⟨v,vs',rfl,h,r'⟩:=Reps.cons_inv r
  obtain ⟨a,ys,rfl,ha,r2⟩:=h.tup_inv
  cases Reps.ints (ns:=[p.1,p.2]) r2
  obtain ⟨qs,rfl,e,hk⟩:=GV r'
  refine ⟨([p.1,p.2],a) :: qs,rfl,by rw [List.map_cons,List.map_cons,e],fun k x h => ?_⟩
  rcases List.mem_cons.mp h with h | h
  ·cases h; exact ha
  ·exact hk k x h
theorem GW:∀ {qs:List (List Int × Addr)} {ps:List (Int × Int)},qs.map (·.1) = ps.map (fun p => [p.1,p.2])→(∀ k x,(k,x)∈qs→H x = some (.tup (k.map V.int)))→Reps K O H (qs.map fun p => V.ref p.2) (ps.map AC)
 | [],[],_,_ => .nil
 | [],p :: ps,e,_ => by cases e
 | q :: qs,[],e,_ => by cases e
 | (k,x) :: qs,p :: ps,e,h => by
  rw [List.map_cons,List.map_cons] at e
  injection e with e1 e2
  have e1:k = [p.1,p.2]:=e1
  have hx:=h k x (List.mem_cons_self ..)
  rw [e1] at hx
  exact .cons (.tup hx (.cons (.int _) (.cons (.int _) .nil))) (GW e2 fun k x hk => h k x (List.mem_cons_of_mem _ hk))
end
theorem MR:∀ {ys:List (List Int × Addr)},(∀ k x,(k,x)∈ys→∃ i j:Int,k = [i,j])→∃ ps:List (Int × Int),ys.map (·.1) = ps.map (fun p => [p.1,p.2])
 | [],_ => ⟨[],rfl⟩
 | (k,x) :: ys,h => by
  obtain ⟨i,j,e⟩:=h k x (List.mem_cons_self ..)
  obtain ⟨ps,e2⟩:=MR fun k x hk => h k x (List.mem_cons_of_mem _ hk)
  exact ⟨(i,j) :: ps,by rw [List.map_cons,List.map_cons,e,e2]⟩
section
variable {Z:Zx} {ρ:List (Option T)} {O:AM} {e:Expr} {Φ:BX} {pos p p1 pos1:Pos}
theorem EV {ps:List (Int × Int)} (m:Z.X.mg "sorted" = none) (m2:Z.X.mg "set" = none) (hc:Z.X.calm = true) (hu:Z.X.A.units + 8 < cLine) (h:ET Z ρ O e (.lst (ps.map AC))) (hl:ps.length≤300) (hb:∀ q∈ps,0≤q.2∧q.2 < 65536)
  (k:∀ qs:List (Int × Int),qs.Pairwise Hm→(∀ q,q∈qs↔q∈ps)→qs.length≤ps.length→Φ (.lst (qs.map AC)) O) (hg:Gl Z.X "sorted":=by rfl) (hg2:Gl Z.X "set":=by rfl) (he:starEach [e] Z.X.env = (false,eval e Z.X.env) :: starEach [] Z.X.env:=by rfl)
  (he2:starEach [Expr.Call (.Name "set" p1) [e] [] pos1] Z.X.env = (false,eval (.Call (.Name "set" p1) [e] [] pos1) Z.X.env) :: starEach [] Z.X.env:=by rfl):WE Z ρ O (.Call (.Name "sorted" p) [.Call (.Name "set" p1) [e] [] pos1] [] pos) Φ:=by
 refine PE.weak (As (IX hc) hg m Ih (AJ (HR (NR hc hu) hg2 m2 Yi (HB (ρ:=ρ)) (by decide) (by decide) he) An he2) (by decide) (by decide) he2) fun σ H Q q => ?_
 refine ⟨O,_,AT h AD he (fun ts O' => ts = [.lst (ps.map AC)]∧O' = O) ⟨rfl,rfl⟩,q.1,?_⟩
 rintro vs H1 _ _ ⟨rfl,rfl⟩ f r
 obtain ⟨v,rfl,r1⟩:=r.one_inv
 obtain ⟨a,xs,rfl,h1,_,r1⟩:=r1.lst_inv
 obtain ⟨qs,rfl,eq,hk⟩:=GV r1
 have lq:qs.length = ps.length:=by
  have:=congrArg List.length eq
  simpa using this
 refine ⟨a,qs,rfl,.inl (.inl h1),fun k x hx => .inl (.inl (hk k x hx)),by omega,fun l xs hl1 so nd => ?_⟩
 obtain ⟨s1,s2,s3⟩:=so
 have f1:=Frm.new (o:=SetO Z.X.prog Z.X.w l xs) f.ok hl1
 have hk2:∀ k x,(k,x)∈xs→upd H1 l (SetO Z.X.prog Z.X.w l xs) x = some (.tup (k.map V.int)):=fun k x hx => by
  have:=hk k x (s1 _ hx)
  rw [AI (AR this hl1)]; exact this
 have mem1:∀ k x,(k,x)∈qs→∃ q∈ps,k = [q.1,q.2]:=fun k x hx => by
  have:k∈qs.map (·.1):=List.mem_map.mpr ⟨(k,x),hx,rfl⟩
  rw [eq] at this
  obtain ⟨q,h1,h2⟩:=List.mem_map.mp this
  exact ⟨q,h1,h2.symm⟩
 have two:∀ k x,(k,x)∈xs→∃ i j,k = [i,j]∧0≤j∧j < 65536:=fun k x hx => by
  obtain ⟨q,h1,h2⟩:=mem1 k x (s1 _ hx)
  exact ⟨q.1,q.2,h2,hb q h1⟩
 refine ⟨l,xs,rfl,AG,fun k x hx => .inl (.inl (hk2 k x hx)),by omega,two,fun d ys hd pm pw => ?_⟩
 obtain ⟨rs,er⟩:=MR (ys:=ys) fun k x hx => by
  obtain ⟨i,j,e,_⟩:=two k x (pm.mem_iff.mp hx)
  exact ⟨i,j,e⟩
 have f2:=Frm.new (o:=.lst (ys.map fun p => V.ref p.2)) f1.ok hd
 have hk3:∀ k x,(k,x)∈ys→upd (upd H1 l (SetO Z.X.prog Z.X.w l xs)) d (.lst (ys.map fun p => V.ref p.2)) x = some (.tup (k.map V.int)):=fun k x hx => by
  have:=hk2 k x (pm.mem_iff.mp hx)
  rw [AI (AR this hd)]; exact this
 have memr:∀ z,z∈rs↔∃ x,([z.1,z.2],x)∈ys:=fun z => by
  constructor
  ·intro hz
   have:[z.1,z.2]∈ys.map (·.1):=by rw [er]; exact List.mem_map.mpr ⟨z,hz,rfl⟩
   obtain ⟨⟨k,x⟩,h1,h2⟩:=List.mem_map.mp this
   have h2:k = _:=h2
   subst h2
   exact ⟨x,h1⟩
  ·rintro ⟨x,hx⟩
   have:[z.1,z.2]∈ys.map (·.1):=List.mem_map.mpr ⟨_,hx,rfl⟩
   rw [er] at this
   obtain ⟨w,h1,h2⟩:=List.mem_map.mp this
   injection h2 with e1 e2
   injection e2 with e2 _
   have:w = z:=Prod.ext e1 e2
   rw [← this]; exact h1
 have ndy:(ys.map (·.1)).Nodup:=(pm.map _).nodup_iff.mpr nd
 refine q.2 _ _ _ _ (k rs ?_ (fun z => ?_) ?_) (f.trans (f1.trans f2)) (.lst AG (f1.ok.none_of hd) (GW er hk3))
 ·-- strictly rising
  have pw':rs.Pairwise fun x y => 65536 * x.1 + x.2≤65536 * y.1 + y.2:=by
   have h3:(ys.map (·.1)).Pairwise fun x y => 65536 * x.getD 0 0 + x.getD 1 0≤65536 * y.getD 0 0 + y.getD 1 0:=List.pairwise_map.mpr pw
   rw [er] at h3
   exact (List.pairwise_map (f:=fun (p:Int × Int) => [p.1,p.2]) (R:=fun x y => 65536 * x.getD 0 0 + x.getD 1 0≤65536 * y.getD 0 0 + y.getD 1 0)).mp h3
  have nd':rs.Pairwise fun x y => x≠y:=by
   have h3:(ys.map (·.1)).Pairwise (·≠·):=ndy
   rw [er] at h3
   exact (List.pairwise_map.mp h3).imp fun hxy z => hxy (by rw [z])
  refine (pw'.and nd').imp_of_mem fun {x y} hx hy ⟨h1,h2⟩ => ?_
  have bnd:∀ z,z∈rs→0≤z.2∧z.2 < 65536:=fun z hz => by
   obtain ⟨v,hv⟩:=(memr z).mp hz
   obtain ⟨i,j,e,hj⟩:=two _ v (pm.mem_iff.mp hv)
   injection e with e1 e2
   injection e2 with e2 _
   omega
  have b1:=bnd x hx
  have b2:=bnd y hy
  unfold Hm
  have:¬ (x.1 = y.1∧x.2 = y.2):=fun z => h2 (Prod.ext z.1 z.2)
  omega
 ·rw [memr]
  constructor
  ·rintro ⟨x,hx⟩
   obtain ⟨w,h1,h2⟩:=mem1 _ x (s1 _ (pm.mem_iff.mp hx))
   injection h2 with e1 e2
   injection e2 with e2 _
   have:z = w:=Prod.ext e1 e2
   rw [this]; exact h1
  ·intro hz
   have:[z.1,z.2]∈qs.map (·.1):=by rw [eq]; exact List.mem_map.mpr ⟨z,hz,rfl⟩
   obtain ⟨⟨k,x⟩,h1,h2⟩:=List.mem_map.mp this
   have h2:k = _:=h2
   subst h2
   obtain ⟨x',hx'⟩:=s2 _ _ h1
   exact ⟨x',pm.mem_iff.mpr hx'⟩
 ·have e1:rs.length = ys.length:=by
   have:=congrArg List.length er
   simpa using this.symm
  have e2:=pm.length_eq
  omega
end
theorem XFly.mono {X:Cx} {W W':St→XK} (x:XFly X W) (h:∀ σ cls H',W' σ cls none H'→W σ cls none H'):XFly X W':=⟨fun pins σ H s e s' I c => x.fly pins σ H s e s' I (by
 obtain ⟨y,cls,H',e1,f,q⟩:=c
 exact ⟨y,cls,H',e1,f,h σ cls H' q⟩)⟩
theorem EX {X:Cx} {Oe:AM} {He:Hp}:XFly X (zc X Oe He).W:=⟨fun pins σ H s e s' I c => by
 obtain ⟨y,cls,H',e1,f,_,O',z,_⟩:=c
 exact z.elim⟩
abbrev zB (P:Program) (w:World) (K:PySem.W.Frag) (mg:Str→Option Value) (base:Heap) (N:List Str) (qual:Str) (sc:Scope) (f:Addr) (cdv:Value) (A:Around) (outer:List Env) (s:Shared) (H:Hp) (E:XK) (O:AM) (Ξ:Value→AM→Prop):Zx :=
 ⟨Bn (CXe P w) P w K mg base N qual sc f cdv A outer s H E,O,H,Ξ⟩
def Cz (N:List Str) (ts:List T):List (Option T):=ts.map some ++ List.replicate (N.length - ts.length) none
theorem EY {K:PySem.W.Frag} {O:AM} {H:Hp} {N:List Str} {vs:List V} {ts:List T} (r:Reps K O H vs ts):Rl K O H (start N vs) (Cz N ts):=by
 refine ⟨by simp [start,Cz,r.length],fun i t e => ?_⟩
 unfold Cz at e
 by_cases hi:i < ts.length
 ·rw [List.getElem?_append_left (by simpa using hi),List.getElem?_map] at e
  cases ht:ts[i]? with
  | none => rw [ht] at e; cases e
  | some u =>
   rw [ht] at e
   cases e
   obtain ⟨v,h1,h2⟩:=r.get ht
   refine ⟨v,?_,h2⟩
   unfold start
   rw [List.getElem?_append_left (by simpa [r.length] using hi),List.getElem?_map,h1]
   rfl
 ·rw [List.getElem?_append_right (by simpa using hi),List.getElem?_replicate] at e
  split at e <;> cases e
theorem Ag {P:Program} {w:World} {K:PySem.W.Frag} {mg:Str→Option Value} {base:Heap} {x qual:Str} {st:Stmt} {f:Addr} {fd:FuncData} {N ps:List Str} {k:Nat} {sp:Cy} (F:Fun K x qual st f fd) (S:FnScope N ps (AA st)) (len:∀ ts O Φ Ξ,sp ts O Φ Ξ→ts.length = ps.length)
  (h:∀ (cdv:Value) (A:Around) (outer:List Env) (s:Shared) (H:Hp) (E:XK) (O:AM) (Ξ:Value→AM→Prop),Room k (A.deeper (envOfC qual (AA st) s.heap.objs.size f cdv))→XFly (zB P w K mg base N qual (AA st) f cdv A outer s H E O Ξ).X (zB P w K mg base N qual (AA st) f cdv A outer s H E O Ξ).W →
   ∀ ts Φ,sp ts O Φ Ξ→DI (zB P w K mg base N qual (AA st) f cdv A outer s H E O Ξ) (Cz N ts) O (AW st) { nx:=fun _ O' => Φ .non O',rt:=Φ }):FnOk P w K mg base (CXe P w) (k + 1) f fd ps (Dm K sp):=by
 refine F.okX S (fun vs H Q E h => ?_) (fun cdv A outer s H vs Q E hr h1 => ?_)
 ·obtain ⟨ts,O,Φ,Ξ,r,_,q,_⟩:=h
  rw [r.length]; exact len ts O Φ Ξ q
 ·obtain ⟨ts,O,Φ,Ξ,r,ok,q,acc,ex⟩:=h1
  refine ⟨_,h cdv A outer s H E O Ξ hr (XFly.mono BI.f ?_) ts Φ q,⟨EY r,.refl ok⟩,?_⟩
  ·rintro σ cls H' ⟨_,O',x,f⟩
   exact ex cls O' H' x f
  ·exact ⟨fun ρ' O' σ' H' p a _ => acc _ _ _ O' p a.fr .non,fun v H' t O' p f r => acc v H' t O' p f r,fun _ _ _ _ z => z.elim,fun _ _ _ _ z => z.elim⟩
theorem FnT.mono {P:Program} {w:World} {K:PySem.W.Frag} {mg:Str→Option Value} {base:Heap} {x:Str} {j k:Nat} {ps:List Str} {s:Cy} (G:FnT P w K mg base x j ps s) (h:j≤k):FnT P w K mg base x k ps s:=by
 obtain ⟨f,fd,F,r⟩:=G.ex
 exact ⟨f,fd,F.mono h,r⟩
structure Fi (K:PySem.W.Frag) (x:Str) (st:Stmt) (f:Addr) (fd:FuncData):Prop where
 F:Fun K x x st f fd
 a:PySem.W.nsIn K mainGlobals x = some (some (.ref f))
def Fx (K:PySem.W.Frag) (x:Str) (st:Stmt):Prop:=∃ f fd,Fi K x st f fd
def Zn (K:PySem.W.Frag) (x:Str):Prop:=PySem.W.nsIn K mainGlobals x = some none
def Cn (K:PySem.W.Frag) (x:Str) (C:Addr):Prop:=PySem.W.nsIn K mainGlobals x = some (some (.ref C))
structure Mg (P:Program) (w:World) (K:PySem.W.Frag) (mg:Str→Option Value) (base:Heap):Prop where
 mm:∀ {x:Str} {v:Value},PySem.W.nsIn K mainGlobals x = some (some v)→mg x = some v
section
variable {P:Program} {w:World} {K:PySem.W.Frag} {mg:Str→Option Value} {base:Heap} {x:Str} {st:Stmt} {f:Addr} {fd:FuncData} {ps:List Str} {k:Nat}
theorem fi {oc:Value} {od:Option Addr} {kV doc pm:Value} {an:Option Addr} {cdv ct:Value} {osl:Array (Option Value)} (a:PySem.W.nsIn K mainGlobals x = some (some (.ref f))) (l:K.lookup f = some ⟨oc,od,.func (PySem.W.fnOf x x (Bx st) (AW st) (AA st) .none kV doc pm an cdv ct),osl⟩) (q:PySem.W.codeIn K cdv x = true) (h:PySem.W.keepIn K (.ref f) = true) :
  Fx K x st:=⟨f,_,⟨⟨⟨oc,od,kV,doc,pm,an,cdv,ct,osl,rfl,l,q⟩,h⟩,a⟩⟩
abbrev Bi (x:Str) (st:Stmt) (ps:List Str) (us:List Value):Prop:=∀ (kV doc pm:Value) (an:Option Addr) (cdv ct:Value),bindArgs (PySem.W.fnOf x x (Bx st) (AW st) (AA st) .none kV doc pm an cdv ct) ⟨us,[]⟩ = pure (ps.zip us)
theorem Fi.b1 (h:Fi K x st f fd) (hl:ps.length = 1) (q:∀ a,Bi x st ps [a]):Binds K fd ps []:=h.F.binds fun _ _ _ _ _ _ us e => match us,e.trans hl with | [a],_ => q a ..
theorem Fi.b2 (h:Fi K x st f fd) (hl:ps.length = 2) (q:∀ a b,Bi x st ps [a,b]):Binds K fd ps []:=h.F.binds fun _ _ _ _ _ _ us e => match us,e.trans hl with | [a,b],_ => q a b ..
theorem Fi.b3 (h:Fi K x st f fd) (hl:ps.length = 3) (q:∀ a b c,Bi x st ps [a,b,c]):Binds K fd ps []:=h.F.binds fun _ _ _ _ _ _ us e => match us,e.trans hl with | [a,b,c],_ => q a b c ..
theorem Fi.b5 (h:Fi K x st f fd) (hl:ps.length = 5) (q:∀ a b c d e,Bi x st ps [a,b,c,d,e]):Binds K fd ps []:=h.F.binds fun _ _ _ _ _ _ us e => match us,e.trans hl with | [a,b,c,d,g],_ => q a b c d g ..
theorem Fi.t {s:Cy} (h:Fi K x st f fd) (M:Mg P w K mg base) (ok:FnOk P w K mg base (CXe P w) k f fd ps (Dm K s)) (b:Binds K fd ps []):FnT P w K mg base x k ps s:=⟨f,fd,ok,M.mm h.a,h.F.kp,b⟩
structure Xk (K:PySem.W.Frag) (C CR c0 c1 c2 c3 c4 c5 c6 c7:Addr) (b0 b1 b2 b3 b4 b5 b6 b7:Bool):Prop where
 e0:PySem.W.kitOne K (.ref C) (.ref c0) = some b0
 e1:PySem.W.kitOne K (.ref C) (.ref c1) = some b1
 e2:PySem.W.kitOne K (.ref C) (.ref c2) = some b2
 e3:PySem.W.kitOne K (.ref C) (.ref c3) = some b3
 e4:PySem.W.kitOne K (.ref C) (.ref c4) = some b4
 e5:PySem.W.kitOne K (.ref C) (.ref c5) = some b5
 e6:PySem.W.kitOne K (.ref C) (.ref c6) = some b6
 e7:PySem.W.kitOne K (.ref C) (.ref c7) = some b7
 kR:PySem.W.kitOne K (.ref C) (.ref CR) = some true
 nR:(Value.ref C == Value.ref CR) = false
 ve:PySem.W.kitOne K (.ref C) (.type "ValueError") = some true
 g1:PySem.W.findIn K (.ref C) "__getattribute__" = some (some (.builtin "BaseException.__getattribute__"))
 g2:PySem.W.findIn K (.ref C) "__getattr__" = some none
 g3:PySem.W.mroIn K C (.type "BaseException") = some true
 g4:PySem.W.mroIn K C (.type "object") = some true
 g5:PySem.W.findIn K (.ref C) "__class__" = some (some (.builtin "object.__class__"))
structure Xg (K:PySem.W.Frag) (CR:Addr):Prop where
 bR:PySem.W.mroIn K CR (.type "BaseException") = some true
 g6:PySem.W.specialIn K (.builtin "object.__class__") "__get__" = some (some (.builtin "getset_descriptor.__get__"))
 g7:PySem.W.takesIn K (.builtin "object.__class__") = some true
theorem Xk.kit {C CR c0 c1 c2 c3 c4 c5 c6 c7:Addr} {b0 b1 b2 b3 b4 b5 b6 b7:Bool} (x:Xk K C CR c0 c1 c2 c3 c4 c5 c6 c7 b0 b1 b2 b3 b4 b5 b6 b7):PySem.W.kitCls K (.ref C) (.ref CR) = some true:=by
 have h:=x.kR
 unfold PySem.W.kitOne at h
 rw [x.nR,if_neg Bool.false_ne_true] at h
 exact h
end
def TZ (S:Scope) (N:List Str) (csc:Scope) (cap:List (Str × Nat)):Bool :=
 decide (csc.kind = .function) && csc.names.all (fun y => decide (y.2 = .cell→csc.names.lookup y.1 = some .cell)) && csc.names.all (fun y => decide (y.2 = .local→csc.names.lookup y.1 = some .local)) && csc.names.all (fun y => decide (y.2 = .free→S.names.lookup y.1 = some .cell∨S.names.lookup y.1 = some .free)) && cap.all (fun p => decide (N[p.2]? = some p.1∧csc.names.lookup p.1 = some .free))
theorem BW {X:Cx} {csc:Scope} {nc:List Str} {cap:List (Str × Nat)} (S:Scope) (N:List Str) (chk:TZ S N csc cap = true) (h1:X.env.scope = S:=by rfl) (h2:X.N = N:=by rfl):LcOk X csc nc cap:=by
 unfold TZ at chk
 simp only [Bool.and_eq_true,List.all_eq_true,decide_eq_true_eq] at chk
 obtain ⟨⟨⟨⟨c1,c2⟩,c3⟩,c4⟩,c5⟩:=chk
 exact ⟨c1,c2,c3,by rw [h1]; exact c4,by rw [h2]; exact c5⟩
section
variable {Z:Zx} {ρ:List (Option T)} {O:AM} {elt tg iter:Expr} {ifs:List Expr} {csc:Scope} {nc:List Str} {cap:List (Str × Nat)} {Φ:BX} {pos:Pos} {α:Type}
theorem PY {F:List T→AM→Prop} (xs:List α) (f g:α→T) (hl:xs.length≤sizeLine) (h:∀ x,x∈xs→∃ ρ4,∀ X' Oe He,LcCx Z.X csc (Ae nc cap) X'→∀ O',(WG (zc X' Oe He) nc.length (GT nc ρ cap) O' tg (f x) ρ4∧ET (zc X' Oe He) ρ4 O' elt (g x))) (fin:F (xs.map g) O):Qv Z ρ elt tg [] csc nc cap F (xs.map f) O:=by
 refine ⟨fun i acc O' => O' = O∧acc = (xs.take i).map g,⟨rfl,by simp⟩,?_,?_⟩
 ·rintro i t acc O' p e ⟨rfl,rfl⟩ np
  rw [List.getElem?_map] at e
  cases ex:xs[i]? with
  | none => rw [ex] at e; cases e
  | some x =>
   rw [ex] at e
   cases e
   obtain ⟨ρ4,w⟩:=h x (List.mem_of_getElem? ex)
   have hi:=(List.getElem?_eq_some_iff.mp ex).1
   refine ⟨ρ4,fun X' Oe He is => ⟨(w X' Oe He is _).1,Fd (JV fun X' Oe He is => (w X' Oe He is _).2 _ ⟨_,rfl,np,?_,rfl,?_⟩)⟩⟩
   ·simp; omega
   ·rw [List.take_add_one,ex]; simp
 ·rintro acc O' ⟨rfl,rfl⟩
  rw [List.length_map,List.take_length]
  exact fin
theorem DR {F:List T→AM→Prop} {c:Expr} (xs:List α) (f g:α→T) (q:α→Bool) (hl:xs.length≤sizeLine) (h:∀ x,x∈xs→∃ ρ4,∀ X' Oe He,LcCx Z.X csc (Ae nc cap) X'→∀ O',(WG (zc X' Oe He) nc.length (GT nc ρ cap) O' tg (f x) ρ4∧EB (zc X' Oe He) ρ4 O' c (q x)∧(q x = true→ET (zc X' Oe He) ρ4 O' elt (g x)))) (fin:F ((xs.filter q).map g) O):Qv Z ρ elt tg [c] csc nc cap F (xs.map f) O:=by
 refine ⟨fun i acc O' => O' = O∧acc = ((xs.take i).filter q).map g,⟨rfl,by simp⟩,?_,?_⟩
 ·rintro i t acc O' p e ⟨rfl,rfl⟩ np
  rw [List.getElem?_map] at e
  cases ex:xs[i]? with
  | none => rw [ex] at e; cases e
  | some x =>
   rw [ex] at e
   cases e
   obtain ⟨ρ4,w⟩:=h x (List.mem_of_getElem? ex)
   have hi:=(List.getElem?_eq_some_iff.mp ex).1
   refine ⟨ρ4,fun X' Oe He is => ⟨(w X' Oe He is _).1,MO ((w X' Oe He is _).2.1 _ ?_)⟩⟩
   cases hq:q x with
   | true =>
    refine JV fun X' Oe He is => (w X' Oe He is _).2.2 hq _ ⟨_,rfl,np,?_,rfl,?_⟩
    ·have:=List.length_filter_le q (xs.take i)
     simp at this ⊢; omega
    ·rw [List.take_add_one,ex]; simp [hq]
   | false =>
    refine IL ⟨_,rfl,np,rfl,?_⟩
    rw [List.take_add_one,ex]; simp [hq]
 ·rintro acc O' ⟨rfl,rfl⟩
  rw [List.length_map,List.take_length]
  exact fin
theorem Bd (nc:List Str) (cap:List (Str × Nat)) (xs:List α) (f g:α→T) (hc:Z.X.calm = true) (ok:LcOk Z.X csc nc cap) (hi:EI Z ρ O tg iter (xs.map f)) (hl:xs.length≤sizeLine) (h:∀ x,x∈xs→∃ ρ4,∀ X' Oe He,LcCx Z.X csc (Ae nc cap) X'→∀ O',(WG (zc X' Oe He) nc.length (GT nc ρ cap) O' tg (f x) ρ4∧ET (zc X' Oe He) ρ4 O' elt (g x)))
  (hs:∀ x,foldedSetIterable iter Z.X.env x = pure x:=by intro _; rfl):ET Z ρ O (.ListComp elt [⟨tg,iter,[],0⟩] csc pos) (.lst (xs.map g)):=fun Φ p => PR hc ok (hi _ (PY xs f g hl h p)) hs
theorem CQ (nc:List Str) (cap:List (Str × Nat)) {c:Expr} (xs:List α) (f g:α→T) (q:α→Bool) (hc:Z.X.calm = true) (ok:LcOk Z.X csc nc cap) (hi:EI Z ρ O tg iter (xs.map f)) (hl:xs.length≤sizeLine) (h:∀ x,x∈xs→∃ ρ4,∀ X' Oe He,LcCx Z.X csc (Ae nc cap) X'→∀ O',(WG (zc X' Oe He) nc.length (GT nc ρ cap) O' tg (f x) ρ4∧EB (zc X' Oe He) ρ4 O' c (q x)∧(q x = true→ET (zc X' Oe He) ρ4 O' elt (g x))))
  (hs:∀ x,foldedSetIterable iter Z.X.env x = pure x:=by intro _; rfl):ET Z ρ O (.ListComp elt [⟨tg,iter,[c],0⟩] csc pos) (.lst ((xs.filter q).map g)):=fun Φ p => PR hc ok (hi _ (DR xs f g q hl h p)) hs
end
section
variable {Z:Zx} {ρ:List (Option T)} {O:AM} {e:Expr} {es:List Expr} {Φ:BX} {Ψ:Es} {pos p:Pos} {ts:List T} {x:Str}
theorem EA.wa {Φ:MI} (h:EA Z ρ O es ts) (p:Φ ts O):WA Z ρ O es Φ:=h Φ p
theorem EI.wi {tg iter:Expr} {Φ:MI} (h:EI Z ρ O tg iter ts) (p:Φ ts O):WI Z ρ O tg iter Φ:=h Φ p
theorem PZ {k:Nat} {f:Addr} {fd:FuncData} {ps:List Str} {sp:Sp} (F:FnOk Z.X.prog Z.X.w Z.X.K Z.X.mg Z.X.base (CXe Z.X.prog Z.X.w) k f fd ps sp) (hm:Z.X.mg x = some (.ref f)) (hk:PySem.W.keepIn Z.X.K (.ref f) = true) (hb:Binds Z.X.K fd ps []) (hr:Room k Z.X.A) (xf:XFly Z.X Z.W) (h:EA Z ρ O (e :: es) ts)
  (w:∀ σ H vs Q,Asr Z ρ O σ H→Reps Z.K O H vs ts→Acc Z.K O H Φ Q→sp vs H Q (Z.W σ)) (hg:Gl Z.X x:=by rfl)
  (hdb:(x == ("__debug__" : Str)) = false:=by decide) (he:starEach (e :: es) Z.X.env = (false,eval e Z.X.env) :: starEach es Z.X.env:=by rfl) (hpl:(backTo pos (starEach es Z.X.env)).any (·.1) = false:=by rfl):WE Z ρ O (.Call (.Name x p) (e :: es) [] pos) Φ:=by
 refine PE.weak (GA xf F hr hg hm hk hb (HB (ρ:=ρ)) hdb he hpl) fun σ H Q q => ?_
 refine ⟨O,_,h (fun us O' => us = ts∧O' = O) ⟨rfl,rfl⟩,q.1,?_⟩
 rintro vs H1 _ _ ⟨rfl,rfl⟩ f r
 exact w σ H1 vs Q (q.1.step f) r (q.2.step f)
end
def CD:Expr→Bool
 | .Starred .. => false
 | _ => true
theorem Hn {e:Expr} {es:List Expr} {env:Env} (h:CD e = true):starEach (e :: es) env = (false,eval e env) :: starEach es env:=by
 cases e <;> first | rfl | cases h
section
variable {Z:Zx} {ρ:List (Option T)} {O:AM} {e:Expr} {es:List Expr} {t:T} {ts:List T}
theorem AE (h:ET Z ρ O e t) (hr:EA Z ρ O es ts) (hn:CD e = true:=by rfl):EA Z ρ O (e :: es) (t :: ts):=AT h hr (Hn hn)
theorem EZ {Φ:MI} (h:WE Z ρ O e fun t O1 => WA Z ρ O1 es fun ts O2 => Φ (t :: ts) O2) (hn:CD e = true:=by rfl):WA Z ρ O (e :: es) Φ:=Dd h (Hn hn)
theorem Aa {a b:Expr} {i j:Int} {k:Nat} {pos:Pos} (ha:ET Z ρ O a (.int i)) (hb:ET Z ρ O b (.int j)) (h1:CD a = true:=by rfl) (h2:CD b = true:=by rfl):ET Z ρ O (.Tuple [a,b] k pos) (AC (i,j)):=Ah (AE ha (AE hb AD h2) h1) (by show 2≤sizeLine; decide)
end
theorem Pa {O:AM} {p:Addr} {xs:List T} (h:O p = some xs):BB O p xs = O:=by
 funext b
 by_cases hb:b = p
 ·rw [hb,AO,h]
 ·rw [Af hb]
theorem Ux {O:AM} {p l:Addr} {xs:List T} (h:O p = some xs) (hl:O l = none):p≠l:=fun z => by rw [z,hl] at h; cases h
section
variable {Z:Zx} {ρ:List (Option T)} {O:AM} {e:Expr} {es:List Expr} {t:T} {ts:List T} {Φ:BX} {Ψ:Es} {pos p2:Pos} {x:Str}
inductive CPs:List Expr→List (Int × Int)→Prop
 | nil:CPs [] []
 | cons {a b:Int} {k1 k2 k3:Nat} {q1 q2 q3:Pos} {es:List Expr} {ps:List (Int × Int)}:CPs es ps→CPs (.Tuple [.Constant (.int a) k1 q1,.Constant (.int b) k2 q2] k3 q3 :: es) ((a,b) :: ps)
structure HEA (Z:Zx) (ρ:List (Option T)) (O:AM) (es:List Expr) (ts:List T):Prop where
 out:EA Z ρ O es ts
structure HET (Z:Zx) (ρ:List (Option T)) (O:AM) (e:Expr) (t:T):Prop where
 out:ET Z ρ O e t
theorem HEA.nil:HEA Z ρ O [] []:=⟨AD⟩
theorem HEA.cons (h:HET Z ρ O e t) (hr:HEA Z ρ O es ts) (hn:CD e = true:=by rfl):HEA Z ρ O (e :: es) (t :: ts):=⟨AE h.out hr.out hn⟩
theorem HET.tup {k:Nat} (h:HEA Z ρ O es ts) (hl:ts.length≤sizeLine):HET Z ρ O (.Tuple es k pos) (.tup ts):=⟨Ah h.out hl⟩
theorem HET.var (i:Nat) (e:ρ[i]? = some (some t):=by rfl) (hN:Z.X.N[i]? = some x:=by rfl) (hv:Vj Z.X.env.scope x:=by first | exact Or.inl rfl | exact Or.inr (Or.inl rfl) | exact Or.inr (Or.inr rfl)) (hd:(x == ("__debug__" : Str)) = false:=by decide)
  (hcd:(x == ("__classdict__" : Str)) = false:=by decide):HET Z ρ O (.Name x pos) t:=⟨ev i e hN hv hd hcd⟩
theorem HET.int {i:Int} {j:Nat}:HET Z ρ O (.Constant (.int i) j pos) (.int i):=⟨AB⟩
structure HS (Z:Zx) (ρ:List (Option T)) (O:AM) (ss:List Stmt) (Ψ:Es):Prop where
 out:DI Z ρ O ss Ψ
theorem Df {s:Stmt} {ss:List Stmt} (h:WS Z ρ O s { Ψ with nx:=fun ρ' O' => HS Z ρ' O' ss Ψ }):HS Z ρ O (s :: ss) Ψ :=
 ⟨AF (Fc h (fun _ _ z => z.out) (fun _ _ z => z) (fun _ _ z => z) (fun _ _ z => z))⟩
theorem LL {s:Stmt} (h:WS Z ρ O s Ψ):HS Z ρ O [s] Ψ:=⟨AH h⟩
end
section
variable {X:Cx} {a b c d:Expr} {ta tb tc td:TE} {pos:Pos}
end
section
variable {Z:Zx} {ρ:List (Option T)} {O:AM} {a b c d:Expr} {pos:Pos} {i j k l:Int}
end
end L2.TL
namespace L2
open PySem PySem.Spec PySem.Calls PyProof.Rows
section
variable {prog:Program} {w:World} {A:Around} {E:Value→Shared→Prop} {s:Shared}
theorem LM {l:Addr} {o:Obj} {vs:List Value} {n:Nat} {ns:List Int} {Q:Value→Shared→Prop} (ho:s.heap.get? l = some o) (hc:o.cls = .type "tuple") (hd:o.data = .seq vs.toArray n) (hI:IntsAre vs ns) (h64:vs.length < 64)
  (h:∀ (h':Heap) (a:Addr) (out:List Value) (ms:List Int) (c:Nat),s.heap.get? a = none→h'.get? a = some (seqObj "list" out.toArray c)→(∀ b o,s.heap.get? b = some o→h'.get? b = some o)→IntsAre out ms→ms.Perm ns→ms.Pairwise (·≤·)→Q (.ref a) { s with heap:=h' }) :
  wpAny (model prog w) A (call (.builtin "sorted") [.ref l]) Q E s:=by
 refine Calls.call_function_entry kind_sorted plain_sorted entry_sorted (args_sorted1 _) ?_
 unfold Builtin.«sorted»
 refine wpAny_bind (m:=checkCount "sorted" 1 1 _) (wpAny_pure ?_)
 refine wpAny_bind (wpAny_collect_seq l (.inr rfl) ho hc hd (fun h1 hk1 => ?_) (by rw [List.size_toArray,sizeLine_eq]; omega))
 show wpAny _ _ (newList vs >>= _) _ _ _
 refine wpAny_bind (wpAny_newList ?_ (by rw [sizeLine_eq]; omega))
 have hoL:(h1.push (seqObj "list" vs.toArray 0)).get? h1.objs.size = some (seqObj "list" vs.toArray 0):=Heap.get?_push_size _ rfl
 show wpAny _ _ _ _ _ { s with heap:=h1.push (seqObj "list" vs.toArray 0) }
 refine wpAny_bind (wpAny_holding (wpAny_call_entry slot_list_sort ⟨_,hoL,rfl⟩ entry_list_sort (list_sort_tree hoL hI h64 fun out ms a1 a2 a3 => ⟨_,rfl,?_⟩) (args_list_sort _)))
 refine wpAny_pure ⟨_,rfl,?_⟩
 obtain ⟨c,hcat⟩:=sortedHeap_at (out:=out) hoL
 refine h _ h1.objs.size out.toList ms c ?_ hcat (fun b o e => ?_) a1 a2 a3
 ·cases e:s.heap.get? h1.objs.size with
  | none => rfl
  | some o' => exact absurd (Heap.lt_size (hk1 _ _ e)) (Nat.lt_irrefl _)
 ·have hlt:=Heap.lt_size (hk1 b o e)
  rw [sortedHeap_old (Nat.ne_of_lt hlt) (by rw [size_push']; exact Nat.lt_succ_of_lt hlt)]
  exact Heap.get?_push_of_some _ (hk1 b o e)
end
section
variable {X:Cx}
def Uy (K:PySem.W.Frag):List V→Hp→VK→Prop:=fun xs H Q => ∃ (a:Addr) (ns:List Int),xs = [.ref a]∧IE K H a (ns.map V.int)∧ns.length < 64∧∀ (p:Addr) (ms:List Int),H p = none→ms.Perm ns→ms.Pairwise (·≤·)→Q (.ref p) (upd H p (.lst (ms.map V.int)))
theorem Ik:BR X (.builtin "sorted") (Uy X.K):=by
 intro pins s σ H xs us Q I r h
 obtain ⟨a,ns,rfl,hS,hl,q⟩:=h
 obtain ⟨u,rfl,ru⟩:=Vals.one r
 cases ru
 obtain ⟨its,rv,⟨o,e1,e2,n,e3⟩,_⟩:=I.tuple hS
 have hi:=Fv rv
 have hlen:its.length < 64:=by have:=rv.length; simp at this; omega
 refine LM e1 e2 e3 hi hlen fun h' b out ms c hb hg hk hI pm pw => ?_
 have hf:H b = none:=I.hok.none_of hb
 refine ⟨.ref b,upd H b (.lst (ms.map V.int)),I.laidF (t':=s.toks) hk hb ⟨?_,out,c,Da hI,hg⟩,rfl,q b ms hf pm pw⟩
 rw [List.length_map,pm.length_eq,sizeLine_eq]
 omega
theorem Ho:∀ {ns ms:List Int},Km (ns.map V.int) (ms.map V.int) = decide (ns = ms)
 | [],[] => rfl
 | [],_ :: _ => rfl
 | _ :: _,[] => rfl
 | n :: ns,m :: ms => by
  show (FT (V.int n) (V.int m) && Km (ns.map V.int) (ms.map V.int)) = _
  rw [Ho (ns:=ns) (ms:=ms)]
  have:FT (V.int n) (V.int m) = (n == m):=rfl
  rw [this]
  by_cases h1:n = m
  ·subst h1
   by_cases h2:ns = ms
   ·subst h2; simp
   ·simp [h2]
  ·simp [h1]
theorem FE {ns:List Int}:(ns.map V.int).all Bo = true:=by
 rw [List.all_eq_true]
 intro x hx
 obtain ⟨n,_,rfl⟩:=List.mem_map.mp hx
 rfl
def ZA (K:PySem.W.Frag) (g:Bool→Bool):R2:=fun x y H Q => ∃ (a b:Addr) (ns ms:List Int),x = .ref a∧y = .ref b∧SqL K H a (ns.map V.int)∧SqL K H b (ms.map V.int)∧Q (.bl (g (decide (ns = ms)))) H
theorem Uz (hu:X.A.units < cLine):DJ X (compareOp .NotEq) (ZA X.K (!·)):=by
 intro pins s σ H x y v u Q I rx ry h
 obtain ⟨a,b,ns,ms,rfl,rfl,ha,hb,q⟩:=h
 by_cases hl:ns.length = ms.length
 ·refine UU hu pins s σ H _ _ v u Q I rx ry ⟨a,b,_,_,rfl,rfl,ha,hb,FE,FE,by simpa using hl,?_⟩
  rw [Ho]; exact q
 ·cases rx; cases ry
  obtain ⟨its,r1,p1,z1⟩:=I.list ha
  obtain ⟨its2,r2,p2,z2⟩:=I.list hb
  have l1:=r1.length
  have l2:=r2.length
  refine SeqAt.RcNeAt.lists_lengths p1.isList p2.isList ?_ hu _ _ _ _ ⟨.bl _,H,I,rfl,?_⟩
  ·simp only [List.size_toArray,bne_iff_ne,ne_eq]
   simp at l1 l2
   omega
  ·have:decide (ns = ms) = false:=decide_eq_false fun z => hl (by rw [z])
   rw [this] at q
   exact q
end
end L2
namespace L2.TL
open PySem PySem.Spec PySem.Calls PyProof.Rows
mutual
def dT:T→PyData
 | .non => .none
 | .bl b => .bool b
 | .int i => .int i
 | .str x => .str x
 | .tup ts => .tuple (dTs ts)
 | .lst ts => .list (dTs ts)
 | .frz _ => .none
 | .dct => .none
 | .raw _ => .none
def dTs:List T→List PyData
 | [] => []
 | t :: ts => dT t :: dTs ts
end
section
variable {K:PySem.W.Frag} {O:AM} {H:Hp} {P:Program} {w:World} {h:Heap}
end
section
variable {X:Cx}
end
theorem BZ:∀ {ps:List (Int × Int)},PyData.depthAll (dTs (ps.map AC))≤2
 | [] => by decide
 | p :: ps => by
  have ih:=BZ (ps:=ps)
  show max (dT (AC p)).depth (PyData.depthAll (dTs (ps.map AC)))≤2
  refine Nat.max_le.mpr ⟨?_,ih⟩
  simp [AC,dT,dTs,PyData.depth,PyData.depthAll]
theorem NW {n:Int} {ps:List (Int × Int)}:(dT (.tup [.int n,.tup (ps.map AC)])).depth≤100:=by
 have h:=BZ (ps:=ps)
 simp [dT,dTs,PyData.depth,PyData.depthAll]
 omega
theorem XOk.mono {X:Cx} {W W':St→XK} (x:XOk X W) (h:∀ σ cls H',W' σ cls none H'→W σ cls none H'):XOk X W' :=
 ⟨fun pins σ H s h' y C I m q => x.made pins σ H s h' y C I m (h σ _ H q),(XFly.mono x.f h).fly,x.own,fun pins σ H s y C t dx fs I a b c d q => x.madeF pins σ H s y C t dx fs I a b c d (h σ _ H q)⟩
theorem Il {P:Program} {w:World} {K:PySem.W.Frag} {mg:Str→Option Value} {base:Heap} {x qual:Str} {st:Stmt} {f:Addr} {fd:FuncData} {N ps:List Str} {k:Nat} {sp:Cy} (F:Fun K x qual st f fd) (S:FnScope N ps (AA st)) (len:∀ ts O Φ Ξ,sp ts O Φ Ξ→ts.length = ps.length)
  (h:∀ (cdv:Value) (A:Around) (outer:List Env) (s:Shared) (H:Hp) (E:XK) (O:AM) (Ξ:Value→AM→Prop),Room k (A.deeper (envOfC qual (AA st) s.heap.objs.size f cdv))→XOk (zB P w K mg base N qual (AA st) f cdv A outer s H E O Ξ).X (zB P w K mg base N qual (AA st) f cdv A outer s H E O Ξ).W →
   ∀ ts Φ,sp ts O Φ Ξ→DI (zB P w K mg base N qual (AA st) f cdv A outer s H E O Ξ) (Cz N ts) O (AW st) { nx:=fun _ O' => Φ .non O',rt:=Φ }):FnOk P w K mg base (CXe P w) (k + 1) f fd ps (Dm K sp):=by
 refine F.okX S (fun vs H Q E h => ?_) (fun cdv A outer s H vs Q E hr h1 => ?_)
 ·obtain ⟨ts,O,Φ,Ξ,r,_,q,_⟩:=h
  rw [r.length]; exact len ts O Φ Ξ q
 ·obtain ⟨ts,O,Φ,Ξ,r,ok,q,acc,ex⟩:=h1
  refine ⟨_,h cdv A outer s H E O Ξ hr (XOk.mono BI ?_) ts Φ q,⟨EY r,.refl ok⟩,?_⟩
  ·rintro σ cls H' ⟨_,O',x,f⟩
   exact ex cls O' H' x f
  ·exact ⟨fun ρ' O' σ' H' p a _ => acc _ _ _ O' p a.fr .non,fun v H' t O' p f r => acc v H' t O' p f r,fun _ _ _ _ z => z.elim,fun _ _ _ _ z => z.elim⟩
theorem Frm.same {K:PySem.W.Frag} {O O':AM} {H H' H'':Hp} (f:Frm K O H O' H') (s:Same H' H''):Frm K O H O' H'' where
 kp:=fun b o h n => ⟨s b o (f.kp b o h n).1,(f.kp b o h n).2⟩
 own:=f.own
 ok:=fun a ts e => by
  obtain ⟨xs,h,r⟩:=f.ok a ts e
  exact ⟨xs,s _ _ h,r.mono (fun b o h _ => s b o h) fun b xs h n => ⟨s b _ h,n⟩⟩
theorem Dg {K:PySem.W.Frag} {O:AM} {H:Hp}:∀ (ns:List Int),Reps K O H (ns.map V.int) (ns.map T.int)
 | [] => .nil
 | n :: ns => .cons (.int n) (Dg ns)
section
variable {Z:Zx} {ρ:List (Option T)} {O:AM} {e a b:Expr} {es:List Expr} {Ψ:Es} {Φ:BX} {pos p:Pos} {t:T} {ts:List T}
theorem FF {x:Str} {C:Addr} {np cpos:Pos} (xo:XOk Z.X Z.W) (hc:Z.X.calm = true) (hm:Z.X.mg x = some (.ref C)) (q:PySem.W.excIn Z.X.K C Ck "ValueError.__new__" = true) (h:Z.Xi (.ref C) O) (hg:Gl Z.X x:=by rfl)
  (hd:(x == ("__debug__" : Str)) = false:=by decide):WS Z ρ O (.Raise (some (.Call (.Name x np) [] [] cpos)) none pos) Ψ :=
 PS.weak (NF xo hc hg hm q hd) fun D σ H k => ⟨rfl,O,h,k.1.fr⟩
def DA (C:Addr) (y:Str):Sp:=fun vs H Q _ => ∃ x,vs = [.ref x]∧Rd H x (Dk C x)∧∀ H',Same H H'→Q (.str y) H'
theorem _root_.L2.Rd.upd {H:Hp} {x p:Addr} {u o:HO} (h:Rd H x u) (hp:H p = none):Rd (upd H p o) x u:=by
 rcases h with h | ⟨o',h⟩
 ·exact .inl (by rw [AI (AR h hp)]; exact h)
 ·exact .inr ⟨o',by rw [AI (AR h hp)]; exact h⟩
theorem _root_.L2.Rd.same {H H':Hp} {x:Addr} {u:HO} (h:Rd H x u) (s:Same H H'):Rd H' x u:=by
 rcases h with h | ⟨o',h⟩
 ·exact .inl (s _ _ h)
 ·exact .inr ⟨o',s _ _ h⟩
theorem LN {ns:List Int} (m:Z.X.mg "sorted" = none) (h:ET Z ρ O e (.tup (ns.map T.int))) (hl:ns.length < 64) (k:∀ ms:List Int,ms.Perm ns→ms.Pairwise (·≤·)→Φ (.lst (ms.map T.int)) O) (hg:Gl Z.X "sorted":=by rfl)
  (he:starEach [e] Z.X.env = (false,eval e Z.X.env) :: starEach [] Z.X.env:=by rfl):WE Z ρ O (.Call (.Name "sorted" p) [e] [] pos) Φ :=
 GR Ik m Ih (AT h AD he _ (fun H vs Q ok r q => by
  obtain ⟨v,rfl,r1⟩:=r.one_inv
  obtain ⟨a,xs,rfl,h1,r1⟩:=r1.tup_inv
  cases r1.ints
  exact ⟨a,ns,rfl,.inl (.inl h1),hl,fun p ms hp pm pw => q _ _ _ O (k ms pm pw) (.new ok hp) (.lst AG (ok.none_of hp) (Dg ms))⟩)) hg (by decide) (by decide) he
end
section
variable {Z:Zx} {ρ:List (Option T)} {O:AM} {e:Expr} {es:List Expr} {t:T} {ts us:List T} {Φ:BX} {Ψ:Es} {pos p2 p3 p4:Pos} {x:Str}
end
section
variable {Z:Zx} {ρ:List (Option T)} {O:AM} {es:List Expr} {ts:List T} {Ψ:Es} {pos p:Pos} {tg iter:Expr} {body:List Stmt}
structure HWE (Z:Zx) (ρ:List (Option T)) (O:AM) (e:Expr) (Φ:BX):Prop where
 out:WE Z ρ O e Φ
theorem Im (hp:PassesOwn (model Z.X.prog Z.X.w) Z.X.A Z.X.env Z.X.xe) (hc:Z.X.calm = true) (h:HWE Z ρ O iter fun t O' => ∃ ts,t = .lst ts∧∃ I:Nat→LH,I 0 ρ O' ∧
  (∀ i t ρ' O',ts[i]? = some t→I i ρ' O'→∃ ρ2,WG Z Z.X.N.length ρ' O' tg t ρ2∧HS Z ρ2 O' body { nx:=I (i + 1),rt:=Ψ.rt,bk:=Ψ.nx,ct:=I (i + 1) })∧∀ ρ' O',I ts.length ρ' O'→Ψ.nx ρ' O')
  (hs:∀ x,foldedSetIterable iter Z.X.env x = pure x):WS Z ρ O (.For tg iter body [] pos) Ψ :=
 FD hp hc (MN (Dc h.out (by
  rintro t O' ⟨ts,e,I,i0,st,fin⟩
  refine ⟨ts,e,I,i0,fun i t ρ' O' e x => ?_,fin⟩
  obtain ⟨ρ2,a,b⟩:=st i t ρ' O' e x
  exact ⟨ρ2,a,b.out⟩))) hs
theorem Wo {P:Program} {w:World} {K:PySem.W.Frag} {mg:Str→Option Value} {base:Heap} {x qual:Str} {st:Stmt} {f:Addr} {fd:FuncData} {N ps:List Str} {k:Nat} {sp:Sp} (F:Fun K x qual st f fd) (S:FnScope N ps (AA st)) (len:∀ vs H Q E,sp vs H Q E→vs.length = ps.length)
  (h:∀ (cdv:Value) (A:Around) (outer:List Env) (s:Shared) (H:Hp) (vs:List V) (Q:VK) (E:XK),Room k (A.deeper (envOfC qual (AA st) s.heap.objs.size f cdv))→sp vs H Q E →
   ∃ ts O Φ Ξ,Reps K O H vs ts∧OwnOk K O H∧(XFly (zB P w K mg base N qual (AA st) f cdv A outer s H E O Ξ).X (zB P w K mg base N qual (AA st) f cdv A outer s H E O Ξ).W→HS (zB P w K mg base N qual (AA st) f cdv A outer s H E O Ξ) (Cz N ts) O (AW st) { nx:=fun _ O' => Φ .non O',rt:=Φ })∧Acc K O H Φ Q∧∀ cls O' H',Ξ cls O'→Frm K O H O' H'→E cls none H'):FnOk P w K mg base (CXe P w) (k + 1) f fd ps sp:=by
 refine F.okX S len (fun cdv A outer s H vs Q E hr h1 => ?_)
 obtain ⟨ts,O,Φ,Ξ,r,ok,q,acc,ex⟩:=h cdv A outer s H vs Q E hr h1
 refine ⟨_,(q (XFly.mono BI.f ?_)).out,⟨EY r,.refl ok⟩,?_⟩
 ·rintro σ cls H' ⟨_,O',x,f⟩
  exact ex cls O' H' x f
 ·exact ⟨fun ρ' O' σ' H' p a _ => acc _ _ _ O' p a.fr .non,fun v H' t O' p f r => acc v H' t O' p f r,fun _ _ _ _ z => z.elim,fun _ _ _ _ z => z.elim⟩
end
theorem HWE.lst {Z:Zx} {ρ:List (Option T)} {O:AM} {es:List Expr} {ts:List T} {p:Pos} {Φ:BX} (h:HEA Z ρ O es ts) (hl:ts.length≤sizeLine) (k:Φ (.lst ts) O):HWE Z ρ O (.List es p) Φ:=⟨ET.we (Ay h.out hl) k⟩
theorem FX {L:List T} {r:Int} (h0:0≤r) (h1:r < L.length):∃ t,atI L r = some t∧t∈L:=by
 obtain ⟨j,rfl⟩:=Int.eq_ofNat_of_zero_le h0
 have hj:j < L.length:=by omega
 exact ⟨L[j],Bw (by rw [List.getElem?_eq_getElem hj]),List.getElem_mem hj⟩
def Pb:AM:=fun _ => none
theorem Pc {K:PySem.W.Frag} {H:Hp}:OwnOk K Pb H:=fun a ts e => by cases e
theorem Ta {K:PySem.W.Frag} {H H':Hp} {O':AM} {a:Addr} {xs:List V} (k:Kp Pb H O' H') (h:SqL K H a xs):SqL K H' a xs:=by
 rcases h with h | h
 ·refine .inl ?_
  rcases h with h | ⟨o,h⟩
  ·exact .inl (k a _ h rfl).1
  ·exact .inr ⟨o,(k a _ h rfl).1⟩
 ·exact .inr h
section
variable {Z:Zx} {ρ:List (Option T)} {O:AM} {e lo hi:Expr} {p p2 pos:Pos} {Φ:BX}
theorem VA {a:Addr} {ns:List Int} {i j:Int} (ho:Z.Oe = Pb) (hS:SqL Z.K Z.He a (ns.map V.int)) (h:ET Z ρ O e (.raw (.ref a))) (h1:ET Z ρ O lo (.int i)) (h2:ET Z ρ O hi (.int j))
  (k:∀ ms:List Int,ms.length≤ns.length→Φ (.lst (ms.map T.int)) O):WE Z ρ O (.Subscript e (.Slice (some lo) (some hi) none p2) pos) Φ:=by
 refine PE.weak (JT RN (BU (ρ:=ρ)) (II (BU (ρ:=ρ))) (II (BU (ρ:=ρ)))) fun σ H0 Q q => ?_
 refine ⟨O,_,h (fun t O' => t = .raw (.ref a)∧O' = O) ⟨rfl,rfl⟩,q.1,?_⟩
 rintro v H1 _ _ ⟨rfl,rfl⟩ f1 r1
 refine ⟨_,_,h1 (fun t O' => t = .int i∧O' = _) ⟨rfl,rfl⟩,q.1.step f1,?_⟩
 rintro v2 H2 _ _ ⟨rfl,rfl⟩ f2 r2
 refine ⟨i,r2.int_inv,_,_,h2 (fun t O' => t = .int j∧O' = _) ⟨rfl,rfl⟩,q.1.step (f1.trans f2),?_⟩
 rintro v3 H3 _ _ ⟨rfl,rfl⟩ f3 r3
 refine ⟨j,r3.int_inv,a,ns.map V.int,r1.raw_inv,Ta (ho ▸ (q.1.step (f1.trans (f2.trans f3))).fr.kp) hS,fun l hl => ?_⟩
 have ff:=f1.trans (f2.trans f3)
 have e:Em (ns.map V.int) (some i) (some j) = ((ns.drop (HT.BK (ns.map V.int).length 0 (some i))).take (HT.BK (ns.map V.int).length (ns.map V.int).length (some j) - HT.BK (ns.map V.int).length 0 (some i))).map V.int:=by
  unfold Em
  rw [← List.map_drop,← List.map_take]
 rw [e]
 refine q.2 _ _ _ _ (k _ ?_) (ff.trans (.new ff.ok hl)) (.lst AG (ff.ok.none_of hl) ((Dg _).kp (BT ff.ok hl) ff.ok))
 rw [List.length_take,List.length_drop]
 omega
theorem Wp {K:PySem.W.Frag} {g:Bool→Bool} {ns ms:List Int}:RP K (ZA K g) (.lst (ns.map T.int)) (.lst (ms.map T.int)) O (.bl (g (decide (ns = ms)))):=fun Φ p H v w Q ok r1 r2 q => by
 obtain ⟨a,xs,rfl,h1,_,r1⟩:=r1.lst_inv
 obtain ⟨b,ys,rfl,h2,_,r2⟩:=r2.lst_inv
 cases r1.ints
 cases r2.ints
 exact ⟨a,b,ns,ms,rfl,rfl,.inl (.inl h1),.inl (.inl h2),q _ H _ O p (.refl ok) (.bl _)⟩
end
theorem Io:∀ {ps qs:List (Int × Int)},ps.Pairwise Hm→qs.Pairwise Hm→(∀ z,z∈ps↔z∈qs)→ps = qs:=by
 intro ps qs h1 h2 h3
 have nd:∀ {l:List (Int × Int)},l.Pairwise Hm→l.Nodup:=fun h => h.imp fun {a b} h z => by
  subst z
  unfold Hm at h
  omega
 have pm:ps.Perm qs:=by
  refine List.perm_iff_count.mpr fun a => ?_
  have c1:=(nd h1).count (a:=a)
  have c2:=(nd h2).count (a:=a)
  rw [c1,c2]
  by_cases h:a∈ps
  ·rw [if_pos h,if_pos ((h3 a).mp h)]
  ·rw [if_neg h,if_neg fun z => h ((h3 a).mpr z)]
 exact List.Perm.eq_of_pairwise (fun a b _ _ x y => by unfold Hm at x y; omega) h1 h2 pm
mutual
def Bf:T→Bool
 | .non => true
 | .bl _ => true
 | .int _ => true
 | .str x => PyData.strOk x
 | .tup ts => rdBs ts
 | .lst ts => rdBs ts
 | .frz _ => false
 | .dct => false
 | .raw _ => false
def rdBs:List T→Bool
 | [] => true
 | t :: ts => Bf t && rdBs ts
end
mutual
theorem DB:∀ (t:T),Bf t = true→(dT t).canLay0 = true
 | .non,_ => rfl
 | .bl _,_ => rfl
 | .int _,_ => rfl
 | .str x,h => by unfold Bf at h; exact h
 | .tup ts,h => rds_lay ts (by unfold Bf at h; exact h)
 | .lst ts,h => rds_lay ts (by unfold Bf at h; exact h)
 | .frz _,h => by unfold Bf at h; cases h
 | .dct,h => by unfold Bf at h; cases h
 | .raw _,h => by unfold Bf at h; cases h
theorem rds_lay:∀ (ts:List T),rdBs ts = true→PyData.canLayAll0 (dTs ts) = true
 | [],_ => rfl
 | t :: ts,h => by
  unfold rdBs at h
  rw [Bool.and_eq_true] at h
  show (PyData.canLay0 (dT t) && PyData.canLayAll0 (dTs ts)) = true
  rw [DB t h.1,rds_lay ts h.2]; rfl
end
section
variable {K:PySem.W.Frag} {O:AM} {H:Hp} {P:Program} {w:World} {h:Heap}
mutual
theorem Rep.rd (hok:HOk P w H h):∀ {v:V} {t:T} {u:Value},Rep K O H v t→Bf t = true→RelV v u→∃ as,Reads h u (dT t) as
 | _,_,_,.non,_,r => by cases r; exact ⟨_,.none⟩
 | _,_,_,.bl b,_,r => by cases r; exact ⟨_,.bool b⟩
 | _,_,_,.int i,_,r => by obtain ⟨t,rfl⟩:=r; exact ⟨_,.int i t⟩
 | _,_,_,.str x,_,r => by obtain ⟨t,rfl⟩:=r; exact ⟨_,.str x t⟩
 | _,_,_,.tup (ts:=ts) e q,g,r => by
  cases r
  obtain ⟨_,its,rv,⟨o,e1,e2,n,e3⟩⟩:=(show ObjOk P w H h _ (.tup _) from hok _ _ e)
  obtain ⟨as,ra⟩:=Reps.rd hok q (by unfold Bf at g; exact g) rv
  exact ⟨_,.tuple (vs:=its.toArray) e1 e2 e3 (by simpa using ra)⟩
 | _,_,_,.lst (ts:=ts) e _ q,g,r => by
  cases r
  obtain ⟨_,its,n,rv,e1⟩:=(show ObjOk P w H h _ (.lst _) from hok _ _ e)
  obtain ⟨as,ra⟩:=Reps.rd hok q (by unfold Bf at g; exact g) rv
  exact ⟨_,.list (vs:=its.toArray) e1 rfl rfl (by simpa using ra)⟩
 | _,_,_,.frz _ _,g,_ => by unfold Bf at g; cases g
 | _,_,_,.dct _,g,_ => by unfold Bf at g; cases g
 | _,_,_,.raw v,g,_ => by unfold Bf at g; cases g
theorem Reps.rd (hok:HOk P w H h):∀ {vs:List V} {ts:List T} {us:List Value},Reps K O H vs ts→rdBs ts = true→Vals vs us→∃ as,ReadsAll h us (dTs ts) as
 | _,_,_,.nil,_,r => by cases r; exact ⟨_,.nil⟩
 | _,_,_,.cons a b,g,.cons r1 r2 => by
  unfold rdBs at g
  rw [Bool.and_eq_true] at g
  obtain ⟨as,x⟩:=Rep.rd hok a g.1 r1
  obtain ⟨bs,y⟩:=Reps.rd hok b g.2 r2
  exact ⟨_,.cons x y⟩
end
end
section
variable {X:Cx}
def rD (K:PySem.W.Frag) (g:PyData→PyData→Bool):R2:=fun x y H Q => ∃ O t u,Rep K O H x t∧Rep K O H y u∧Bf t = true∧Bf u = true∧(dT t).depth≤100∧Q (.bl (g (dT t) (dT u))) H
theorem GX (hu:X.A.units + 101 < cLine):DJ X (compareOp .Eq) (rD X.K fun a b => PyData.eqv a b):=by
 intro pins s σ H x y v u Q I rx ry h
 obtain ⟨O,t,t',r1,r2,g1,g2,hd,q⟩:=h
 obtain ⟨as,ra⟩:=Rep.rd I.hok r1 g1 rx
 obtain ⟨bs,rb⟩:=Rep.rd I.hok r2 g2 ry
 exact SeqAt.compareEq_reads ra rb (DB t g1) (DB t' g2) (by omega) ⟨.bl _,H,I,rfl,q⟩
theorem Ip (hu:X.A.units + 101 < cLine):DJ X (compareOp .NotEq) (rD X.K fun a b => !PyData.eqv a b):=by
 intro pins s σ H x y v u Q I rx ry h
 obtain ⟨O,t,t',r1,r2,g1,g2,hd,q⟩:=h
 obtain ⟨as,ra⟩:=Rep.rd I.hok r1 g1 rx
 obtain ⟨bs,rb⟩:=Rep.rd I.hok r2 g2 ry
 exact SeqAt.compareNe_reads ra rb (DB t g1) (DB t' g2) (by omega) ⟨.bl _,H,I,rfl,q⟩
def Xv (K:PySem.W.Frag) (g:Bool→Bool):R2:=fun x y H Q => ∃ O t us,Rep K O H x t∧(Rep K O H y (.tup us)∨Rep K O H y (.lst us))∧Bf t = true∧rdBs us = true∧(dT t).depth≤100∧Q (.bl (g ((dTs us).any fun y => PyData.eqv y (dT t)))) H
theorem Hq (hu:X.A.units + 102 < cLine):DJ X (compareOp .In) (Xv X.K id):=by
 intro pins s σ H x y v u Q I rx ry h
 obtain ⟨O,t,us,r1,r2,g1,g2,hd,q⟩:=h
 obtain ⟨as,ra⟩:=Rep.rd I.hok r1 g1 rx
 rcases r2 with r2 | r2
 ·obtain ⟨bs,rb⟩:=Rep.rd I.hok r2 (by unfold Bf; exact g2) ry
  exact SeqAt.in_tuple_reads rb ra (rds_lay us g2) (DB t g1) (by omega) ⟨.bl _,H,I,rfl,q⟩
 ·obtain ⟨bs,rb⟩:=Rep.rd I.hok r2 (by unfold Bf; exact g2) ry
  exact SeqAt.in_list_reads rb ra (rds_lay us g2) (DB t g1) (by omega) ⟨.bl _,H,I,rfl,q⟩
theorem DS (hu:X.A.units + 102 < cLine):DJ X (compareOp .NotIn) (Xv X.K (!·)):=by
 intro pins s σ H x y v u Q I rx ry h
 obtain ⟨O,t,us,r1,r2,g1,g2,hd,q⟩:=h
 obtain ⟨as,ra⟩:=Rep.rd I.hok r1 g1 rx
 rcases r2 with r2 | r2
 ·obtain ⟨bs,rb⟩:=Rep.rd I.hok r2 (by unfold Bf; exact g2) ry
  exact SeqAt.notIn_tuple_reads rb ra (rds_lay us g2) (DB t g1) (by omega) ⟨.bl _,H,I,rfl,q⟩
 ·obtain ⟨bs,rb⟩:=Rep.rd I.hok r2 (by unfold Bf; exact g2) ry
  exact SeqAt.notIn_list_reads rb ra (rds_lay us g2) (DB t g1) (by omega) ⟨.bl _,H,I,rfl,q⟩
end
section
variable {K:PySem.W.Frag} {O:AM} {t u:T} {us:List T}
theorem Iq {g:PyData→PyData→Bool} (h1:Bf t = true) (h2:Bf u = true) (hd:(dT t).depth≤100):RP K (rD K g) t u O (.bl (g (dT t) (dT u))):=fun Φ p H v w Q ok r1 r2 q =>
 ⟨O,t,u,r1,r2,h1,h2,hd,q _ H _ O p (.refl ok) (.bl _)⟩
theorem CS {g:Bool→Bool} (h1:Bf t = true) (h2:rdBs us = true) (hd:(dT t).depth≤100):RP K (Xv K g) t (.tup us) O (.bl (g ((dTs us).any fun y => PyData.eqv y (dT t)))):=fun Φ p H v w Q ok r1 r2 q =>
 ⟨O,t,us,r1,.inl r2,h1,h2,hd,q _ H _ O p (.refl ok) (.bl _)⟩
theorem Ir {g:Bool→Bool} (h1:Bf t = true) (h2:rdBs us = true) (hd:(dT t).depth≤100):RP K (Xv K g) t (.lst us) O (.bl (g ((dTs us).any fun y => PyData.eqv y (dT t)))):=fun Φ p H v w Q ok r1 r2 q =>
 ⟨O,t,us,r1,.inr r2,h1,h2,hd,q _ H _ O p (.refl ok) (.bl _)⟩
end
theorem BY (p:Int × Int):Bf (AC p) = true:=by simp [AC,Bf,rdBs]
theorem Au:∀ {ps:List (Int × Int)},rdBs (ps.map AC) = true
 | [] => rfl
 | p :: ps => by
  show (Bf (AC p) && rdBs (ps.map AC)) = true
  rw [BY,Au]; rfl
theorem BA (p:Int × Int):(dT (AC p)).depth≤100:=by simp [AC,dT,dTs,PyData.depth,PyData.depthAll]
theorem GY (p q:Int × Int):PyData.eqv (dT (AC p)) (dT (AC q)) = decide (p = q):=by
 show ((p.1 == q.1) && ((p.2 == q.2) && true)) = decide (p = q)
 rw [Bool.eq_iff_iff]
 simp only [Bool.and_true,Bool.and_eq_true,beq_iff_eq,decide_eq_true_eq]
 exact ⟨fun h => Prod.ext h.1 h.2,fun h => by rw [h]; exact ⟨rfl,rfl⟩⟩
theorem BN {q:Int × Int}:∀ {ps:List (Int × Int)},((dTs (ps.map AC)).any fun y => PyData.eqv y (dT (AC q))) = decide (q∈ps)
 | [] => by simp [dTs]
 | p :: ps => by
  show (PyData.eqv (dT (AC p)) (dT (AC q)) || (dTs (ps.map AC)).any fun y => PyData.eqv y (dT (AC q))) = _
  rw [GY,BN,Bool.eq_iff_iff,Bool.or_eq_true,decide_eq_true_eq,decide_eq_true_eq,decide_eq_true_eq,List.mem_cons]
  exact ⟨fun h => h.elim (fun e => .inl e.symm) .inr,fun h => h.elim (fun e => .inl e.symm) .inr⟩
theorem Cd:∀ {ps qs:List (Int × Int)},PyData.eqvAll (dTs (ps.map AC)) (dTs (qs.map AC)) = decide (ps = qs)
 | [],[] => rfl
 | [],_ :: _ => rfl
 | _ :: _,[] => rfl
 | p :: ps,q :: qs => by
  show (PyData.eqv (dT (AC p)) (dT (AC q)) && PyData.eqvAll (dTs (ps.map AC)) (dTs (qs.map AC))) = _
  rw [GY,Cd,Bool.eq_iff_iff,Bool.and_eq_true,decide_eq_true_eq,decide_eq_true_eq,decide_eq_true_eq]
  exact ⟨fun h => by rw [h.1,h.2],fun h => by injection h with a b; exact ⟨a,b⟩⟩
abbrev Am (n:Int) (ps:List (Int × Int)):T:=.tup [.int n,.tup (ps.map AC)]
theorem Pd {n:Int} {ps:List (Int × Int)}:Bf (Am n ps) = true:=by
 show rdBs [.int n,.tup (ps.map AC)] = true
 show (true && (rdBs (ps.map AC) && true)) = true
 rw [Au]; rfl
theorem Ru {n m:Int} {ps qs:List (Int × Int)}:PyData.eqv (dT (Am n ps)) (dT (Am m qs)) = (decide (n = m) && decide (ps = qs)):=by
 show ((n == m) && (PyData.eqvAll (dTs (ps.map AC)) (dTs (qs.map AC)) && true)) = _
 rw [Cd,Bool.and_true]
 rfl
end L2.TL
namespace L2
open PySem PySem.Spec PySem.Calls PyProof.Rows
section
variable {X:Cx}
def Tc (K:PySem.W.Frag):R2:=fun x y H Q => ∃ (a:Addr) (i:Int) (v:V),x = .ref a∧y = .int i∧SqL K H a [v]∧(i = 0∨i = 1)∧∀ p,H p = none→Q (.ref p) (upd H p (.lst (List.replicate i.toNat v)))
theorem Rv:DJ X (binaryOp .Mult) (Tc X.K):=by
 intro pins s σ H x y v u Q I rx ry h
 obtain ⟨a,i,e,rfl,rfl,ha,hi,q⟩:=h
 cases rx
 obtain ⟨tk,rfl⟩:=ry
 obtain ⟨its,rv,p,_⟩:=I.list ha
 obtain ⟨⟨cls,d,data,sl⟩,k,ho,hc,hdd,hd⟩:=id p
 simp only at hc hd
 subst hc hd
 obtain ⟨u1,rfl,ru⟩:=Vals.one rv
 have hf:=I.hok.fresh (Nat.le_refl s.heap.objs.size)
 refine wpAny_binaryOp_repeat_ref (T:="list") (U:="int") (by decide) ⟨_,ho,rfl⟩ (fun s' => typeIs_int s' i tk) noFill_list_mul F.fills_int_mul F.slot_int_rmul repeat_list F.slot_int_index.lookup
  (call_meets F.slot_int_rmul (typeIs_int s i tk) F.entry_int_rmul (F.args_int_rmul_2 _ _) (lm_int_rmul_list_any i tk a [u1].toArray k d sl)
   ⟨ho,rfl,⟨_,ho,rfl⟩,call_meets F.slot_list_mul ⟨_,ho,rfl⟩ F.entry_list_mul (F.args_list_mul_2 _ _)
    (lm_list_mul_any a [u1].toArray k d sl i tk (by simp [Builtin.List.listFitsIndex]; omega) (by simp; omega) (by simp [Builtin.List.listTooLong,sizeLine]; omega)) ⟨ho,?_⟩⟩)
 rcases hi with rfl | rfl
 ·exact ⟨.ref _,_,I.laid (t':=s.toks) (o:=.lst []) (fun b ob q => Heap.get?_push_of_some _ q) (Nat.le_refl _) ⟨Nat.zero_le _,[],0,.nil,Heap.get?_push_size _ rfl⟩,rfl,q _ hf⟩
 ·exact ⟨.ref _,_,I.laid (t':=s.toks) (o:=.lst [e]) (fun b ob q => Heap.get?_push_of_some _ q) (Nat.le_refl _) ⟨by show 1≤sizeLine; rw [sizeLine_eq]; decide,[u1],0,.cons ru .nil,Heap.get?_push_size _ rfl⟩,rfl,q _ hf⟩
variable {e:Expr} {te:TE} {p2 p3 p4 pos:Pos}
theorem Pe (he:PE X e te):PE X (.Subscript e (.Slice none none (some (.UnaryOp .USub (.Constant (.int 1) 0 p3) p4)) p2) pos) (fun σ H Q => te σ H fun x H1 => ∃ a v w,x = .ref a∧SqL X.K H1 a [v,w]∧∀ p,H1 p = none→Q (.ref p) (upd H1 p (.lst [w,v]))):=by
 intro pins s σ H Q I h
 refine Subscript_ (Ap (he pins s σ H _ I h) fun v s1 ⟨x,H1,I1,r1,q1⟩ => ?_)
 obtain ⟨a,v1,v2,rfl,hx,q⟩:=q1
 cases r1
 refine wpAny_Slice ?_
 rw [evalPart_none]
 refine wpAny_pure ?_
 refine wpAny_pure ?_
 rw [evalPart_some]
 refine Ap (Sx Ny IC pins s1 σ H1 (fun x H' => x = .int (-1)∧H' = H1) I1 ⟨1,rfl,rfl,rfl⟩) fun st s2 ⟨x2,H2,I2,r2,ex,eH⟩ => ?_
 subst ex eH
 obtain ⟨tk,rfl⟩:=r2
 have I4:Inv X pins σ H2 { s2 with heap:=s2.heap.push { cls:=.type "slice",data:=.fields #[.none,.none,.int (-1) tk] } }:=I2.kept (t':=s2.toks) fun b ob q => Heap.get?_push_of_some _ q
 obtain ⟨its,r,ht,hz⟩:=I4.list hx
 obtain ⟨u1,u2,rfl,g1,g2⟩:=JQ r
 show wpAny (model X.prog X.w) X.A (subscriptTail e (.Slice none none (some (.UnaryOp .USub (.Constant (.int 1) 0 p3) p4)) p2) (.ref a) (.ref s2.heap.objs.size)) (EP X pins σ Q) X.xe { s2 with heap:=s2.heap.push { cls:=.type "slice",data:=.fields #[.none,.none,.int (-1) tk] } }
 refine tail_any (ops:=[.ref a,.ref s2.heap.objs.size]) ht.isList.typeIs slot_list_getitem.lookup (wpAny_getItem_list_slice ht.isList (Heap.IsSliceOf.new ..) .none .none (.int (-1) tk) (by simp) ?_ (by show 2≤sizeLine; rw [sizeLine_eq]; decide)) (by with_unfolding_all rfl)
 have hf:=I4.hok.fresh (Nat.le_refl _)
 have e:slicePick #[u1,u2] none none (some (-1)) = #[u2,u1]:=by
  have e1:sliceRange 1 (-1) (-1) = [1,0]:=by decide +kernel
  have e2:sliceBounds none none (some (-1)) (#[u1,u2]:Array Value).size = (1,-1,-1):=by rfl
  unfold slicePick
  rw [e2]
  dsimp only
  rw [e1]
  rfl
 show EP X pins σ Q _ { s2 with heap:=(s2.heap.push { cls:=.type "slice",data:=.fields #[.none,.none,.int (-1) tk] }).push { cls:=.type "list",data:=.seq (slicePick #[u1,u2] none none (some (-1))) } }
 rw [e]
 exact ⟨.ref _,_,I4.laid (t':=s2.toks) (o:=.lst [v2,v1]) (fun b ob q => Heap.get?_push_of_some _ q) (Nat.le_refl _) ⟨by show 2≤sizeLine; rw [sizeLine_eq]; decide,[u2,u1],0,.cons g2 (.cons g1 .nil),Heap.get?_push_size _ rfl⟩,rfl,q _ hf⟩
theorem Rw {prog:Program} {w:World} {A:Around} {E:Value→Shared→Prop} {s:Shared} {l:Addr} {u1 u2:Value} {Q:List Value→Shared→Prop} (hh:A.handled = none) (hl:s.heap.IsList l #[u1,u2])
  (hQ:∀ h',Heap.ExtBut s.heap.objs.size s.heap h'→Q [u1,u2] { s with heap:=h' }):wpAny (model prog w) A (unpackItems (.ref l) 2 none) Q E s:=by
 have hlt:l≠s.heap.objs.size:=by obtain ⟨o,ho,_⟩:=hl; exact Nat.ne_of_lt (Heap.lt_size ho)
 have stay:∀ {h1 h2:Heap},Heap.ExtBut s.heap.objs.size h1 h2→h1.IsList l #[u1,u2]→h2.IsList l #[u1,u2]:=fun e ⟨o,ho,r⟩ => ⟨o,e l o hlt ho,r⟩
 unfold unpackItems
 refine wpAny_bind ?_
 unfold notIterableAtAll
 refine wpAny_bind (wpAny_specialOf hl.typeIs PySem.slot_list_iter.lookup ?_)
 refine wpAny_pure ?_
 simp only [Bool.false_eq_true,if_false]
 refine wpAny_bind (wpAny_holding (wpAny_pyIter_list hl ?_))
 have hl1:(s.heap.push { cls:=.type "list_iterator",data:=.fields #[.ref l,.int 0 0] }).IsList l #[u1,u2]:=by
  obtain ⟨o,ho,r⟩:=hl
  exact ⟨o,Heap.get?_push_of_some _ ho,r⟩
 refine wpAny_bind (wpAny_holding ?_)
 show wpAny _ _ (draw (.ref s.heap.objs.size) 2) _ _ _
 show wpAny _ _ (pyNext (.ref s.heap.objs.size) >>= _) _ _ _
 refine wpAny_bind (wpAny_pyNext_list_item (i:=0) ⟨_,Heap.get?_push_size _ rfl,rfl,rfl⟩ hl1 (x:=u1) rfl fun h1 i1 k1 => ?_)
 refine wpAny_bind (wpAny_holding ?_)
 have hl2:=stay k1.extBut hl1
 show wpAny _ _ (pyNext (.ref s.heap.objs.size) >>= _) _ _ _
 refine wpAny_bind (wpAny_pyNext_list_item (i:=1) i1 hl2 (x:=u2) rfl fun h2 i2 k2 => ?_)
 refine wpAny_bind (wpAny_holding ?_)
 have hl3:=stay k2.extBut hl2
 refine wpAny_pure (wpAny_pure (wpAny_pure ?_))
 rw [if_neg (by simp)]
 refine wpAny_bind (wpAny_holding (wpAny_pyNext_list_end hh i2 hl3 rfl fun h3 k3 => ?_))
 simp only [Option.isSome_none,Bool.false_eq_true,if_false]
 refine wpAny_pure (hQ h3 fun b o hb e => k3 b o hb (k2.extBut b o hb (k1.extBut b o hb (Heap.get?_push_of_some _ e))))
def Wq (K:PySem.W.Frag) (t:RC):TG:=fun v σ H Q => ∃ a x y,v = .ref a∧SqL K H a [x,y]∧t [x,y] σ H Q
theorem Rx {es:List Expr} {k:Nat} {t:RC} (hc:X.calm = true) (h:Vs X es t)
  (hn:(assignEach es X.env).length = 2:=by rfl) (hst:(assignEach es X.env).findIdx? (·.1) = none:=by rfl):PG X (.Tuple es k pos) (Wq X.K t):=by
 intro pins s σ H v u Q I r hw
 obtain ⟨a,x,y,e1,hq,hw⟩:=hw
 subst e1
 cases r
 obtain ⟨its,rv,ht,hz⟩:=I.list hq
 obtain ⟨u1,u2,rfl,g1,g2⟩:=JQ rv
 rw [assign_Tuple]
 refine wpAny_bind (wpAny_standAt ?_)
 unfold unpack
 rw [hn,hst]
 refine wpAny_bind (wpAny_holding (Rw (I.ok.hd hc) ht.isList fun h' hx => ?_))
 have I1:Inv X pins σ H { s with heap:=h' }:=I.kept (t':=s.toks) fun b o e => hx b o (Nat.ne_of_lt (Heap.lt_size e)) e
 exact h pins _ σ H [x,y] _ Q I1 rv hw
end
end L2
namespace L2.TL
open PySem PySem.Spec PySem.Calls PyProof.Rows
section
variable {Z:Zx} {ρ:List (Option T)} {O:AM} {e a b:Expr} {es:List Expr} {Ψ:Es} {Φ:BX} {pos p p1 pos1 p2 p3 p4:Pos} {t ta tb:T} {ts us:List T} {x:Str}
theorem EB.wt {k:Bool} {Φ:JM} (h:EB Z ρ O e k) (p:Φ k O):WT Z ρ O e Φ:=h Φ p
theorem Ry {K:PySem.W.Frag} {i:Int} (hi:i = 0∨i = 1):RP K (Tc K) (.lst [t]) (.int i) O (.lst (List.replicate i.toNat t)):=fun Φ p H v w Q ok r1 r2 q => by
 obtain ⟨a,xs,rfl,h1,_,r1⟩:=r1.lst_inv
 obtain ⟨v,rfl,g⟩:=r1.one_inv
 refine ⟨a,i,v,rfl,r2.int_inv,.inl (.inl h1),hi,fun l hl => q _ _ _ O p (.new ok hl) (.lst AG (ok.none_of hl) ?_)⟩
 rcases hi with rfl | rfl
 ·exact .nil
 ·exact .one (g.kp (BT ok hl) ok)
theorem Pf (h:ET Z ρ O e (.lst [ta,tb])):ET Z ρ O (.Subscript e (.Slice none none (some (.UnaryOp .USub (.Constant (.int 1) 0 p3) p4)) p2) pos) (.lst [tb,ta]):=fun Φ q => by
 refine PE.weak (Pe (BU (ρ:=ρ))) fun σ H Q k => ?_
 refine ⟨O,_,h (fun t O' => t = .lst [ta,tb]∧O' = O) ⟨rfl,rfl⟩,k.1,?_⟩
 rintro v H1 _ _ ⟨rfl,rfl⟩ f r
 obtain ⟨a,xs,rfl,h1,_,r1⟩:=r.lst_inv
 obtain ⟨v,w,rfl,g1,g2⟩:=r1.two_inv
 exact ⟨a,v,w,rfl,.inl (.inl h1),fun l hl => k.2 _ _ _ _ q (f.trans (.new f.ok hl)) (.lst AG (f.ok.none_of hl) (.cons (g2.kp (BT f.ok hl) f.ok) (.one (g1.kp (BT f.ok hl) f.ok))))⟩
theorem Rz (i j:Nat) {n:Nat} {y:Str} {k:Nat} (hc:Z.X.calm = true) (hN:Z.X.N.Nodup) (hni:i < n) (hnj:j < n) (hi:Z.X.N[i]? = some x:=by rfl) (hj:Z.X.N[j]? = some y:=by rfl) (hx:Qt Z.X.env.scope x:=by first | exact Or.inl rfl | exact Or.inr rfl) (hy:Qt Z.X.env.scope y:=by first | exact Or.inl rfl | exact Or.inr rfl)
  (hf:Z.X.fn x = true∨Z.X.env.scope.names.lookup x = some .local:=by first | exact .inl rfl | exact .inr rfl) (hf2:Z.X.fn y = true∨Z.X.env.scope.names.lookup y = some .local:=by first | exact .inl rfl | exact .inr rfl)
  (hs:(assignEach [.Name x p1,.Name y p2] Z.X.env).map (·.2) = assign (.Name x p1) Z.X.env :: (assignEach [.Name y p2] Z.X.env).map (·.2):=by rfl) (hs2:(assignEach [.Name y p2] Z.X.env).map (·.2) = assign (.Name y p2) Z.X.env :: (assignEach [] Z.X.env).map (·.2):=by rfl)
  (hl:(assignEach [.Name x p1,.Name y p2] Z.X.env).length = 2:=by rfl) (hst:(assignEach [.Name x p1,.Name y p2] Z.X.env).findIdx? (·.1) = none:=by rfl) :
  WG Z n ρ O (.Tuple [.Name x p1,.Name y p2] k pos) (.lst [ta,tb]) ((ρ.set i (some ta)).set j (some tb)) :=
 PG.weak (Rx hc (ED (EC hN hi hx hf) (ED (EC hN hj hy hf2) Lj hs2) hs) hl hst) fun v σ H Q q => by
  obtain ⟨q1,q2,q3⟩:=q
  obtain ⟨a,xs,rfl,h1,_,r⟩:=q2.lst_inv
  obtain ⟨v,w,rfl,r1,r2⟩:=r.two_inv
  exact ⟨a,v,w,rfl,.inl (.inl h1),v,_,rfl,w,_,rfl,rfl,q3 _ ⟨(q1.rl.set r1).set r2,q1.fr⟩ ⟨by simp,fun m hm => by rw [List.getElem?_set_ne (by omega),List.getElem?_set_ne (by omega)]⟩⟩
theorem NX {o:Expr} {apos cpos:Pos} (h:WE Z ρ O o fun t O1 => ∃ a,t = .raw (.ref a)∧(∃ ts,O1 a = some ts)∧WE Z ρ O1 e fun u O2 => ∃ ts us,u = .lst us∧O2 a = some ts∧ts.length + us.length≤sizeLine∧Φ .non (BB O2 a (ts ++ us)))
  (hbase:attributeBase o "extend" Z.X.env (eval o Z.X.env) = eval o Z.X.env:=by rfl)
  (hfew:((backTo cpos (starEach [e] Z.X.env)).all (fun x => !x.1) && (backToKw cpos (keywordEach [] Z.X.env)).all (fun x => x.1.isSome)
   && decide ([e].length + ([]:List Keyword).length + (if ([]:List Keyword).isEmpty then 0 else 1) < 30)) = true:=by rfl)
  (hline:(apos.endLine == cpos.line) = true:=by rfl) (hs:starEach [e] Z.X.env = (false,eval e Z.X.env) :: starEach [] Z.X.env:=by rfl) (hplain:(backTo cpos (starEach [] Z.X.env)).any (·.1) = false:=by rfl):WE Z ρ O (.Call (.Attribute o "extend" apos) [e] [] cpos) Φ:=by
 refine PJ PySem.F.plainAttrs_list PySem.F.slot_list_extend PySem.F.type_list_extend NB (Dc h ?_) hbase hfew hline hs hplain
 rintro t O1 ⟨a,rfl,⟨ts,hts⟩,w⟩
 refine ⟨ML hts,Dd (Dc w ?_) hs⟩
 rintro u O2 ⟨us,vs,rfl,h1,h2,p⟩
 refine BL fun H v ws Q ok r1 r2 q => ?_
 cases r1.raw_inv
 obtain ⟨w,rfl,r3⟩:=r2.one_inv
 obtain ⟨c,ys,rfl,hc,_,r3⟩:=r3.lst_inv
 obtain ⟨xs,hx,r⟩:=ok a us h1
 exact ⟨a,c,xs,ys,rfl,rfl,hx,hc,by rw [r.length,r3.length]; exact h2,q _ _ _ _ p (.put ok h1 (r.append r3)) .non⟩
def Ws (C:Addr) (t:T):Sp:=fun vs H Q _ => ∃ x,vs = [.ref x]∧Rd H x (Dk C x)∧∀ v H',Same H H'→(∀ (K:PySem.W.Frag) (O:AM),Rep K O H' v t)→Q v H'
end
section
variable {Z:Zx} {ρ:List (Option T)} {O O1 O2:AM} {c:Expr} {body ss:List Stmt} {Ψ:Es} {pos:Pos}
theorem SA (hk:∀ H,OwnOk Z.K O1 H→Kp O1 H O2 H∧OwnOk Z.K O2 H) (hf:∀ b us vs,Z.Oe b = some us→O1 b = some vs→∃ us',O2 b = some us') (h:DI Z ρ O2 ss Ψ):DI Z ρ O1 ss Ψ:=PSs.weak h fun D σ H q => by
 obtain ⟨k,ok⟩:=hk H q.1.ok
 exact ⟨⟨q.1.rl.kp k q.1.ok,⟨q.1.fr.kp.trans k,fun b us e => by
  obtain ⟨vs,e'⟩:=q.1.fr.own b us e
  exact hf b us vs e e',ok⟩⟩,q.2.step k⟩
end
section
variable {O:AM} {rs:List (Addr × List T)} {r:Addr × List T} {p q l:Addr} {us vs:List T}
def JN (O:AM) (rs:List (Addr × List T)):AM:=rs.foldl (fun O r => BB O r.1 r.2) O
theorem Ba:JN O (r :: rs) = JN (BB O r.1 r.2) rs:=rfl
theorem Pg:JN O (rs ++ [r]) = BB (JN O rs) r.1 r.2:=by unfold JN; rw [List.foldl_append]; rfl
theorem Dh (h:∀ r∈rs,r.1≠p):JN O rs p = O p:=by
 induction rs generalizing O with
 | nil => rfl
 | cons r rs ih =>
  rw [Ba,ih fun s hs => h s (List.mem_cons_of_mem _ hs),Af (fun z => h r (List.mem_cons_self ..) z.symm)]
theorem Ph (h:∀ r∈rs,r.1≠p):BB (JN O rs) p vs = JN (BB O p vs) rs:=by
 induction rs generalizing O with
 | nil => rfl
 | cons r rs ih =>
  rw [Ba,ih fun s hs => h s (List.mem_cons_of_mem _ hs),Ba,ER (h r (List.mem_cons_self ..))]
theorem Dx (hn:(rs.map Prod.fst).Nodup) (h:r∈rs):JN O rs r.1 = some r.2:=by
 induction rs generalizing O with
 | nil => cases h
 | cons s rs ih =>
  rw [List.map_cons,List.nodup_cons] at hn
  rw [Ba]
  rcases List.mem_cons.mp h with rfl | h
  ·rw [Dh fun s hs z => hn.1 (List.mem_map.mpr ⟨s,hs,z⟩),AO]
  ·exact ih hn.2 h
theorem SB {i:Nat} (hn:(rs.map Prod.fst).Nodup) (h:rs[i]? = some (p,us)):BB (JN O rs) p vs = JN O (rs.set i (p,vs)):=by
 induction rs generalizing O i with
 | nil => simp at h
 | cons s rs ih =>
  rw [List.map_cons,List.nodup_cons] at hn
  cases i with
  | zero =>
   simp at h
   subst h
   rw [List.set_cons_zero,Ba,Ba,Ph fun s hs z => hn.1 (List.mem_map.mpr ⟨s,hs,z⟩),EO]
  | succ i =>
   rw [List.set_cons_succ,Ba,Ba]
   exact ih hn.2 (by simpa using h)
theorem SC {i:Nat} (h:rs[i]? = some (p,us)):(rs.set i (p,vs)).map Prod.fst = rs.map Prod.fst:=by
 rw [List.map_set]
 apply List.ext_getElem?
 intro m
 by_cases hm:i = m
 ·subst hm
  have hl:=(List.getElem?_eq_some_iff.mp h).1
  rw [List.getElem?_set_self (by simpa using hl),List.getElem?_map,h]; rfl
 ·rw [List.getElem?_set_ne hm]
def HD (r:Addr × List T):T:=.raw (.ref r.1)
theorem Ju {K:PySem.W.Frag} {H:Hp} {O:AM}:∀ {rs:List (Addr × List T)} {xs:List V},Reps K O H xs (rs.map HD)→xs = rs.map fun r => V.ref r.1
 | [],_,h => h.nil_inv
 | r :: rs,_,h => by
  obtain ⟨v,vs',rfl,h1,h2⟩:=h.cons_inv
  cases h1.raw_inv
  rw [Ju h2]; rfl
theorem Jv {K:PySem.W.Frag} {H:Hp} {O:AM}:∀ {rs:List (Addr × List T)},(∀ r∈rs,Rep K O H (.ref r.1) (.lst r.2))→Reps K O H (rs.map fun r => V.ref r.1) (rs.map fun r => T.lst r.2)
 | [],_ => .nil
 | r :: rs,h => .cons (h r (List.mem_cons_self ..)) (Jv fun s hs => h s (List.mem_cons_of_mem _ hs))
theorem Pi {Z:Zx} {ρ:List (Option T)} {ss:List Stmt} {Ψ:Es} (hn:(rs.map Prod.fst).Nodup) (hl:∀ r∈rs,r.1≠l) (ho:∀ r∈rs,O r.1 = none) (he:∀ r∈rs,Z.Oe r.1 = none)
  (h:DI Z ρ (BB O l (rs.map fun r => T.lst r.2)) ss Ψ):DI Z ρ (BB (JN O rs) l (rs.map HD)) ss Ψ:=by
 refine SA (fun H ok => ?_) (fun b us vs e1 e2 => ?_) h
 ·have k:Kp (BB (JN O rs) l (rs.map HD)) H (BB O l (rs.map fun r => T.lst r.2)) H:=fun b o hb n => ⟨hb,by
   by_cases h1:b = l
   ·rw [h1,AO] at n; cases n
   ·rw [Af h1] at n ⊢
    by_cases h2:∃ r∈rs,r.1 = b
    ·obtain ⟨r,hr,rfl⟩:=h2
     exact ho r hr
    ·rw [Dh fun r hr z => h2 ⟨r,hr,z⟩] at n
     exact n⟩
  refine ⟨k,fun a ts e => ?_⟩
  by_cases h1:a = l
  ·subst h1
   rw [AO] at e
   cases e
   obtain ⟨xs,hx,rx⟩:=ok a _ AO
   have:=Ju rx
   subst this
   refine ⟨_,hx,Jv fun r hr => ?_⟩
   obtain ⟨ys,hy,ry⟩:=ok r.1 r.2 (by rw [Af (hl r hr)]; exact Dx hn hr)
   exact .lst hy (by rw [Af (hl r hr)]; exact ho r hr) (ry.kp k ok)
  ·rw [Af h1] at e
   have hz:∀ r∈rs,r.1≠a:=fun r hr z => by rw [← z,ho r hr] at e; cases e
   obtain ⟨xs,hx,rx⟩:=ok a ts (by rw [Af h1,Dh hz]; exact e)
   exact ⟨xs,hx,rx.kp k ok⟩
 ·by_cases h1:b = l
  ·rw [h1]; exact ⟨_,AO⟩
  ·rw [Af h1] at e2 ⊢
   by_cases h2:∃ r∈rs,r.1 = b
   ·obtain ⟨r,hr,rfl⟩:=h2
    rw [he r hr] at e1; cases e1
   ·rw [Dh fun r hr z => h2 ⟨r,hr,z⟩] at e2
    exact ⟨_,e2⟩
end
theorem NY {Z:Zx} {ρ:List (Option T)} {O:AM} {elt tg iter:Expr} {ifs:List Expr} {csc:Scope} {nc:List Str} {cap:List (Str × Nat)} {pos:Pos} {i:Nat} {x:Str} {px spos:Pos} {Ψ:Es} (hsw:swapsWith (.ListComp elt [⟨tg,iter,ifs,0⟩] csc pos) (some (.Name x px)) spos.line Z.X.env = pure true) (hN:Z.X.N.Nodup) (hc:Z.X.calm = true) (ok:LcOk Z.X csc nc cap)
  (h:WI Z ρ O tg iter (Qv Z ρ elt tg ifs csc nc cap fun acc O' => ∀ a,O' a = none→Ψ.nx (ρ.set i (some (.raw (.ref a)))) (BB O' a acc))) (hx:Z.X.N[i]? = some x:=by rfl) (hk:Z.X.env.scope.names.lookup x = some .local:=by rfl)
  (hs:∀ x,foldedSetIterable iter Z.X.env x = pure x:=by intro _; rfl):WS Z ρ O (.Assign [.Name x px] (.ListComp elt [⟨tg,iter,ifs,0⟩] csc pos) spos) Ψ :=
 PS.weak (JY hN hx hk hsw hc ok h Uq PP Ur hs) fun D σ H q => PQ q.1 h fun acc O' p H' p1 n f nb => q.2.nx _ _ _ H' (p1 p n) ⟨(q.1.step f).rl.set (.raw _),(q.1.step f).fr⟩ f.kp
section
variable {X:Cx}
end
section
variable {Z:Zx} {ρ:List (Option T)} {O:AM} {a b:Expr} {t:T} {Φ:BX} {pos:Pos} {i:Int}
end
section
variable {Z:Zx} {ρ:List (Option T)} {O:AM} {body:List Stmt} {Ψ:Es} {pos:Pos}
end
end L2.TL
namespace L2
open PySem PySem.Spec PySem.Calls PyProof.Rows Builtin.ObjectAttr
structure XfC (K:PySem.W.Frag) (C f:Addr):Prop where
 ob:∃ nm q N R sn sub ab col dd k0 k1 k2 k3 k5,K.lookup C = some (excClassObj nm q C N [.ref R] (.ref R :: Ck) true sn sub ab col dd k0 k1 k2 k3 k5 "ValueError.__new__")∧PySem.W.excIn K R Ck "ValueError.__new__" = true
 ini:PySem.W.findIn K (.ref C) "__init__" = some (some (.ref f))
 fn:PySem.W.typeIn K (.ref f) = some (.type "function")
 sa:PySem.W.findIn K (.ref C) "__setattr__" = some (some (.builtin "object.__setattr__"))
section
variable {prog:Program} {w:World} {A:Around} {E:Value→Shared→Prop} {s:Shared} {K:PySem.W.Frag} {x dx C f:Addr} {name:Str} {v:Value}
theorem XfC.cls (c:XfC K C f):∃ cd R,PySem.W.clsIn K C = some cd∧cd.hasDict = true∧cd.mro = .ref C :: .ref R :: Ck:=by
 obtain ⟨nm,q,N,R,sn,sub,ab,col,dd,k0,k1,k2,k3,k5,e,_⟩:=c.ob
 have z:PySem.W.clsIn K C = some { name:=nm,bases:=[.ref R],mro:=.ref C :: .ref R :: Ck,ns:=N,qualname:=q,hasDict:=true,slotNames:=sn,subclasses:=sub,abstract:=ab,collection:=col,hasDel:=false }:=by
  unfold PySem.W.clsIn; rw [e]
 exact ⟨_,R,z,rfl,rfl⟩
theorem LO (self:Value) (C R:Addr):refuseLoop self "__setattr__" (.ref C :: .ref R :: Ck) = pure ():=by
 rw [refuseLoop_ref,refuseLoop_ref]
 exact PySem.F.store_ValueError.passes self
theorem MS {R:Result→Shared→Prop} {ox:Obj} {od:Option Obj} {tk:Tok} (X:K.In s.heap) (I:PySem.W.InstAt s.heap x ox C od) (c:XfC K C f) (ht:PySem.W.findIn K (.ref C) name = some none)
  (h:wpAny (model prog w) A.in1 (storeInOwnDict (.ref x) (.ref C) (.str name tk) name v false) (fun fin s' => match fin with | .done f => R (.ok f) s' | .again c' => c'.quiet = true∧codeAny (model prog w) A c' R s') (fun e s' => R (.error e) s') s) :
  codeAny (model prog w) A (.call (.builtin "object.__setattr__") ⟨[.ref x,.str name tk,v],[]⟩) R s:=by
 obtain ⟨cd,Rr,hc,hd,hm⟩:=c.cls
 have z:PySem.W.mroIn K C (.type "object") = some true:=by
  unfold PySem.W.mroIn; rw [hc,Option.bind_some,hm]; rfl
 have yes:PySem.W.Looks (model prog w) s.heap (isInstance (.ref x) (.type "object")) true:=I.type.andThen (PySem.W.looks_mroIn X z)
 have ck:∀ {Q:Unit→Shared→Prop} {E':Value→Shared→Prop},Q () s→wpAny (model prog w) A.in1 (checkBuiltinCall "object.__setattr__" ⟨[.ref x,.str name tk,v],[]⟩) Q E' s:=fun {Q E'} q =>
  @PySem.W.check_slot (model prog w) A.in1 E' s "object.__setattr__" "object" "__setattr__" (.ref x) [.str name tk,v] [] Q PySem.F.store_ValueError.kind PySem.F.store_ValueError.split yes (PySem.F.store_ValueError.args (.ref x) (.str name tk) v) q
 refine codeAny_call_builtin PySem.F.store_ValueError.slot.plain PySem.F.store_ValueError.entry (ck ?_)
 have lm:PySem.W.Looks (model prog w) s.heap (mroOf (.ref C)) cd.mro:=(PySem.W.looks_clsIn X hc).andThen .now
 rw [PySem.W.osa_eq,refuse_eq]
 refine wpAny_bind (wpAny_bind (I.type.here (wpAny_bind (lm.here ?_))))
 rw [hm,LO]
 refine wpAny_pure (wpAny_bind (I.type.here (wpAny_bind ((PySem.W.looks_findIn X ht).here (wpAny_bind (wpAny_pure ?_))))))
 exact h
abbrev FW (C:Addr) (d:Option Addr) (vs:Array Value):Obj:=⟨.ref C,d,.fields vs,#[]⟩
theorem Pj {vs:Array Value} {Q:Unit→Shared→Prop} (X:K.In s.heap) (hx:s.heap.get? x = some (FW C none vs)) (c:XfC K C f) (ht:PySem.W.findIn K (.ref C) name = some none)
  (h:∀ h' d tk,s.heap.objs.size≤d→d≠x→h'.get? x = some (FW C (some d) vs)→h'.Ns1 d (fun y => if y = name then some v else none)→(∀ b o,b≠x→s.heap.get? b = some o→h'.get? b = some o)→Q () { s with heap:=h',toks:=tk }) :
  wpAny (model prog w) A (setAttr (.ref x) name v) Q E s:=by
 obtain ⟨cd,Rr,hc,hd,hm⟩:=c.cls
 have I:PySem.W.InstAt s.heap x (FW C none vs) C none:=⟨hx,rfl,rfl,trivial⟩
 refine PySem.W.set_plain X I c.sa ?_
 refine MS (s:={ s with toks:=s.toks + 1 }) X I c ht ?_
 unfold storeInOwnDict
 refine wpAny_bind (wpAny_pure ?_)
 rw [if_neg (show ¬ (Value.ref C == Value.type "module") = true from by simp)]
 refine wpAny_bind ?_
 show wpAny _ _ (instanceDict x true) _ _ _
 unfold instanceDict
 refine wpAny_bind (wpAny_loadPart hx ?_)
 refine wpAny_bind (PySem.W.Looks.here (s:={ s with toks:=s.toks + 1 }) (PySem.W.looks_clsIn X hc) ?_)
 rw [hd,if_neg (by decide)]
 have hx1:(s.heap.push { cls:=.type "dict",data:=.dict #[] }).get? x = some (FW C none vs):=Heap.get?_push_of_some _ hx
 have ne:s.heap.objs.size≠x:=Nat.ne_of_gt (Heap.lt_size hx)
 dsimp only
 rw [if_neg (by simp [typeHasDict])]
 refine wpAny_bind (wpAny_alloc (wpAny_bind (wpAny_update hx1 (wpAny_pure (a:=some s.heap.objs.size) ?_))))
 have hd1:((s.heap.push { cls:=.type "dict",data:=.dict #[] }).update x fun o => { o with dict:=some s.heap.objs.size }).get? s.heap.objs.size = some { cls:=.type "dict",data:=.dict #[] } :=
  (Heap.get?_update_other _ _ ne.symm).trans (Heap.get?_push_size _ rfl)
 have hx2:((s.heap.push { cls:=.type "dict",data:=.dict #[] }).update x fun o => { o with dict:=some s.heap.objs.size }).get? x = some (FW C (some s.heap.objs.size) vs):=Heap.get?_update_self _ hx1 rfl
 show wpAny _ _ (storeInDict s.heap.objs.size (.str name s.toks) name v) _ _ _
 unfold storeInDict newKeyGuard
 refine wpAny_bind (wpAny_pure (wpAny_bind (wpAny_nsSet1 (Heap.Ns1.of_empty ⟨_,#[],_,hd1,rfl,fun e he => absurd he (by simp),fun _ => rfl⟩) fun h' n' sb => ?_)))
 obtain ⟨oD,esD,epD,hoD,hdD,hcD⟩:=n'.count (Within.cons name v Within.nil)
 refine wpAny_bind (wpAny_lookBehind hoD (by rw [hdD]; exact pastItsLine_dict (Nat.le_trans hcD (by rw [List.length_cons,List.length_nil,sizeLine_eq]; omega))) ?_)
 refine wpAny_pure (h h' s.heap.objs.size _ (Nat.le_refl _) ne ((sb.2 x ne.symm).trans hx2) n' fun b o hb e => ?_)
 have hbs:b≠s.heap.objs.size:=Nat.ne_of_lt (Heap.lt_size e)
 exact (sb.2 b hbs).trans ((Heap.get?_update_other _ _ (Ne.symm hb)).trans (Heap.get?_push_of_some _ e))
theorem Pk {vs:Array Value} {mA:Str→Option Value} {ns:List Str} {Q:Unit→Shared→Prop} (X:K.In s.heap) (hx:s.heap.get? x = some (FW C (some dx) vs)) (hn:s.heap.Ns1 dx mA) (hw:PySem.Within mA ns) (hz:ns.length≤sizeLine) (c:XfC K C f) (ht:PySem.W.findIn K (.ref C) name = some none)
  (h:∀ h' tk,h'.Ns1 dx (fun y => if y = name then some v else mA y)→(∀ b,b≠dx→h'.get? b = s.heap.get? b)→Q () { s with heap:=h',toks:=tk }) :
  wpAny (model prog w) A (setAttr (.ref x) name v) Q E s:=by
 obtain ⟨cd,Rr,hc,hd,hm⟩:=c.cls
 obtain ⟨od,_,_,hod,_⟩:=id hn
 have I:PySem.W.InstAt s.heap x (FW C (some dx) vs) C (some od):=⟨hx,rfl,rfl,hod⟩
 refine PySem.W.set_plain X I c.sa ?_
 refine MS (s:={ s with toks:=s.toks + 1 }) X I c ht ?_
 unfold storeInOwnDict
 refine wpAny_bind (wpAny_pure ?_)
 rw [if_neg (show ¬ (Value.ref C == Value.type "module") = true from by simp)]
 refine wpAny_bind ?_
 show wpAny _ _ (instanceDict x true) _ _ _
 unfold instanceDict
 refine wpAny_bind (wpAny_loadPart hx ?_)
 refine wpAny_bind (PySem.W.Looks.here (s:={ s with toks:=s.toks + 1 }) (PySem.W.looks_clsIn X hc) ?_)
 rw [hd,if_neg (by decide)]
 refine wpAny_pure (a:=some dx) ?_
 show wpAny _ _ (storeInDict dx (.str name s.toks) name v) _ _ _
 unfold storeInDict newKeyGuard
 refine wpAny_bind (wpAny_pure (wpAny_bind (wpAny_nsSet1 (s:={ s with toks:=s.toks + 1 }) hn fun h' n' sb => ?_)))
 obtain ⟨oD,esD,epD,hoD,hdD,hcD⟩:=n'.count (Within.cons name v hw)
 refine wpAny_bind (wpAny_lookBehind hoD (by rw [hdD]; exact pastItsLine_dict (Nat.le_trans hcD (by rw [List.length_cons]; omega))) ?_)
 exact wpAny_pure (h h' _ n' sb.2)
end
section
variable {prog:Program} {w:World} {A:Around} {E:Value→Shared→Prop} {s:Shared} {K:PySem.W.Frag} {x dx C f:Addr} {name:Str} {v:Value}
theorem SD {ox:Obj} {mA:Str→Option Value} {b:Bool} {Q:Value→Shared→Prop} (X:K.In s.heap) (k:ExcCls K C) (hx:s.heap.get? x = some ox) (hc:ox.cls = .ref C) (hno:PySem.W.notCls ox = true) (hd:ox.dict = some dx) (hn:s.heap.Ns1 dx mA) (hh:PySem.W.hasDictIn K C = true)
  (ha:PySem.W.findIn K (.ref C) name = some none) (hv:mA name = some v) (hv':PySem.W.handedIn v = true) (h:Q v { s with toks:=s.toks + 1 }):wpAny (model prog w) A (getAttr (.ref x) name b) Q E s:=by
 obtain ⟨od,hod,hl⟩:=HJ hn
 have J:PySem.W.InstAt s.heap x ox C (some od):=⟨hx,hc,hno,by rw [hd]; exact hod⟩
 have L4:=PySem.W.looks_find (M:=model prog w) X J (PySem.W.findObj_own hh ha rfl (by rw [hl,hv]))
 have L0:=J.type (M:=model prog w)
 have L1:=PySem.W.looks_findIn (M:=model prog w) X k.ga
 have L2:=PySem.W.looks_findIn (M:=model prog w) X k.gn
 have L3:=PySem.W.looks_mroIn (M:=model prog w) X k.be
 obtain ⟨hp,g,d,t,os⟩:=s
 have hb:bindSpecial (.builtin "BaseException.__getattribute__") (.ref x) = pure (.builtin "BaseException.__getattribute__",[.ref x]):=PySem.F.excAttr_ValueError.ga.bind _
 have e1:builtinKind "BaseException.__getattribute__" = some .slot:=by decide +kernel
 have e2:splitId "BaseException.__getattribute__" = some ("BaseException","__getattribute__"):=by decide +kernel
 have e3:(Value.builtin "BaseException.__getattribute__" == Value.builtin "object.__getattribute__") = false:=by decide +kernel
 unfold getAttr getAttrBy
 refine wpAny_bind (wpAny_mkText (wpAny_holding (wpAny_bind (L0.at (wpAny_bind (L1.at ?_))))))
 dsimp only
 rw [e3,Bool.and_false,if_neg Bool.false_ne_true]
 unfold getAttrByItsOwn hookBefore
 refine wpAny_bind (L2.at ?_)
 refine wpAny_bind (wpAny_attempt (wpAny_holding ?_))
 unfold callGetattribute
 rw [show onTheHeap (.builtin "BaseException.__getattribute__") = false from rfl,Bool.and_false,if_neg Bool.false_ne_true]
 unfold boundAndCalled
 rw [hb]
 show wpAny _ _ (call (.builtin "BaseException.__getattribute__") [.ref x,.str name t]) _ _ _
 refine wpAny_call (codeAny_call_builtin PySem.F.excAttr_ValueError.ga.plain PySem.F.entry_bexc_ga ?_)
 have e4:=PySem.F.args_bexc_ga (.ref x) (.str name t)
 simp only [checkBuiltinCall,e1,e2]
 refine wpAny_bind ?_
 unfold isInstance
 refine wpAny_bind (L0.at (L3.at ?_))
 rw [if_neg (by decide)]
 refine wpAny_of_eq e4 ?_
 show wpAny _ _ (typeOf (.ref x) >>= fun tp => Builtin.ObjectAttr.find (.ref x) tp name >>= _) _ _ _
 refine wpAny_bind (L0.at (wpAny_bind (L4.at (wpAny_pure ?_))))
 show wpAny _ _ (handedOut v) _ _ _
 rw [PySem.W.handedOut_of hv']
 exact wpAny_pure h
end
section
variable {prog:Program} {w:World} {A:Around} {E:Value→Shared→Prop} {s:Shared} {K:PySem.W.Frag} {C f:Addr}
theorem XfC.own (c:XfC K C f) {h:Heap} (X:K.In h):∃ nm q N R sn sub ab col dd k0 k1 k2 k3 k5,h.get? C = some (excClassObj nm q C N [.ref R] (.ref R :: Ck) true sn sub ab col dd k0 k1 k2 k3 k5 "ValueError.__new__")∧OwnTail h Ck (.ref R :: Ck):=by
 obtain ⟨nm,q,N,R,sn,sub,ab,col,dd,k0,k1,k2,k3,k5,e,r⟩:=c.ob
 obtain ⟨bm,N',nm',qn',bs',hd',sn',sub',ab',col',dd',j0,j1,j2,j3,j5,mN,hC,hN,hni,T⟩:=Lx X r
 exact ⟨nm,q,N,R,sn,sub,ab,col,dd,k0,k1,k2,k3,k5,X _ _ e,.own hC hN hni .base⟩
theorem SE {us:List Value} {Q:Value→Shared→Prop} (X:K.In s.heap) (c:XfC K C f) (hl:us.length≤sizeLine)
  (h:codeAny (model prog w) (A.under (.builtin "type.__call__" ⟨.ref C :: us,[]⟩)) (.call (.ref f) ⟨.ref (s.heap.objs.size + 1) :: us,[]⟩)
   (fun r s' => match r with | .ok (.ret u) => u = .none∧Q (.ref (s.heap.objs.size + 1)) s' | .ok _ => False | .error e => E e s')
   { s with heap:=(s.heap.push { cls:=.type "tuple",data:=.seq us.toArray }).push (FW C none #[.ref s.heap.objs.size,.none,.none,.none,.bool false,.none]) }) :
  wpAny (model prog w) A (call (.ref C) us) Q E s:=by
 obtain ⟨nm,q,N,R,sn,sub,ab,col,dd,k0,k1,k2,k3,k5,hC,T⟩:=c.own X
 have F:=PySem.F.excBase_ValueError
 obtain ⟨hp,g,d,t,os⟩:=s
 have f1:=tc_lookup
 have f2:=tc_bind (.ref C)
 have hT:(⟨hp,g,d,t,os⟩:Shared).TypeIs (.ref C) "type":=⟨_,hC,rfl⟩
 refine wpAny_call (codeAny_of_tree ?_)
 show wpAny _ _ (callAny (.ref C) _) _ _ _
 repeat (any_goals (first | assumption | (with_reducible refine wpAny_loadPart_at hC ?_) | wp_step))
 refine ⟨rfl,?_⟩
 refine codeAny_call_builtin_at (Code.quiet_builtin _ (by decide +kernel)) entry_typeCall (wpAny_check_type_call_sub hC ?_)
 repeat (first | (with_reducible refine wpAny_loadPart_at hC ?_) | (with_reducible refine wpAny_madeBy_exc hC ?_) | wp_step)
 refine codeAny_call_builtin_code (Code.quiet_builtin _ F.quiet) (wpAny_check_new_subT F T hC ?_)
 refine codeAny_exc_new_subT F T hC ?_ hl
 have kp:∀ b o,hp.get? b = some o→((hp.push { cls:=.type "tuple",data:=.seq us.toArray }).push (FW C none #[.ref hp.objs.size,.none,.none,.none,.bool false,.none])).get? b = some o:=fun b o e => Heap.get?_push_of_some _ (Heap.get?_push_of_some _ e)
 have X2:K.In ((hp.push { cls:=.type "tuple",data:=.seq us.toArray }).push (FW C none #[.ref hp.objs.size,.none,.none,.none,.bool false,.none])):=X.keeps kp
 have hx:((hp.push { cls:=.type "tuple",data:=.seq us.toArray }).push (FW C none #[.ref hp.objs.size,.none,.none,.none,.bool false,.none])).get? (hp.objs.size + 1) = some (FW C none #[.ref hp.objs.size,.none,.none,.none,.bool false,.none]):=by
  have z:=Heap.get?_push_size (hp.push { cls:=.type "tuple",data:=.seq us.toArray }) (o:=FW C none #[.ref hp.objs.size,.none,.none,.none,.bool false,.none]) rfl
  rw [Heap.size_push] at z
  exact z
 have I2:PySem.W.InstAt ((hp.push { cls:=.type "tuple",data:=.seq us.toArray }).push (FW C none #[.ref hp.objs.size,.none,.none,.none,.bool false,.none])) (hp.objs.size + 1) (FW C none #[.ref hp.objs.size,.none,.none,.none,.bool false,.none]) C none:=⟨hx,rfl,rfl,trivial⟩
 show wpAny _ _ (isInstance (.ref (hp.objs.size + 1)) (.ref C) >>= _) _ _ _
 refine wpAny_bind ?_
 unfold isInstance
 refine wpAny_bind (I2.type.at ?_)
 refine wpAny_isSubtype_exc (kp _ _ hC) ?_
 rw [show (Value.ref C :: .ref R :: Ck).contains (.ref C) = true from by simp,Bool.not_true,if_neg Bool.false_ne_true]
 refine wpAny_bind (wpAny_holding ?_)
 refine PySem.W.special_fn X2 I2 c.ini c.fn ?_
 refine wpAny_call (codeAny_mono h fun r s' z => ?_)
 cases r with
 | error e => exact z
 | ok fl =>
  cases fl with
  | ret u =>
   obtain ⟨rfl,z⟩:=z
   exact wpAny_pure z
  | next => exact z.elim
  | brk => exact z.elim
  | cont => exact z.elim
end
def Yn (C x:Addr) (d:Option Addr) (vs:Array Value) (h:Heap):Prop:=h.get? x = some (FW C d vs)
def Fe (C x:Addr) (d:Option Addr) (vs:Array Value):HO:=.ext (Yn C x d vs)
abbrev Gv (t:Addr):Array Value:=#[.ref t,.none,.none,.none,.bool false,.none]
theorem Pl {P:Program} {w:World} {H:Hp} {h:Heap} {C x:Addr} {d:Option Addr} {vs:Array Value} (e:h.get? x = some (FW C d vs)):ObjOk P w H h x (Fe C x d vs):=⟨e,⟨_,e⟩,fun _ _ q k => k _ q⟩
section
variable {X:Cx} {pins:List (Addr × Obj)} {σ:St} {H:Hp} {s:Shared}
theorem Inv.untrack {x:Addr} {o:HO} {φ:Heap→Prop} (I:Inv X pins σ (upd H x o) s) (hx:H x = none) (ho:o = .ext φ) (hs0:X.s₀.heap.get? x = none):Inv X pins σ H s:=by
 subst ho
 have ne:∀ b u,(upd H x (.ext φ)) b = some u→(∀ z,u≠.ext z)→b≠x∧H b = some u:=fun b u e z => by
  have n:b≠x:=fun q => by rw [q,AG] at e; exact z φ (Option.some.inj e).symm
  exact ⟨n,by rw [AI n] at e; exact e⟩
 have nn:∀ b,(upd H x (.ext φ)) b = none→H b = none:=fun b e => by
  have n:b≠x:=fun q => by rw [q,AG] at e; cases e
  rw [AI n] at e; exact e
 refine ⟨I.ok,I.os,I.bare,⟨I.base.keep,I.base.slot,fun b o e n hb => nn b (I.base.free b o e n hb),I.base.there,fun b xs e => (ne b _ (I.base.tups b xs e) (fun _ z => nomatch z)).2,fun b o u e => (ne b _ (I.base.frzs b o u e) (fun _ z => nomatch z)).2,fun b ps e => ?_⟩,I.loc,I.cell,nn _ I.free,fun y c e => nn _ (I.freeC y c e),fun p hp => ?_,fun b u e => ?_,I.len⟩
 ·obtain ⟨m,q⟩:=I.base.tbls b ps e
  exact ⟨m,(ne b _ q fun _ z => nomatch z).2⟩
 ·obtain ⟨a,b,r⟩:=I.pin p hp
  exact ⟨a,nn _ b,r⟩
 ·have n:b≠x:=fun q => by rw [q,hx] at e; cases e
  exact (I.hok b u (by rw [AI n]; exact e)).stay (fun _ _ _ q => q) (fun c q => (ne c _ q fun _ z => nomatch z).2) fun c xs q => (ne c _ q fun _ z => nomatch z).2
theorem Inv.dicted {C x d:Addr} {vs:Array Value} {fs:List (Str × V)} {h':Heap} {t':Nat} (I:Inv X pins σ H s) (hx:H x = some (Fe C x none vs)) (hd:s.heap.objs.size≤d) (dn:d≠x) (e1:h'.get? x = some (FW C (some d) vs)) (e2:RZ d fs h') (k:∀ b o,b≠x→s.heap.get? b = some o→h'.get? b = some o) :
  Inv X pins σ (upd (upd H x (Fe C x (some d) vs)) d (Eo d fs)) { s with heap:=h',toks:=t' }:=by
 have hdn:H d = none:=I.hok.fresh hd
 have nx:∀ b u,H b = some u→(∀ z,u≠.ext z)→b≠x∧b≠d:=fun b u e z => ⟨fun q => by rw [q,hx] at e; exact z _ (Option.some.inj e).symm,fun q => by rw [q,hdn] at e; cases e⟩
 have st:∀ b u,H b = some u→(∀ z,u≠.ext z)→upd (upd H x (Fe C x (some d) vs)) d (Eo d fs) b = some u:=fun b u e z => by rw [AI (nx b u e z).2,AI (nx b u e z).1]; exact e
 refine I.un ⟨fun b o e n _ _ => k b o (fun q => by rw [q,hx] at n; cases n) e,fun b o e n _ _ => ⟨o.slots,k b o (fun q => by rw [q,hx] at n; cases n) e⟩,fun b o e n _ => ?_,fun b o e _ => ?_,fun b xs e => st b _ e (fun _ z => nomatch z),fun b o u e => st b _ e (fun _ z => nomatch z),fun b ps e => ⟨#[],by rw [st b _ e fun _ z => nomatch z]; simp⟩⟩ ?_
 ·rw [AI (Nat.ne_of_lt (Nat.lt_of_lt_of_le (Heap.lt_size e) hd)),AI (fun q => by rw [q,hx] at n; cases n)]
  exact n
 ·by_cases q:b = x
  ·exact ⟨_,by rw [q]; exact e1⟩
  ·exact ⟨o,k b o q e⟩
 ·intro b u e
  by_cases q:b = d
  ·rw [q,AG] at e; cases e
   rw [q]; exact OQ e2
  ·rw [AI q] at e
   by_cases q2:b = x
   ·rw [q2,AG] at e; cases e
    rw [q2]; exact Pl e1
   ·rw [AI q2] at e
    refine (I.hok b u e).stay (fun c v hc z => k c v ?_ z) (fun c z => st c _ z fun _ z => nomatch z) fun c xs z => st c _ z fun _ z => nomatch z
    rintro rfl
    rcases hc with rfl | hc
    ·exact q2 rfl
    ·rw [hx] at hc; cases hc
theorem Inv.dictMore {d:Addr} {fs fs':List (Str × V)} {h':Heap} {t':Nat} (I:Inv X pins σ H s) (hd:H d = some (Eo d fs)) (e:RZ d fs' h') (k:∀ b,b≠d→h'.get? b = s.heap.get? b):Inv X pins σ (upd H d (Eo d fs')) { s with heap:=h',toks:=t' } :=
 I.write (x:=d) (e:=d) (by rw [hd]; exact True.intro) (.inl rfl) (fun b u hb q => (k b hb).trans q) (let ⟨_,⟨o,_,_,z,_⟩,_⟩:=e; ⟨o,z⟩) (OQ e)
end
section
variable {X:Cx} {o value:Expr} {n:Str} {pos pos':Pos} {ta tv:TE}
def Yo (K:PySem.W.Frag) (ta tv:TE) (n:Str):TS:=fun D σ H => tv σ H fun y H1 => ta σ H1 fun u H2 => ∃ x C f vs,u = .ref x∧H2 x = some (Fe C x none vs)∧XfC K C f∧PySem.W.findIn K (.ref C) n = some none∧∀ d,H2 d = none→d≠x→D.nx σ (upd (upd H2 x (Fe C x (some d) vs)) d (Eo d [(n,y)]))
theorem VB (ha:PE X o ta) (hv:PE X value tv) (hs:swapsWith value (some (.Attribute o n pos')) pos.line X.env = pure false):PS X (.Assign [.Attribute o n pos'] value pos) (Yo X.K ta tv n):=by
 intro pins s σ H D I h
 refine plainObj_wpAny_Assign_Attribute (Ap (hv pins s σ H _ I h) fun u s1 ⟨y,H1,I1,ry,q⟩ => Ap (ha pins s1 σ H1 _ I1 q) fun ov s2 ⟨z,H2,I2,rz,x,C,f,vs,ex,hx,c,hn,q2⟩ => ?_) hs
 subst ex
 obtain rfl:ov = Value.ref x:=rz
 obtain ⟨e,_,_⟩:=(show ObjOk X.prog X.w H2 s2.heap x (Fe C x none vs) from I2.hok x _ hx)
 refine Pj I2.kIn e c hn fun h' d tk hd dn e1 e2 k => ⟨σ,_,I2.dicted hx hd dn e1 ⟨_,e2,fun g => ?_,fun g hg => ?_⟩ k,q2 d (I2.hok.fresh hd) dn⟩
 ·show RelO (List.lookup g [(n,y)]) (if g = n then some u else none)
  by_cases q:g = n
  ·rw [if_pos q,q]
   simp only [List.lookup,beq_self_eq_true]
   exact ry
  ·rw [if_neg q]
   have b:(g == n) = false:=beq_eq_false_iff_ne.mpr q
   simp only [List.lookup,b]
   trivial
 ·by_cases q:g = n
  ·rw [q]; simp
  ·exact absurd (if_neg q) hg
def Yp (K:PySem.W.Frag) (ta tv:TE) (n:Str):TS:=fun D σ H => tv σ H fun y H1 => ta σ H1 fun u H2 => ∃ x C f vs dx fs,u = .ref x∧H2 x = some (Fe C x (some dx) vs)∧H2 dx = some (Eo dx fs)∧fs.length < 100∧XfC K C f∧PySem.W.findIn K (.ref C) n = some none∧D.nx σ (upd H2 dx (Eo dx (Fs n y fs)))
theorem VC (ha:PE X o ta) (hv:PE X value tv) (hs:swapsWith value (some (.Attribute o n pos')) pos.line X.env = pure false):PS X (.Assign [.Attribute o n pos'] value pos) (Yp X.K ta tv n):=by
 intro pins s σ H D I h
 refine plainObj_wpAny_Assign_Attribute (Ap (hv pins s σ H _ I h) fun u s1 ⟨y,H1,I1,ry,q⟩ => Ap (ha pins s1 σ H1 _ I1 q) fun ov s2 ⟨z,H2,I2,rz,x,C,f,vs,dx,fs,ex,hx,hdx,hl,c,hn,q2⟩ => ?_) hs
 subst ex
 obtain rfl:ov = Value.ref x:=rz
 obtain ⟨e,_,_⟩:=(show ObjOk X.prog X.w H2 s2.heap x (Fe C x (some dx) vs) from I2.hok x _ hx)
 obtain ⟨⟨mA,n1,r,wi⟩,_,_⟩:=(show ObjOk X.prog X.w H2 s2.heap dx (Eo dx fs) from I2.hok dx _ hdx)
 refine Pk I2.kIn e n1 wi (by rw [List.length_map,sizeLine_eq]; omega) c hn fun h' tk e2 k => ⟨σ,_,I2.dictMore hdx ⟨_,e2,fun g => ?_,fun g hg => ?_⟩ k,q2⟩
 ·rw [FN]
  by_cases q:g = n
  ·rw [if_pos q,if_pos q]; exact ry
  ·rw [if_neg q,if_neg q]; exact r g
 ·by_cases q:g = n
  ·rw [q]; exact (El n y fs).1
  ·refine (El n y fs).2 g (wi g fun z => hg ?_)
   show (if g = n then some u else mA g) = none
   rw [if_neg q]; exact z
end
def Pm (C:Addr) (ns:List Str):Sp:=fun vs H Q _ => ∃ (x t:Addr) (is:List Int),vs = .ref x :: is.map V.int∧is.length = ns.length∧H x = some (Fe C x none (Gv t))∧∀ d,H d = none→d≠x→Q .non (upd (upd H x (Fe C x (some d) (Gv t))) d (Eo d (ns.zip (is.map V.int))))
theorem LP {M:Model} {A:Around} {E:Value→Shared→Prop} {env:Env} {s:Shared} {x:Sem Value} {Q:Flow→Shared→Prop} {K:PySem.W.Frag} {C f:Addr} (c:XfC K C f) (hh:A.handled = none)
  (h:wpAny M A x (fun v s1 => ∃ e t d,v = .ref e∧K.In s1.heap∧s1.heap.get? e = some (FW C d (Gv t))∧E (.ref e) s1) E s):wpAny M A (raiseStmt env (some x) none) Q E s:=by
 unfold raiseStmt
 refine wpAny_bind (wpAny_mono h (fun v s1 h1 => ?_) fun _ _ z => z)
 obtain ⟨e,t,dd,rfl,X,he,hE⟩:=h1
 obtain ⟨nm,q,N,R,sn,sub,ab,col,dd',k0,k1,k2,k3,k5,hC,T⟩:=c.own X
 obtain ⟨hp,g,d,tk,os⟩:=s1
 have hcB:(Value.ref C :: .ref R :: Ck).contains (.type "BaseException") = true:=by simp
 repeat (first | (with_reducible refine wpAny_loadPart_at he ?_) | (with_reducible refine wpAny_loadPart_at hC ?_) | ((with_reducible refine wpAny_isSubtype_exc hC ?_); rw [hcB]) | wp_step)
 exact wpAny_raiseNew_none hh hE
theorem NZ {X:Cx} {W:St→XK} {x:Str} {C f:Addr} {fd:FuncData} {ps ns:List Str} {k:Nat} {np cpos pos:Pos} {e:Expr} {es:List Expr} {t:TA} (xo:XOk X W) (hc:X.calm = true) (c:XfC X.K C f) (hkp:PySem.W.keepIn X.K (.ref C) = true)
  (F:FnOk X.prog X.w X.K X.mg X.base (CXe X.prog X.w) k f fd ps (Pm C ns)) (hr:Room (k + 1) X.A) (hb:Binds X.K fd ps []) (hl:ns.length≤10) (hg:Gl X x) (hm:X.mg x = some (.ref C)) (ha:PA X (e :: es) t)
  (hdb:(x == ("__debug__" : Str)) = false:=by decide) (he:starEach (e :: es) X.env = (false,eval e X.env) :: starEach es X.env:=by rfl) (hpl:(backTo cpos (starEach es X.env)).any (·.1) = false:=by rfl) :
  PS X (.Raise (some (.Call (.Name x np) (e :: es) [] cpos)) none pos) (fun D σ H => t σ H fun vs H1 => ∃ (is:List Int) (fs:Str),vs = is.map V.int∧is.length = ns.length∧TH fs = ns.zip (is.map V.int)∧∀ d,H1 d = none→W σ (.str fs C) none (upd H1 d (Eo d (TH fs)))):=by
 intro pins s σ H D I h
 rw [arm_exec_Raise]
 refine wpAny_bind (wpAny_standAt (LP c (I.ok.hd hc) (wpAny_bind (Ap (Q:=fun v s1 => ∃ e t d,v = .ref e∧X.K.In s1.heap∧s1.heap.get? e = some (FW C d (Gv t))∧X.xe (.ref e) s1) ?_ fun v s3 q3 => wpAny_bind (wpAny_standAt (wpAny_pure q3))))))
 refine wpAny_Call_Name_kw (DX I hg hm ?_ hdb)
 refine PySem.W.callWith_K (h₀:=X.base) I.ok.mod.kin hkp (Ap (ha cpos pins s σ H _ I h) fun us s1 ⟨vs,H1,I1,r,is,fs,ev,el,ef,q⟩ => ⟨I1.kIn,?_⟩) he hpl
 subst ev
 have lu:us.length = ns.length:=by rw [← r.length,List.length_map]; exact el
 have hx0:H1 (s1.heap.objs.size + 1) = none:=I1.hok.fresh (Nat.le_succ _)
 have kp:∀ b o,s1.heap.get? b = some o→((s1.heap.push { cls:=.type "tuple",data:=.seq us.toArray }).push (FW C none (Gv s1.heap.objs.size))).get? b = some o:=fun b o z => Heap.get?_push_of_some _ (Heap.get?_push_of_some _ z)
 have gx:((s1.heap.push { cls:=.type "tuple",data:=.seq us.toArray }).push (FW C none (Gv s1.heap.objs.size))).get? (s1.heap.objs.size + 1) = some (FW C none (Gv s1.heap.objs.size)):=by
  have z:=Heap.get?_push_size (s1.heap.push { cls:=.type "tuple",data:=.seq us.toArray }) (o:=FW C none (Gv s1.heap.objs.size)) rfl
  rw [Heap.size_push] at z
  exact z
 have I2:Inv X pins σ (upd H1 (s1.heap.objs.size + 1) (Fe C (s1.heap.objs.size + 1) none (Gv s1.heap.objs.size))) { s1 with heap:=(s1.heap.push { cls:=.type "tuple",data:=.seq us.toArray }).push (FW C none (Gv s1.heap.objs.size)) } :=
  I1.laid (t':=s1.toks) kp (Nat.le_succ _) (Pl gx)
 have r2:Vals (V.ref (s1.heap.objs.size + 1) :: is.map V.int) (Value.ref (s1.heap.objs.size + 1) :: us):=.cons rfl r
 have hsp:Pm C ns (V.ref (s1.heap.objs.size + 1) :: is.map V.int) (upd H1 (s1.heap.objs.size + 1) (Fe C (s1.heap.objs.size + 1) none (Gv s1.heap.objs.size))) (fun v H' => v = .non∧∃ d,H1 d = none∧d≠s1.heap.objs.size + 1∧H' = upd (upd H1 (s1.heap.objs.size + 1) (Fe C (s1.heap.objs.size + 1) (some d) (Gv s1.heap.objs.size))) d (Eo d (ns.zip (is.map V.int)))) E0:=by
  refine ⟨_,_,is,rfl,el,AG,fun d hd dn => ⟨rfl,d,?_,dn,?_⟩⟩
  ·rw [AI dn] at hd; exact hd
  ·rw [Lh]
 have hlp:(Value.ref (s1.heap.objs.size + 1) :: us ++ []).length = ps.length:=by
  have z:=F.len _ _ _ _ hsp
  rw [List.append_nil,← z,List.length_cons,List.length_cons,List.length_map,lu,el]
 show wpAny _ _ (call (.ref C) us) _ _ _
 refine SE I1.kIn c (by rw [lu,sizeLine_eq]; omega) ?_
 refine codeAny_mono (F.run _ X.stack _ _ ⟨Value.ref (s1.heap.objs.size + 1) :: us,[]⟩ (Value.ref (s1.heap.objs.size + 1) :: us) _ _ E0 (hr.make C us []) (I2.env0.make C us []) (by
  have z:=hb _ (Value.ref (s1.heap.objs.size + 1) :: us) I2.kIn hlp
  rw [List.append_nil] at z; exact z) r2 hsp) fun r' s' hq' => ?_
 cases r' with
 | error e => exact (CXe.never hq').elim
 | ok fl =>
  cases fl with
  | ret u =>
   obtain ⟨v,H',I3,rv,ev,d,hd,dn,eH⟩:=I2.after hq'
   subst ev eH
   refine ⟨rv,_,s1.heap.objs.size,some d,rfl,I3.kIn,?_,?_⟩
   ·have z:upd (upd H1 (s1.heap.objs.size + 1) (Fe C (s1.heap.objs.size + 1) (some d) (Gv s1.heap.objs.size))) d (Eo d (ns.zip (is.map V.int))) (s1.heap.objs.size + 1) = some (Fe C (s1.heap.objs.size + 1) (some d) (Gv s1.heap.objs.size)):=by rw [AI (Ne.symm dn),AG]
    obtain ⟨z,_,_⟩:=(show ObjOk X.prog X.w _ s'.heap _ (Fe C (s1.heap.objs.size + 1) (some d) (Gv s1.heap.objs.size)) from I3.hok _ _ z)
    exact z
   ·have hs0:X.s₀.heap.get? (s1.heap.objs.size + 1) = none:=Heap.get?_none_of_le (Nat.le_trans I1.sz (Nat.le_succ _))
    have ec:upd (upd H1 (s1.heap.objs.size + 1) (Fe C (s1.heap.objs.size + 1) (some d) (Gv s1.heap.objs.size))) d (Eo d (ns.zip (is.map V.int))) = upd (upd H1 d (Eo d (ns.zip (is.map V.int)))) (s1.heap.objs.size + 1) (Fe C (s1.heap.objs.size + 1) (some d) (Gv s1.heap.objs.size)):=by
     funext b
     unfold upd
     by_cases q1:b = d
     ·rw [if_pos q1,if_neg (fun z => dn (q1.symm.trans z)),if_pos q1]
     ·rw [if_neg q1,if_neg q1]
    have z:upd (upd H1 (s1.heap.objs.size + 1) (Fe C (s1.heap.objs.size + 1) (some d) (Gv s1.heap.objs.size))) d (Eo d (ns.zip (is.map V.int))) (s1.heap.objs.size + 1) = some (Fe C (s1.heap.objs.size + 1) (some d) (Gv s1.heap.objs.size)):=by rw [AI (Ne.symm dn),AG]
    obtain ⟨gx',_,_⟩:=(show ObjOk X.prog X.w _ s'.heap _ (Fe C (s1.heap.objs.size + 1) (some d) (Gv s1.heap.objs.size)) from I3.hok _ _ z)
    rw [ec] at I3
    have hx1:upd H1 d (Eo d (ns.zip (is.map V.int))) (s1.heap.objs.size + 1) = none:=by rw [AI (Ne.symm dn)]; exact hx0
    have I4:=I3.untrack hx1 rfl hs0
    rw [← ef] at I4 hx1
    exact xo.madeF pins σ _ s' _ C _ d fs I4 hx1 hs0 gx' AG (q d hd)
  | next => exact False.elim hq'
  | brk => exact False.elim hq'
  | cont => exact False.elim hq'
end L2
namespace L2.TL
open PySem PySem.Spec PySem.Calls PyProof.Rows
structure XCl (P:Program) (w:World) (K:PySem.W.Frag) (mg:Str→Option Value) (base:Heap) (x:Str) (C f:Addr) (ns:List Str):Prop where
 c:XfC K C f
 kp:PySem.W.keepIn K (.ref C) = true
 m:mg x = some (.ref C)
 fn:∃ fd ps,FnOk P w K mg base (CXe P w) 1 f fd ps (Pm C ns)∧Binds K fd ps []
 ek:ExcCls K C
 nf:∀ n∈ns,PySem.W.findIn K (.ref C) n = some none
 len:ns.length≤10
theorem XCl.hd {P:Program} {w:World} {K:PySem.W.Frag} {mg:Str→Option Value} {base:Heap} {x:Str} {C f:Addr} {ns:List Str} (c:XCl P w K mg base x C f ns):PySem.W.hasDictIn K C = true:=by
 obtain ⟨cd,R,h1,h2,_⟩:=c.c.cls
 unfold PySem.W.hasDictIn
 rw [h1]; exact h2
theorem Jw (i j:Int):TH ⟨([2,TD i,TD j]:List Nat).toArray⟩ = [(("many" : Str),V.int i),(("most" : Str),V.int j)]:=by show [(("many" : Str),V.int (TF (TD i))),(("most" : Str),V.int (TF (TD j)))] = _; rw [Lv,Lv]
abbrev MU (C:Addr) (i j:Int):Value:=.str ⟨([2,TD i,TD j]:List Nat).toArray⟩ C
section
variable {Z:Zx} {ρ:List (Option T)} {O:AM} {e a b:Expr} {es:List Expr} {Ψ:Es} {Φ:BX} {pos p:Pos} {t:T} {ts:List T} {x:Str}
theorem Na {C f:Addr} {ns:List Str} {is:List Int} {fs:Str} {np cpos:Pos} (xo:XOk Z.X Z.W) (hc:Z.X.calm = true) (c:XCl Z.X.prog Z.X.w Z.X.K Z.X.mg Z.X.base x C f ns) (hr:Room 2 Z.X.A) (ha:EA Z ρ O (e :: es) (is.map T.int)) (hil:is.length = ns.length) (hfs:TH fs = ns.zip (is.map V.int)) (h:Z.Xi (.str fs C) O) (hg:Gl Z.X x:=by rfl)
  (hdb:(x == ("__debug__" : Str)) = false:=by decide) (he:starEach (e :: es) Z.X.env = (false,eval e Z.X.env) :: starEach es Z.X.env:=by rfl) (hpl:(backTo cpos (starEach es Z.X.env)).any (·.1) = false:=by rfl):WS Z ρ O (.Raise (some (.Call (.Name x np) (e :: es) [] cpos)) none pos) Ψ:=by
 obtain ⟨fd,ps,F,hb⟩:=c.fn
 refine PS.weak (NZ xo hc c.c c.kp F hr hb c.len hg c.m (HB (ρ:=ρ)) hdb he hpl) fun D σ H q => ?_
 refine ⟨O,_,ha (fun ts O' => ts = is.map T.int∧O' = O) ⟨rfl,rfl⟩,q.1,fun vs H1 ts O1 p f r => ?_⟩
 obtain ⟨rfl,rfl⟩:=p
 exact ⟨is,fs,r.ints,hil,hfs,fun d hd => ⟨rfl,O1,h,(q.1.fr.trans f).trans (.new f.ok hd)⟩⟩
def _root_.L2.TL.Zx.Wr (Z:Zx) (ρ:List (Option T)):St→XK:=fun σ cls d H' => d = none∧∃ O',Z.Xi cls O'∧Frm Z.K Z.Oe Z.He O' H'∧Rl Z.K O' H' σ ρ
theorem Jx {k:Nat} {ps:List Str} {s:Cy} (G:FnT Z.X.prog Z.X.w Z.X.K Z.X.mg Z.X.base x k ps s) (hr:Room k Z.X.A) (xf:XFly Z.X (Z.Wr ρ)) (h:WA Z ρ O (e :: es) fun ts O1 => s ts O1 Φ Z.Xi) (hg:Gl Z.X x:=by rfl)
  (hdb:(x == ("__debug__" : Str)) = false:=by decide) (he:starEach (e :: es) Z.X.env = (false,eval e Z.X.env) :: starEach es Z.X.env:=by rfl) (hpl:(backTo pos (starEach es Z.X.env)).any (·.1) = false:=by rfl):WE Z ρ O (.Call (.Name x p) (e :: es) [] pos) Φ:=by
 obtain ⟨f,fd,F,hm,hk,hb⟩:=G.ex
 refine PE.weak (GA xf F hr hg hm hk hb (HB (ρ:=ρ)) hdb he hpl) fun σ H Q q => ?_
 exact ⟨O,_,h,q.1,fun vs H1 ts O1 p f r => ⟨ts,O1,Φ,Z.Xi,r,f.ok,p,q.2.step f,fun cls O' H' x f' => ⟨rfl,O',x,(q.1.fr.trans f).trans f',(q.1.rl.kp f.kp q.1.ok).kp f'.kp f.ok⟩⟩⟩
theorem Rl.unset {K:PySem.W.Frag} {O:AM} {H:Hp} {σ:St} {ρ:List (Option T)} {i:Nat} (r:Rl K O H σ ρ):Rl K O H (σ.set i none) (ρ.set i none):=⟨by simpa using r.1,fun j u e => by
 by_cases hj:j = i
 ·subst hj
  have hl:j < ρ.length:=by
   have:=(List.getElem?_eq_some_iff.mp e).1
   simpa using this
  rw [List.getElem?_set_self hl] at e
  cases e
 ·rw [List.getElem?_set_ne (Ne.symm hj)] at e ⊢
  exact r.2 j u e⟩
def ZB (i:Nat) (Ψ:Es):Es:={ nx:=fun ρ' O' => Ψ.nx (ρ'.set i none) O',rt:=Ψ.rt,bk:=fun ρ' O' => Ψ.bk (ρ'.set i none) O',ct:=fun ρ' O' => Ψ.ct (ρ'.set i none) O' }
abbrev zH (Z:Zx) (x:Addr) (O:AM) (H:Hp):Zx:=⟨TJ Z.X x,O,H,fun _ _ => False⟩
theorem SF {i:Nat} {n bx:Str} {B:Addr} {np hpos:Pos} {body suite:List Stmt} {b₀:Stmt} (Cs:Value→AM→Prop)
  (hbody:∀ pins E' H,Frm Z.K Z.Oe Z.He O H→XFly (Bp Z.X pins E') (Zx.Wr ⟨Bp Z.X pins E',O,H,Cs⟩ ρ)→DI ⟨Bp Z.X pins E',O,H,Cs⟩ ρ O body Ψ)
  (kc:∀ cls O',Cs cls O'→∃ C,(cls = .ref C∨∃ fs,cls = .str fs C)∧PySem.W.kitCls Z.X.K (.ref C) (.ref B) = some true)
  (hsuite:∀ y cls O' C x o H',Cs cls O'→HK cls C x H' o→Frm Z.K Z.Oe Z.He O' H'→H' x = none→DI (zH Z y O' (upd H' x o)) (ρ.set i (some (.raw (.ref x)))) O' (b₀ :: suite) (ZB i Ψ))
  (hst:Z.X.stack = Z.X.env :: Z.X.outer) (hex:Z.X.ex = []) (hfr:Z.X.env.frame = some Z.X.env.locals) (hN:Z.X.N.Nodup) (hi:Z.X.N[i]? = some n) (hk:Z.X.env.scope.names.lookup n = some .local) (hmB:Z.X.mg bx = some (.ref B)) (hbe:PySem.W.mroIn Z.X.K B (.type "BaseException") = some true)
  (hgB:Gl Z.X bx) (hd2:(bx == ("__debug__" : Str)) = false) :
  WS Z ρ O (.Try body [.ExceptHandler (some (.Name bx np)) (some n) (b₀ :: suite) hpos] [] [] pos) Ψ:=by
 have hb1:∀ (W:St→XK) (X':Cx),TryIs Z.X X'→XFly X' W→PSs X' body (fun D σ H => tS Z ρ O Ψ D σ H∧∀ (σ':St) cls O' H',Cs cls O'→Frm Z.K O H O' H'→Rl Z.K O' H' σ' ρ→W σ' cls none H'):=by
  rintro W X' ⟨pins0,E',rfl⟩ xf
  intro pins s σ H D I ⟨⟨a,acc⟩,hw⟩
  refine hbody pins0 E' H a.fr ⟨fun pins1 σ1 H1 s1 e s2 I1 c => xf.fly pins1 σ1 H1 s1 e s2 I1 ?_⟩ pins s σ H D I ⟨⟨a.rl,.refl a.ok⟩,⟨fun ρ' O' σ' H' p a' k => acc.nx ρ' O' σ' H' p ⟨a'.rl,a.fr.trans a'.fr⟩ k,fun v H' t O' p f r => acc.rt v H' t O' p (a.fr.trans f) r,fun ρ' O' σ' H' p a' k => acc.bk ρ' O' σ' H' p ⟨a'.rl,a.fr.trans a'.fr⟩ k,fun ρ' O' σ' H' p a' k => acc.ct ρ' O' σ' H' p ⟨a'.rl,a.fr.trans a'.fr⟩ k⟩⟩
  obtain ⟨x,cls,H',e1,fl,_,O',hc,f,rl⟩:=c
  exact ⟨x,cls,H',e1,fl,hw σ1 cls O' H' hc f rl⟩
 have hh1:∀ y,PSs (TJ Z.X y) (b₀ :: suite) (fun D σ H => ∃ z cls O' C o H',Cs cls O'∧HK cls C z H' o∧Frm Z.K Z.Oe Z.He O' H'∧H' z = none∧tS (zH Z z O' (upd H' z o)) (ρ.set i (some (.raw (.ref z)))) O' (ZB i Ψ) D σ H):=by
  rintro y pins s σ H D I ⟨z,cls,O',C,o,H',c,hk',f,hz,q⟩
  exact hsuite y cls O' C z o H' c hk' f hz pins s σ _ D I ⟨⟨q.1.rl,q.1.fr⟩,⟨fun ρ' O' σ' H' p a k => q.2.nx ρ' O' σ' H' p ⟨a.rl,a.fr⟩ k,q.2.rt,fun ρ' O' σ' H' p a k => q.2.bk ρ' O' σ' H' p ⟨a.rl,a.fr⟩ k,fun ρ' O' σ' H' p a k => q.2.ct ρ' O' σ' H' p ⟨a.rl,a.fr⟩ k⟩⟩
 refine PS.weak (OT (i:=i) hst hex hfr hN hi hk hgB hmB hbe hb1 hh1 hd2) fun D σ H q => ?_
 refine ⟨q,?_⟩
 intro σ' cls O' H' hc f rl
 obtain ⟨C,h1,h2⟩:=kc cls O' hc
 refine ⟨C,h1,h2,fun z o hz hk' => ⟨z,cls,O',C,o,H',hc,hk',q.1.fr.trans f,hz,⟨(rl.kp (BT f.ok hz) f.ok).set (.raw _),.refl (Frm.new f.ok hz).ok⟩,?_⟩⟩
 have g:Frm Z.K Z.Oe Z.He O' (upd H' z o):=(q.1.fr.trans f).trans (.new f.ok hz)
 have k0:TL.Kp O H O' (upd H' z o):=f.kp.trans (BT f.ok hz)
 exact ⟨fun ρ2 O2 σ2 H2 p a2 k2 => q.2.nx _ O2 _ H2 p ⟨Rl.unset a2.rl,g.trans a2.fr⟩ (k0.trans k2),fun v H2 t O2 p f2 r => q.2.rt v H2 t O2 p (g.trans f2) r,
  fun ρ2 O2 σ2 H2 p a2 k2 => q.2.bk _ O2 _ H2 p ⟨Rl.unset a2.rl,g.trans a2.fr⟩ (k0.trans k2),fun ρ2 O2 σ2 H2 p a2 k2 => q.2.ct _ O2 _ H2 p ⟨Rl.unset a2.rl,g.trans a2.fr⟩ (k0.trans k2)⟩
end
end L2.TL
namespace L2
open PySem PySem.Spec PySem.Calls PyProof.Rows
theorem SG {X:Cx} {e:Expr} {f:Str} {pos:Pos} {te:TE} (he:PE X e te) (hb:attributeBase e f X.env (eval e X.env) = eval e X.env):PE X (.Attribute e f pos) (fun σ H Q => te σ H fun u H1 => ∃ (x C:Addr) (ox:Obj) (dx:Addr) (vs:Array Value) (fs:List (Str × V)) (i:Int),u = .ref x∧H1 x = some (.frz ox (Dk C x))∧ox = ⟨.ref C,some dx,.fields vs,ox.slots⟩∧H1 dx = some (Eo dx fs)∧ExcCls X.K C∧PySem.W.hasDictIn X.K C = true∧PySem.W.findIn X.K (.ref C) f = some none∧fs.lookup f = some (.int i)∧Q (.int i) H1):=by
 intro pins s σ H Q I h
 refine Ln hb (Ap (he pins s σ H _ I h) fun u s1 ⟨z,H1,I1,rz,x,C,ox,dx,vs,fs,i,ez,hx,eo,hdx,k,hh,hn,hl,q⟩ => ?_)
 subst ez
 obtain rfl:u = Value.ref x:=rz
 obtain ⟨e1,_⟩:=(show ObjOk X.prog X.w H1 s1.heap x (.frz ox (Dk C x)) from I1.hok x _ hx)
 obtain ⟨⟨mA,n1,r,_⟩,_,_⟩:=(show ObjOk X.prog X.w H1 s1.heap dx (Eo dx fs) from I1.hok dx _ hdx)
 have rf:=r f
 rw [hl] at rf
 cases em:mA f with
 | none => rw [em] at rf; exact rf.elim
 | some u =>
  rw [em] at rf
  obtain ⟨tk,rfl⟩:=(show ∃ tk,u = Value.int i tk from rf)
  have eo1:ox.cls = .ref C:=by rw [eo]
  have eo2:PySem.W.notCls ox = true:=by rw [eo]; rfl
  have eo3:ox.dict = some dx:=by rw [eo]
  exact SD I1.kIn k e1 eo1 eo2 eo3 n1 hh hn em rfl ⟨.int i,H1,I1.tok _,⟨tk,rfl⟩,q⟩
end L2
namespace L2.TL
open PySem PySem.Spec PySem.Calls PyProof.Rows
structure ExF (Z:Zx) (x C:Addr) (fs:List (Str × V)):Prop where
 ex:∃ ox dx vs,Z.He x = some (.frz ox (Dk C x))∧ox = ⟨.ref C,some dx,.fields vs,ox.slots⟩∧Z.He dx = some (Eo dx fs)∧Z.Oe x = none∧Z.Oe dx = none
structure ExC (Z:Zx) (x C:Addr):Prop where
 rd:Rd Z.He x (Dk C x)
 no:Z.Oe x = none
section
variable {Z:Zx} {ρ:List (Option T)} {O O':AM} {e a b:Expr} {es:List Expr} {Ψ:Es} {Φ:BX} {pos p:Pos} {t:T} {ts:List T} {x y C D:Addr} {H':Hp} {o:HO} {cls:Value} {fs:Str}
theorem HK.exc (h:HK cls C x H' o) (f:Frm Z.K Z.Oe Z.He O' H') (hz:H' x = none):ExC (zH Z y O' (upd H' x o)) x C:=by
 refine ⟨?_,f.ok.none_of hz⟩
 rcases h with ⟨_,rfl⟩ | ⟨_,ox,_,_,_,rfl,_⟩
 ·exact .inl AG
 ·exact .inr ⟨ox,AG⟩
theorem HK.cls_of (h:HK (.str fs C) D x H' o):D = C:=by
 rcases h with ⟨e,_⟩ | ⟨_,_,_,_,e,_⟩
 ·cases e
 ·cases e; rfl
theorem HK.cls_ref (h:HK (.ref C) D x H' o):D = C:=by
 rcases h with ⟨e,_⟩ | ⟨_,_,_,_,e,_⟩
 ·cases e; rfl
 ·cases e
theorem HK.exf (h:HK (.str fs C) D x H' o) (f:Frm Z.K Z.Oe Z.He O' H') (hz:H' x = none):ExF (zH Z y O' (upd H' x o)) x C (TH fs):=by
 rcases h with ⟨e,_⟩ | ⟨_,ox,dx,vs,e,rfl,eo,hd⟩
 ·cases e
 ·cases e
  exact ⟨ox,dx,vs,AG,eo,by show upd H' x _ dx = _; rw [AI (AR hd hz)]; exact hd,f.ok.none_of hz,f.ok.free hd (fun _ z => nomatch z)⟩
theorem MV {n:Str} {i:Int} {gs:List (Str × V)} (k:ExcCls Z.K C) (hh:PySem.W.hasDictIn Z.K C = true) (hn:PySem.W.findIn Z.K (.ref C) n = some none) (hx:ExF Z x C gs) (h:ET Z ρ O e (.raw (.ref x))) (hl:gs.lookup n = some (.int i)) (hb:attributeBase e n Z.X.env (eval e Z.X.env) = eval e Z.X.env:=by rfl):ET Z ρ O (.Attribute e n pos) (.int i):=fun Φ p =>
 PE.weak (SG (BU (ρ:=ρ)) hb) fun σ H Q q => by
  refine ⟨O,_,h (fun t O' => t = .raw (.ref x)∧O' = O) ⟨rfl,rfl⟩,q.1,fun v H1 t O1 p1 f r => ?_⟩
  obtain ⟨rfl,rfl⟩:=p1
  obtain ⟨ox,dx,vs,h1,h2,h3,h4,h5⟩:=hx.ex
  have kk:=(q.1.fr.trans f).kp
  exact ⟨x,C,ox,dx,vs,gs,i,r.raw_inv,(kk _ _ h1 h4).1,h2,(kk _ _ h3 h5).1,k,hh,hn,hl,q.2 _ _ _ O1 p f (.int i)⟩
theorem Hr {k:Nat} {f:Addr} {fd:FuncData} {ps:List Str} {sp:Sp} {g:Str} (F:FnH Z.X.prog Z.X.w Z.X.K Z.X.mg Z.X.base k f fd ps sp) (hm:Z.X.mg g = some (.ref f)) (hk:PySem.W.keepIn Z.X.K (.ref f) = true) (hb:Binds Z.X.K fd ps []) (hr:RoomH k Z.X.A) (h:EA Z ρ O (e :: es) ts)
  (w:∀ σ H vs Q,Asr Z ρ O σ H→Reps Z.K O H vs ts→Acc Z.K O H Φ Q→sp vs H Q E0) (hg:Gl Z.X g:=by rfl) (hdb:(g == ("__debug__" : Str)) = false:=by decide) (he:starEach (e :: es) Z.X.env = (false,eval e Z.X.env) :: starEach es Z.X.env:=by rfl) (hpl:(backTo pos (starEach es Z.X.env)).any (·.1) = false:=by rfl) :
  WE Z ρ O (.Call (.Name g p) (e :: es) [] pos) Φ:=by
 refine PE.weak (Jc F hr hg hm hk hb (HB (ρ:=ρ)) hdb he hpl) fun σ H Q q => ?_
 refine ⟨O,_,h (fun ts' O' => ts' = ts∧O' = O) ⟨rfl,rfl⟩,q.1,fun vs H1 ts1 O1 p1 f1 r => ?_⟩
 obtain ⟨rfl,rfl⟩:=p1
 exact w σ H1 vs Q (q.1.step f1) r (q.2.step f1)
theorem GZ {k:Nat} {f:Addr} {fd:FuncData} {ps:List Str} {g:Str} (F:FnH Z.X.prog Z.X.w Z.X.K Z.X.mg Z.X.base k f fd ps (Ws C t)) (hm:Z.X.mg g = some (.ref f)) (hk:PySem.W.keepIn Z.X.K (.ref f) = true) (hb:Binds Z.X.K fd ps []) (hr:RoomH k Z.X.A) (hx:ExC Z x C) (h:ET Z ρ O e (.raw (.ref x)))
  (hg:Gl Z.X g:=by rfl) (hdb:(g == ("__debug__" : Str)) = false:=by decide) (he:starEach [e] Z.X.env = (false,eval e Z.X.env) :: starEach [] Z.X.env:=by rfl) (hpl:(backTo pos (starEach [] Z.X.env)).any (·.1) = false:=by rfl):ET Z ρ O (.Call (.Name g p) [e] [] pos) t:=fun Φ p =>
 Hr F hm hk hb hr (AT h AD he) (fun σ H vs Q a r acc => by
  obtain ⟨v,rfl,r1⟩:=r.one_inv
  cases r1.raw_inv
  have rd:Rd H x (Dk C x):=by
   rcases hx.rd with z | ⟨o',z⟩
   ·exact .inl (a.fr.kp _ _ z hx.no).1
   ·exact .inr ⟨o',(a.fr.kp _ _ z hx.no).1⟩
  exact ⟨x,rfl,rd,fun v H2 sm rp => acc v H2 t O p (Frm.same (.refl a.ok) sm) (rp _ _)⟩) hg hdb he hpl
structure FnHT (P:Program) (w:World) (K:PySem.W.Frag) (mg:Str→Option Value) (base:Heap) (x:Str) (k:Nat) (ps:List Str) (s:Cy):Prop where
 ex:∃ f fd,FnH P w K mg base k f fd ps (Dm K s)∧mg x = some (.ref f)∧PySem.W.keepIn K (.ref f) = true∧Binds K fd ps []
end
abbrev zD (P:Program) (w:World) (K:PySem.W.Frag) (mg:Str→Option Value) (base:Heap) (N:List Str) (qual:Str) (sc:Scope) (f:Addr) (cdv:Value) (A:Around) (outer:List Env) (s:Shared) (H:Hp) (O:AM):Zx:=⟨Ra P w K mg base N qual sc f cdv A outer s H,O,H,fun _ _ => False⟩
theorem Wt {P:Program} {w:World} {K:PySem.W.Frag} {mg:Str→Option Value} {base:Heap} {x qual:Str} {st:Stmt} {f:Addr} {fd:FuncData} {N ps:List Str} {k:Nat} {sp:Sp} (F:Fun K x qual st f fd) (S:FnScope N ps (AA st)) (len:∀ vs H Q E,sp vs H Q E→vs.length = ps.length)
  (h:∀ (cdv:Value) (A:Around) (outer:List Env) (s:Shared) (H:Hp) (vs:List V) (Q:VK),RoomH k (A.deeper (envOfC qual (AA st) s.heap.objs.size f cdv))→sp vs H Q E0 →
   ∃ ts O Φ,Reps K O H vs ts∧OwnOk K O H∧DI (zD P w K mg base N qual (AA st) f cdv A outer s H O) (Cz N ts) O (AW st) { nx:=fun _ O' => Φ .non O',rt:=Φ }∧Acc K O H Φ Q):FnH P w K mg base (k + 1) f fd ps sp:=by
 refine F.okH S len fun cdv A outer s H vs Q hr hsp => ?_
 obtain ⟨ts,O,Φ,r,ok,q,acc⟩:=h cdv A outer s H vs Q hr hsp
 exact ⟨_,q,⟨EY r,.refl ok⟩,⟨fun ρ' O' σ' H' p a _ => acc _ _ _ O' p a.fr .non,fun v H' t O' p f r => acc v H' t O' p f r,fun _ _ _ _ z => z.elim,fun _ _ _ _ z => z.elim⟩⟩
section
variable {P:Program} {w:World} {K:PySem.W.Frag} {mg:Str→Option Value} {base:Heap}
theorem Pn {C:Addr} {ns:List Str} {ps:List Str} (h:ps.length = ns.length + 1):∀ vs H Q E,Pm C ns vs H Q E→vs.length = ps.length:=fun vs H Q E ⟨x,t,is,e,l,_⟩ => by
 rw [e,List.length_cons,List.length_map,l,h]
end
def Wu:Stmt→List Stmt
 | .ClassDef _ _ _ b _ _ _ _ _ _ _ => b
 | _ => []
structure Ini (K:PySem.W.Frag) (C:Addr) (q:Str) (st:Stmt) (f:Addr) (fd:FuncData):Prop where
 F:Fun K "__init__" q st f fd
 c:XfC K C f
 kp:PySem.W.keepIn K (.ref C) = true
def ZC (K:PySem.W.Frag) (C:Addr) (q:Str) (st:Stmt):Prop:=∃ f fd,Ini K C q st f fd
section
variable {P:Program} {w:World} {K:PySem.W.Frag} {mg:Str→Option Value} {base:Heap} {C R f:Addr} {q x:Str} {st:Stmt} {fd:FuncData}
theorem ini {nm qn:Str} {N:Addr} {sn:List Str} {sub:List Value} {ab:Bool} {col:Option Bool} {dd:Option Addr} {k0 k1 k2 k3 k5:Option Value} {oc:Value} {od:Option Addr} {kV doc pm:Value} {an:Option Addr} {cdv ct:Value} {osl:Array (Option Value)}
  (l:K.lookup C = some (excClassObj nm qn C N [.ref R] (.ref R :: Ck) true sn sub ab col dd k0 k1 k2 k3 k5 "ValueError.__new__")) (r:PySem.W.excIn K R Ck "ValueError.__new__" = true) (i:PySem.W.findIn K (.ref C) "__init__" = some (some (.ref f))) (t:PySem.W.typeIn K (.ref f) = some (.type "function"))
  (s:PySem.W.findIn K (.ref C) "__setattr__" = some (some (.builtin "object.__setattr__"))) (k:PySem.W.keepIn K (.ref C) = true) (fl:K.lookup f = some ⟨oc,od,.func (PySem.W.fnOf "__init__" q (Bx st) (AW st) (AA st) .none kV doc pm an cdv ct),osl⟩) (fq:PySem.W.codeIn K cdv q = true) (fk:PySem.W.keepIn K (.ref f) = true):ZC K C q st :=
 ⟨f,_,⟨⟨⟨oc,od,kV,doc,pm,an,cdv,ct,osl,rfl,fl,fq⟩,fk⟩,⟨⟨nm,qn,N,R,sn,sub,ab,col,dd,k0,k1,k2,k3,k5,l,r⟩,i,t,s⟩,k⟩⟩
abbrev Bj (q:Str) (st:Stmt) (ps:List Str) (us:List Value):Prop:=∀ (kV doc pm:Value) (an:Option Addr) (cdv ct:Value),bindArgs (PySem.W.fnOf "__init__" q (Bx st) (AW st) (AA st) .none kV doc pm an cdv ct) ⟨us,[]⟩ = pure (ps.zip us)
theorem Ini.bu {ps:List Str} (h:Ini K C q st f fd) (hl:ps.length = 3) (b:∀ a b c,Bj q st ps [a,b,c]):Binds K fd ps []:=h.F.binds fun _ _ _ _ _ _ us e => match us,e.trans hl with | [a,c,d],_ => b a c d ..
end
end L2.TL
namespace K55
open PySem L2
def kE (P:Params) (x:Str) (n:Tok) (v:Value):DictEntry:=⟨PyData.keyHash P x,.str x n,v⟩
def tp (i:Nat):Stmt:=PySem.Challenge.pw_noshortring_k55_webs_spliced.main.body.getD i (.Pass ⟨0,0,0,0⟩)
def kF (x:Str) (i:Nat) (m:Str) (t:Tok) (c:Addr):Obj:=⟨.type "function",none,.func (PySem.W.fnOf x x (Bx (tp i)) (AW (tp i)) (AA (tp i)) .none .none .none (.str m t) none (.ref c) .none),#[]⟩
def ti (i:Nat):Stmt:=(L2.TL.Wu (tp i)).getD 0 (.Pass ⟨0,0,0,0⟩)
def kG (x:Str) (i:Nat) (m:Str) (t:Tok) (c:Addr):Obj:=⟨.type "function",none,.func (PySem.W.fnOf "__init__" x (Bx (ti i)) (AW (ti i)) (AA (ti i)) .none .none .none (.str m t) none (.ref c) .none),#[]⟩
def kC (x:Str) (a b c:Tok) (vs:List Value):Obj:=⟨.type "code",none,.fields ((Value.str x a :: .str x b :: .str "/claim/cut.py" c :: vs).toArray),#[]⟩
def kD (x:Str) (a b c:Tok) (l n:Int) (r:Addr) (g:Int) (q:Addr) (z:Int) (k:Tok) (vs:List Value):Obj:=kC x a b c (.int l 0 :: .int n 0 :: .int 0 0 :: .int 0 0 :: .int 3 0 :: .ref r :: .bool true :: .int g 0 :: .ref q :: (vs ++ [.int z 0,.int l 0,.str "/claim/cut.py" k]))
def Kk:Params→PySem.W.Frag:=fun P => (nat_lit 3,⟨(.type "dict"),none,(.dict #[kE P "__name__" 165 (.str "law_noshortring_k55_webs_spliced" 472),kE P "__doc__" 166 .none,kE P "__package__" 167 .none,kE P "__loader__" 168 (.builtin "__main__.__loader__#opaque"),kE P "__spec__" 169 .none,kE P "__annotations__" 170 (.ref 6),kE P "__builtins__" 171 (.ref 4),kE P "__file__" 173 (.str "/claim/cut.py" 172),kE P "__cached__" 174 .none,kE P "RingError" 206 (.ref 24),kE P "NoPlace" 222 (.ref 37),kE P "NoNumber" 238 (.ref 49),kE P "NoLine" 254 (.ref 61),kE P "NoRing" 270 (.ref 73),kE P "NotEven" 286 (.ref 85),kE P "NoWeb" 311 (.ref 104),kE P "NoText" 336 (.ref 123),kE P "TooGreat" 363 (.ref 142),kE P "is_whole" 374 (.ref 151),kE P "MOST_PLACES" 378 (.int 16 377),kE P "ties_of" 384 (.ref 156),kE P "is_place" 392 (.ref 163),kE P "need_place" 400 (.ref 170),kE P "are_tied" 409 (.ref 177),kE P "nears_of" 415 (.ref 182),kE P "near_of" 423 (.ref 189),kE P "need_places" 434 (.ref 196),kE P "retied" 440 (.ref 201),kE P "spliced" 453 (.ref 208),kE P "others_near" 459 (.ref 213),kE P "can_unsplice" 465 (.ref 218),kE P "unspliced" 471 (.ref 223),kE P "_law_cell_at" 481 (.ref 230),kE P "_law_next" 488 (.ref 237),kE P "_law_pen_of" 496 (.ref 244),kE P "_law_draw" 505 (.ref 251),kE P "_law_whole" 512 (.ref 258),kE P "_law_kind_of" 520 (.ref 265),kE P "_law_refused" 528 (.ref 272),kE P "_law_web_of" 534 (.ref 277),kE P "_law_near" 540 (.ref 282),kE P "_law_round" 546 (.ref 287),kE P "_law_some_web" 552 (.ref 292),kE P "_law_tuples_are" 558 (.ref 297),kE P "_law_web_is" 566 (.ref 304),kE P "_law_no_place" 575 (.ref 311),kE P "_law_told" 584 (.ref 318),kE P "_law_spliced_of" 590 (.ref 323),kE P "_law_unspliced_of" 596 (.ref 328),kE P "_law_right" 606 (.ref 335),kE P "law" 612 (.ref 340)] 51),#[]⟩) ::
  (nat_lit 23,⟨(.type "dict"),none,(.dict #[kE P "__module__" 196 (.str "noshortring.errors" 187),kE P "__firstlineno__" 200 (.int 2 199),kE P "__static_attributes__" 201 (.ref 22),kE P "__weakref__" 203 (.ref 25),kE P "__doc__" 204 .none] 3),#[]⟩) ::
  (nat_lit 24,⟨(.type "type"),none,(.cls ⟨"RingError",[(.type "ValueError")],[(.ref 24),(.type "ValueError"),(.type "Exception"),(.type "BaseException"),(.type "object")],23,"RingError",true,[],[(.ref 37),(.ref 49),(.ref 61),(.ref 73),(.ref 85),(.ref 104),(.ref 123),(.ref 142)],false,none,false⟩),#[(some (.ref 15)),none,(some (.str "RingError" 189)),(some (.str "RingError" 197)),(some (.builtin "ValueError.__new__")),(some (.bool true))]⟩) ::
  (nat_lit 36,⟨(.type "dict"),none,(.dict #[kE P "__module__" 214 (.str "noshortring.errors" 187),kE P "__firstlineno__" 218 (.int 4 217),kE P "__static_attributes__" 219 (.ref 35),kE P "__doc__" 220 .none] 2),#[]⟩) ::
  (nat_lit 37,⟨(.type "type"),none,(.cls ⟨"NoPlace",[(.ref 24)],[(.ref 37),(.ref 24),(.type "ValueError"),(.type "Exception"),(.type "BaseException"),(.type "object")],36,"NoPlace",true,[],[],false,none,false⟩),#[(some (.ref 28)),none,(some (.str "NoPlace" 207)),(some (.str "NoPlace" 215)),(some (.builtin "ValueError.__new__")),(some (.bool true))]⟩) ::
  (nat_lit 49,⟨(.type "type"),none,(.cls ⟨"NoNumber",[(.ref 24)],[(.ref 49),(.ref 24),(.type "ValueError"),(.type "Exception"),(.type "BaseException"),(.type "object")],48,"NoNumber",true,[],[],false,none,false⟩),#[(some (.ref 40)),none,(some (.str "NoNumber" 223)),(some (.str "NoNumber" 231)),(some (.builtin "ValueError.__new__")),(some (.bool true))]⟩) ::
  (nat_lit 60,⟨(.type "dict"),none,(.dict #[kE P "__module__" 246 (.str "noshortring.errors" 187),kE P "__firstlineno__" 250 (.int 8 249),kE P "__static_attributes__" 251 (.ref 59),kE P "__doc__" 252 .none] 2),#[]⟩) ::
  (nat_lit 61,⟨(.type "type"),none,(.cls ⟨"NoLine",[(.ref 24)],[(.ref 61),(.ref 24),(.type "ValueError"),(.type "Exception"),(.type "BaseException"),(.type "object")],60,"NoLine",true,[],[],false,none,false⟩),#[(some (.ref 52)),none,(some (.str "NoLine" 239)),(some (.str "NoLine" 247)),(some (.builtin "ValueError.__new__")),(some (.bool true))]⟩) ::
  (nat_lit 73,⟨(.type "type"),none,(.cls ⟨"NoRing",[(.ref 24)],[(.ref 73),(.ref 24),(.type "ValueError"),(.type "Exception"),(.type "BaseException"),(.type "object")],72,"NoRing",true,[],[],false,none,false⟩),#[(some (.ref 64)),none,(some (.str "NoRing" 255)),(some (.str "NoRing" 263)),(some (.builtin "ValueError.__new__")),(some (.bool true))]⟩) ::
  (nat_lit 85,⟨(.type "type"),none,(.cls ⟨"NotEven",[(.ref 24)],[(.ref 85),(.ref 24),(.type "ValueError"),(.type "Exception"),(.type "BaseException"),(.type "object")],84,"NotEven",true,[],[],false,none,false⟩),#[(some (.ref 76)),none,(some (.str "NotEven" 271)),(some (.str "NotEven" 279)),(some (.builtin "ValueError.__new__")),(some (.bool true))]⟩) ::
  (nat_lit 104,⟨(.type "type"),none,(.cls ⟨"NoWeb",[(.ref 24)],[(.ref 104),(.ref 24),(.type "ValueError"),(.type "Exception"),(.type "BaseException"),(.type "object")],103,"NoWeb",true,[],[],false,none,false⟩),#[(some (.ref 88)),none,(some (.str "NoWeb" 287)),(some (.str "NoWeb" 295)),(some (.builtin "ValueError.__new__")),(some (.bool true))]⟩) ::
  (nat_lit 123,⟨(.type "type"),none,(.cls ⟨"NoText",[(.ref 24)],[(.ref 123),(.ref 24),(.type "ValueError"),(.type "Exception"),(.type "BaseException"),(.type "object")],122,"NoText",true,[],[],false,none,false⟩),#[(some (.ref 107)),none,(some (.str "NoText" 312)),(some (.str "NoText" 320)),(some (.builtin "ValueError.__new__")),(some (.bool true))]⟩) ::
  (nat_lit 138,⟨(.type "code"),none,(.fields #[(.str "__init__" 349),(.str "TooGreat.__init__" 350),(.str "/claim/cut.py" 351),(.int 24 0),(.int 3 0),(.int 0 0),(.int 0 0),(.int 3 0),(.ref 133),(.bool true),(.int 181 0),(.ref 134),.none,(.ref 135),(.ref 136),(.ref 137),(.int 355 0),(.int 24 0),(.str "/claim/cut.py" 356)]),#[]⟩) ::
  (nat_lit 139,kG "TooGreat.__init__" 9 "noshortring.errors" 187 138) ::
  (nat_lit 141,⟨(.type "dict"),none,(.dict #[kE P "__module__" 344 (.str "noshortring.errors" 187),kE P "__firstlineno__" 348 (.int 22 347),kE P "__init__" 357 (.ref 139),kE P "__static_attributes__" 360 (.ref 140),kE P "__doc__" 361 .none] 2),#[]⟩) ::
  (nat_lit 142,⟨(.type "type"),none,(.cls ⟨"TooGreat",[(.ref 24)],[(.ref 142),(.ref 24),(.type "ValueError"),(.type "Exception"),(.type "BaseException"),(.type "object")],141,"TooGreat",true,[],[],false,none,false⟩),#[(some (.ref 126)),none,(some (.str "TooGreat" 337)),(some (.str "TooGreat" 345)),(some (.builtin "ValueError.__new__")),(some (.bool true))]⟩) ::
  (nat_lit 150,kD "is_whole" 366 367 368 28 3 145 181 146 372 373 [.none,(.ref 147),(.ref 148),(.ref 149)]) ::
  (nat_lit 151,kF "is_whole" 11 "noshortring.common" 364 150) ::
  (nat_lit 155,kD "ties_of" 379 380 381 34 1 152 181 153 382 383 [.none,.none,.none,(.ref 154)]) ::
  (nat_lit 156,kF "ties_of" 14 "noshortring.webs" 375 155) ::
  (nat_lit 162,kD "is_place" 385 386 387 36 2 157 181 158 390 391 [.none,(.ref 159),(.ref 160),(.ref 161)]) ::
  (nat_lit 163,kF "is_place" 15 "noshortring.webs" 375 162) ::
  (nat_lit 169,kD "need_place" 393 394 395 38 2 164 181 165 398 399 [.none,(.ref 166),(.ref 167),(.ref 168)]) ::
  (nat_lit 170,kF "need_place" 16 "noshortring.webs" 375 169) ::
  (nat_lit 176,kD "are_tied" 401 402 403 41 3 171 181 172 407 408 [.none,(.ref 173),(.ref 174),(.ref 175)]) ::
  (nat_lit 177,kF "are_tied" 17 "noshortring.webs" 375 176) ::
  (nat_lit 181,kD "nears_of" 410 411 412 43 1 178 181 179 413 414 [.none,.none,.none,(.ref 180)]) ::
  (nat_lit 182,kF "nears_of" 18 "noshortring.webs" 375 181) ::
  (nat_lit 188,kD "near_of" 416 417 418 49 2 183 181 184 421 422 [.none,(.ref 185),(.ref 186),(.ref 187)]) ::
  (nat_lit 189,kF "near_of" 19 "noshortring.webs" 375 188) ::
  (nat_lit 195,kD "need_places" 426 427 428 53 2 190 181 191 432 433 [.none,(.ref 192),(.ref 193),(.ref 194)]) ::
  (nat_lit 196,kF "need_places" 21 "noshortring.betterings" 424 195) ::
  (nat_lit 200,kD "retied" 435 436 437 56 3 197 181 198 438 439 [.none,.none,.none,(.ref 199)]) ::
  (nat_lit 201,kF "retied" 22 "noshortring.betterings" 424 200) ::
  (nat_lit 207,kD "spliced" 441 442 443 59 5 202 181 203 451 452 [.none,(.ref 204),(.ref 205),(.ref 206)]) ::
  (nat_lit 208,kF "spliced" 23 "noshortring.betterings" 424 207) ::
  (nat_lit 212,kD "others_near" 454 455 456 68 3 209 181 210 457 458 [.none,.none,.none,(.ref 211)]) ::
  (nat_lit 213,kF "others_near" 24 "noshortring.betterings" 424 212) ::
  (nat_lit 217,kD "can_unsplice" 460 461 462 70 3 214 181 215 463 464 [.none,.none,.none,(.ref 216)]) ::
  (nat_lit 218,kF "can_unsplice" 25 "noshortring.betterings" 424 217) ::
  (nat_lit 222,kD "unspliced" 466 467 468 75 3 219 181 220 469 470 [.none,.none,.none,(.ref 221)]) ::
  (nat_lit 223,kF "unspliced" 26 "noshortring.betterings" 424 222) ::
  (nat_lit 229,kD "_law_cell_at" 474 475 476 84 2 224 181 225 479 480 [.none,(.ref 226),(.ref 227),(.ref 228)]) ::
  (nat_lit 230,kF "_law_cell_at" 28 "law_noshortring_k55_webs_spliced" 472 229) ::
  (nat_lit 236,kD "_law_next" 482 483 484 88 1 231 181 232 486 487 [.none,(.ref 233),(.ref 234),(.ref 235)]) ::
  (nat_lit 237,kF "_law_next" 29 "law_noshortring_k55_webs_spliced" 472 236) ::
  (nat_lit 243,kD "_law_pen_of" 489 490 491 91 1 238 181 239 494 495 [.none,(.ref 240),(.ref 241),(.ref 242)]) ::
  (nat_lit 244,kF "_law_pen_of" 30 "law_noshortring_k55_webs_spliced" 472 243) ::
  (nat_lit 250,kD "_law_draw" 497 498 499 94 2 245 181 246 503 504 [.none,(.ref 247),(.ref 248),(.ref 249)]) ::
  (nat_lit 251,kF "_law_draw" 31 "law_noshortring_k55_webs_spliced" 472 250) ::
  (nat_lit 257,kD "_law_whole" 506 507 508 101 1 252 181 253 510 511 [.none,(.ref 254),(.ref 255),(.ref 256)]) ::
  (nat_lit 258,kF "_law_whole" 32 "law_noshortring_k55_webs_spliced" 472 257) ::
  (nat_lit 264,kD "_law_kind_of" 513 514 515 103 1 259 181 260 518 519 [.none,(.ref 261),(.ref 262),(.ref 263)]) ::
  (nat_lit 265,kF "_law_kind_of" 33 "law_noshortring_k55_webs_spliced" 472 264) ::
  (nat_lit 271,kD "_law_refused" 521 522 523 109 1 266 181 267 526 527 [.none,(.ref 268),(.ref 269),(.ref 270)]) ::
  (nat_lit 272,kF "_law_refused" 34 "law_noshortring_k55_webs_spliced" 472 271) ::
  (nat_lit 276,kD "_law_web_of" 529 530 531 116 2 273 181 274 532 533 [.none,.none,.none,(.ref 275)]) ::
  (nat_lit 277,kF "_law_web_of" 35 "law_noshortring_k55_webs_spliced" 472 276) ::
  (nat_lit 281,kD "_law_near" 535 536 537 118 2 278 181 279 538 539 [.none,.none,.none,(.ref 280)]) ::
  (nat_lit 282,kF "_law_near" 36 "law_noshortring_k55_webs_spliced" 472 281) ::
  (nat_lit 286,kD "_law_round" 541 542 543 120 3 283 181 284 544 545 [.none,.none,.none,(.ref 285)]) ::
  (nat_lit 287,kF "_law_round" 37 "law_noshortring_k55_webs_spliced" 472 286) ::
  (nat_lit 291,kD "_law_some_web" 547 548 549 122 2 288 181 289 550 551 [.none,.none,.none,(.ref 290)]) ::
  (nat_lit 292,kF "_law_some_web" 38 "law_noshortring_k55_webs_spliced" 472 291) ::
  (nat_lit 296,kD "_law_tuples_are" 553 554 555 148 2 293 181 294 556 557 [.none,.none,.none,(.ref 295)]) ::
  (nat_lit 297,kF "_law_tuples_are" 39 "law_noshortring_k55_webs_spliced" 472 296) ::
  (nat_lit 303,kD "_law_web_is" 559 560 561 152 2 298 181 299 564 565 [.none,(.ref 300),(.ref 301),(.ref 302)]) ::
  (nat_lit 304,kF "_law_web_is" 40 "law_noshortring_k55_webs_spliced" 472 303) ::
  (nat_lit 310,kD "_law_no_place" 567 568 569 156 2 305 181 306 573 574 [.none,(.ref 307),(.ref 308),(.ref 309)]) ::
  (nat_lit 311,kF "_law_no_place" 41 "law_noshortring_k55_webs_spliced" 472 310) ::
  (nat_lit 317,kD "_law_told" 576 577 578 159 2 312 181 313 582 583 [.none,(.ref 314),(.ref 315),(.ref 316)]) ::
  (nat_lit 318,kF "_law_told" 42 "law_noshortring_k55_webs_spliced" 472 317) ::
  (nat_lit 322,kD "_law_spliced_of" 585 586 587 166 5 319 181 320 588 589 [.none,.none,.none,(.ref 321)]) ::
  (nat_lit 323,kF "_law_spliced_of" 43 "law_noshortring_k55_webs_spliced" 472 322) ::
  (nat_lit 327,kD "_law_unspliced_of" 591 592 593 175 3 324 181 325 594 595 [.none,.none,.none,(.ref 326)]) ::
  (nat_lit 328,kF "_law_unspliced_of" 44 "law_noshortring_k55_webs_spliced" 472 327) ::
  (nat_lit 334,kD "_law_right" 597 598 599 186 2 329 181 330 604 605 [.none,(.ref 331),(.ref 332),(.ref 333)]) ::
  (nat_lit 335,kF "_law_right" 45 "law_noshortring_k55_webs_spliced" 472 334) ::
  (nat_lit 339,kD "law" 607 608 609 193 1 336 181 337 610 611 [.none,.none,.none,(.ref 338)]) ::
  (nat_lit 340,kF "law" 46 "law_noshortring_k55_webs_spliced" 472 339) :: []
def ka:List Addr:=[3,23,24,36,37,49,60,61,73,85,104,123,138,139,141,142,150,151,155,156,162,163,169,170,176,177,181,182,188,189,195,196,200,201,207,208,212,213,217,218,222,223,229,230,236,237,243,244,250,251,257,258,264,265,271,272,276,277,281,282,286,287,291,292,296,297,303,304,310,311,317,318,322,323,327,328,334,335,339,340]
abbrev kq:Program:=PySem.W.view PySem.Challenge.pw_noshortring_k55_webs_spliced [1,2,3,4,5,6,7,8,9,11,13,14,15,16,17,18,19,21,22,23,24,25,26,28,29,30,31,32,33,34,35,36,37,38,39,40,41,42,43,44,45,46]
theorem Yq:(fun (_:Params→PySem.W.Frag) (_:Program) => true) Kk PySem.Challenge.pw_noshortring_k55_webs_spliced = true:=by k_qdec
abbrev oS (s:Shared):=PySem.W.openSeen kq [] (importedModules PySem.Challenge.pw_noshortring_k55_webs_spliced.main.body) (fun s => PySem.W.xlAt kq [] s && PySem.W.recOk [] s) true s
abbrev oE (w:World):=PySem.W.openEnds treeTable PySem.Challenge.pw_noshortring_k55_webs_spliced w 6040
theorem Wv (w:World):(oE w).map (fun s => ((oS s).1,(oS s).2.2.2.2.1)) = some ((PySem.W.openGood kq []).1,(PySem.W.openGood kq []).2.2.2.2.1):=by
 delta oE oS kq
 rw [PySem.W.Fast.te8329286145884443612,PySem.W.Fast.te14364793385576792824,PySem.W.Fast.te4187177175401517315]
 delta PySem.W.Fast.tw4187177175401517315 PySem.W.openGood
 dsimp only
 kernel_rfl
theorem Ww (w:World):(oE w).map (fun s => ((oS s).2.1,(oS s).2.2.1,(oS s).2.2.2.2.2.2.1,(oS s).2.2.2.2.2.2.2.2)) = some ((PySem.W.openGood kq []).2.1,(PySem.W.openGood kq []).2.2.1,(PySem.W.openGood kq []).2.2.2.2.2.2.1,(PySem.W.openGood kq []).2.2.2.2.2.2.2.2):=by
 delta oE oS kq
 rw [PySem.W.Fast.te8329286145884443612,PySem.W.Fast.te14364793385576792824,PySem.W.Fast.te4187177175401517315,PySem.W.Fast.te5923862056798008813]
 delta PySem.W.Fast.tw4187177175401517315 PySem.W.openGood
 dsimp only
 kernel_rfl
theorem Wx (w:World):(oE w).map (fun s => ((oS s).2.2.2.1)) = some ((PySem.W.openGood kq []).2.2.2.1):=by
 delta oE oS kq
 rw [PySem.W.Fast.te8329286145884443612,PySem.W.Fast.te14364793385576792824,PySem.W.Fast.te4187177175401517315]
 delta PySem.W.Fast.tw4187177175401517315 PySem.W.openGood
 dsimp only
 kernel_rfl
theorem Wy (w:World):(oE w).map (fun s => ((oS s).2.2.2.2.2.1)) = some ((PySem.W.openGood kq []).2.2.2.2.2.1):=by
 delta oE oS kq
 rw [PySem.W.Fast.te8329286145884443612,PySem.W.Fast.te14364793385576792824,PySem.W.Fast.te4187177175401517315]
 delta PySem.W.Fast.tw4187177175401517315 PySem.W.openGood
 dsimp only
 kernel_rfl
theorem Wz (w:World):(oE w).map (fun s => ((oS s).2.2.2.2.2.2.2.1,ka.map s.heap.get?)) = some ((PySem.W.openGood kq []).2.2.2.2.2.2.2.1,(Kk w.params).map fun (p:Addr × Obj) => some p.2):=by
 delta oE oS kq
 rw [PySem.W.Fast.te11361698036234583211,PySem.W.Fast.te8329286145884443612,PySem.W.Fast.te14364793385576792824,PySem.W.Fast.te4187177175401517315]
 delta PySem.W.Fast.tw4187177175401517315 PySem.W.openGood
 dsimp only
 kernel_rfl
theorem left:PySem.W.LeftO PySem.Challenge.pw_noshortring_k55_webs_spliced kq [] (fun s => PySem.W.xlAt kq [] s && PySem.W.recOk [] s) (fun s => ka.map s.heap.get?) (fun w => (Kk w.params).map fun (p:Addr × Obj) => some p.2) 6040:=by
 intro w
 have h0:=Wv w
 have h1:=Ww w
 have h2:=Wx w
 have h3:=Wy w
 have h4:=Wz w
 show (oE w).map (fun s => (oS s,ka.map s.heap.get?)) = _
 revert h0 h1 h2 h3 h4
 cases oE w with
 | none => intro h; cases h
 | some s =>
  intro h0 h1 h2 h3 h4
  have h0:=Option.some.inj h0
  simp only [Prod.mk.injEq] at h0
  have h1:=Option.some.inj h1
  simp only [Prod.mk.injEq] at h1
  have h2:=Option.some.inj h2
  have h3:=Option.some.inj h3
  have h4:=Option.some.inj h4
  simp only [Prod.mk.injEq] at h4
  exact congrArg some (Prod.ext (Prod.ext (h0.1) (Prod.ext (h1.1) (Prod.ext (h1.2.1) (Prod.ext (h2) (Prod.ext (h0.2) (Prod.ext (h3) (Prod.ext (h1.2.2.1) (Prod.ext (h4.1) (h1.2.2.2))))))))) (h4.2))
end K55
namespace Gr
open L2.TL
variable {ps:List (Int × Int)} {n:Int} {S:List Int} {v u:Int} {d e s k:Nat} {fs gs:List (Option Nat)} {UZ ds:List Int}
def Adj (ps:List (Int × Int)) (u v:Int):Prop:=(u,v)∈ps∨(v,u)∈ps
inductive W (ps:List (Int × Int)) (S:List Int):Nat→Int→Prop
 | at {v:Int}:v∈S→W ps S 0 v
 | go {k:Nat} {u v:Int}:W ps S k u→Adj ps u v→W ps S (k + 1) v
def Xw (ps:List (Int × Int)) (S:List Int) (v:Int) (d:Nat):Prop:=W ps S d v∧∀ j,j < d→¬ W ps S j v
def Xx (n:Int) (ps:List (Int × Int)):Prop:=∀ p∈ps,0≤p.1∧p.1 < p.2∧p.2 < n
theorem Adj.inb (hw:Xx n ps) (h:Adj ps u v):0≤v∧v < n∧u≠v:=by
 rcases h with h | h
 ·have:=hw _ h
  simp only at this
  omega
 ·have:=hw _ h
  simp only at this
  omega
structure Fr (n:Int) (ps:List (Int × Int)) (S:List Int) (s:Nat) (fs:List (Option Nat)):Prop where
 len:(fs.length:Int) = n
 eq:∀ v:Int,0≤v→v < n→∀ d,fs[v.toNat]? = some (some d)↔(d≤s∧Xw ps S v d)
structure All (n:Int) (ps:List (Int × Int)) (S:List Int) (fs:List (Option Nat)):Prop where
 len:(fs.length:Int) = n
 eq:∀ v:Int,0≤v→v < n→∀ d,fs[v.toNat]? = some (some d)↔Xw ps S v d
structure Mid (n:Int) (ps:List (Int × Int)) (S:List Int) (s:Nat) (fs:List (Option Nat)) (UZ ds:List Int):Prop where
 len:(fs.length:Int) = n
 eq:∀ v:Int,0≤v→v < n→∀ d,fs[v.toNat]? = some (some d)↔((d≤s∧Xw ps S v d)∨(d = s + 1∧v∈UZ))
 sub:∀ v∈UZ,Xw ps S v (s + 1)
 dn:∀ v∈ds,0≤v∧v < n∧∃ d,fs[v.toNat]? = some (some d)
end Gr
namespace L2
open PySem PySem.Spec PyProof.Rows
section
variable {X:Cx}
end
end L2
namespace L2.TL
open PySem PySem.Spec PyProof.Rows
section
variable {Z:Zx} {ρ:List (Option T)} {O:AM} {a:Expr} {ts:List T} {p pos:Pos}
end
section
variable {Z:Zx} {ρ:List (Option T)} {O:AM} {elt tg iter:Expr} {csc:Scope} {nc:List Str} {cap:List (Str × Nat)} {pos:Pos}
end
open PySem.Calls
mutual
def noL:T→Bool
 | .tup ts => noLs ts
 | .lst _ => false
 | .frz _ => false
 | _ => true
def noLs:List T→Bool
 | [] => true
 | t :: ts => noL t && noLs ts
end
section
variable {K:PySem.W.Frag} {O O':AM} {H:Hp}
mutual
theorem Rep.noL:∀ {v:V} {t:T},noL t = true→Rep K O H v t→Rep K O' H v t
 | _,_,_,.non => .non
 | _,_,_,.bl b => .bl b
 | _,_,_,.int i => .int i
 | _,_,_,.str x => .str x
 | _,_,e,.tup h r => .tup h (Reps.noL (by unfold TL.noL at e; exact e) r)
 | _,_,e,.lst _ _ _ => by unfold TL.noL at e; cases e
 | _,_,e,.frz _ _ => by unfold TL.noL at e; cases e
 | _,_,_,.dct h => .dct h
 | _,_,_,.raw v => .raw v
theorem Reps.noL:∀ {v:List V} {t:List T},noLs t = true→Reps K O H v t→Reps K O' H v t
 | _,_,_,.nil => .nil
 | _,_,e,.cons h r => by
  unfold TL.noLs at e
  rw [Bool.and_eq_true] at e
  exact .cons (Rep.noL e.1 h) (Reps.noL e.2 r)
end
inductive Lent (p:Addr) (us:List T):List T→List T→Prop
 | nil:Lent p us [] []
 | same {t:T} {ts ts':List T}:Lent p us ts ts'→Lent p us (t :: ts) (t :: ts')
 | lent {ts ts':List T}:Lent p us ts ts'→Lent p us (.raw (.ref p) :: ts) (.lst us :: ts')
end
section
variable {Z:Zx} {ρ:List (Option T)} {O:AM} {e a b:Expr} {es:List Expr} {Ψ:Es} {Φ:BX} {pos p:Pos} {t:T} {ts ts' us:List T} {x:Str} {l:Addr}
end
end L2.TL
namespace K55
open PySem L2 L2.TL PySem.Spec PyProof.Rows
def top (i:Nat):Stmt:=PySem.Challenge.pw_noshortring_k55_webs_spliced.main.body.getD i (.Pass ⟨0,0,0,0⟩)
abbrev Is:Stmt:=top 11
abbrev Ea:Stmt:=top 14
abbrev LQ:Stmt:=top 15
abbrev Po:Stmt:=top 16
abbrev MW:Stmt:=top 17
abbrev LR:Stmt:=top 21
abbrev Eb:Stmt:=top 22
abbrev Hs:Stmt:=top 33
abbrev SH:Stmt:=top 34
abbrev Ga:Stmt:=top 35
abbrev Iu:Stmt:=top 37
abbrev DH:Stmt:=top 38
abbrev Ce:Stmt:=top 39
abbrev Iv:Stmt:=top 40
abbrev Pp:Stmt:=top 41
abbrev SI:Stmt:=top 23
abbrev Ff:Stmt:=top 24
abbrev Ht:Stmt:=top 25
abbrev LS:Stmt:=top 26
abbrev Hu:Stmt:=top 42
abbrev Gb:Stmt:=top 43
abbrev DT:Stmt:=top 44
abbrev BF:Stmt:=top 45
abbrev Jy:Stmt:=top 46
abbrev Gd:Stmt:=top 36
structure Txt (mg:Str→Option Value):Prop where
 nInt:mg "int" = none
 nBool:mg "bool" = none
 nTuple:mg "tuple" = none
 nList:mg "list" = none
 nSet:mg "set" = none
 nRange:mg "range" = none
 nIsi:mg "isinstance" = none
 nMax:mg "max" = none
 nMin:mg "min" = none
 nLen:mg "len" = none
 nAll:mg "all" = none
 nSorted:mg "sorted" = none
 nRepr:mg "repr" = none
 nVE:mg "ValueError" = none
 nEnum:mg "enumerate" = none
 nAny:mg "any" = none
 iMP:∃ t:Tok,mg "MOST_PLACES" = some (.int 16 t)
def Gx (t:T) (a b:Int):Bool:=match t with
 | .int i => decide (a≤i) && decide (i≤b)
 | _ => false
def BE (n:Int) (p:Int × Int):Prop:=0≤p.1∧p.1 < p.2∧p.2 < n
theorem EW.cast {Z:Zx} {ρ:List (Option T)} {O:AM} {e:Expr} {k l:Bool} (h:EW Z ρ O e k) (z:k = l):EW Z ρ O e l:=z ▸ h
theorem EB.cast {Z:Zx} {ρ:List (Option T)} {O:AM} {e:Expr} {k l:Bool} (h:EB Z ρ O e k) (z:k = l):EB Z ρ O e l:=z ▸ h
theorem ET.cast {Z:Zx} {ρ:List (Option T)} {O:AM} {e:Expr} {k l:T} (h:ET Z ρ O e k) (z:k = l):ET Z ρ O e l:=z ▸ h
section
variable {P:Program} {w:World} {K:PySem.W.Frag} {mg:Str→Option Value} {base:Heap}
def MX:Cy:=PH fun ts r => ∃ t a b,ts = [t,.int a,.int b]∧BH t = false∧r = .bl (Gx t a b)
theorem SJ:FnScope ["thing","least","most"] ["thing","least","most"] (AA Is):=⟨rfl,rfl,rfl,by decide +kernel,rfl,by decide +kernel,by decide +kernel⟩
theorem Pq {f:Addr} {fd:FuncData} (F:Fun K "is_whole" "is_whole" Is f fd) (T:Txt mg):FnOk P w K mg base (CXe P w) 1 f fd ["thing","least","most"] (Dm K MX):=by
 refine Ag F SJ ?_ ?_
 ·rintro ts O Φ Ξ ⟨r,⟨t,a,b,rfl,_⟩,_⟩
  rfl
 ·rintro cdv A outer s H E O Ξ hr xf _ Φ ⟨_,⟨t,a,b,rfl,ht,rfl⟩,q⟩
  refine AF (AZ (EW.eb (Be (Az (DQ T.nIsi T.nInt Ut MQ (ev 0) ht)) fun _ => Cv (DQ T.nIsi T.nBool TY Jt (ev 0) ht))) (fun h => AH (AS (Jr _ ?_))) (fun h => Ac ?_))
  ·have:Gx t a b = false:=by
    cases t <;> first | rfl | cases h
   rw [this] at q; exact q
  ·cases t with
   | int i => exact AH (AS (Ro (ev 1) (ev 0) (ev 2) (by with_unfolding_all rfl) _ q))
   | bl i => cases h
   | raw i => cases ht
   | _ => cases h
theorem MY {t:T} {a b:Int} (h:Gx t a b = true):∃ i,t = .int i:=by
 cases t <;> first | exact ⟨_,rfl⟩ | cases h
end
abbrev Ps:Stmt:=top 28
abbrev Pt:Stmt:=top 29
abbrev VD:Stmt:=top 30
abbrev Pu:Stmt:=top 31
abbrev Iw:Stmt:=top 32
def Ix (xs:List T):Prop:=∃ a b c:Int,xs = [.int a,.int b,.int c]∧0≤a∧0≤c∧c < 2147483648
section
variable {P:Program} {w:World} {K:PySem.W.Frag} {mg:Str→Option Value} {base:Heap}
def Ge (K:PySem.W.Frag):Sp:=fun vs H Q _ => ∃ (a:Addr) (ns:List Int),vs = [.ref a,.int 0]∧SqL K H a (ns.map V.int)∧∀ i,Q (.int i) H
theorem VE:FnScope ["_law_script","_law_k"] ["_law_script","_law_k"] (AA Ps):=⟨rfl,rfl,rfl,by decide +kernel,rfl,by decide +kernel,by decide +kernel⟩
theorem SK {f:Addr} {fd:FuncData} (F:Fun K "_law_cell_at" "_law_cell_at" Ps f fd) (T:Txt mg):FnOk P w K mg base (CXe P w) 1 f fd ["_law_script","_law_k"] (Ge K):=by
 refine F.okX VE (fun vs H Q E h => ?_) (fun cdv A outer s H vs Q E hr h => ?_)
 ·obtain ⟨a,ns,rfl,_⟩:=h
  rfl
 ·obtain ⟨a,ns,rfl,hS,k⟩:=h
  refine ⟨_,BQ (JO (EE Sy (pv 1) (As Ci (by rfl) T.nLen Uu (AJ (pv 0) An)) (Ad _)) (Bh (DL (OG DZ (pv 0) (pv 1) (fun _ _ => rfl)))) Dz) (Bh (DL IC)),?_⟩
  refine ⟨_,rfl,_,rfl,a,_,rfl,.inl hS,_,_,rfl,rfl,_,rfl,?_⟩
  refine UO (fun h1 => ?_) (fun h1 => ?_)
  ·have h1:(0:Int) < ((ns.map V.int).length:Int):=by simpa using h1
   cases ns with
   | nil => simp at h1
   | cons n ns => exact ⟨_,rfl,_,rfl,a,_,0,.int n,rfl,rfl,hS,Bw (j:=0) rfl,k n⟩
  ·exact k 0
def Pv:Cy:=fun ts O Φ _ => ∃ n:Int,ts = [.int n]∧∀ m:Int,0≤m→m < 2147483629→Φ (.int m) O
theorem Pw:FnScope ["_law_seed"] ["_law_seed"] (AA Pt):=⟨rfl,rfl,rfl,by decide +kernel,rfl,by decide +kernel,by decide +kernel⟩
theorem SL {f:Addr} {fd:FuncData} (F:Fun K "_law_next" "_law_next" Pt f fd):FnOk P w K mg base (CXe P w) 1 f fd ["_law_seed"] (Dm K Pv):=by
 refine Ag F Pw ?_ ?_
 ·rintro ts O Φ Ξ ⟨n,rfl,_⟩
  rfl
 ·rintro cdv A outer s H E O Ξ hr xf _ Φ ⟨n,rfl,q⟩
  have b1:=Int.emod_nonneg (n + 7919) (show (2147483647:Int)≠0 by decide)
  have b2:=Int.emod_lt_of_pos (n + 7919) (show (0:Int) < 2147483647 by decide)
  refine AF (AQ 0 (ET.we (FA (Ai (ev 0) AB) AB (by decide)) ?_) Pw.nd)
  exact AH (AS (ET.we (FA (Ai (Ai (Ez (ev 0) (ev 0) (.inl ⟨by omega,by omega⟩)) (Ez AB (ev 0) (.inl ⟨by decide,by decide⟩))) AB) AB (by decide)) (q _ (Int.emod_nonneg _ (by decide)) (Int.emod_lt_of_pos _ (by decide)))))
def Td:Cy:=fun ts O Φ _ => ∃ c:Int,ts = [.int c]∧∀ (p:Addr) (xs:List T),O p = none→Ix xs→Φ (.raw (.ref p)) (BB O p xs)
theorem Te:FnScope ["_law_cell","_law_left"] ["_law_cell"] (AA VD):=⟨rfl,rfl,rfl,by decide +kernel,rfl,by decide +kernel,by decide +kernel⟩
theorem VF {f:Addr} {fd:FuncData} (F:Fun K "_law_pen_of" "_law_pen_of" VD f fd) (T:Txt mg):FnOk P w K mg base (CXe P w) 1 f fd ["_law_cell"] (Dm K Td):=by
 refine Ag F Te ?_ ?_
 ·rintro ts O Φ Ξ ⟨n,rfl,_⟩
  rfl
 ·rintro cdv A outer s H E O Ξ hr xf _ Φ ⟨n,rfl,q⟩
  refine AF (AQ 1 (ET.we (CB T.nMax rfl (ev 0) (Bu AB (ev 0))) ?_) Te.nd)
  refine AH (AS (Fa (EA.wa (AT (ev 1) (AT (Ij T.nInt (We (ev 1) (Ou AB AB ⟨by decide,by decide,by decide⟩))) (AT (FA (ev 1) AB (by decide)) AD))) ⟨by show 3≤sizeLine; decide,fun a ha => q a _ ha ?_⟩)))
  have b1:=Int.emod_nonneg (max n (0 - n)) (show (1000003:Int)≠0 by decide)
  have b2:=Int.emod_lt_of_pos (max n (0 - n)) (show (0:Int) < 1000003 by decide)
  exact ⟨_,_,_,rfl,by omega,b1,by omega⟩
def DC:Cy:=fun ts O Φ _ => ∃ (p:Addr) (xs:List T) (m:Int),ts = [.raw (.ref p),.int m]∧O p = some xs∧Ix xs∧0 < m∧m≤1000000000∧∀ (r:Int) (xs':List T),0≤r→r < m→Ix xs'→Φ (.int r) (BB O p xs')
theorem Px:FnScope ["_law_pen","_law_many","_law_found"] ["_law_pen","_law_many"] (AA Pu):=⟨rfl,rfl,rfl,by decide +kernel,rfl,by decide +kernel,by decide +kernel⟩
theorem SM {f:Addr} {fd:FuncData} (F:Fun K "_law_draw" "_law_draw" Pu f fd) (G:FnT P w K mg base "_law_next" 1 ["_law_seed"] Pv):FnOk P w K mg base (CXe P w) 2 f fd ["_law_pen","_law_many"] (Dm K DC):=by
 refine Ag F Px ?_ ?_
 ·rintro ts O Φ Ξ ⟨p,xs,m,rfl,_⟩
  rfl
 ·rintro cdv A outer s H E O Ξ hr xf _ Φ ⟨p,_,m,rfl,hp,⟨a,b,c,rfl,a0,c0,c1⟩,m0,m1,q⟩
  refine AF (AZ (Cr (Dw hp (ev 0) AB) AB) (fun h => ?_) (fun h => Ac ?_))
  ·refine AF (AQ 2 (ET.we (FA (Dw hp (ev 0) AB) (ev 1) m0) ?_) Px.nd)
   refine AF (PL (ET.we (Fb (Dw hp (ev 0) AB) (ev 1) ⟨m0,by omega⟩) (ET.we (ev 0) ⟨p,rfl,ET.we AB ⟨_,0,0,rfl,hp,rfl,?_⟩⟩)))
   exact AH (AS (ET.we (ev 2) (q _ _ (Int.emod_nonneg _ (by omega)) (Int.emod_lt_of_pos _ m0) ⟨a / m,b,c,rfl,Int.ediv_nonneg a0 (by omega),c0,c1⟩)))
  ·refine AF (PL (AX G hr xf (Dd (DG Dp (AX G hr xf (EA.wa (AT (Dw hp (ev 0) AB) AD) ⟨c,rfl,fun u u0 u1 => ?_⟩))))))
   refine ET.we AB (FR _ (BL ⟨u + 7,rfl,fun r r0 r1 => ET.we (ev 0) ⟨p,rfl,ET.we AB ⟨_,2,2,rfl,hp,rfl,?_⟩⟩⟩))
   exact AH (AS (ET.we (FA (Fb (Dw AO (ev 0) AB) AB ⟨by decide,by decide⟩) (ev 1) m0) (q _ _ (Int.emod_nonneg _ (by omega)) (Int.emod_lt_of_pos _ m0) ⟨a,b,r,rfl,a0,r0,by omega⟩)))
def Gf:Cy:=PH fun ts r => ∃ t,ts = [t]∧BH t = false∧r = .bl (PU t && !LI t)
theorem Py:FnScope ["_law_found"] ["_law_found"] (AA Iw):=⟨rfl,rfl,rfl,by decide +kernel,rfl,by decide +kernel,by decide +kernel⟩
theorem Nb {f:Addr} {fd:FuncData} (F:Fun K "_law_whole" "_law_whole" Iw f fd) (T:Txt mg):FnOk P w K mg base (CXe P w) 1 f fd ["_law_found"] (Dm K Gf):=by
 refine Ag F Py ?_ ?_
 ·rintro ts O Φ Ξ ⟨r,⟨t,rfl,_⟩,_⟩
  rfl
 ·rintro cdv A outer s H E O Ξ hr xf _ Φ ⟨_,⟨t,rfl,ht,rfl⟩,q⟩
  exact AH (AS (ET.we (PC (Ii T.nIsi T.nInt Ut MQ (ev 0) ht) fun _ => PB (PD (Ii T.nIsi T.nBool TY Jt (ev 0) ht))) q))
end
theorem AV:(1000:Nat) < sizeLine:=by decide
def PO (O0:AM) (p:Addr) (O:AM):Prop:=∃ xs,O = BB O0 p xs∧Ix xs
theorem PO.at {O0 O:AM} {p:Addr} (h:PO O0 p O):∃ xs,O p = some xs∧Ix xs:=by
 obtain ⟨xs,rfl,px⟩:=h
 exact ⟨xs,AO,px⟩
theorem PO.step {O0 O:AM} {p:Addr} {xs:List T} (h:PO O0 p O) (px:Ix xs):PO O0 p (BB O p xs):=by
 obtain ⟨ys,rfl,_⟩:=h
 exact ⟨xs,EO,px⟩
theorem PO.start {O:AM} {p:Addr} {xs:List T} (h:O p = some xs) (px:Ix xs):PO O p O:=⟨xs,(Pa h).symm,px⟩
section
variable {P:Program} {w:World} {K:PySem.W.Frag} {mg:Str→Option Value} {base:Heap}
section
variable {Z:Zx} {ρ:List (Option T)} {O O0 O1:AM} {a b:Expr} {Φ:BX} {pos q:Pos} {p c:Addr} {m:Int} {acc:List T}
theorem BD (G:FnT Z.X.prog Z.X.w Z.X.K Z.X.mg Z.X.base "_law_draw" 2 ["_law_pen","_law_many"] DC) (hr:Room 2 Z.X.A) (xf:XFly Z.X Z.W) (po:PO O0 p O) (ha:ET Z ρ O a (.raw (.ref p))) (hb:ET Z ρ O b (.int m)) (m0:0 < m) (m1:m≤1000000000) (k:∀ r O',0≤r→r < m→PO O0 p O'→Φ (.int r) O') (hg:Gl Z.X "_law_draw":=by rfl)
  (he:starEach [a,b] Z.X.env = (false,eval a Z.X.env) :: starEach [b] Z.X.env:=by rfl) (he2:starEach [b] Z.X.env = (false,eval b Z.X.env) :: starEach [] Z.X.env:=by rfl) (hpl:(backTo pos (starEach [b] Z.X.env)).any (·.1) = false:=by rfl):WE Z ρ O (.Call (.Name "_law_draw" q) [a,b] [] pos) Φ:=by
 obtain ⟨xs,hp,px⟩:=po.at
 exact AX G hr xf (EA.wa (AT ha (AT hb AD he2) he) ⟨p,xs,m,rfl,hp,px,m0,m1,fun r xs' r0 r1 px' => k r _ r0 r1 (po.step px')⟩) hg (by decide) he hpl
theorem Gg (G:FnT Z.X.prog Z.X.w Z.X.K Z.X.mg Z.X.base "_law_draw" 2 ["_law_pen","_law_many"] DC) (hr:Room 2 Z.X.A) (xf:XFly Z.X Z.W) (po:PO O0 p O) (hc:O c = none) (ha:ET Z ρ (BB O c acc) a (.raw (.ref p))) (hb:ET Z ρ (BB O c acc) b (.int m)) (m0:0 < m) (m1:m≤1000000000) (k:∀ r O',0≤r→r < m→PO O0 p O'→O' c = none→Φ (.int r) (BB O' c acc)) (hg:Gl Z.X "_law_draw":=by rfl)
  (he:starEach [a,b] Z.X.env = (false,eval a Z.X.env) :: starEach [b] Z.X.env:=by rfl) (he2:starEach [b] Z.X.env = (false,eval b Z.X.env) :: starEach [] Z.X.env:=by rfl) (hpl:(backTo pos (starEach [b] Z.X.env)).any (·.1) = false:=by rfl):WE Z ρ (BB O c acc) (.Call (.Name "_law_draw" q) [a,b] [] pos) Φ:=by
 obtain ⟨xs,hp,px⟩:=po.at
 have hpc:p≠c:=Ux hp hc
 refine AX G hr xf (EA.wa (AT ha (AT hb AD he2) he) ⟨p,xs,m,rfl,by rw [Af hpc]; exact hp,px,m0,m1,fun r xs' r0 r1 px' => ?_⟩) hg (by decide) he hpl
 rw [ER hpc]
 exact k r _ r0 r1 (po.step px') (by rw [Af (Ne.symm hpc)]; exact hc)
end
end
def mm (p:Int × Int):Int × Int:=(min p.1 p.2,max p.1 p.2)
section
variable {P:Program} {w:World} {K:PySem.W.Frag} {mg:Str→Option Value} {base:Heap} {CP CL:Addr}
theorem VG:(Ae ["a","b"] []).Nodup:=by decide +kernel
theorem VH:(Ae ["tie"] [(("out" : Str),3)]).Nodup:=by decide +kernel
def DU:Cy:=fun ts O Φ _ => ∃ ps:List (Int × Int),ts = [.lst (ps.map AC)]∧ps.length≤300∧(∀ p∈ps,(0≤p.1∧p.1 < 65536)∧0≤p.2∧p.2 < 65536) ∧
 ∀ qs:List (Int × Int),qs.Pairwise Hm→(∀ q,q∈qs↔q∈ps.map mm)→qs.length≤ps.length→Φ (.tup (qs.map AC)) O
theorem Pz:FnScope ["pairs"] ["pairs"] (AA Ea):=⟨rfl,rfl,rfl,by decide +kernel,rfl,by decide +kernel,by decide +kernel⟩
theorem LT {f:Addr} {fd:FuncData} (F:Fun K "ties_of" "ties_of" Ea f fd) (Tx:Txt mg):FnOk P w K mg base (CXe P w) 1 f fd ["pairs"] (Dm K DU):=by
 refine Ag F Pz ?_ ?_
 ·rintro ts O Φ Ξ ⟨ps,rfl,_⟩
  rfl
 ·rintro cdv A outer s H E O Ξ hr xf _ Φ ⟨ps,rfl,hl,hp,q⟩
  have hu:(A.deeper (envOfC "ties_of" (AA Ea) s.heap.objs.size f cdv)).units + 8 < cLine:=by have:=hr.un; omega
  have hz:ps.length≤sizeLine:=Nat.le_trans hl (by decide)
  refine AH (AS (GU Tx.nTuple (EV (ps:=ps.map mm) Tx.nSorted Tx.nSet rfl hu ?_ (by simpa using hl) ?_ fun qs h1 h2 h3 => ⟨_,rfl,q qs h1 h2 (by simpa using h3)⟩)))
  ·rw [List.map_map]
   refine Bd ["a","b"] [] ps AC _ rfl (BW (AA Ea) ["pairs"] (by decide +kernel)) (BC (ev 0)) hz fun x hx => ⟨[some (.int x.1),some (.int x.2)],fun X' Oe He is O' => ?_⟩
   obtain ⟨cl,s',H',fp,rfl⟩:=is
   exact ⟨Bl 0 1 rfl VG (by decide) (by decide),Ah (AE (EU Tx.nMin rfl (ev 0) (ev 1)) (AE (CB Tx.nMax rfl (ev 0) (ev 1)) AD))⟩
  ·intro z hz
   obtain ⟨p,h1,rfl⟩:=List.mem_map.mp hz
   have:=hp p h1
   show 0≤max _ _∧max _ _ < 65536
   omega
def MZ:Cy:=PH fun ts r => ∃ n u t,ts = [.tup [.int n,u],t]∧BH t = false∧r = .bl (Gx t 0 (n - 1))
theorem SN:FnScope ["web","thing"] ["web","thing"] (AA LQ):=⟨rfl,rfl,rfl,by decide +kernel,rfl,by decide +kernel,by decide +kernel⟩
theorem QA {f:Addr} {fd:FuncData} (F:Fun K "is_place" "is_place" LQ f fd) (G:FnT P w K mg base "is_whole" 1 ["thing","least","most"] MX):FnOk P w K mg base (CXe P w) 2 f fd ["web","thing"] (Dm K MZ):=by
 refine Ag F SN ?_ ?_
 ·rintro ts O Φ Ξ ⟨r,⟨n,u,t,rfl,_⟩,_⟩
  rfl
 ·rintro cdv A outer s H E O Ξ hr xf _ Φ ⟨_,⟨n,u,t,rfl,ht,rfl⟩,q⟩
  exact AH (AS (ET.we (At G hr xf (AE (ev 1) (AE AB (AE (Bu (AK (ev 0) AB) AB) AD))) ⟨t,0,n - 1,rfl,ht,rfl⟩) q))
def LU (CP:Addr):Cy:=fun ts O Φ Ξ => ∃ n u t,ts = [.tup [.int n,u],t]∧BH t = false∧(Gx t 0 (n - 1) = true→Φ .non O)∧(Gx t 0 (n - 1) = false→Ξ (.ref CP) O)
theorem VI:FnScope ["web","thing"] ["web","thing"] (AA Po):=⟨rfl,rfl,rfl,by decide +kernel,rfl,by decide +kernel,by decide +kernel⟩
theorem SO {f:Addr} {fd:FuncData} (F:Fun K "need_place" "need_place" Po f fd) (mP:mg "NoPlace" = some (.ref CP)) (xP:PySem.W.excIn K CP Ck "ValueError.__new__" = true) (G:FnT P w K mg base "is_place" 2 ["web","thing"] MZ):FnOk P w K mg base (CXe P w) 3 f fd ["web","thing"] (Dm K (LU CP)):=by
 refine Il F VI ?_ ?_
 ·rintro ts O Φ Ξ ⟨n,u,t,rfl,_⟩
  rfl
 ·rintro cdv A outer s H E O Ξ hr xo _ Φ ⟨n,u,t,rfl,ht,q1,q2⟩
  refine AH (AZ (Az (CY (At G hr xo.f (AE (ev 0) (AE (ev 1) AD)) ⟨n,u,t,rfl,ht,rfl⟩))) (fun h => AH (FF xo rfl mP xP (q2 ?_))) (fun h => Ac (q1 ?_)))
  ·cases z:Gx t 0 (n - 1) with
   | true => rw [z] at h; cases h
   | false => rfl
  ·cases z:Gx t 0 (n - 1) with
   | true => rfl
   | false => rw [z] at h; cases h
def Cf (ps:List (Int × Int)) (a b:Int):Bool:=decide (mm (a,b)∈ps)
def LV:Cy:=PH fun ts r => ∃ n ps a b,ts = [Am n ps,.int a,.int b]∧r = .bl (Cf ps a b)
theorem VJ:FnScope ["web","a","b"] ["web","a","b"] (AA MW):=⟨rfl,rfl,rfl,by decide +kernel,rfl,by decide +kernel,by decide +kernel⟩
theorem SQ {f:Addr} {fd:FuncData} (F:Fun K "are_tied" "are_tied" MW f fd) (Tx:Txt mg):FnOk P w K mg base (CXe P w) 1 f fd ["web","a","b"] (Dm K LV):=by
 refine Ag F VJ ?_ ?_
 ·rintro ts O Φ Ξ ⟨r,⟨n,ps,a,b,rfl,_⟩,_⟩
  rfl
 ·rintro cdv A outer s H E O Ξ hr xf _ Φ ⟨_,⟨n,ps,a,b,rfl,rfl⟩,q⟩
  have hu:(A.deeper (envOfC "are_tied" (AA MW) s.heap.objs.size f cdv)).units + 102 < cLine:=by have:=hr.un; omega
  refine AH (AS (ET.we (ET.cast (GQ (Hq hu) rfl (CS (BY (mm (a,b))) Au (BA _)) (Aa (EU Tx.nMin rfl (ev 1) (ev 2)) (CB Tx.nMax rfl (ev 1) (ev 2))) (AK (ev 0) AB)) ?_) q))
  show T.bl ((dTs (ps.map AC)).any fun y => PyData.eqv y (dT (AC (mm (a,b))))) = T.bl (Cf ps a b)
  rw [BN]
  rfl
def Iy (CP:Addr):Cy:=fun ts O Φ Ξ => ∃ n u us,ts = [.tup [.int n,u],.lst us]∧us.length≤100∧(∀ t∈us,BH t = false)∧((∀ t∈us,Gx t 0 (n - 1) = true)→Φ .non O)∧((∃ t∈us,Gx t 0 (n - 1) = false)→Ξ (.ref CP) O)
theorem Ma:FnScope ["web","things","thing"] ["web","things"] (AA LR):=⟨rfl,rfl,rfl,by decide +kernel,rfl,by decide +kernel,by decide +kernel⟩
theorem QB {f:Addr} {fd:FuncData} (F:Fun K "need_places" "need_places" LR f fd) (G:FnT P w K mg base "need_place" 3 ["web","thing"] (LU CP)):FnOk P w K mg base (CXe P w) 4 f fd ["web","things"] (Dm K (Iy CP)):=by
 refine Ag F Ma ?_ ?_
 ·rintro ts O Φ Ξ ⟨n,u,us,rfl,_⟩
  rfl
 ·rintro cdv A outer s H E O Ξ hr xf _ Φ ⟨n,u,us,rfl,hl,hw,q1,q2⟩
  refine AH (FD BI.own rfl (EI.wi (BC (ev 1)) ⟨fun i ρ' O' => O' = O∧(∃ v2,ρ' = [some (.tup [.int n,u]),some (.lst us),v2])∧∀ j t,j < i→us[j]? = some t→Gx t 0 (n - 1) = true,⟨rfl,⟨none,rfl⟩,fun j t h => by omega⟩,?_,?_⟩))
  ·rintro i t _ _ e ⟨rfl,⟨v2,rfl⟩,hj⟩
   refine ⟨[some (.tup [.int n,u]),some (.lst us),some t],AU 2 Ma.nd (by show 2 < 3; decide),AH (CA (AX G hr xf (EA.wa (AE (ev 0) (AE (ev 2) AD)) ⟨n,u,t,rfl,hw t (List.mem_of_getElem? e),fun h => ?_,fun h => q2 ⟨t,List.mem_of_getElem? e,h⟩⟩)))⟩
   refine ⟨rfl,⟨_,rfl⟩,fun j z hj' ez => ?_⟩
   by_cases hji:j = i
   ·subst hji
    rw [e] at ez; cases ez
    exact h
   ·exact hj j z (by omega) ez
  ·rintro _ _ ⟨rfl,⟨v2,rfl⟩,hj⟩
   refine q1 fun t ht => ?_
   obtain ⟨j,ej⟩:=List.getElem?_of_mem ht
   exact hj j t (List.getElem?_eq_some_iff.mp ej).1 ej
def Vm (ps cs ds:List (Int × Int)):List (Int × Int):=(ps.filter (fun p => !decide (p∈cs.map mm)) ++ ds).map mm
def Nm (p:Int × Int):Prop:=(0≤p.1∧p.1 < 65536)∧0≤p.2∧p.2 < 65536
def Jz:Cy:=fun ts O Φ _ => ∃ n ps cs ds,ts = [Am n ps,.lst (cs.map AC),.lst (ds.map AC)]∧ps.length≤200∧cs.length≤50∧ds.length≤50∧(∀ p∈ps,Nm p)∧(∀ p∈cs,Nm p)∧(∀ p∈ds,Nm p) ∧
 ∀ rs:List (Int × Int),rs.Pairwise Hm→(∀ q,q∈rs↔q∈Vm ps cs ds)→rs.length≤250→Φ (Am n rs) O
theorem KA:FnScope ["web","cut","tied","out"] ["web","cut","tied"] (AA Eb):=⟨rfl,rfl,rfl,by decide +kernel,rfl,by decide +kernel,by decide +kernel⟩
theorem Nc {f:Addr} {fd:FuncData} (F:Fun K "retied" "retied" Eb f fd) (G:FnT P w K mg base "ties_of" 1 ["pairs"] DU):FnOk P w K mg base (CXe P w) 2 f fd ["web","cut","tied"] (Dm K Jz):=by
 refine Ag F KA ?_ ?_
 ·rintro ts O Φ Ξ ⟨n,ps,cs,ds,rfl,_⟩
  rfl
 ·rintro cdv A outer s H E O Ξ hr xf _ Φ ⟨n,ps,cs,ds,rfl,l1,l2,l3,b1,b2,b3,q⟩
  have sb:=AV
  have hu:(A.deeper (envOfC "retied" (AA Eb) s.heap.objs.size f cdv)).units + 102 < cLine:=by have:=hr.un; omega
  refine AF (AQ 3 (AX G hr xf (EA.wa (AE (ev 1) AD) ⟨cs,rfl,by omega,b2,fun qs s1 s2 s3 => ?_⟩)) KA.nd)
  have lf:(ps.filter (fun p => !decide (p∈qs))).length≤ps.length:=List.length_filter_le ..
  refine AH (AS (Ey (EZ (ET.we (AK (ev 0) AB) (EZ (AX G hr xf (EA.wa (ts:=[.lst ((ps.filter (fun p => !decide (p∈qs)) ++ ds).map AC)]) (AE ?_ AD) ⟨ps.filter (fun p => !decide (p∈qs)) ++ ds,rfl,by simp; omega,?_,fun rs r1 r2 r3 => BL ⟨by show 2≤sizeLine; decide,q rs r1 (fun z => ?_) ?_⟩⟩)))))))
  ·rw [List.map_append]
   refine CC (CQ ["tie"] [("out",3)] ps AC AC (fun p => !decide (p∈qs)) rfl (BW (AA Eb) ["web","cut","tied","out"] (by decide +kernel)) (CO (AK (ev 0) AB)) (by omega) fun x hx => ⟨[some (AC x),some (.tup (qs.map AC))],fun X' Oe He is O' => ?_⟩) (ev 2) (by simp; omega)
   obtain ⟨cl,s',H',fp,rfl⟩:=is
   refine ⟨AU 0 VH (by decide),EB.cast (Ab (DS hu) rfl (CS (BY x) Au (BA _)) (ev 0) (ev 1)) ?_,fun _ => ev 0⟩
   rw [BN]
  ·intro p hp
   rcases List.mem_append.mp hp with hp | hp
   ·exact b1 p (List.mem_filter.mp hp).1
   ·exact b3 p hp
  ·rw [r2 z]
   have e:ps.filter (fun p => !decide (p∈qs)) = ps.filter (fun p => !decide (p∈cs.map mm)):=by
    refine List.filter_congr fun p _ => ?_
    have:(p∈qs) = (p∈cs.map mm):=propext (s2 p)
    simp only [this]
   unfold Vm
   rw [e]
  ·simp at r3
   omega
end
theorem Zm:bootBuiltins "ValueError" = some (.type "ValueError"):=by decide +kernel
theorem DV {H H':Hp} {p:Addr} {o:HO} (s:Same H H') (hp:H' p = none):Same H (upd H' p o):=fun b u e => by
 rw [AI (AR (s b u e) hp)]; exact s b u e
structure Asks (K:PySem.W.Frag) (mg:Str→Option Value) (CN:Addr) (x:Str) (b:Bool):Prop where
 ex:∃ C,mg x = some (.ref C)∧PySem.W.kitOne K (.ref CN) (.ref C) = some b
structure Kinds (K:PySem.W.Frag) (mg:Str→Option Value) (CN:Addr) (b0 b1 b2 b3 b4 b5 b6 b7:Bool):Prop where
 a0:Asks K mg CN "NoPlace" b0
 a1:Asks K mg CN "NoNumber" b1
 a2:Asks K mg CN "NoLine" b2
 a3:Asks K mg CN "NoRing" b3
 a4:Asks K mg CN "NotEven" b4
 a5:Asks K mg CN "NoWeb" b5
 a6:Asks K mg CN "NoText" b6
 a7:Asks K mg CN "TooGreat" b7
 ve:PySem.W.kitOne K (.ref CN) (.type "ValueError") = some true
 eN:ExcCls K CN
section
variable {P:Program} {w:World} {K:PySem.W.Frag} {mg:Str→Option Value} {base:Heap} {CP:Addr}
theorem LW:FnScope ["_law_e","_law_marks"] ["_law_e"] (AA Hs):=⟨rfl,rfl,rfl,by decide +kernel,rfl,by decide +kernel,by decide +kernel⟩
theorem Iz {f:Addr} {fd:FuncData} {b0 b1 b2 b3 b4 b5 b6 b7:Bool} {y:Str} {j:Nat} (F:Fun K "_law_kind_of" "_law_kind_of" Hs f fd) (T:Txt mg) (U:Kinds K mg CP b0 b1 b2 b3 b4 b5 b6 b7) (hc:(([.bl b0,.bl b1,.bl b2,.bl b3] ++ [.bl b4,.bl b5,.bl b6,.bl b7]:List V).countP fun z => FT z (.bl true)) = 1) (hj:([.bl b0,.bl b1,.bl b2,.bl b3] ++ [.bl b4,.bl b5,.bl b6,.bl b7]:List V)[j]? = some (.bl true)) (hno:∀ m z,m < j→([.bl b0,.bl b1,.bl b2,.bl b3] ++ [.bl b4,.bl b5,.bl b6,.bl b7]:List V)[m]? = some z→FT z (.bl true) = false) (hw:([.str "place",.str "number",.str "line",.str "ring",.str "even",.str "web",.str "text",.str "great"]:List V)[j]? = some (.str y)):FnH P w K mg base 1 f fd ["_law_e"] (DA CP y):=by
 obtain ⟨c0,m0,k0⟩:=U.a0.ex
 obtain ⟨c1,m1,k1⟩:=U.a1.ex
 obtain ⟨c2,m2,k2⟩:=U.a2.ex
 obtain ⟨c3,m3,k3⟩:=U.a3.ex
 obtain ⟨c4,m4,k4⟩:=U.a4.ex
 obtain ⟨c5,m5,k5⟩:=U.a5.ex
 obtain ⟨c6,m6,k6⟩:=U.a6.ex
 obtain ⟨c7,m7,k7⟩:=U.a7.ex
 refine F.okH LW (fun vs H Q E h => ?_) (fun cdv A outer s H vs Q hr h => ?_)
 ·obtain ⟨x,rfl,_⟩:=h
  rfl
 ·obtain ⟨x,rfl,hx,k⟩:=h
  refine ⟨_,BQ (IF (i:=1) LW.nd rfl (Or.inl rfl) (Ft
    (AJ (As BG (by rfl) T.nIsi HC (AJ (pv 0) (AJ (Bg (v:=.ref c0) (by rfl) m0 rfl) An)))
    (AJ (As BG (by rfl) T.nIsi HC (AJ (pv 0) (AJ (Bg (v:=.ref c1) (by rfl) m1 rfl) An)))
    (AJ (As BG (by rfl) T.nIsi HC (AJ (pv 0) (AJ (Bg (v:=.ref c2) (by rfl) m2 rfl) An)))
    (AJ (As BG (by rfl) T.nIsi HC (AJ (pv 0) (AJ (Bg (v:=.ref c3) (by rfl) m3 rfl) An))) An))))))
   (BQ (IF (i:=1) LW.nd rfl (Or.inl rfl) (Sw En (pv 1) (Ft
    (AJ (As BG (by rfl) T.nIsi HC (AJ (pv 0) (AJ (Bg (v:=.ref c4) (by rfl) m4 rfl) An)))
    (AJ (As BG (by rfl) T.nIsi HC (AJ (pv 0) (AJ (Bg (v:=.ref c5) (by rfl) m5 rfl) An)))
    (AJ (As BG (by rfl) T.nIsi HC (AJ (pv 0) (AJ (Bg (v:=.ref c6) (by rfl) m6 rfl) An)))
    (AJ (As BG (by rfl) T.nIsi HC (AJ (pv 0) (AJ (Bg (v:=.ref c7) (by rfl) m7 rfl) An))) An)))))))
   (BQ (JO (Su (Nr (JP (As BG (by rfl) T.nIsi HC (AJ (pv 0) (AJ (Li (v:=.ty "ValueError") (by rfl) T.nVE Zm rfl) An))) (fun _ => rfl)))
     (Nq (EE OA (OK PySem.F.plainAttrs_list PySem.F.slot_list_count PySem.F.type_list_count OU (pv 1) (AJ Np An)) IC (Ad _)))).pt
     (Bh (DL Bb)) Dz)
   (Bh (DL (OG DZ (Ft (AJ Bb (AJ Bb (AJ Bb (AJ Bb (AJ Bb (AJ Bb (AJ Bb (AJ Bb An)))))))))
    (OK PySem.F.plainAttrs_list PySem.F.slot_list_index PySem.F.type_list_index Jd (pv 1) (AJ Np An)) (fun _ _ => rfl)))))),?_⟩
  refine ⟨_,rfl,_,.ref c0,_,_,b0,rfl,rfl,.inr ⟨x,CP,rfl,rfl,hx,U.eN⟩,k0,?_⟩
  refine ⟨_,rfl,_,.ref c1,_,_,b1,rfl,rfl,.inr ⟨x,CP,rfl,rfl,hx,U.eN⟩,k1,?_⟩
  refine ⟨_,rfl,_,.ref c2,_,_,b2,rfl,rfl,.inr ⟨x,CP,rfl,rfl,hx,U.eN⟩,k2,?_⟩
  refine ⟨_,rfl,_,.ref c3,_,_,b3,rfl,rfl,.inr ⟨x,CP,rfl,rfl,hx,U.eN⟩,k3,(by show 4≤sizeLine; decide),fun p hp => ?_⟩
  have hx1:Rd (upd H p (.lst [.bl b0,.bl b1,.bl b2,.bl b3])) x (Dk CP x):=hx.upd hp
  refine ⟨_,rfl,?_⟩
  refine ⟨_,rfl,_,.ref c4,_,_,b4,rfl,rfl,.inr ⟨x,CP,rfl,rfl,hx1,U.eN⟩,k4,?_⟩
  refine ⟨_,rfl,_,.ref c5,_,_,b5,rfl,rfl,.inr ⟨x,CP,rfl,rfl,hx1,U.eN⟩,k5,?_⟩
  refine ⟨_,rfl,_,.ref c6,_,_,b6,rfl,rfl,.inr ⟨x,CP,rfl,rfl,hx1,U.eN⟩,k6,?_⟩
  refine ⟨_,rfl,_,.ref c7,_,_,b7,rfl,rfl,.inr ⟨x,CP,rfl,rfl,hx1,U.eN⟩,k7,(by show 4≤sizeLine; decide),fun p2 hp2 => ?_⟩
  have np:p≠p2:=fun z => by rw [z,AG] at hp2; cases hp2
  refine ⟨p,p2,_,_,rfl,rfl,(by rw [AI np]; exact AG),AG,(by show 8≤sizeLine; decide),fun p3 hp3 => ?_⟩
  have s1:Same H (upd H p (.lst [.bl b0,.bl b1,.bl b2,.bl b3])):=DV (Same.refl H) hp
  have s2:=DV (o:=.lst [.bl b4,.bl b5,.bl b6,.bl b7]) s1 hp2
  have s3:=DV (o:=.lst ([.bl b0,.bl b1,.bl b2,.bl b3] ++ [.bl b4,.bl b5,.bl b6,.bl b7])) s2 hp3
  refine ⟨_,rfl,_,.ty "ValueError",_,_,true,rfl,rfl,.inr ⟨x,CP,rfl,rfl,hx.same s3,U.eN⟩,U.ve,true,rfl,?_⟩
  refine IL ?_
  refine ⟨_,rfl,.inl ⟨rfl,_,SqL.of AG⟩,p3,_,_,rfl,rfl,SqL.of AG,rfl,rfl,rfl,_,rfl,?_⟩
  have ec:(!decide (V.int ((([.bl b0,.bl b1,.bl b2,.bl b3] ++ [.bl b4,.bl b5,.bl b6,.bl b7]:List V).countP fun z => FT z (.bl true):Nat):Int) = V.int 1)) = false:=by rw [hc]; rfl
  rw [ec]
  refine IL ?_
  refine ⟨(by show 8≤sizeLine; decide),fun p4 hp4 => ?_⟩
  have n4:p3≠p4:=fun z => by rw [z,AG] at hp4; cases hp4
  refine ⟨_,rfl,.inl ⟨rfl,_,SqL.of (by rw [AI n4]; exact AG)⟩,p3,_,_,j,rfl,rfl,SqL.of (by rw [AI n4]; exact AG),rfl,rfl,⟨.bl true,hj,rfl⟩,hno,?_⟩
  exact ⟨p4,_,(j:Int),_,rfl,rfl,SqL.of AG,Bw hw,k _ (DV s3 hp4)⟩
theorem QC {xs:List V} {j:Nat} (h:((List.range j).all fun m => match xs[m]? with | some z => !FT z (.bl true) | none => true) = true):∀ m z,m < j→xs[m]? = some z→FT z (.bl true) = false:=fun m z hm e => by
 have:=List.all_eq_true.mp h m (List.mem_range.mpr hm)
 rw [e] at this
 simpa using this
theorem HE {f:Addr} {fd:FuncData} (F:Fun K "_law_kind_of" "_law_kind_of" Hs f fd) (T:Txt mg) (U:Kinds K mg CP true false false false false false false false):FnH P w K mg base 1 f fd ["_law_e"] (DA CP "place"):=Iz (j:=0) F T U rfl rfl (QC (by decide)) rfl
theorem JA {f:Addr} {fd:FuncData} (F:Fun K "_law_kind_of" "_law_kind_of" Hs f fd) (T:Txt mg) (U:Kinds K mg CP false false true false false false false false):FnH P w K mg base 1 f fd ["_law_e"] (DA CP "line"):=Iz (j:=2) F T U rfl rfl (QC (by decide)) rfl
theorem HF {f:Addr} {fd:FuncData} (F:Fun K "_law_kind_of" "_law_kind_of" Hs f fd) (T:Txt mg) (U:Kinds K mg CP false false false false false false false true):FnH P w K mg base 1 f fd ["_law_e"] (DA CP "great"):=Iz (j:=7) F T U rfl rfl (QC (by decide)) rfl
theorem Mb:FnScope ["_law_e","_law_kind"] ["_law_e"] (AA SH):=⟨rfl,rfl,rfl,by decide +kernel,rfl,by decide +kernel,by decide +kernel⟩
theorem QD {f fK:Addr} {fd fdK:FuncData} {y:Str} (h1:y≠"great") (h2:y≠"web") (F:Fun K "_law_refused" "_law_refused" SH f fd) (FK:FnH P w K mg base 1 fK fdK ["_law_e"] (DA CP y)) (mK:mg "_law_kind_of" = some (.ref fK)) (kK:PySem.W.keepIn K (.ref fK) = true) (bK:Binds K fdK ["_law_e"] []):FnH P w K mg base 2 f fd ["_law_e"] (Ws CP (.tup [.str y])):=by
 refine F.okH Mb (fun vs H Q E h => ?_) (fun cdv A outer s H vs Q hr h => ?_)
 ·obtain ⟨x,rfl,_⟩:=h
  rfl
 ·obtain ⟨x,rfl,hx,k⟩:=h
  refine ⟨_,BQ (IF (i:=1) Mb.nd rfl (Or.inl rfl) (Jc FK hr (by rfl) mK kK bK (AJ (pv 0) An)))
   (BQ (JO (EE HI (pv 1) Bb (Ad _)) (Bh (DL (IH (AJ (pv 1) (AJ (KZ (pv 0) rfl) (AJ (KZ (pv 0) rfl) An)))))) Dz)
   (BQ (JO (EE HI (pv 1) Bb (Ad _)) (Bh (DL (IH (AJ (pv 1) (AJ (KZ (pv 0) rfl) An))))) Dz)
   (Bh (DL (IH (AJ (pv 1) An)))))),?_⟩
  refine ⟨_,rfl,x,rfl,hx,fun H' s' => ?_⟩
  have e1:decide (V.str y = V.str "great") = false:=decide_eq_false fun z => h1 (by injection z)
  have e2:decide (V.str y = V.str "web") = false:=decide_eq_false fun z => h2 (by injection z)
  refine ⟨_,rfl,rfl,_,rfl,?_⟩
  rw [e1]
  refine IL ?_
  refine ⟨_,rfl,rfl,_,rfl,?_⟩
  rw [e2]
  refine IL ?_
  refine ⟨_,rfl,(by show 1≤sizeLine; decide),fun p hp => ?_⟩
  refine k _ _ (DV s' hp) fun K O => .tup AG (.one (.str y))
end
section
variable {P:Program} {w:World} {K:PySem.W.Frag} {mg:Str→Option Value} {base:Heap} {CP CL:Addr}
structure WebA (n:Int) (ps:List (Int × Int)):Prop where
 n0:1≤n
 n1:n≤16
 hp:∀ p∈ps,BE n p
 hl:ps.length≤200
theorem WebA.inb {n:Int} {ps:List (Int × Int)} (a:WebA n ps):∀ p∈ps,Nm p:=fun p hp => by
 have:=a.hp p hp
 have:=a.n1
 unfold BE at *
 unfold Nm
 omega
theorem FH {t:T} {n:Int} (h:Gx t 0 (n - 1) = true):∃ i:Int,t = .int i∧0≤i∧i < n:=by
 obtain ⟨i,rfl⟩:=MY h
 have h:(decide (0≤i) && decide (i≤n - 1)) = true:=h
 simp at h
 exact ⟨i,rfl,h.1,by omega⟩
end
def VL:Stmt→Expr
 | .Return (some e) _ => e
 | .Assign _ e _ => e
 | _ => .Constant .none 0 ⟨0,0,0,0⟩
def Zo:Expr→Scope
 | .Call _ (.ListComp _ _ c _ :: _) _ _ => c
 | .ListComp _ _ c _ => c
 | _ => AA Is
section
variable {P:Program} {w:World} {K:PySem.W.Frag} {mg:Str→Option Value} {base:Heap} {CP CL:Addr}
theorem VM:(Ae ["_law_a","_law_b"] []).Nodup:=by decide +kernel
theorem XA:(Ae ["_law_place"] [(("_law_begin" : Str),2),(("_law_step" : Str),1),(("_law_n" : Str),0)]).Nodup:=by decide +kernel
theorem XB:(Ae ["_law_one"] []).Nodup:=by decide +kernel
theorem XC:(Ae ["_law_number"] []).Nodup:=by decide +kernel
def CF:Cy:=fun ts O Φ _ => ∃ (n:Int) (ps:List (Int × Int)),ts = [.int n,.lst (ps.map AC)]∧ps.length≤300∧(∀ p∈ps,Nm p)∧∀ rs:List (Int × Int),rs.Pairwise Hm→(∀ q,q∈rs↔q∈ps.map mm)→rs.length≤ps.length→Φ (Am n rs) O
theorem SR:FnScope ["_law_many","_law_ties"] ["_law_many","_law_ties"] (AA Ga):=⟨rfl,rfl,rfl,by decide +kernel,rfl,by decide +kernel,by decide +kernel⟩
theorem Nd {f:Addr} {fd:FuncData} (F:Fun K "_law_web_of" "_law_web_of" Ga f fd) (Tx:Txt mg):FnOk P w K mg base (CXe P w) 1 f fd ["_law_many","_law_ties"] (Dm K CF):=by
 refine Ag F SR ?_ ?_
 ·rintro ts O Φ Ξ ⟨n,ps,rfl,_⟩
  rfl
 ·rintro cdv A outer s H E O Ξ hr xf _ Φ ⟨n,ps,rfl,hl,hp,q⟩
  have hu:(A.deeper (envOfC "_law_web_of" (AA Ga) s.heap.objs.size f cdv)).units + 8 < cLine:=by have:=hr.un; omega
  have hz:ps.length≤sizeLine:=Nat.le_trans hl (by decide)
  refine AH (AS (Ey (EZ (ET.we (ev 0) (EZ (GU Tx.nTuple (EV (ps:=ps.map mm) Tx.nSorted Tx.nSet rfl hu ?_ (by simpa using hl) ?_ fun qs h1 h2 h3 => ⟨_,rfl,BL ⟨by show 2≤sizeLine; decide,q qs h1 h2 (by simpa using h3)⟩⟩)))))))
  ·rw [List.map_map]
   refine Bd ["_law_a","_law_b"] [] ps AC _ rfl (BW (AA Ga) ["_law_many","_law_ties"] (by decide +kernel)) (BC (ev 1)) hz fun x hx => ⟨[some (.int x.1),some (.int x.2)],fun X' Oe He is O' => ?_⟩
   obtain ⟨cl,s',H',fp,rfl⟩:=is
   exact ⟨Bl 0 1 rfl VM (by decide) (by decide),Ah (AE (EU Tx.nMin rfl (ev 0) (ev 1)) (AE (CB Tx.nMax rfl (ev 0) (ev 1)) AD))⟩
  ·intro z hz
   obtain ⟨p,h1,rfl⟩:=List.mem_map.mp hz
   have:=hp p h1
   unfold Nm at this
   show 0≤max _ _∧max _ _ < 65536
   omega
def KB (n st bg:Int):List (Int × Int):=(List.range n.toNat).map fun (i:Nat) => (bg + (0 + (i:Int)),bg + ((0 + (i:Int)) + st) % n)
def Fg:Cy:=PH fun ts r => ∃ n st bg,ts = [.int n,.int st,.int bg]∧0 < n∧n≤100∧r = .lst ((KB n st bg).map AC)
theorem SS:FnScope ["_law_n","_law_step","_law_begin"] ["_law_n","_law_step","_law_begin"] (AA Iu):=⟨rfl,rfl,rfl,by decide +kernel,rfl,by decide +kernel,by decide +kernel⟩
theorem QE {f:Addr} {fd:FuncData} (F:Fun K "_law_round" "_law_round" Iu f fd) (Tx:Txt mg):FnOk P w K mg base (CXe P w) 1 f fd ["_law_n","_law_step","_law_begin"] (Dm K Fg):=by
 refine Ag F SS ?_ ?_
 ·rintro ts O Φ Ξ ⟨r,⟨n,st,bg,rfl,_⟩,_⟩
  rfl
 ·rintro cdv A outer s H E O Ξ hr xf _ Φ ⟨_,⟨n,st,bg,rfl,n0,n1,rfl⟩,q⟩
  have sb:=AV
  refine AH (AS (ET.we (ET.cast (Bd ["_law_place"] [("_law_begin",2),("_law_step",1),("_law_n",0)] (List.range n.toNat) (fun i => .int (0 + (i:Int))) (fun i => AC (bg + (0 + (i:Int)),bg + ((0 + (i:Int)) + st) % n)) rfl (BW (AA Iu) ["_law_n","_law_step","_law_begin"] (by decide +kernel)) (Av Tx.nRange (ev 0) ⟨by omega,by omega⟩) (by simp; omega) fun x hx => ⟨[some (.int (0 + (x:Int))),some (.int bg),some (.int st),some (.int n)],fun X' Oe He is O' => ?_⟩) ?_) q))
  ·obtain ⟨cl,s',H',fp,rfl⟩:=is
   exact ⟨AU 0 XA (by decide),Aa (Ai (ev 1) (ev 0)) (Ai (ev 1) (FA (Ai (ev 0) (ev 2)) (ev 3) n0))⟩
  ·unfold KB
   rw [List.map_map]
   rfl
def QF:Cy:=PH fun ts r => ∃ ps:List (Int × Int),ts = [.tup (ps.map AC),.tup (ps.map AC)]∧ps.length≤300∧r = .bl true
theorem VN:FnScope ["_law_found","_law_due"] ["_law_found","_law_due"] (AA Ce):=⟨rfl,rfl,rfl,by decide +kernel,rfl,by decide +kernel,by decide +kernel⟩
def Zp:Scope:=Zo (VL ((AW Ce).getD 1 (.Pass ⟨0,0,0,0⟩)))
theorem KC {α:Type}:∀ (xs:List α),(xs.map fun _ => true).all id = true
 | [] => rfl
 | _ :: xs => KC xs
theorem ST {f:Addr} {fd:FuncData} (F:Fun K "_law_tuples_are" "_law_tuples_are" Ce f fd) (Tx:Txt mg) (G:FnT P w K mg base "_law_whole" 1 ["_law_found"] Gf):FnOk P w K mg base (CXe P w) 2 f fd ["_law_found","_law_due"] (Dm K QF):=by
 refine Ag F VN ?_ ?_
 ·rintro ts O Φ Ξ ⟨r,⟨ps,rfl,_⟩,_⟩
  rfl
 ·rintro cdv A outer s H E O Ξ hr xf _ Φ ⟨_,⟨ps,rfl,hl,rfl⟩,q⟩
  have sb:=AV
  have hu:(A.deeper (envOfC "_law_tuples_are" (AA Ce) s.heap.objs.size f cdv)).units + 102 < cLine:=by have:=hr.un; omega
  have hrd:Bf (.tup (ps.map AC)) = true:=by unfold Bf; exact Au
  have hd:(dT (.tup (ps.map AC))).depth≤100:=by
   have:=BZ (ps:=ps)
   simp only [dT,PyData.depth]
   omega
  refine AF (AZ (k:=false) (EW.eb (EW.cast (Be (Az (DQ Tx.nIsi Tx.nTuple Ig Ie (ev 0) rfl)) fun _ => Cv (Ab (Ip (Nat.lt_of_succ_lt hu)) (Ad _) (Iq hrd hrd hd) (ev 0) (ev 1))) ?_)) (fun h => by cases h) (fun _ => Ac ?_))
  ·show (!MP (.tup (ps.map AC)) || !PyData.eqvAll (dTs (ps.map AC)) (dTs (ps.map AC))) = false
   rw [Cd]
   simp [MP]
  ·refine AH (AS (ET.we (ET.cast (PV (bs:=ps.map fun _ => true) Tx.nAll rfl ?_) (by rw [KC])) q))
   rw [List.map_map]
   refine Bd ["_law_one"] [] ps AC _ rfl (BW (AA Ce) ["_law_found","_law_due"] (by decide +kernel)) (CO (ev 0)) (by omega) fun x hx => ⟨[some (AC x)],fun X' Oe He is O' => ?_⟩
   obtain ⟨cl,s',H',fp,rfl⟩:=is
   refine ⟨AU 0 XB (by decide),ET.cast (PC (Ii Tx.nIsi Tx.nTuple Ig Ie (ev 0) rfl) fun _ => PB (PV (bs:=[true,true]) Tx.nAll rfl ?_)) rfl⟩
   refine Bd ["_law_number"] [] [T.int x.1,T.int x.2] id (fun _ => .bl true) rfl (BW Zp ["_law_one"] (by decide +kernel)) (CO (ev 0)) (by show 2≤sizeLine; decide) fun y hy => ⟨[some y],fun X'' Oe' He' is' O'' => ?_⟩
   obtain ⟨cl',s'',H'',fp',rfl⟩:=is'
   refine ⟨AU 0 XC (by decide),At G (hr.mono (by decide)) EX (AE (ev 0) AD) ?_⟩
   simp only [List.mem_cons,List.not_mem_nil,or_false] at hy
   rcases hy with rfl | rfl
   ·exact ⟨_,rfl,rfl,rfl⟩
   ·exact ⟨_,rfl,rfl,rfl⟩
def Mc:Cy:=PH fun ts r => ∃ n ps,ts = [Am n ps,Am n ps]∧ps.length≤300∧r = .bl true
theorem SU:FnScope ["_law_found","_law_due"] ["_law_found","_law_due"] (AA Iv):=⟨rfl,rfl,rfl,by decide +kernel,rfl,by decide +kernel,by decide +kernel⟩
theorem Nf {f:Addr} {fd:FuncData} (F:Fun K "_law_web_is" "_law_web_is" Iv f fd) (Tx:Txt mg) (G:FnT P w K mg base "_law_whole" 2 ["_law_found"] Gf) (Gt:FnT P w K mg base "_law_tuples_are" 2 ["_law_found","_law_due"] QF):FnOk P w K mg base (CXe P w) 3 f fd ["_law_found","_law_due"] (Dm K Mc):=by
 refine Ag F SU ?_ ?_
 ·rintro ts O Φ Ξ ⟨r,⟨n,ps,rfl,_⟩,_⟩
  rfl
 ·rintro cdv A outer s H E O Ξ hr xf _ Φ ⟨_,⟨n,ps,rfl,hl,rfl⟩,q⟩
  have hu:(A.deeper (envOfC "_law_web_is" (AA Iv) s.heap.objs.size f cdv)).units + 102 < cLine:=by have:=hr.un; omega
  refine AF (AZ (k:=false) (EW.eb (EW.cast (Be (Az (DQ Tx.nIsi Tx.nTuple Ig Ie (ev 0) rfl)) fun _ => Be (Dv (Bm Tx.nLen (ev 0)) AB) fun _ => Be (Az (CY (At G hr xf (AE (AK (ev 0) AB) AD) ⟨_,rfl,rfl,rfl⟩))) fun _ => Cv (Ab (Ip (Nat.lt_of_succ_lt hu)) (Ad _) (Iq Pd Pd NW) (ev 0) (ev 1))) ?_)) (fun h => by cases h) (fun _ => Ac ?_))
  ·rw [Ru]
   simp [MP,TL.PU,LI]
  ·exact AH (AS (ET.we (At Gt hr xf (AE (AK (ev 0) AB) (AE (AK (ev 1) AB) AD)) ⟨ps,rfl,hl,rfl⟩) q))
end
section
variable {P:Program} {w:World} {K:PySem.W.Frag} {mg:Str→Option Value} {base:Heap} {CP CL:Addr}
def VO (n r:Int):List T:=[.int n,.int (n + 1 + r),.int (-1),.bl true,.bl false,.non,.str "0",.tup [.int 0],.lst [.int 0],.dct]
theorem VP {n r:Int} (n0:0≤n) (r0:0≤r):∀ t∈VO n r,BH t = false∧Gx t 0 (n - 1) = false:=by
 intro t ht
 unfold VO at ht
 simp only [List.mem_cons,List.not_mem_nil,or_false] at ht
 rcases ht with rfl | rfl | rfl | rfl | rfl | rfl | rfl | rfl | rfl | rfl <;> refine ⟨rfl,?_⟩ <;> first | rfl | (show (decide (_≤_) && decide (_≤_)) = false; simp; omega)
def QG:Cy:=fun ts O Φ _ => ∃ (p:Addr) (xs:List T) (n:Int),ts = [.raw (.ref p),.int n]∧O p = some xs∧Ix xs∧1≤n∧n≤16∧∀ (t:T) (O':AM),BH t = false→Gx t 0 (n - 1) = false→PO O p O'→Φ t O'
theorem QH:FnScope ["_law_pen","_law_many","_law_odd"] ["_law_pen","_law_many"] (AA Pp):=⟨rfl,rfl,rfl,by decide +kernel,rfl,by decide +kernel,by decide +kernel⟩
theorem KE {f:Addr} {fd:FuncData} (F:Fun K "_law_no_place" "_law_no_place" Pp f fd) (G:FnT P w K mg base "_law_draw" 2 ["_law_pen","_law_many"] DC):FnOk P w K mg base (CXe P w) 3 f fd ["_law_pen","_law_many"] (Dm K QG):=by
 refine Ag F QH ?_ ?_
 ·rintro ts O Φ Ξ ⟨p,xs,n,rfl,_⟩
  rfl
 ·rintro cdv A outer s H E O Ξ hr xf _ Φ ⟨p,xs,n,rfl,hp,px,n0,n1,q⟩
  have sb:=AV
  refine AF (AQ 2 (Ia (EZ (ET.we (ev 1) (EZ (DG Dp (ET.we (Ai (ev 1) AB) (BD (m:=1000000000) G hr xf (PO.start hp px) (ev 0) (ET.cast (Ou AB AB ⟨by decide,by decide,by decide⟩) rfl) (by decide) (by decide) fun r O1 r0 r1 po1 => FR _ ?_))))))) QH.nd)
  refine EA.wa (ts:=[.int (-1),.bl true,.bl false,.non,.str "0",.tup [.int 0],.lst [.int 0],.dct]) (AE (Uh AB) (AE Jr (AE Jr (AE Ue (AE Du (AE (Ah (AE AB AD) (by show 1≤sizeLine; decide)) (AE (Ay (AE AB AD) (by show 1≤sizeLine; decide)) (AE Uw AD)))))))) ⟨Nat.le_trans (show 10≤1000 by decide) (Nat.le_of_lt sb),?_⟩
  refine AH (AS (MK DZ (fun _ _ => rfl) (ET.we (ev 2) (BD G hr xf po1 (ev 0) AB (by decide) (by decide) fun r' O2 r0' r1' po2 => ?_))))
  obtain ⟨t,e1,m1⟩:=FX (L:=VO n r) r0' r1'
  obtain ⟨k1,k2⟩:=VP (by omega) r0 t m1
  exact Ic e1 _ (q t _ k1 k2 po2)
end
section
variable {P:Program} {w:World} {K:PySem.W.Frag} {mg:Str→Option Value} {base:Heap} {CP CL:Addr}
theorem SV:Bf (.tup [.str "line"]) = true:=by decide +kernel
theorem QI:PyData.eqv (dT (.tup [.str "line"])) (dT (.tup [.str "line"])) = true:=by decide +kernel
theorem KG:Bf (.tup [.str "place"]) = true:=by decide +kernel
theorem Ng:PyData.eqv (dT (.tup [.str "place"])) (dT (.tup [.str "place"])) = true:=by decide +kernel
theorem Gh {y:Str}:(dT (.tup [.str y])).depth≤100:=by simp [dT,dTs,PyData.depth,PyData.depthAll]
theorem VQ {a b c e a' b' c' e':Int} (h:[T.int a,.int b,.int c,.int e] = [a',b',c',e'].map T.int):a' = a∧b' = b∧c' = c∧e' = e:=by
 simp only [List.map_cons,List.map_nil,List.cons.injEq,T.int.injEq,and_true] at h
 obtain ⟨h1,h2,h3,h4⟩:=h
 exact ⟨h1.symm,h2.symm,h3.symm,h4.symm⟩
end
end K55
namespace L2.TL
open PySem PySem.Spec PyProof.Rows
theorem LX {Z:Zx} {ρ:List (Option T)} {O:AM} {e:Expr} {p pos:Pos} {ns:List Int} (m:Z.X.mg "sorted" = none) (h:ET Z ρ O e (.tup (ns.map T.int))) (hl:ns.length < 64) (hg:Gl Z.X "sorted":=by rfl)
  (he:starEach [e] Z.X.env = (false,eval e Z.X.env) :: starEach [] Z.X.env:=by rfl):ET Z ρ O (.Call (.Name "sorted" p) [e] [] pos) (.lst ((PySem.W.sortI ns).map T.int)):=fun Φ q => LN m h hl (fun ms pm pw => by rw [PySem.W.eq_sortI pm pw]; exact q) hg he
end L2.TL
namespace K55
open PySem L2 L2.TL PySem.Spec PyProof.Rows
def Hv (n:Int) (L:List (Int × Int)):Prop:=∀ p∈L,0≤p.1∧p.1 < n∧0≤p.2∧p.2 < n
def Ec:List Str:=["_law_pen","_law_most","_law_n","_law_half","_law_way","_law_every","_law_one","_law_share","_law_drawn","_law_step","_law_pairs","_law_pair"]
theorem Ar:FnScope Ec ["_law_pen","_law_most"] (AA DH):=⟨rfl,rfl,rfl,by decide +kernel,rfl,by decide +kernel,by decide +kernel⟩
def HG (i:Nat):Stmt:=(AW DH).getD i (.Pass ⟨0,0,0,0⟩)
def ZD:Stmt→List Stmt
 | .If _ a _ _ => a
 | _ => []
theorem XD:(Ae ["_law_other"] [(("_law_pair" : Str),11)]).Nodup:=by decide +kernel
theorem XF:(Ae ["_law_pair"] []).Nodup:=by decide +kernel
theorem XH:(Ae ["_law_other"] [(("_law_one" : Str),6)]).Nodup:=by decide +kernel
theorem XI:(Ae ["_law_pair"] [(("_law_pen" : Str),0),(("_law_share" : Str),7)]).Nodup:=by decide +kernel
theorem XJ:(Ae ["_law_pair"] [(("_law_half" : Str),3)]).Nodup:=by decide +kernel
theorem Tf:(Ae ["_law_at"] [(("_law_half" : Str),3)]).Nodup:=by decide +kernel
section
variable {P:Program} {w:World} {K:PySem.W.Frag} {mg:Str→Option Value} {base:Heap} {f:Addr} {cdv:Value} {A:Around} {outer:List Env} {s:Shared} {H:Hp} {E:XK} {O0 O1:AM} {Ξ:Value→AM→Prop} {p:Addr} {n:Int} {L:List (Int × Int)} {v3 v4 v5 v6 v7 v8 v9 v11:Option T} {Φ:BX} {N:LH}
abbrev zW (P:Program) (w:World) (K:PySem.W.Frag) (mg:Str→Option Value) (base:Heap) (f:Addr) (cdv:Value) (A:Around) (outer:List Env) (s:Shared) (H:Hp) (E:XK) (O:AM) (Ξ:Value→AM→Prop):Zx:=zB P w K mg base Ec "_law_some_web" (AA DH) f cdv A outer s H E O Ξ
abbrev LY (p:Addr) (n:Int) (v3 v4 v5 v6 v7 v8 v9:Option T) (L:List (Int × Int)) (v11:Option T):List (Option T):=[some (.raw (.ref p)),some (.int 16),some (.int n),v3,v4,v5,v6,v7,v8,v9,some (.lst (L.map AC)),v11]
def QJ (O0:AM) (p:Addr) (Φ:BX):Prop:=∀ (n:Int) (ps:List (Int × Int)) (O':AM),3≤n→n≤16→(∀ q∈ps,BE n q)→ps.Pairwise Hm→ps.length≤140→PO O0 p O'→Φ (Am n ps) O'
theorem QK (hr:Room 2 (zW P w K mg base f cdv A outer s H E O0 Ξ).X.A) (xf:XFly (zW P w K mg base f cdv A outer s H E O0 Ξ).X (zW P w K mg base f cdv A outer s H E O0 Ξ).W) (Gw:FnT P w K mg base "_law_web_of" 1 ["_law_many","_law_ties"] CF)
  (po:PO O0 p O1) (n0:3≤n) (n1:n≤16) (hL:Hv n L) (hl:L.length≤140) (q:QJ O0 p Φ) :
  DI (zW P w K mg base f cdv A outer s H E O0 Ξ) (LY p n v3 v4 v5 v6 v7 v8 v9 L v11) O1 [HG 14] { nx:=N,rt:=Φ }:=by
 have sb:=AV
 have lf:(L.filter fun p => !decide (p.1 = p.2)).length≤L.length:=List.length_filter_le ..
 refine AH (AS (AX Gw (hr.mono (by decide)) xf (EA.wa (AE (ev 2) (AE (CQ ["_law_pair"] [] L AC AC (fun p => !decide (p.1 = p.2)) rfl (BW (AA DH) Ec (by decide +kernel)) (BC (ev 10)) (by omega) fun x hx => ⟨[some (AC x)],fun X' Oe He is O' => ?_⟩) AD)) ⟨n,L.filter fun p => !decide (p.1 = p.2),rfl,by omega,fun p hp => ?_,fun rs r1 r2 r3 => q n rs O1 n0 n1 (fun z hz => ?_) r1 (by omega) po⟩)))
 ·obtain ⟨cl,s',H',fp,rfl⟩:=is
  exact ⟨AU 0 XF (by decide),Dv (AK (ev 0) AB) (AK (ev 0) AB),fun _ => ev 0⟩
 ·have:=hL p (List.mem_filter.mp hp).1
  unfold Nm
  omega
 ·obtain ⟨y,hy,rfl⟩:=List.mem_map.mp ((r2 z).mp hz)
  obtain ⟨h1,h2⟩:=List.mem_filter.mp hy
  have:=hL y h1
  have h2:y.1≠y.2:=by simpa using h2
  unfold BE mm
  show 0≤min _ _∧min _ _ < max _ _∧max _ _ < n
  omega
theorem QL (hr:Room 2 (zW P w K mg base f cdv A outer s H E O0 Ξ).X.A) (xf:XFly (zW P w K mg base f cdv A outer s H E O0 Ξ).X (zW P w K mg base f cdv A outer s H E O0 Ξ).W) (Tx:Txt mg) (G:FnT P w K mg base "_law_draw" 2 ["_law_pen","_law_many"] DC) (Gw:FnT P w K mg base "_law_web_of" 1 ["_law_many","_law_ties"] CF)
  (po:PO O0 p O1) (n0:3≤n) (n1:n≤16) (hL:Hv n L) (hl:L.length≤130) (q:QJ O0 p Φ) :
  DI (zW P w K mg base f cdv A outer s H E O0 Ξ) (LY p n v3 v4 v5 v6 v7 v8 v9 L v11) O1 [HG 13,HG 14] { nx:=N,rt:=Φ }:=by
 have sb:=AV
 have hu:(zW P w K mg base f cdv A outer s H E O0 Ξ).X.A.units < cLine:=by have:=hr.un; omega
 refine AF (PK (Ib HI (Ad _) (BD G hr xf po (ev 0) AB (by decide) (by decide) fun r0 O2 _ _ po2 => ET.we AB (LF _ ⟨_,rfl,UO (fun _ => ?_) (fun _ => Ac (QK hr xf Gw po2 n0 n1 hL (by omega) q))⟩))))
 refine AF (AQ 6 (BD G hr xf po2 (ev 0) (Bu (ev 2) AB) (by omega) (by omega) fun one O3 o0 o1 po3 => ?_) Ar.nd)
 refine AF (AQ 11 (Ey (EZ (ET.we (ev 6) (EZ (DG Dp (ET.we (Ai (ev 6) AB) (BD G hr xf po3 (ev 0) (Bu (Bu (ev 2) AB) (ev 6)) (by omega) (by omega) fun r O4 r0 r1 po4 => FR _ (BL ⟨by show 2≤sizeLine; decide,?_⟩))))))))  Ar.nd)
 have lf:(L.filter fun x => !decide (PySem.W.sortI [x.1,x.2] = [one,one + 1 + r])).length≤L.length:=List.length_filter_le ..
 refine AH (AQ 10 (DG En (ET.we (CQ ["_law_other"] [("_law_pair",11)] L AC AC (fun x => !decide (PySem.W.sortI [x.1,x.2] = [one,one + 1 + r])) rfl (BW (AA DH) Ec (by decide +kernel)) (BC (ev 10)) (by omega) fun x hx => ⟨[some (AC x),some (AC (one,one + 1 + r))],fun X' Oe He is O' => ?_⟩) (DG Rv (ET.we (Ay (AE (ev 11) AD) (by show 1≤sizeLine; decide)) (BD G hr xf po4 (ev 0) AB (by decide) (by decide) fun k O5 k0 k1 po5 => Ry (by omega) _ ?_))))) Ar.nd)
 ·obtain ⟨cl,s',H',fp,rfl⟩:=is
  exact ⟨AU 0 XD (by decide),Ab (Uz hu) (Ad _) (Wp (ms:=[one,one + 1 + r])) (LX (ns:=[x.1,x.2]) Tx.nSorted (ev 0) (by simp)) (Cc Tx.nList (ev 1)),fun _ => ev 0⟩
 ·have lr:(List.replicate k.toNat (T.tup [.int one,.int (one + 1 + r)])).length≤1:=by rw [List.length_replicate]; omega
  refine De (by rw [List.length_map]; omega) _ ?_
  have e:(L.filter fun x => !decide (PySem.W.sortI [x.1,x.2] = [one,one + 1 + r])).map AC ++ List.replicate k.toNat (T.tup [.int one,.int (one + 1 + r)]) = ((L.filter fun x => !decide (PySem.W.sortI [x.1,x.2] = [one,one + 1 + r])) ++ List.replicate k.toNat (one,one + 1 + r)).map AC:=by
   rw [List.map_append,List.map_replicate]; rfl
  rw [e]
  refine QK hr xf Gw po5 n0 n1 (fun z hz => ?_) (by rw [List.length_append,List.length_replicate]; omega) q
  rcases List.mem_append.mp hz with hz | hz
  ·exact hL z (List.mem_filter.mp hz).1
  ·rw [(List.mem_replicate.mp hz).2]
   show 0≤one∧one < n∧0≤one + 1 + r∧one + 1 + r < n
   omega
end
theorem Ed {n st bg:Int}:(KB n st bg).length = n.toNat:=by simp [KB]
theorem Gi {n st bg m:Int} (n0:0 < n) (b0:0≤bg) (h:bg + n≤m):Hv m (KB n st bg):=by
 intro p hp
 obtain ⟨i,hi,rfl⟩:=List.mem_map.mp hp
 have hi:=List.mem_range.mp hi
 have h1:=Int.emod_nonneg (0 + (i:Int) + st) (show n≠0 by omega)
 have h2:=Int.emod_lt_of_pos (0 + (i:Int) + st) n0
 show 0≤bg + (0 + (i:Int))∧bg + (0 + (i:Int)) < m∧0≤bg + (0 + (i:Int) + st) % n∧bg + (0 + (i:Int) + st) % n < m
 omega
def Qw (h:Int):List (Int × Int):=(List.range h.toNat).map fun (i:Nat) => (0 + (i:Int),h + (0 + (i:Int)))
theorem SW {h:Int}:(Qw h).length = h.toNat:=by simp [Qw]
theorem QM {h m:Int} (e:2 * h≤m) (h0:0≤h):Hv m (Qw h):=by
 intro p hp
 obtain ⟨i,hi,rfl⟩:=List.mem_map.mp hp
 have hi:=List.mem_range.mp hi
 show 0≤0 + (i:Int)∧0 + (i:Int) < m∧0≤h + (0 + (i:Int))∧h + (0 + (i:Int)) < m
 omega
theorem Ee {n:Int} {L M:List (Int × Int)} (a:Hv n L) (b:Hv n M):Hv n (L ++ M):=fun p hp => (List.mem_append.mp hp).elim (a p) (b p)
section
variable {P:Program} {w:World} {K:PySem.W.Frag} {mg:Str→Option Value} {base:Heap} {f:Addr} {cdv:Value} {A:Around} {outer:List Env} {s:Shared} {H:Hp} {E:XK} {O0 O1:AM} {Ξ:Value→AM→Prop} {p:Addr} {n hf way st:Int} {L es:List (Int × Int)} {v6 v7 v8:Option T} {Φ:BX} {N:LH}
theorem LZ {ρ:List (Option T)} (Tx:Txt mg) (h0:0≤hf) (h1:hf≤8) (hρ:ρ[3]? = some (some (.int hf))) (hρl:ρ.length = 12):ET (zW P w K mg base f cdv A outer s H E O0 Ξ) ρ O1 (match VL ((ZD (HG 11)).getD 1 (.Pass ⟨0,0,0,0⟩)) with | .BinOp _ _ b _ => b | x => x) (.lst ((Qw hf).map AC)):=by
 have sb:=AV
 match ρ,hρl,hρ with
 | [a0,a1,a2,a3,a4,a5,a6,a7,a8,a9,a10,a11],_,hρ =>
  cases (show a3 = some (.int hf) from Option.some.inj hρ)
  refine ET.cast (Bd ["_law_at"] [("_law_half",3)] (List.range hf.toNat) (fun i => .int (0 + (i:Int))) (fun i => AC (0 + (i:Int),hf + (0 + (i:Int)))) rfl (BW (AA DH) Ec (by decide +kernel)) (Av Tx.nRange (ev 3) ⟨by omega,by omega⟩) (by simp; omega) fun x hx => ⟨[some (.int (0 + (x:Int))),some (.int hf)],fun X' Oe He is O' => ?_⟩) ?_
  ·obtain ⟨cl,s',H',fp,rfl⟩:=is
   exact ⟨AU 0 Tf (by decide),Aa (ev 0) (Ai (ev 1) (ev 0))⟩
  ·unfold Qw
   rw [List.map_map]; rfl
theorem La {ρ:List (Option T)} (Tx:Txt mg) (h0:0≤hf) (h1:hf≤8) (hρ:ρ[3]? = some (some (.int hf))) (hρl:ρ.length = 12):ET (zW P w K mg base f cdv A outer s H E O0 Ξ) ρ O1 (match VL ((ZD (HG 12)).getD 1 (.Pass ⟨0,0,0,0⟩)) with | .BinOp _ _ b _ => b | x => x) (.lst ((Qw hf).map AC)):=by
 have sb:=AV
 match ρ,hρl,hρ with
 | [a0,a1,a2,a3,a4,a5,a6,a7,a8,a9,a10,a11],_,hρ =>
  cases (show a3 = some (.int hf) from Option.some.inj hρ)
  refine ET.cast (Bd ["_law_at"] [("_law_half",3)] (List.range hf.toNat) (fun i => .int (0 + (i:Int))) (fun i => AC (0 + (i:Int),hf + (0 + (i:Int)))) rfl (BW (AA DH) Ec (by decide +kernel)) (Av Tx.nRange (ev 3) ⟨by omega,by omega⟩) (by simp; omega) fun x hx => ⟨[some (.int (0 + (x:Int))),some (.int hf)],fun X' Oe He is O' => ?_⟩) ?_
  ·obtain ⟨cl,s',H',fp,rfl⟩:=is
   exact ⟨AU 0 Tf (by decide),Aa (ev 0) (Ai (ev 1) (ev 0))⟩
  ·unfold Qw
   rw [List.map_map]; rfl
theorem VR (hr:Room 2 (zW P w K mg base f cdv A outer s H E O0 Ξ).X.A) (xf:XFly (zW P w K mg base f cdv A outer s H E O0 Ξ).X (zW P w K mg base f cdv A outer s H E O0 Ξ).W) (Tx:Txt mg) (G:FnT P w K mg base "_law_draw" 2 ["_law_pen","_law_many"] DC) (Gr:FnT P w K mg base "_law_round" 1 ["_law_n","_law_step","_law_begin"] Fg) (Gw:FnT P w K mg base "_law_web_of" 1 ["_law_many","_law_ties"] CF)
  (po:PO O0 p O1) (n0:3≤n) (n1:n≤16) (f0:3≤hf) (f1:hf≤8) (hE:Hv n es) (hel:es.length≤120) (hL:Hv n L) (hl:L.length≤120) (h7:way = 7→L.length≤16) (q:QJ O0 p Φ) :
  DI (zW P w K mg base f cdv A outer s H E O0 Ξ) (LY p n (some (.int hf)) (some (.int way)) (some (.lst (es.map AC))) v6 v7 v8 (some (.int st)) L none) O1 [HG 9,HG 10,HG 11,HG 12,HG 13,HG 14] { nx:=N,rt:=Φ }:=by
 have sb:=AV
 refine AF (Fc (Ψ:={ nx:=fun ρ' O' => O1 = O'∧∃ L,ρ' = LY p n (some (.int hf)) (some (.int way)) (some (.lst (es.map AC))) v6 v7 v8 (some (.int st)) L none∧Hv n L∧L.length≤120,rt:=Φ }) (AZ (Cr (ev 4) AB) (fun h => ?_) (fun h => Ac ⟨rfl,L,rfl,hL,hl⟩)) ?_ (fun _ _ z => z) (fun _ _ z => z) (fun _ _ z => z))
 ·have h:way = 7:=by simpa using h
  have:=h7 h
  have e:(KB n (st + 1) 0).length = n.toNat:=Ed
  refine AH (AQ 10 (ET.we (CC (ev 10) (At Gr (hr.mono (by decide)) xf (AE (ev 2) (AE (Ai (ev 9) AB) (AE AB AD))) ⟨n,st + 1,0,rfl,by omega,by omega,rfl⟩) (by simp only [List.length_map]; omega)) ?_) Ar.nd)
  refine ⟨rfl,L ++ KB n (st + 1) 0,?_,Ee hL (Gi (by omega) (by omega) (by omega)),by rw [List.length_append]; omega⟩
  unfold LY
  rw [List.map_append]; rfl
 rintro _ _ ⟨rfl,L,rfl,hL,hl⟩
 refine AF (Fc (Ψ:={ nx:=fun ρ' O' => O1 = O'∧∃ L,ρ' = LY p n (some (.int hf)) (some (.int way)) (some (.lst (es.map AC))) v6 v7 v8 (some (.int st)) L none∧Hv n L∧L.length≤120,rt:=Φ }) (AZ (Cr (ev 4) AB) (fun h => ?_) (fun h => Ac ⟨rfl,L,rfl,hL,hl⟩)) ?_ (fun _ _ z => z) (fun _ _ z => z) (fun _ _ z => z))
 ·have lf:(es.filter fun x => decide (x.1 < hf) && decide (hf≤x.2)).length≤es.length:=List.length_filter_le ..
  refine AH (ES (i:=10) (nc:=["_law_pair"]) (cap:=[("_law_half",3)]) (by rfl) Ar.nd rfl (BW (AA DH) Ec (by decide +kernel)) (BC (ev 5) _ (DR es AC AC (fun x => decide (x.1 < hf) && decide (hf≤x.2)) (by omega) (fun x hx => ⟨[some (AC x),some (.int hf)],fun X' Oe He is O' => ?_⟩) ?_)))
  ·obtain ⟨cl,s',H',fp,rfl⟩:=is
   exact ⟨AU 0 XJ (by decide),EW.eb (Cw (Wg (AK (ev 0) AB) (ev 1)) fun _ => Cu (Wh (AK (ev 0) AB) (ev 1))),fun _ => ev 0⟩
  ·exact ⟨rfl,_,rfl,fun z hz => hE z (List.mem_filter.mp hz).1,by omega⟩
 rintro _ _ ⟨rfl,L,rfl,hL,hl⟩
 have e1:(KB hf 1 0).length = hf.toNat:=Ed
 have e2:(KB hf st hf).length = hf.toNat:=Ed
 have e3:(Qw hf).length = hf.toNat:=SW
 have e4:(KB (2 * hf) 1 0).length = (2 * hf).toNat:=Ed
 refine AF (Fc (Ψ:={ nx:=fun ρ' O' => O1 = O'∧∃ n L,3≤n∧n≤16∧ρ' = LY p n (some (.int hf)) (some (.int way)) (some (.lst (es.map AC))) v6 v7 v8 (some (.int st)) L none∧Hv n L∧L.length≤120,rt:=Φ }) (AZ (EW.eb (Cw (Cr (ev 4) AB) fun _ => Cu (TW (Ez AB (ev 3) (.inl ⟨by decide,by decide⟩)) (ev 1)))) (fun h => ?_) (fun h => Ac ⟨rfl,n,L,n0,n1,rfl,hL,hl⟩)) ?_ (fun _ _ z => z) (fun _ _ z => z) (fun _ _ z => z))
 ·have h:(decide (way = 4) && decide (2 * hf≤16)) = true:=h
  have h16:2 * hf≤16:=by simp at h; omega
  refine AF (AQ 2 (ET.we (Ez AB (ev 3) (.inl ⟨by decide,by decide⟩)) ?_) Ar.nd)
  refine AH (AQ 10 (ET.we (t:=.lst ((KB hf 1 0 ++ KB hf st hf ++ Qw hf).map AC)) ?_ ?_) Ar.nd)
  rotate_left
  ·exact ⟨rfl,2 * hf,_,by omega,by omega,rfl,Ee (Ee (Gi (by omega) (by omega) (by omega)) (Gi (by omega) (by omega) (by omega))) (QM (by omega) (by omega)),by simp only [List.length_append]; omega⟩
  rw [List.map_append,List.map_append]
  exact CC (CC (At Gr (hr.mono (by decide)) xf (AE (ev 3) (AE AB (AE AB AD))) ⟨hf,1,0,rfl,by omega,by omega,rfl⟩) (At Gr (hr.mono (by decide)) xf (AE (ev 3) (AE (ev 9) (AE (ev 3) AD))) ⟨hf,st,hf,rfl,by omega,by omega,rfl⟩) (by simp only [List.length_map]; omega)) (LZ Tx (by omega) (by omega) rfl rfl) (by simp only [List.length_append,List.length_map]; omega)
 rintro _ _ ⟨rfl,n,L,n0,n1,rfl,hL,hl⟩
 refine AF (AZ (EW.eb (Cw (Cr (ev 4) AB) fun _ => Cu (TW (Ez AB (ev 3) (.inl ⟨by decide,by decide⟩)) (ev 1)))) (fun h => ?_) (fun h => Ac (QL hr xf Tx G Gw po n0 n1 hL (by omega) q)))
 have h:(decide (way = 5) && decide (2 * hf≤16)) = true:=h
 have h16:2 * hf≤16:=by simp at h; omega
 refine AF (AQ 2 (ET.we (Ez AB (ev 3) (.inl ⟨by decide,by decide⟩)) ?_) Ar.nd)
 refine AH (AQ 10 (ET.we (t:=.lst ((KB (2 * hf) 1 0 ++ Qw hf).map AC)) ?_ (QL hr xf Tx G Gw po (by omega) (by omega) (Ee (Gi (by omega) (by omega) (by omega)) (QM (by omega) (by omega))) (by simp only [List.length_append]; omega) q)) Ar.nd)
 rw [List.map_append]
 exact CC (At Gr (hr.mono (by decide)) xf (AE (ev 2) (AE AB (AE AB AD))) ⟨2 * hf,1,0,rfl,by omega,by omega,rfl⟩) (La Tx (by omega) (by omega) rfl rfl) (by simp only [List.length_map]; omega)
end
section
variable {P:Program} {w:World} {K:PySem.W.Frag} {mg:Str→Option Value} {base:Heap} {f:Addr} {cdv:Value} {A:Around} {outer:List Env} {s:Shared} {H:Hp} {E:XK} {O0 O1:AM} {Ξ:Value→AM→Prop} {p:Addr} {n hf way sh st:Int} {L es ds:List (Int × Int)} {v6 v7 v8:Option T} {Φ:BX} {N:LH}
def QN (n:Int) (es ds:List (Int × Int)):List (List (Int × Int)):=[ds,KB n 1 0,es,ds,[],[],ds,KB n 1 0]
theorem QO (n0:3≤n) (n1:n≤16) (hE:Hv n es) (hel:es.length≤120) (hD:Hv n ds) (hdl:ds.length≤120) (w0:0≤way) (w1:way < 8) :
  ∃ L,atI ((QN n es ds).map fun L => T.lst (L.map AC)) way = some (.lst (L.map AC))∧Hv n L∧L.length≤120∧(way = 7→L.length≤16):=by
 have e:(KB n 1 0).length = n.toNat:=Ed
 have hR:Hv n (KB n 1 0):=Gi (by omega) (by omega) (by omega)
 have:way = 0∨way = 1∨way = 2∨way = 3∨way = 4∨way = 5∨way = 6∨way = 7:=by omega
 have hN:Hv n []:=fun _ h => by cases h
 rcases this with rfl | rfl | rfl | rfl | rfl | rfl | rfl | rfl
 ·exact ⟨ds,rfl,hD,hdl,fun z => by omega⟩
 ·exact ⟨_,rfl,hR,by omega,fun z => by omega⟩
 ·exact ⟨es,rfl,hE,hel,fun z => by omega⟩
 ·exact ⟨ds,rfl,hD,hdl,fun z => by omega⟩
 ·exact ⟨[],rfl,hN,by simp,fun z => by omega⟩
 ·exact ⟨[],rfl,hN,by simp,fun z => by omega⟩
 ·exact ⟨ds,rfl,hD,hdl,fun z => by omega⟩
 ·exact ⟨_,rfl,hR,by omega,fun z => by omega⟩
theorem VS (hr:Room 2 (zW P w K mg base f cdv A outer s H E O0 Ξ).X.A) (xf:XFly (zW P w K mg base f cdv A outer s H E O0 Ξ).X (zW P w K mg base f cdv A outer s H E O0 Ξ).W) (Tx:Txt mg) (G:FnT P w K mg base "_law_draw" 2 ["_law_pen","_law_many"] DC) (Gr:FnT P w K mg base "_law_round" 1 ["_law_n","_law_step","_law_begin"] Fg) (Gw:FnT P w K mg base "_law_web_of" 1 ["_law_many","_law_ties"] CF)
  (po:PO O0 p O1) (n0:3≤n) (n1:n≤16) (f0:3≤hf) (f1:hf≤8) (w0:0≤way) (w1:way < 8) (hE:Hv n es) (hel:es.length≤120) (q:QJ O0 p Φ) :
  DI (zW P w K mg base f cdv A outer s H E O0 Ξ) [some (.raw (.ref p)),some (.int 16),some (.int n),some (.int hf),some (.int way),some (.lst (es.map AC)),v6,none,none,none,none,none] O1 [HG 5,HG 6,HG 7,HG 8,HG 9,HG 10,HG 11,HG 12,HG 13,HG 14] { nx:=N,rt:=Φ }:=by
 have sb:=AV
 refine AF (AQ 7 (DG Dp (ET.we AB (BD G hr xf po (ev 0) AB (by decide) (by decide) fun r O2 r0 r1 po2 => FR _ ?_))) Ar.nd)
 refine AF (ES (i:=8) (nc:=["_law_pair"]) (cap:=[("_law_pen",0),("_law_share",7)]) (by rfl) Ar.nd rfl (BW (AA DH) Ec (by decide +kernel)) (EI.wi (BC (ev 5)) ?_))
 refine ⟨fun i acc O' => ∃ qs:List (Int × Int),acc = qs.map AC∧Hv n qs∧qs.length≤i∧i≤120∧PO O0 p O',⟨[],rfl,(fun _ h => by cases h),by simp,by omega,po2⟩,?_,?_⟩
 ·rintro i t acc O' c e ⟨qs,rfl,hq,hl,_,po⟩ hc
  rw [List.getElem?_map] at e
  cases ee:es[i]? with
  | none => rw [ee] at e; cases e
  | some z =>
   rw [ee] at e
   cases e
   have hi:=(List.getElem?_eq_some_iff.mp ee).1
   refine ⟨[some (AC z),some (.raw (.ref p)),some (.int (2 + r))],fun X' Oe He is => ?_⟩
   obtain ⟨cl,s',H',fp,rfl⟩:=is
   refine ⟨AU 0 XI (by decide),MO (Ib HI (Ad _) (Gg G hr EX po hc (ev 1) (ev 2) (by omega) (by omega) fun r' O3 r0' r1' po3 hc3 => ET.we AB (LF _ ⟨_,rfl,?_⟩)))⟩
   refine UO (fun h => ?_) (fun h => ?_)
   ·rintro X' Oe He ⟨cl,s',H',fp,rfl⟩
    refine ET.we (ev 0) ⟨O3,rfl,hc3,by rw [List.length_map]; omega,qs ++ [z],by rw [List.map_append]; rfl,fun y hy => ?_,by simp; omega,by omega,po3⟩
    rcases List.mem_append.mp hy with hy | hy
    ·exact hq y hy
    ·rw [List.mem_singleton.mp hy]; exact hE z (List.mem_of_getElem? ee)
   ·exact ⟨O3,rfl,hc3,qs,rfl,hq,by omega,by omega,po3⟩
 ·rintro acc O' ⟨ds,rfl,hD,hdl,_,po3⟩
  rw [List.length_map] at hdl
  refine AF (AQ 9 (DG Dp (ET.we AB (BD G hr xf po3 (ev 0) (CB Tx.nMax rfl AB (Fb (Bu (ev 3) AB) AB ⟨by decide,by decide⟩)) (by omega) (by omega) fun st O4 t0 t1 po4 => FR _ ?_))) Ar.nd)
  obtain ⟨L,a1,a2,a3,a4⟩:=QO (n:=n) (es:=es) (ds:=ds) (way:=way) n0 n1 hE hel hD (by omega) w0 w1
  refine AF (AQ 10 (ET.we (Bc (ts:=(QN n es ds).map fun L => T.lst (L.map AC)) (Ay (AE (ev 8) (AE ?_ (AE (ev 5) (AE (ev 8) (AE (Ay AD (Nat.zero_le _)) (AE (Ay AD (Nat.zero_le _)) (AE (ev 8) (AE ?_ AD)))))))) (Nat.le_trans (show 8≤1000 by decide) (Nat.le_of_lt sb))) (ev 4) a1) ?_) Ar.nd)
  ·exact At Gr (hr.mono (by decide)) xf (AE (ev 2) (AE AB (AE AB AD))) ⟨n,1,0,rfl,by omega,by omega,rfl⟩
  ·exact At Gr (hr.mono (by decide)) xf (AE (ev 2) (AE AB (AE AB AD))) ⟨n,1,0,rfl,by omega,by omega,rfl⟩
  ·exact VR hr xf Tx G Gr Gw po4 n0 n1 f0 f1 hE hel a2 a3 a4 q
def QP:Cy:=fun ts O Φ _ => ∃ (p:Addr) (xs:List T),ts = [.raw (.ref p),.int 16]∧O p = some xs∧Ix xs∧QJ O p Φ
theorem KH {fd:FuncData} (F:Fun K "_law_some_web" "_law_some_web" DH f fd) (Tx:Txt mg) (G:FnT P w K mg base "_law_draw" 2 ["_law_pen","_law_many"] DC) (Gr:FnT P w K mg base "_law_round" 1 ["_law_n","_law_step","_law_begin"] Fg) (Gw:FnT P w K mg base "_law_web_of" 1 ["_law_many","_law_ties"] CF):FnOk P w K mg base (CXe P w) 3 f fd ["_law_pen","_law_most"] (Dm K QP):=by
 refine Ag F Ar ?_ ?_
 ·rintro ts O Φ Ξ ⟨p,xs,rfl,_⟩
  rfl
 ·rintro cdv A outer s H E O Ξ hr xf _ Φ ⟨p,xs,rfl,hp,px,q⟩
  have sb:=AV
  refine AF (AQ 2 (DG Dp (ET.we AB (BD G hr xf (PO.start hp px) (ev 0) (Bu (ev 1) AB) (by decide) (by decide) fun r O1 r0 r1 po1 => FR _ ?_))) Ar.nd)
  have n0:3≤3 + r:=by omega
  have n1:3 + r≤16:=by omega
  refine AF (AQ 3 (ET.we (CB Tx.nMax rfl AB (Fb (ev 2) AB ⟨by decide,by decide⟩)) ?_) Ar.nd)
  have f0:3≤max 3 ((3 + r) / 2):=by omega
  have f1:max 3 ((3 + r) / 2)≤8:=by omega
  refine AF (AQ 4 (BD G hr xf po1 (ev 0) AB (by decide) (by decide) fun way O2 w0 w1 po2 => ?_) Ar.nd)
  refine AF (AQ 5 (Fa (BL ⟨Nat.zero_le _,fun l hl => ?_⟩)) Ar.nd)
  refine AF (FD BI.own rfl (EI.wi (Av Tx.nRange (ev 2) ⟨by omega,by omega⟩) ⟨fun i ρ' O' => i≤16∧∃ (es:List (Int × Int)) (v6:Option T),ρ' = [some (.raw (.ref p)),some (.int 16),some (.int (3 + r)),some (.int (max 3 ((3 + r) / 2))),some (.int way),some (.raw (.ref l)),v6,none,none,none,none,none]∧O' = BB O2 l (es.map AC)∧Hv (3 + r) es∧2 * es.length + i = i * i,⟨by omega,[],none,rfl,rfl,(fun _ h => by cases h),rfl⟩,?_,?_⟩))
  ·rintro i t _ _ e ⟨_,es,v6,rfl,rfl,hE,hlen⟩
   obtain ⟨hi,rfl⟩:=CZ e
   have hi2:i < 16:=by omega
   have hsq:i * i≤15 * 15:=Nat.mul_le_mul (by omega) (by omega)
   refine ⟨[some (.raw (.ref p)),some (.int 16),some (.int (3 + r)),some (.int (max 3 ((3 + r) / 2))),some (.int way),some (.raw (.ref l)),some (.int (0 + i)),none,none,none,none,none],AU 6 Ar.nd (by show 6 < 12; decide),?_⟩
   refine AH (CA (NX (ET.we (ev 5) ⟨l,rfl,⟨_,AO⟩,ET.we (Bd ["_law_other"] [("_law_one",6)] (List.range (0 + (i:Int)).toNat) (fun j => .int (0 + (j:Int))) (fun j => AC (0 + (j:Int),0 + (i:Int))) rfl (BW (AA DH) Ec (by decide +kernel)) (Av Tx.nRange (ev 6) ⟨by omega,by omega⟩) (by simp; omega) fun x hx => ⟨[some (.int (0 + (x:Int))),some (.int (0 + (i:Int)))],fun X' Oe He is O' => ?_⟩) ⟨_,_,rfl,AO,by simp only [List.length_map,List.length_range]; omega,?_⟩⟩)))
   ·obtain ⟨cl,s',H',fp,rfl⟩:=is
    exact ⟨AU 0 XH (by decide),Aa (ev 0) (ev 1)⟩
   ·refine ⟨by omega,es ++ (List.range (0 + (i:Int)).toNat).map (fun (j:Nat) => (0 + (j:Int),0 + (i:Int))),_,rfl,?_,Ee hE (fun z hz => ?_),?_⟩
    ·rw [EO,List.map_append,List.map_map]; rfl
    ·obtain ⟨j,hj,rfl⟩:=List.mem_map.mp hz
     have hj:=List.mem_range.mp hj
     show 0≤0 + (j:Int)∧0 + (j:Int) < 3 + r∧0≤0 + (i:Int)∧0 + (i:Int) < 3 + r
     omega
    ·rw [List.length_append,List.length_map,List.length_range]
     have e1:(i + 1) * (i + 1) = i * i + 2 * i + 1:=by rw [Nat.succ_mul,Nat.mul_succ]; omega
     rw [e1]
     omega
  ·rintro _ _ ⟨_,es,v6,rfl,rfl,hE,hlen⟩
   rw [BM] at hlen
   have hsq:(3 + r).toNat * (3 + r).toNat≤16 * (3 + r).toNat:=Nat.mul_le_mul_right _ (by omega)
   refine GS (p:=l) (n:=5) (ts:=es.map AC) AO ?_ rfl ?_
   ·obtain ⟨ys,rfl,_⟩:=po2
    by_cases hb:l = p
    ·rw [hb,AO] at hl; cases hl
    ·rw [Af hb] at hl; exact hl
   ·rw [Ca hl]
    exact VS hr xf Tx G Gr Gw po2 n0 n1 f0 f1 w0 w1 hE (by omega) q
end
abbrev JB:Stmt:=top 18
abbrev QQ:Stmt:=top 19
section
variable {P:Program} {w:World} {K:PySem.W.Frag} {mg:Str→Option Value} {base:Heap}
end
open Gr
section
variable {P:Program} {w:World} {K:PySem.W.Frag} {mg:Str→Option Value} {base:Heap} {CP:Addr}
def Aj (qs:List (Int × Int)) (i:Nat):List Int:=qs.filterMap fun p => if p.1 = (i:Int) then some p.2 else if p.2 = (i:Int) then some p.1 else none
theorem KI {qs:List (Int × Int)} {p:Int × Int} {i:Nat}:Aj (qs ++ [p]) i = Aj qs i ++ (if p.1 = (i:Int) then [p.2] else if p.2 = (i:Int) then [p.1] else []):=by
 unfold Aj
 rw [List.filterMap_append]
 congr 1
 by_cases h:p.1 = (i:Int)
 ·simp [h]
 ·by_cases h2:p.2 = (i:Int)
  ·simp [h,h2]
  ·simp [h,h2]
theorem Dy {qs:List (Int × Int)} {i:Nat}:(Aj qs i).length≤qs.length:=List.length_filterMap_le ..
def Lb (n:Int) (ps:List (Int × Int)):T:=.lst ((List.range n.toNat).map fun i => .lst ((Aj ps i).map T.int))
structure Nst (n:Int) (O:AM) (l:Addr) (qs:List (Int × Int)) (rs:List (Addr × List T)):Prop where
 len:(rs.length:Int) = n
 nd:(rs.map Prod.fst).Nodup
 ne:∀ r∈rs,r.1≠l
 fr:∀ r∈rs,O r.1 = none
 val:∀ (i:Nat) r,rs[i]? = some r→r.2 = (Aj qs i).map T.int
theorem Ef {rs:List (Addr × List T)} {i:Nat} {r:Addr × List T} {vs:List T} (h:rs[i]? = some r):(rs.set i (r.1,vs)).map Prod.fst = rs.map Prod.fst:=SC (us:=r.2) h
theorem XM {O:AM} {rs:List (Addr × List T)} {l:Addr} {i:Nat} {r:Addr × List T} {us:List T} (e:rs[i]? = some r) (hn:(rs.map Prod.fst).Nodup) (hl:∀ r∈rs,r.1≠l) :
  BB (BB (JN O rs) l (rs.map HD)) r.1 us = BB (JN O (rs.set i (r.1,us))) l ((rs.set i (r.1,us)).map HD):=by
 rw [ER (hl r (List.mem_of_getElem? e)),SB (us:=r.2) hn e]
 congr 1
 have:=Ef (vs:=us) e
 have e1:∀ rs:List (Addr × List T),rs.map HD = (rs.map Prod.fst).map fun a => T.raw (.ref a):=fun rs => by rw [List.map_map]; rfl
 rw [e1,e1,this]
theorem Nst.set2 {n:Int} {O:AM} {l:Addr} {qs:List (Int × Int)} {rs:List (Addr × List T)} (h:Nst n O l qs rs) {a b:Nat} (hab:a≠b) {ra rb:Addr × List T} (ea:rs[a]? = some ra) (eb:rs[b]? = some rb) :
  Nst n O l (qs ++ [((a:Int),(b:Int))]) ((rs.set a (ra.1,ra.2 ++ [T.int b])).set b (rb.1,rb.2 ++ [T.int a])):=by
 have eb':(rs.set a (ra.1,ra.2 ++ [T.int b]))[b]? = some rb:=by rw [List.getElem?_set_ne hab]; exact eb
 have m1:=Ef (vs:=ra.2 ++ [T.int b]) ea
 have m2:=Ef (vs:=rb.2 ++ [T.int a]) eb'
 have hm:∀ r∈((rs.set a (ra.1,ra.2 ++ [T.int b])).set b (rb.1,rb.2 ++ [T.int a])),∃ r'∈rs,r'.1 = r.1:=fun r hr => by
  have:r.1∈(((rs.set a (ra.1,ra.2 ++ [T.int b])).set b (rb.1,rb.2 ++ [T.int a])).map Prod.fst):=List.mem_map_of_mem hr
  rw [m2,m1] at this
  obtain ⟨r',h1,h2⟩:=List.mem_map.mp this
  exact ⟨r',h1,h2⟩
 refine ⟨by rw [List.length_set,List.length_set]; exact h.len,by rw [m2,m1]; exact h.nd,fun r hr => ?_,fun r hr => ?_,fun i r e => ?_⟩
 ·obtain ⟨r',h1,h2⟩:=hm r hr
  rw [← h2]; exact h.ne r' h1
 ·obtain ⟨r',h1,h2⟩:=hm r hr
  rw [← h2]; exact h.fr r' h1
 ·have la:=(List.getElem?_eq_some_iff.mp ea).1
  have lb:=(List.getElem?_eq_some_iff.mp eb).1
  rw [KI,List.map_append]
  by_cases h1:i = b
  ·subst h1
   rw [List.getElem?_set_self (by rw [List.length_set]; exact lb)] at e
   cases e
   have:¬ ((a:Int) = (i:Int)):=by omega
   show rb.2 ++ [T.int a] = _
   rw [h.val i rb eb]
   simp [this]
  ·rw [List.getElem?_set_ne (fun z => h1 z.symm)] at e
   by_cases h2:i = a
   ·subst h2
    rw [List.getElem?_set_self la] at e
    cases e
    show ra.2 ++ [T.int b] = _
    rw [h.val i ra ea]
    simp
   ·rw [List.getElem?_set_ne (fun z => h2 z.symm)] at e
    have n1:¬ ((a:Int) = (i:Int)):=by omega
    have n2:¬ ((b:Int) = (i:Int)):=by omega
    rw [h.val i r e]
    simp [n1,n2]
theorem Nst.tree {n:Int} {O:AM} {l:Addr} {ps:List (Int × Int)} {rs:List (Addr × List T)} (h:Nst n O l ps rs):T.lst (rs.map fun r => T.lst r.2) = Lb n ps:=by
 have hl:=h.len
 unfold Lb
 congr 1
 apply List.ext_getElem?
 intro i
 rw [List.getElem?_map,List.getElem?_map]
 by_cases hi:i < rs.length
 ·rw [List.getElem?_eq_getElem hi,List.getElem?_range (by omega)]
  show some (T.lst rs[i].2) = _
  rw [h.val i rs[i] (List.getElem?_eq_getElem hi)]
  rfl
 ·rw [List.getElem?_eq_none (by omega),List.getElem?_eq_none (by rw [List.length_range]; omega)]
  rfl
def Md:Cy:=PH fun ts r => ∃ n ps,ts = [Am n ps]∧0≤n∧n≤200∧Xx n ps∧ps.length≤200∧r = Lb n ps
theorem JC:FnScope ["web","nears","a","b"] ["web"] (AA JB):=⟨rfl,rfl,rfl,by decide +kernel,rfl,by decide +kernel,by decide +kernel⟩
theorem XN:(Ae ["place"] []).Nodup:=by decide +kernel
theorem QR {f:Addr} {fd:FuncData} (F:Fun K "nears_of" "nears_of" JB f fd) (Tx:Txt mg):FnOk P w K mg base (CXe P w) 1 f fd ["web"] (Dm K Md):=by
 refine Ag F JC ?_ ?_
 ·rintro ts O Φ Ξ ⟨r,⟨n,ps,rfl,_⟩,_⟩
  rfl
 ·rintro cdv A outer s H E O Ξ hr xf _ Φ ⟨_,⟨n,ps,rfl,n0,n1,hw,hl,rfl⟩,q⟩
  have sb:=AV
  refine AF (NY (i:=1) (nc:=["place"]) (cap:=[]) (by rfl) JC.nd rfl (BW (AA JB) ["web","nears","a","b"] (by decide +kernel)) (EI.wi (Av Tx.nRange (AK (ev 0) AB) ⟨by omega,by omega⟩) ?_))
  refine ⟨fun i acc O' => i≤200∧∃ as:List Addr,acc = (as.map fun a => (a,([]:List T))).map HD∧as.length = i∧as.Nodup∧(∀ a∈as,O a = none)∧O' = JN O (as.map fun a => (a,[])),⟨by omega,[],rfl,rfl,by simp,(fun _ h => by cases h),rfl⟩,?_,?_⟩
  ·rintro i t acc O' c e ⟨_,as,rfl,hal,hnd,hfr,rfl⟩ hc
   obtain ⟨hi,rfl⟩:=CZ e
   refine ⟨[some (.int (0 + (i:Int)))],fun X' Oe He is => ⟨?_,Fd (JV fun X' Oe He is => ?_)⟩⟩
   ·obtain ⟨cl,s',H',fp,rfl⟩:=is
    exact AU 0 XN (by decide)
   ·obtain ⟨cl,s',H',fp,rfl⟩:=is
    refine Fa (BL ⟨Nat.zero_le _,fun p hp => ?_⟩)
    have hpc:p≠c:=fun z => by rw [z,AO] at hp; cases hp
    rw [Af hpc] at hp
    have hpa:p ∉ as:=fun z => by
     rw [Dx (rs:=as.map fun a => (a,[])) (r:=(p,[])) (by rw [List.map_map]; simpa [Function.comp_def] using hnd) (List.mem_map_of_mem z)] at hp
     cases hp
    have hpO:O p = none:=by
     rw [Dh fun r hr => by
      obtain ⟨a,ha,rfl⟩:=List.mem_map.mp hr
      exact fun z => hpa (z ▸ ha)] at hp
     exact hp
    refine ⟨BB (JN O (as.map fun a => (a,[]))) p [],ER hpc,by rw [Af hpc.symm]; exact hc,by rw [List.length_map,List.length_map]; omega,by omega,as ++ [p],by rw [List.map_append,List.map_append]; rfl,by simp; omega,?_,fun a ha => ?_,?_⟩
    ·rw [List.nodup_append]
     refine ⟨hnd,by simp,fun a ha b hb z => ?_⟩
     rw [List.mem_singleton.mp hb] at z
     exact hpa (z ▸ ha)
    ·rcases List.mem_append.mp ha with ha | ha
     ·exact hfr a ha
     ·rw [List.mem_singleton.mp ha]; exact hpO
    ·rw [List.map_append]; exact (Pg (r:=(p,[]))).symm
  ·rintro acc O' ⟨_,as,rfl,hal,hnd,hfr,rfl⟩ l hlO
   rw [BM] at hal
   have hkeys:((as.map fun a => (a,([]:List T))).map Prod.fst) = as:=by rw [List.map_map]; simp [Function.comp_def]
   have nst0:Nst n O l [] (as.map fun a => (a,([]:List T))):=by
    refine ⟨by rw [List.length_map]; omega,by rw [hkeys]; exact hnd,fun r hr z => ?_,fun r hr => ?_,fun i r e => ?_⟩
    ·rw [← z,Dx (by rw [hkeys]; exact hnd) hr] at hlO
     cases hlO
    ·obtain ⟨a,ha,rfl⟩:=List.mem_map.mp hr
     exact hfr a ha
    ·have:=List.mem_of_getElem? e
     obtain ⟨a,ha,rfl⟩:=List.mem_map.mp this
     rfl
   have hlO':O l = none:=by
    rw [Dh nst0.ne] at hlO
    exact hlO
   refine AF (FD BI.own rfl (EI.wi (CO (AK (ev 0) AB)) ⟨fun j ρ' O' => ∃ rs v2 v3,ρ' = [some (Am n ps),some (.raw (.ref l)),v2,v3]∧O' = BB (JN O rs) l (rs.map HD)∧Nst n O l (ps.take j) rs,⟨_,none,none,rfl,rfl,by rw [List.take_zero]; exact nst0⟩,?_,?_⟩))
   ·rintro j t _ _ e ⟨rs,v2,v3,rfl,rfl,nst⟩
    rw [List.getElem?_map] at e
    cases ec:ps[j]? with
    | none => rw [ec] at e; cases e
    | some z =>
     rw [ec] at e
     cases e
     have hb:=hw z (List.mem_of_getElem? ec)
     have hlen:=nst.len
     have htl:(ps.take j).length≤200:=by rw [List.length_take]; omega
     obtain ⟨a,ea⟩:=Int.eq_ofNat_of_zero_le hb.1
     obtain ⟨b,eb⟩:=Int.eq_ofNat_of_zero_le (show 0≤z.2 by omega)
     have ha:a < rs.length:=by omega
     have hb':b < rs.length:=by omega
     have hab:a≠b:=by omega
     have ga:=List.getElem?_eq_getElem ha
     have gb:(rs.set a (rs[a].1,rs[a].2 ++ [T.int b]))[b]? = some rs[b]:=by rw [List.getElem?_set_ne hab]; exact List.getElem?_eq_getElem hb'
     have m1:=Ef (vs:=rs[a].2 ++ [T.int b]) ga
     have nd1:((rs.set a (rs[a].1,rs[a].2 ++ [T.int b])).map Prod.fst).Nodup:=by rw [m1]; exact nst.nd
     have ne1:∀ r∈rs.set a (rs[a].1,rs[a].2 ++ [T.int b]),r.1≠l:=fun r hr => by
      have:r.1∈(rs.set a (rs[a].1,rs[a].2 ++ [T.int b])).map Prod.fst:=List.mem_map_of_mem hr
      rw [m1] at this
      obtain ⟨r',h1,h2⟩:=List.mem_map.mp this
      rw [← h2]; exact nst.ne r' h1
     have la:rs[a].2.length≤200:=by rw [nst.val a rs[a] ga,List.length_map]; exact Nat.le_trans Dy htl
     have lb:rs[b].2.length≤200:=by rw [nst.val b rs[b] (List.getElem?_eq_getElem hb'),List.length_map]; exact Nat.le_trans Dy htl
     have ez:z = ((a:Int),(b:Int)):=by rw [← ea,← eb]
     subst ez
     refine ⟨[some (Am n ps),some (.raw (.ref l)),some (.int a),some (.int b)],Bl 2 3 rfl JC.nd (by show 2 < 4; decide) (by show 3 < 4; decide),?_⟩
     refine AF (CA (FB (ET.we (Dw (ts:=rs.map HD) AO (ev 1) (ev 2) (Bw (by rw [List.getElem?_map,ga]; rfl))) ⟨rs[a].1,rfl,⟨rs[a].2,?_⟩,ET.we (ev 3) ⟨rs[a].2,?_,by omega,?_⟩⟩)))
     ·rw [Af (nst.ne _ (List.getElem_mem ha))]; exact Dx nst.nd (List.getElem_mem ha)
     ·rw [Af (nst.ne _ (List.getElem_mem ha))]; exact Dx nst.nd (List.getElem_mem ha)
     ·rw [XM ga nst.nd nst.ne]
      refine AH (CA (FB (ET.we (Dw (ts:=(rs.set a (rs[a].1,rs[a].2 ++ [T.int b])).map HD) AO (ev 1) (ev 3) (Bw (by rw [List.getElem?_map,gb]; rfl))) ⟨rs[b].1,rfl,⟨rs[b].2,?_⟩,ET.we (ev 2) ⟨rs[b].2,?_,by omega,?_⟩⟩)))
      ·rw [Af (ne1 _ (List.mem_of_getElem? gb))]; exact Dx nd1 (List.mem_of_getElem? gb)
      ·rw [Af (ne1 _ (List.mem_of_getElem? gb))]; exact Dx nd1 (List.mem_of_getElem? gb)
      ·rw [XM gb nd1 ne1]
       refine ⟨_,_,_,rfl,rfl,?_⟩
       have:ps.take (j + 1) = ps.take j ++ [((a:Int),(b:Int))]:=by
        rw [List.take_add_one,ec]; rfl
       rw [this]
       exact nst.set2 hab ga (List.getElem?_eq_getElem hb')
   ·rintro _ _ ⟨rs,v2,v3,rfl,rfl,nst⟩
    rw [List.length_map,List.take_length] at nst
    refine Pi nst.nd nst.ne nst.fr nst.fr ?_
    refine GS (p:=l) (n:=1) (ts:=rs.map fun r => T.lst r.2) AO hlO' rfl ?_
    rw [Ca hlO']
    refine AH (AS (ET.we (ev 1) ?_))
    show Φ (T.lst (rs.map fun r => T.lst r.2)) O
    rw [nst.tree]
    exact q
end
section
variable {P:Program} {w:World} {K:PySem.W.Frag} {mg:Str→Option Value} {base:Heap} {CP:Addr}
theorem FI {n:Int} {ps:List (Int × Int)} (hw:Xx n ps) {i:Nat} {v:Int}:v∈Aj ps i↔Adj ps (i:Int) v:=by
 unfold Aj Adj
 rw [List.mem_filterMap]
 constructor
 ·rintro ⟨p,hp,e⟩
  by_cases h:p.1 = (i:Int)
  ·rw [if_pos h] at e
   cases e
   exact .inl (by rw [← h]; exact hp)
  ·rw [if_neg h] at e
   by_cases h2:p.2 = (i:Int)
   ·rw [if_pos h2] at e
    cases e
    exact .inr (by rw [← h2]; exact hp)
   ·rw [if_neg h2] at e; cases e
 ·rintro (h | h)
  ·exact ⟨_,h,by simp⟩
  ·have:=hw _ h
   simp only at this
   exact ⟨_,h,by rw [if_neg (by omega)]; simp⟩
theorem QS {n:Int} {ps:List (Int × Int)} {i:Nat} (h:(i:Int) < n):atI ((List.range n.toNat).map fun i => T.lst ((Aj ps i).map T.int)) (i:Int) = some (.lst ((Aj ps i).map T.int)) :=
 Bw (by rw [List.getElem?_map,List.getElem?_range (by omega)]; rfl)
structure WebN (n:Int) (ps:List (Int × Int)):Prop where
 n0:0≤n
 n1:n≤200
 hw:Xx n ps
 hl:ps.length≤200
def QT (CP:Addr):Cy:=fun ts O Φ Ξ => ∃ n ps t,ts = [Am n ps,t]∧BH t = false∧WebN n ps∧(∀ i:Nat,t = .int i→(i:Int) < n→Φ (.tup ((Aj ps i).map T.int)) O)∧(Gx t 0 (n - 1) = false→Ξ (.ref CP) O)
theorem VT:FnScope ["web","place"] ["web","place"] (AA QQ):=⟨rfl,rfl,rfl,by decide +kernel,rfl,by decide +kernel,by decide +kernel⟩
theorem SX {n:Int} {t:T} (h:Gx t 0 (n - 1) = true):∃ i:Nat,t = .int i∧(i:Int) < n:=by
 obtain ⟨i,rfl⟩:=MY h
 have h:(decide (0≤i) && decide (i≤n - 1)) = true:=h
 simp at h
 obtain ⟨m,rfl⟩:=Int.eq_ofNat_of_zero_le h.1
 exact ⟨m,rfl,by omega⟩
theorem SY {f:Addr} {fd:FuncData} (F:Fun K "near_of" "near_of" QQ f fd) (Tx:Txt mg) (Gn:FnT P w K mg base "need_place" 3 ["web","thing"] (LU CP)) (G:FnT P w K mg base "nears_of" 1 ["web"] Md):FnOk P w K mg base (CXe P w) 4 f fd ["web","place"] (Dm K (QT CP)):=by
 refine Ag F VT ?_ ?_
 ·rintro ts O Φ Ξ ⟨n,ps,t,rfl,_⟩
  rfl
 ·rintro cdv A outer s H E O Ξ hr xf _ Φ ⟨n,ps,t,rfl,ht,wn,q1,q2⟩
  refine AF (CA (AX Gn hr xf (EA.wa (AE (ev 0) (AE (ev 1) AD)) ⟨n,_,t,rfl,ht,fun h => ?_,q2⟩)))
  obtain ⟨i,rfl,hi⟩:=SX h
  exact AH (AS (ET.we (Cb Tx.nTuple (Bc (At G (hr.mono (by decide)) xf (AE (ev 0) AD) ⟨n,ps,rfl,wn.n0,wn.n1,wn.hw,wn.hl,rfl⟩) (ev 1) (QS hi))) (q1 i rfl hi)))
variable {f:Addr} {cdv:Value} {A:Around} {outer:List Env} {s:Shared} {H:Hp} {E:XK} {O:AM} {Ξ:Value→AM→Prop} {n:Int} {ps:List (Int × Int)} {S bs:List Int} {l lb:Addr}
end
end K55
namespace L2
open PySem PySem.Spec PySem.Calls PyProof.Rows
section
variable {prog:Program} {w:World} {A:Around} {E:Value→Shared→Prop} {s:Shared}
theorem Lc {l:Addr} {o:Obj} {vs:List Value} {n:Nat} {ns:List Int} {Q:Value→Shared→Prop} (ho:s.heap.get? l = some o) (hc:o.cls = .type "list") (hd:o.data = .seq vs.toArray n) (hI:IntsAre vs ns) (h64:vs.length < 64)
  (h:∀ (h':Heap) (a:Addr) (out:List Value) (ms:List Int) (c:Nat),s.heap.get? a = none→h'.get? a = some (seqObj "list" out.toArray c)→(∀ b o,s.heap.get? b = some o→h'.get? b = some o)→IntsAre out ms→ms.Perm ns→ms.Pairwise (·≤·)→Q (.ref a) { s with heap:=h' }) :
  wpAny (model prog w) A (call (.builtin "sorted") [.ref l]) Q E s:=by
 refine Calls.call_function_entry kind_sorted plain_sorted entry_sorted (args_sorted1 _) ?_
 unfold Builtin.«sorted»
 refine wpAny_bind (m:=checkCount "sorted" 1 1 _) (wpAny_pure ?_)
 refine wpAny_bind (wpAny_collect_seq l (.inl rfl) ho hc hd (fun h1 hk1 => ?_) (by rw [List.size_toArray,sizeLine_eq]; omega))
 show wpAny _ _ (newList vs >>= _) _ _ _
 refine wpAny_bind (wpAny_newList ?_ (by rw [sizeLine_eq]; omega))
 have hoL:(h1.push (seqObj "list" vs.toArray 0)).get? h1.objs.size = some (seqObj "list" vs.toArray 0):=Heap.get?_push_size _ rfl
 show wpAny _ _ _ _ _ { s with heap:=h1.push (seqObj "list" vs.toArray 0) }
 refine wpAny_bind (wpAny_holding (wpAny_call_entry slot_list_sort ⟨_,hoL,rfl⟩ entry_list_sort (list_sort_tree hoL hI h64 fun out ms a1 a2 a3 => ⟨_,rfl,?_⟩) (args_list_sort _)))
 refine wpAny_pure ⟨_,rfl,?_⟩
 obtain ⟨c,hcat⟩:=sortedHeap_at (out:=out) hoL
 refine h _ h1.objs.size out.toList ms c ?_ hcat (fun b o e => ?_) a1 a2 a3
 ·cases e:s.heap.get? h1.objs.size with
  | none => rfl
  | some o' => exact absurd (Heap.lt_size (hk1 _ _ e)) (Nat.lt_irrefl _)
 ·have hlt:=Heap.lt_size (hk1 b o e)
  rw [sortedHeap_old (Nat.ne_of_lt hlt) (by rw [size_push']; exact Nat.lt_succ_of_lt hlt)]
  exact Heap.get?_push_of_some _ (hk1 b o e)
end
section
variable {X:Cx}
theorem JD:BR X (.builtin "sorted") (fun xs H Q => ∃ (a:Addr) (ns:List Int),xs = [.ref a]∧SqL X.K H a (ns.map V.int)∧ns.length < 64∧∀ (p:Addr) (ms:List Int),H p = none→ms.Perm ns→ms.Pairwise (·≤·)→Q (.ref p) (upd H p (.lst (ms.map V.int)))):=by
 intro pins s σ H xs us Q I r h
 obtain ⟨a,ns,rfl,hS,hl,q⟩:=h
 obtain ⟨u,rfl,ru⟩:=Vals.one r
 cases ru
 obtain ⟨its,rv,⟨o,n,e1,e2,_,e3⟩,_⟩:=I.list hS
 have hi:=Fv rv
 have hlen:its.length < 64:=by have:=rv.length; simp at this; omega
 refine Lc e1 e2 e3 hi hlen fun h' b out ms c hb hg hk hI pm pw => ?_
 have hf:H b = none:=I.hok.none_of hb
 refine ⟨.ref b,upd H b (.lst (ms.map V.int)),I.laidF (t':=s.toks) hk hb ⟨?_,out,c,Da hI,hg⟩,rfl,q b ms hf pm pw⟩
 rw [List.length_map,pm.length_eq,sizeLine_eq]
 omega
end
end L2
namespace L2.TL
open PySem PySem.Spec PyProof.Rows
section
variable {Z:Zx} {ρ:List (Option T)} {O:AM} {e o:Expr} {Φ:BX} {p pos apos cpos:Pos} {ns:List Int} {i:Int} {j:Nat}
theorem Ld (m:Z.X.mg "sorted" = none) (h:ET Z ρ O e (.lst (ns.map T.int))) (hl:ns.length < 64) (k:∀ ms:List Int,ms.Perm ns→ms.Pairwise (·≤·)→Φ (.lst (ms.map T.int)) O) (hg:Gl Z.X "sorted":=by rfl)
  (he:starEach [e] Z.X.env = (false,eval e Z.X.env) :: starEach [] Z.X.env:=by rfl):WE Z ρ O (.Call (.Name "sorted" p) [e] [] pos) Φ :=
 GR JD m Ih (AT h AD he _ (fun H vs Q ok r q => by
  obtain ⟨v,rfl,r1⟩:=r.one_inv
  obtain ⟨a,xs,rfl,h1,_,r1⟩:=r1.lst_inv
  cases r1.ints
  exact ⟨a,ns,rfl,.inl (.inl h1),hl,fun p ms hp pm pw => q _ _ _ O (k ms pm pw) (.new ok hp) (.lst AG (ok.none_of hp) (Dg ms))⟩)) hg (by decide) (by decide) he
theorem KJ (hj:ns[j]? = some i) (hno:∀ (m:Nat) (z:Int),m < j→ns[m]? = some z→z≠i) (h:ET Z ρ O o (.lst (ns.map T.int))) (h2:ET Z ρ O e (.int i)) (hbase:attributeBase o "index" Z.X.env (eval o Z.X.env) = eval o Z.X.env:=by rfl)
  (hfew:((backTo cpos (starEach [e] Z.X.env)).all (fun x => !x.1) && (backToKw cpos (keywordEach [] Z.X.env)).all (fun x => x.1.isSome) && decide ([e].length + ([]:List Keyword).length + (if ([]:List Keyword).isEmpty then 0 else 1) < 30)) = true:=by rfl) (hline:(apos.endLine == cpos.line) = true:=by rfl)
  (hs:starEach [e] Z.X.env = (false,eval e Z.X.env) :: starEach [] Z.X.env:=by rfl) (hplain:(backTo cpos (starEach [] Z.X.env)).any (·.1) = false:=by rfl) :
  ET Z ρ O (.Call (.Attribute o "index" apos) [e] [] cpos) (.int (j:Nat)):=fun Φ q =>
 PJ PySem.F.plainAttrs_list PySem.F.slot_list_index PySem.F.type_list_index Jd (ET.we h ⟨Rq,EA.wa (AT h2 AD hs) fun H v vs Q ok r1 r2 acc => by
  obtain ⟨a,xs,rfl,h1,_,r1⟩:=r1.lst_inv
  obtain ⟨u,rfl,r3⟩:=r2.one_inv
  cases r3.int_inv
  cases r1.ints
  refine ⟨a,_,_,j,rfl,rfl,.inl (.inl h1),rfl,FE,⟨.int i,by rw [List.getElem?_map,hj]; rfl,?_⟩,fun m z hm ez => ?_,acc _ _ _ O q (.refl ok) (.int _)⟩
  ·show (i == i) = true
   simp
  ·rw [List.getElem?_map] at ez
   cases y:ns[m]? with
   | none => rw [y] at ez; cases ez
   | some w => rw [y] at ez; cases ez; show (w == i) = false; simpa using hno m w hm y⟩) hbase hfew hline hs hplain
end
open PySem.Calls
def SZ (K:PySem.W.Frag) (C:Addr) (fs:List (Str × V)) (t:T):Sp:=fun vs H Q _ => ∃ (x:Addr) (ox:Obj) (dx:Addr) (us:Array Value),vs = [.ref x]∧H x = some (.frz ox (Dk C x))∧ox = ⟨.ref C,some dx,.fields us,ox.slots⟩∧H dx = some (Eo dx fs)∧∀ v H',Same H H'→(∀ O,Rep K O H' v t)→Q v H'
theorem QU {Z:Zx} {ρ:List (Option T)} {O:AM} {e:Expr} {t:T} {x C:Addr} {fs:List (Str × V)} {k:Nat} {f:Addr} {fd:FuncData} {ps:List Str} {g:Str} {p pos:Pos} (F:FnH Z.X.prog Z.X.w Z.X.K Z.X.mg Z.X.base k f fd ps (SZ Z.K C fs t)) (hm:Z.X.mg g = some (.ref f)) (hk:PySem.W.keepIn Z.X.K (.ref f) = true) (hb:Binds Z.X.K fd ps []) (hr:RoomH k Z.X.A) (hx:ExF Z x C fs) (h:ET Z ρ O e (.raw (.ref x)))
  (hg:Gl Z.X g:=by rfl) (hdb:(g == ("__debug__" : Str)) = false:=by decide) (he:starEach [e] Z.X.env = (false,eval e Z.X.env) :: starEach [] Z.X.env:=by rfl) (hpl:(backTo pos (starEach [] Z.X.env)).any (·.1) = false:=by rfl):ET Z ρ O (.Call (.Name g p) [e] [] pos) t:=fun Φ p =>
 Hr F hm hk hb hr (AT h AD he) (fun σ H vs Q a r acc => by
  obtain ⟨v,rfl,r1⟩:=r.one_inv
  cases r1.raw_inv
  obtain ⟨ox,dx,us,h1,h2,h3,h4,h5⟩:=hx.ex
  exact ⟨x,ox,dx,us,rfl,(a.fr.kp _ _ h1 h4).1,h2,(a.fr.kp _ _ h3 h5).1,fun v H2 sm rp => acc v H2 t O p (Frm.same (.refl a.ok) sm) (rp _)⟩) hg hdb he hpl
theorem XO {P:Program} {w:World} {K:PySem.W.Frag} {mg:Str→Option Value} {base:Heap} {x qual y:Str} {st:Stmt} {f C:Addr} {fd:FuncData} {N:List Str} {k:Nat} {fs:List (Str × V)} {t:T} (F:Fun K x qual st f fd) (S:FnScope N [y] (AA st)) (nl:noL t = true)
  (h:∀ (cdv:Value) (A:Around) (outer:List Env) (s:Shared) (H:Hp) (e:Addr),RoomH k (A.deeper (envOfC qual (AA st) s.heap.objs.size f cdv))→ExC (zD P w K mg base N qual (AA st) f cdv A outer s H (fun _ => none)) e C→ExF (zD P w K mg base N qual (AA st) f cdv A outer s H (fun _ => none)) e C fs →
   DI (zD P w K mg base N qual (AA st) f cdv A outer s H (fun _ => none)) (Cz N [.raw (.ref e)]) (fun _ => none) (AW st) { nx:=fun _ _ => False,rt:=fun u _ => u = t }):FnH P w K mg base (k + 1) f fd [y] (SZ K C fs t):=by
 refine Wt F S (fun vs H Q E ⟨_,_,_,_,e,_⟩ => by rw [e]; rfl) fun cdv A outer s H vs Q hr ⟨e,ox,dx,us,ev,h1,h2,h3,k⟩ => ?_
 subst ev
 refine ⟨[.raw (.ref e)],fun _ => none,fun u _ => u = t,.cons (.raw _) .nil,(fun _ _ z => nomatch z),?_,fun v H' u O' p f r => ?_⟩
 ·refine PSs.weak (h cdv A outer s H e hr ⟨.inr ⟨ox,h1⟩,rfl⟩ ⟨ox,dx,us,h1,h2,h3,rfl,rfl⟩) fun D σ H q => ⟨q.1,⟨fun _ _ _ _ z => z.elim,q.2.rt,q.2.bk,q.2.ct⟩⟩
 ·subst p
  exact k v H' (fun b o e => (f.kp b o e rfl).1) fun O => r.noL nl
section
variable {X:Cx}
end
section
variable {Z:Zx} {ρ:List (Option T)} {O:AM} {e a b hi:Expr} {p p2 pos:Pos} {t:T} {ts:List T} {i:Int} {Φ:BX}
end
open PySem.Builtin PySem.Builtin.Str
section
variable {X:Cx}
end
section
variable {Z:Zx} {ρ:List (Option T)} {O:AM} {a b o e:Expr} {t:T} {Φ:BX} {pos p apos cpos:Pos} {i j:Str} {xs:List Str}
theorem Me:bootBuiltins "str" = some (.type "str"):=by decide +kernel
end
section
variable {X:Cx}
end
section
variable {Z:Zx} {ρ:List (Option T)} {O:AM} {a b o e:Expr} {t:T} {Φ:BX} {pos p apos cpos:Pos} {i j:Str} {xs:List Str}
inductive EF (Z:Zx) (ρ:List (Option T)) (O:AM):List Expr→List Str→Prop
 | nil:EF Z ρ O [] []
 | cons {e:Expr} {x:Str} {es:List Expr} {xs:List Str} (h:ET Z ρ O e (.str x)) (hs:EF Z ρ O es xs):EF Z ρ O (e :: es) (x :: xs)
end
section
variable {Z:Zx} {ρ:List (Option T)} {O:AM} {e elt tg iter:Expr} {ifs:List Expr} {csc:Scope} {nc:List Str} {cap:List (Str × Nat)} {Φ:BX} {pos:Pos}
end
theorem BO {i:Int}:∀ {ns:List Int},((dTs (ns.map T.int)).any fun y => PyData.eqv y (dT (.int i))) = decide (i∈ns)
 | [] => rfl
 | n :: ns => by
  show ((n == i) || (dTs (ns.map T.int)).any fun y => PyData.eqv y (dT (.int i))) = _
  rw [BO,Bool.eq_iff_iff]
  simp only [Bool.or_eq_true,decide_eq_true_eq,List.mem_cons,beq_iff_eq]
  constructor
  ·rintro (h | h)
   ·exact .inl h.symm
   ·exact .inr h
  ·rintro (h | h)
   ·exact .inl h.symm
   ·exact .inr h
end L2.TL
namespace L2
open PySem PySem.Spec PySem.Calls PyProof.Rows
section
variable {prog:Program} {w:World} {A:Around} {R:Result→Shared→Prop} {I:Addr} {fp wr:List Addr} {n:Nat} {P:Nat→Value→Prop} {St:Nat→Heap→Prop}
end
section
variable {prog:Program} {w:World} {A:Around} {E:Value→Shared→Prop} {s:Shared}
end
section
variable {M:Model} {A:Around} {E:Value→Shared→Prop} {s:Shared}
end
section
variable {X:Cx}
end
end L2
namespace L2.TL
open PySem PySem.Spec PySem.Calls PyProof.Rows
section
variable {Z:Zx} {ρ:List (Option T)} {O:AM} {e:Expr} {p pos kp np:Pos} {ns:List Int} {j:Nat}
end
end L2.TL
namespace L2
open PySem PySem.Spec PySem.Calls PyProof.Rows
section
variable {prog:Program} {w:World} {A:Around} {R:Result→Shared→Prop} {I:Addr} {fp wr:List Addr} {n:Nat} {P:Nat→Value→Prop} {St:Nat→Heap→Prop}
end
section
variable {prog:Program} {w:World} {A:Around} {E:Value→Shared→Prop} {s:Shared}
end
section
variable {X:Cx}
end
end L2
namespace L2.TL
open PySem PySem.Spec PySem.Calls PyProof.Rows
section
variable {Z:Zx} {ρ:List (Option T)} {O:AM} {e:Expr} {p pos kp np:Pos} {ns:List Int} {j:Nat}
end
end L2.TL
namespace L2
open PySem PySem.Spec PyProof.Rows
open Sem (wp)
section
variable {prog:Program} {w:World} {A:Around} {E:Value→Shared→Prop} {s:Shared}
end
section
variable {prog:Program} {w:World} {A:Around} {E:Value→Shared→Prop} {s:Shared}
end
section
variable {prog:Program} {w:World} {A:Around} {E:Value→Shared→Prop} {s:Shared}
end
section
variable {M:Model} {A:Around} {E:Value→Shared→Prop} {s:Shared}
end
section
variable {X:Cx}
end
section
variable {X:Cx} {tg:Expr}
end
end L2
namespace L2.TL
open PySem PySem.Spec PyProof.Rows
section
variable {Z:Zx} {ρ:List (Option T)} {O:AM} {a tg:Expr} {ts:List T} {p pos:Pos}
end
open PySem.Builtin PySem.Builtin.Str
section
variable {Z:Zx} {ρ:List (Option T)} {O:AM} {a b e:Expr} {p pos:Pos} {x y:Str} {i:Int} {K:PySem.W.Frag}
theorem VU:RP K YO (.str x) (.str y) O (.bl (x == y)):=fun Φ p H v w Q ok r1 r2 q => by
 cases r1.str_inv; cases r2.str_inv
 refine ⟨rfl,?_⟩
 rw [IG]
 exact q _ H _ O p (.refl ok) (.bl _)
theorem VV (ha:ET Z ρ O a (.str x)) (hb:ET Z ρ O b (.str y)):EB Z ρ O (.Compare a [.Eq] [b] pos) (x == y):=Ab HI (Ad _) VU ha hb
theorem Zq (K:PySem.W.Frag):PySem.W.kitOne K (.type "NoneType") (.type "str") = some false:=by kernel_rfl
theorem Zr (K:PySem.W.Frag):PySem.W.kitOne K (.type "bool") (.type "str") = some false:=by kernel_rfl
theorem Zs (K:PySem.W.Frag):PySem.W.kitOne K (.type "int") (.type "str") = some false:=by kernel_rfl
theorem Zt (K:PySem.W.Frag):PySem.W.kitOne K (.type "str") (.type "str") = some true:=by rfl
theorem Zu (K:PySem.W.Frag):PySem.W.kitOne K (.type "tuple") (.type "str") = some false:=by kernel_rfl
theorem ZE (K:PySem.W.Frag):PySem.W.kitOne K (.type "list") (.type "str") = some false:=by kernel_rfl
theorem Zv (K:PySem.W.Frag):PySem.W.kitOne K (.type "dict") (.type "str") = some false:=by kernel_rfl
def Mf:T→Bool
 | .str _ => true
 | _ => false
theorem Fh:LJ K "str" Mf:=fun t h => by
 cases t with
 | non => exact Zq K
 | bl b => exact Zr K
 | int i => exact Zs K
 | str i => exact Zt K
 | tup i => exact Zu K
 | lst i => exact ZE K
 | frz i => exact ZE K
 | dct => exact Zv K
 | raw v => cases h
end
theorem _root_.L2.FnH.imp' {P:Program} {w:World} {K:PySem.W.Frag} {mg:Str→Option Value} {base:Heap} {k:Nat} {f:Addr} {fd:FuncData} {ps:List Str} {sp sp':Sp} (F:FnH P w K mg base k f fd ps sp) (h:∀ vs H Q E,sp' vs H Q E→sp vs H Q E):FnH P w K mg base k f fd ps sp' :=
 ⟨fun vs H Q E s => F.len vs H Q E (h _ _ _ _ s),fun A outer s H args us vs Q r e b v q => F.run A outer s H args us vs Q r e b v (h _ _ _ _ q)⟩
theorem XQ {P:Program} {w:World} {K:PySem.W.Frag} {mg:Str→Option Value} {base:Heap} {k:Nat} {f C:Addr} {fd:FuncData} {ps:List Str} {y:Str} (F:FnH P w K mg base k f fd ps (DA C y)):FnH P w K mg base k f fd ps (Ws C (.str y)) :=
 F.imp' fun _ _ _ _ ⟨x,e,r,q⟩ => ⟨x,e,r,fun H' s => q _ H' s fun _ _ => .str y⟩
end L2.TL
namespace K55
open PySem L2 L2.TL PySem.Spec PyProof.Rows Gr
abbrev VW:Stmt:=(Wu (top 9)).getD 0 (.Pass ⟨0,0,0,0⟩)
section
variable {P:Program} {w:World} {K:PySem.W.Frag} {mg:Str→Option Value} {base:Heap} {CP CL CG fi:Addr}
theorem XR:FnScope ["self","many","most"] ["self","many","most"] (AA VW):=⟨rfl,rfl,rfl,by decide +kernel,rfl,by decide +kernel,by decide +kernel⟩
theorem VX {f C:Addr} {fd:FuncData} (F:Fun K "__init__" "TooGreat.__init__" VW f fd) (c:XfC K C f) (h1:PySem.W.findIn K (.ref C) "many" = some none) (h2:PySem.W.findIn K (.ref C) "most" = some none):FnOk P w K mg base (CXe P w) 1 f fd ["self","many","most"] (Pm C ["many","most"]):=by
 refine F.okX XR (Pn rfl) fun cdv A outer s H vs Q E hr h => ?_
 obtain ⟨x,t,is,rfl,hl,hx,k⟩:=h
 obtain ⟨i,j,rfl⟩:∃ i j,is = [i,j]:=by
  match is,hl with
  | [i,j],_ => exact ⟨i,j,rfl⟩
 refine ⟨_,BQ (VB (pv 0) (pv 1) rfl) (Bh (VC (pv 0) (pv 2) rfl)),?_⟩
 refine ⟨_,rfl,_,rfl,x,C,f,_,rfl,hx,c,h1,fun d hd dn => ?_⟩
 refine ⟨_,rfl,_,rfl,x,C,f,_,d,[(("many" : Str),V.int i)],rfl,by rw [AI (Ne.symm dn)]; exact AG,AG,by simp,c,h2,?_⟩
 have e:upd (upd (upd H x (Fe C x (some d) (Gv t))) d (Eo d [(("many" : Str),V.int i)])) d (Eo d (Fs "most" (V.int j) [(("many" : Str),V.int i)])) = upd (upd H x (Fe C x (some d) (Gv t))) d (Eo d [(("many" : Str),V.int i),(("most" : Str),V.int j)]):=by
  rw [Lh]; rfl
 rw [e]
 exact k d hd dn
theorem Sa {f fK:Addr} {fd fdK:FuncData} {i j:Int} (F:Fun K "_law_refused" "_law_refused" SH f fd) (c:XCl P w K mg base "TooGreat" CG fi ["many","most"]) (FK:FnH P w K mg base 1 fK fdK ["_law_e"] (DA CG "great")) (mK:mg "_law_kind_of" = some (.ref fK)) (kK:PySem.W.keepIn K (.ref fK) = true) (bK:Binds K fdK ["_law_e"] []) :
  FnH P w K mg base 2 f fd ["_law_e"] (SZ K CG [(("many" : Str),V.int i),(("most" : Str),V.int j)] (.tup [.str "great",.int i,.int j])):=by
 refine XO F Mb rfl fun cdv A outer s H e hr exc exf => ?_
 refine AF (AQ 1 (ET.we (GZ (XQ FK) mK kK bK hr exc (ev 0)) ?_) Mb.nd)
 refine AF (AZ (k:=true) (EB.cast (VV (ev 1) Du) rfl) (fun _ => ?_) (fun h => by cases h))
 exact AH (AS (ET.we (Ah (AE (ev 1) (AE (MV c.ek c.hd (c.nf _ (by simp)) exf (ev 0) rfl) (AE (MV c.ek c.hd (c.nf _ (by simp)) exf (ev 0) rfl) AD)))) rfl))
structure WebS (n:Int) (ps:List (Int × Int)):Prop where
 n0:1≤n
 n1:n≤16
 hp:∀ p∈ps,BE n p
 pw:ps.Pairwise Hm
 hl:ps.length≤200
theorem WebS.a {n:Int} {ps:List (Int × Int)} (h:WebS n ps):WebA n ps:=⟨h.n0,h.n1,h.hp,h.hl⟩
theorem WebS.n {n:Int} {ps:List (Int × Int)} (h:WebS n ps):WebN n ps:=⟨by have:=h.n0; omega,by have:=h.n1; omega,h.hp,h.hl⟩
def Mh (ps:List (Int × Int)) (a b c e:Int):Bool:=Cf ps a b && (Cf ps c e && !decide (mm (a,b) = mm (c,e)))
def Sb (n a b c e:Int):List (Int × Int):=[(n,a),(n,b),(n + 1,c),(n + 1,e),(n,n + 1)]
structure SplO (n:Int) (ps:List (Int × Int)) (ts:List T) (O:AM) (Φ:BX) (XP XL XG:Prop):Prop where
 np:(∃ t∈ts,Gx t 0 (n - 1) = false)→XP
 nl:∀ a b c e:Int,ts = [a,b,c,e].map T.int→(∀ z∈[a,b,c,e],0≤z∧z < n)→Mh ps a b c e = false→XL
 ng:∀ a b c e:Int,ts = [a,b,c,e].map T.int→(∀ z∈[a,b,c,e],0≤z∧z < n)→Mh ps a b c e = true→14 < n→XG
 ok:∀ a b c e:Int,ts = [a,b,c,e].map T.int→(∀ z∈[a,b,c,e],0≤z∧z < n)→Mh ps a b c e = true→n≤14→∀ rs:List (Int × Int),rs.Pairwise Hm→(∀ q,q∈rs↔q∈Vm ps [(a,b),(c,e)] (Sb n a b c e))→rs.length≤250→Φ (Am (n + 2) rs) O
def Tg (CP CL CG:Addr):Cy:=fun ts O Φ Ξ => ∃ n ps a b c e,ts = [Am n ps,a,b,c,e]∧WebS n ps∧(∀ t∈[a,b,c,e],BH t = false)∧SplO n ps [a,b,c,e] O Φ (Ξ (.ref CP) O) (Ξ (.ref CL) O) (Ξ (MU CG (n + 2) 16) O)
theorem QV:FnScope ["web","a","b","c","e","x","y"] ["web","a","b","c","e"] (AA SI):=⟨rfl,rfl,rfl,by decide +kernel,rfl,by decide +kernel,by decide +kernel⟩
theorem KK {Z:Zx} {ρ:List (Option T)} {O:AM} {a b:Expr} {i j:Int} {k:Nat} {p1 p2 p3 p4:Pos} (G:FnT Z.X.prog Z.X.w Z.X.K Z.X.mg Z.X.base "ties_of" 1 ["pairs"] DU) (hr:Room 1 Z.X.A) (xf:XFly Z.X Z.W) (ha:ET Z ρ O a (.int i)) (hb:ET Z ρ O b (.int j)) (hi:0≤i∧i < 65536) (hj:0≤j∧j < 65536) (s1:CD a = true:=by rfl) (s2:CD b = true:=by rfl) (hg:Gl Z.X "ties_of":=by rfl) :
  ET Z ρ O (.Call (.Name "ties_of" p1) [.List [.Tuple [a,b] k p2] p3] [] p4) (.tup ([mm (i,j)].map AC)):=by
 refine Bz G hr xf (AE (Ay (ts:=[(i,j)].map AC) (AE (Aa ha hb s1 s2) AD) (by show 1≤sizeLine; decide)) AD) (fun Φ p => ⟨[(i,j)],rfl,by simp,fun q hq => ?_,fun qs pw hm hl => ?_⟩) hg
 ·rw [List.mem_singleton.mp hq]; exact ⟨hi,hj⟩
 ·have:qs = [mm (i,j)]:=Io pw (List.pairwise_singleton _ _) hm
  rw [this]
  exact p
theorem VY {f:Addr} {fd:FuncData} (F:Fun K "spliced" "spliced" SI f fd) (Tx:Txt mg) (mL:mg "NoLine" = some (.ref CL)) (xL:PySem.W.excIn K CL Ck "ValueError.__new__" = true) (c:XCl P w K mg base "TooGreat" CG fi ["many","most"]) (Gn:FnT P w K mg base "need_places" 4 ["web","things"] (Iy CP)) (Gt:FnT P w K mg base "are_tied" 1 ["web","a","b"] LV) (Go:FnT P w K mg base "ties_of" 1 ["pairs"] DU) (Gr:FnT P w K mg base "retied" 2 ["web","cut","tied"] Jz) :
  FnOk P w K mg base (CXe P w) 5 f fd ["web","a","b","c","e"] (Dm K (Tg CP CL CG)):=by
 refine Il F QV ?_ ?_
 ·rintro ts O Φ Ξ ⟨n,ps,a,b,c,e,rfl,_⟩
  rfl
 ·rintro cdv A outer s H E O Ξ hr xo _ Φ ⟨n,ps,a,b,c0,e,rfl,wa,hraw,so⟩
  have xf:=xo.f
  have hu:(A.deeper (envOfC "spliced" (AA SI) s.heap.objs.size f cdv)).units + 101 < cLine:=by have:=hr.un; omega
  refine AF (CA (AX Gn hr xf (EA.wa (ts:=[Am n ps,.lst [a,b,c0,e]]) (AE (ev 0) (AE (Ay (AE (ev 1) (AE (ev 2) (AE (ev 3) (AE (ev 4) AD)))) (by show 4≤sizeLine; decide)) AD)) ⟨n,_,[a,b,c0,e],rfl,by simp,hraw,fun h => ?_,so.np⟩)))
  obtain ⟨i,rfl,i0,i1⟩:=FH (h a (by simp))
  obtain ⟨j,rfl,j0,j1⟩:=FH (h b (by simp))
  obtain ⟨k,rfl,k0,k1⟩:=FH (h c0 (by simp))
  obtain ⟨l,rfl,l0,l1⟩:=FH (h e (by simp))
  have n1:=wa.n1
  have hz:∀ z∈[i,j,k,l],0≤z∧z < n:=by
   intro z hz
   simp only [List.mem_cons,List.not_mem_nil,or_false] at hz
   rcases hz with rfl | rfl | rfl | rfl <;> exact ⟨by assumption,by assumption⟩
  have rd1:∀ q:Int × Int,Bf (.tup ([q].map AC)) = true:=fun q => by unfold Bf; exact Au
  have dp1:∀ q:Int × Int,(dT (.tup ([q].map AC))).depth≤100:=fun q => by
   show PyData.depthAll (dTs ([q].map AC)) + 1≤100
   have:=BZ (ps:=[q])
   omega
  have nB:(!Cf ps i j || (!Cf ps k l || PyData.eqv (dT (.tup ([mm (i,j)].map AC))) (dT (.tup ([mm (k,l)].map AC))))) = !Mh ps i j k l:=by
   have e1:PyData.eqv (dT (.tup ([mm (i,j)].map AC))) (dT (.tup ([mm (k,l)].map AC))) = decide (mm (i,j) = mm (k,l)):=by
    show PyData.eqv (.tuple (dTs ([mm (i,j)].map AC))) (.tuple (dTs ([mm (k,l)].map AC))) = _
    rw [PyData.eqv,Cd]
    simp
   rw [e1]
   unfold Mh
   cases Cf ps i j <;> cases Cf ps k l <;> cases decide (mm (i,j) = mm (k,l)) <;> rfl
  refine AF (AZ (k:=!Mh ps i j k l) (EB.cast (EW.eb (Be (Az (CY (At Gt (hr.mono (by decide)) xf (AE (ev 0) (AE (ev 1) (AE (ev 2) AD))) ⟨n,ps,i,j,rfl,rfl⟩))) fun _ => Be (Az (CY (At Gt (hr.mono (by decide)) xf (AE (ev 0) (AE (ev 3) (AE (ev 4) AD))) ⟨n,ps,k,l,rfl,rfl⟩))) fun _ =>
   Cv (Ab (GX hu) (Ad _) (Iq (rd1 _) (rd1 _) (dp1 _)) (KK Go (hr.mono (by decide)) xf (ev 1) (ev 2) (by omega) (by omega)) (KK Go (hr.mono (by decide)) xf (ev 3) (ev 4) (by omega) (by omega))))) nB) (fun h => AH (FF xo rfl mL xL (so.nl i j k l rfl hz (by simpa using h)))) (fun h => Ac ?_))
  have hs:Mh ps i j k l = true:=by simpa using h
  refine AF (AQ 5 (ET.we (AK (ev 0) AB) ?_) QV.nd)
  refine AF (AQ 6 (ET.we (Ai (ev 5) AB) ?_) QV.nd)
  have e2:n + 1 + 1 = n + 2:=by omega
  refine AF (AZ (Oz (Ai (ev 6) AB) (MJ Tx.iMP)) (fun h => ?_) (fun h => Ac ?_))
  ·refine AH (Na xo rfl c (hr.mono (by decide)) (is:=[n + 1 + 1,16]) (AE (Ai (ev 6) AB) (AE (MJ Tx.iMP) AD)) rfl (by rw [e2]; exact Jw (n + 2) 16) (so.ng i j k l rfl hz hs ?_))
   have:(16:Int) < n + 1 + 1:=by simpa using h
   omega
  ·have hn:n≤14:=by
    have:¬ (16:Int) < n + 1 + 1:=by simpa using h
    omega
   have n0:=wa.n0
   refine AH (AS (AX Gr (hr.mono (by decide)) xf (EA.wa (ts:=[Am (n + 1 + 1) ps,.lst ([(i,j),(k,l)].map AC),.lst ((Sb n i j k l).map AC)]) (AE (Ah (AE (Ai (ev 6) AB) (AE (AK (ev 0) AB) AD))) (AE (Ay (AE (Aa (ev 1) (ev 2)) (AE (Aa (ev 3) (ev 4)) AD)) (by show 2≤sizeLine; decide)) (AE (Ay (AE (Aa (ev 5) (ev 1)) (AE (Aa (ev 5) (ev 2)) (AE (Aa (ev 6) (ev 3)) (AE (Aa (ev 6) (ev 4)) (AE (Aa (ev 5) (ev 6)) AD))))) (by show 5≤sizeLine; decide)) AD))) ⟨n + 1 + 1,ps,[(i,j),(k,l)],Sb n i j k l,rfl,wa.hl,by simp,by simp [Sb],wa.a.inb,fun q hq => ?_,fun q hq => ?_,fun rs h1 h2 h3 => ?_⟩)))
   ·simp only [List.mem_cons,List.not_mem_nil,or_false] at hq
    unfold Nm
    rcases hq with rfl | rfl <;> simp only <;> omega
   ·simp only [Sb,List.mem_cons,List.not_mem_nil,or_false] at hq
    unfold Nm
    rcases hq with rfl | rfl | rfl | rfl | rfl <;> simp only <;> omega
   ·rw [e2]
    exact so.ok i j k l rfl hz hs hn rs h1 h2 h3
end
theorem Hw:∀ {A B:List Int},PyData.eqvAll (dTs (A.map T.int)) (dTs (B.map T.int)) = decide (A = B)
 | [],[] => by simp [dTs,PyData.eqvAll]
 | [],_ :: _ => by simp [dTs,PyData.eqvAll]
 | _ :: _,[] => by simp [dTs,PyData.eqvAll]
 | a :: A,b :: B => by
  have ih:=Hw (A:=A) (B:=B)
  simp only [List.map_cons,dTs,PyData.eqvAll,dT,ih]
  have e:PyData.eqv (.int a) (.int b) = decide (a = b):=by
   unfold PyData.eqv; rfl
  rw [e]
  by_cases h1:a = b <;> by_cases h2:A = B <;> simp [h1,h2]
theorem Hx {A B:List Int}:PyData.eqv (dT (.tup (A.map T.int))) (dT (.tup (B.map T.int))) = decide (A = B):=by
 show PyData.eqv (.tuple _) (.tuple _) = _
 rw [PyData.eqv,Hw]
theorem BV:∀ {A:List Int},rdBs (A.map T.int) = true
 | [] => rfl
 | a :: A => by
  rw [List.map_cons]
  unfold rdBs
  rw [BV (A:=A)]
  rfl
theorem Fj {A:List Int}:Bf (.tup (A.map T.int)) = true:=by unfold Bf; exact BV
theorem Mi:∀ {A:List Int},PyData.depthAll (dTs (A.map T.int)) = 0
 | [] => rfl
 | a :: A => by
  show max (dT (.int a)).depth (PyData.depthAll (dTs (A.map T.int))) = 0
  rw [Mi (A:=A)]
  rfl
theorem Mj {A:List Int}:(dT (.tup (A.map T.int))).depth≤100:=by
 show PyData.depthAll (dTs (A.map T.int)) + 1≤100
 rw [Mi]
 omega
def FJ (x y z:Nat):Bool:=!decide (z = x) && !decide (z = y)
def Eg (n x y:Nat):List Nat:=(List.range n).filter (FJ x y)
def Le (x y a:Nat):Nat:=((List.range a).filter (FJ x y)).length
theorem QW {n x y:Nat}:(Eg n x y).length = Le x y n:=rfl
theorem Ml {n x y a:Nat} (h:a < n) (hp:FJ x y a = true):(Eg n x y)[Le x y a]? = some a:=by
 obtain ⟨k,rfl⟩:∃ k,n = a + (k + 1):=⟨n - a - 1,by omega⟩
 unfold Eg Le
 rw [List.range_add,List.filter_append,List.getElem?_append_right (Nat.le_refl _),Nat.sub_self,List.range_succ_eq_map,List.map_cons,Nat.add_zero,List.filter_cons_of_pos hp]
 rfl
theorem KL {n x y a:Nat} (h:a < n) (hp:FJ x y a = true) {m:Nat} {z:Nat} (hm:m < Le x y a) (e:(Eg n x y)[m]? = some z):z≠a:=by
 rintro rfl
 have nd:(Eg n x y).Nodup:=List.nodup_range.filter _
 have e2:=Ml h hp
 obtain ⟨h1,e1⟩:=List.getElem?_eq_some_iff.mp e
 obtain ⟨h2,e3⟩:=List.getElem?_eq_some_iff.mp e2
 have:=(List.getElem_inj nd).mp (e1.trans e3.symm)
 omega
theorem Lf {x y:Nat} (h:x≠y):∀ a:Nat,(Le x y a:Int) = (a:Int) - (if (x:Int) < a then 1 else 0) - (if (y:Int) < a then 1 else 0)
 | 0 => by
  rw [if_neg (by omega),if_neg (by omega)]
  rfl
 | a + 1 => by
  have ih:=Lf h a
  have e:Le x y (a + 1) = Le x y a + (if FJ x y a = true then 1 else 0):=by
   unfold Le
   rw [List.range_succ,List.filter_append,List.length_append]
   by_cases hn:FJ x y a = true
   ·rw [if_pos hn,List.filter_cons_of_pos hn]; rfl
   ·rw [if_neg hn,List.filter_cons_of_neg hn]; rfl
  rw [e]
  have hn:FJ x y a = true↔a≠x∧a≠y:=by unfold FJ; simp
  by_cases h1:a = x
  ·have:¬ FJ x y a = true:=by rw [hn]; omega
   rw [if_neg this]
   subst h1
   split at ih <;> split at ih <;> split <;> split <;> omega
  ·by_cases h2:a = y
   ·have:¬ FJ x y a = true:=by rw [hn]; omega
    rw [if_neg this]
    subst h2
    split at ih <;> split at ih <;> split <;> split <;> omega
   ·rw [if_pos (hn.mpr ⟨h1,h2⟩)]
    split at ih <;> split at ih <;> split <;> split <;> omega
theorem DD {n:Int} {ps:List (Int × Int)} (hp:∀ p∈ps,BE n p) (pw:ps.Pairwise Hm) {i:Nat}:(Aj ps i).Pairwise (· < ·):=by
 unfold Aj
 rw [List.pairwise_filterMap]
 refine List.Pairwise.imp_of_mem ?_ pw
 intro p q h1 h2 h u hu v hv
 have a:=hp p h1
 have b:=hp q h2
 unfold BE at a b
 unfold Hm at h
 by_cases c1:p.1 = (i:Int)
 ·rw [if_pos c1] at hu
  by_cases c2:q.1 = (i:Int)
  ·rw [if_pos c2] at hv; cases hu; cases hv; omega
  ·rw [if_neg c2] at hv
   by_cases c3:q.2 = (i:Int)
   ·omega
   ·rw [if_neg c3] at hv; cases hv
 ·rw [if_neg c1] at hu
  by_cases c4:p.2 = (i:Int)
  ·rw [if_pos c4] at hu
   by_cases c2:q.1 = (i:Int)
   ·rw [if_pos c2] at hv; cases hu; cases hv; omega
   ·rw [if_neg c2] at hv
    by_cases c3:q.2 = (i:Int)
    ·rw [if_pos c3] at hv; cases hu; cases hv; omega
    ·rw [if_neg c3] at hv; cases hv
  ·rw [if_neg c4] at hu; cases hu
theorem Sc {ms ns:List Int} (pm:ms.Perm ns) (s:ms.Pairwise (·≤·)) (r:ns.Pairwise (· < ·)):ms = ns :=
 List.Perm.eq_of_pairwise (fun a b _ _ x y => by omega) s (r.imp fun h => Int.le_of_lt h) pm
def KM (ps:List (Int × Int)) (x:Int):List Int:=(ps.filter fun p => decide (x∈[p.1,p.2])).map fun p => p.1 + p.2 - x
theorem Gj {n:Int} {ps:List (Int × Int)} (hp:∀ p∈ps,BE n p) {i:Nat}:KM ps i = Aj ps i:=by
 induction ps with
 | nil => rfl
 | cons p ps ih =>
  have ih:=ih fun q h => hp q (List.mem_cons_of_mem _ h)
  have a:=hp p (List.mem_cons_self ..)
  unfold BE at a
  unfold KM Aj at ih ⊢
  rw [List.filter_cons,List.filterMap_cons]
  by_cases c1:p.1 = (i:Int)
  ·have:decide ((i:Int)∈[p.1,p.2]) = true:=by simp [c1]
   rw [if_pos this,if_pos c1,List.map_cons,ih]
   simp only
   congr 1
   omega
  ·by_cases c2:p.2 = (i:Int)
   ·have:decide ((i:Int)∈[p.1,p.2]) = true:=by simp [c2]
    rw [if_pos this,if_neg c1,if_pos c2,List.map_cons,ih]
    simp only
    congr 1
    omega
   ·have:¬ decide ((i:Int)∈[p.1,p.2]) = true:=by simp; omega
    rw [if_neg this,if_neg c1,if_neg c2,ih]
section
variable {P:Program} {w:World} {K:PySem.W.Frag} {mg:Str→Option Value} {base:Heap} {CP CL:Addr}
def AN (ps:List (Int × Int)) (x y:Nat):List Int:=(Aj ps x).filter fun z => !decide (z = (y:Int))
def QX:Cy:=fun ts O Φ _ => ∃ (n:Int) (ps:List (Int × Int)) (x y:Nat),ts = [Am n ps,.int x,.int y]∧WebN n ps∧(x:Int) < n∧Φ (.tup ((AN ps x y).map T.int)) O
theorem XS:FnScope ["web","place","other"] ["web","place","other"] (AA Ff):=⟨rfl,rfl,rfl,by decide +kernel,rfl,by decide +kernel,by decide +kernel⟩
theorem XT:(Ae ["near"] [(("other" : Str),2)]).Nodup:=by decide +kernel
theorem VZ {f:Addr} {fd:FuncData} (F:Fun K "others_near" "others_near" Ff f fd) (Tx:Txt mg) (G:FnT P w K mg base "near_of" 4 ["web","place"] (QT CP)):FnOk P w K mg base (CXe P w) 5 f fd ["web","place","other"] (Dm K QX):=by
 refine Ag F XS ?_ ?_
 ·rintro ts O Φ Ξ ⟨n,ps,x,y,rfl,_⟩
  rfl
 ·rintro cdv A outer s H E O Ξ hr xf _ Φ ⟨n,ps,x,y,rfl,wn,hx,q⟩
  have sb:=AV
  have hl:=wn.hl
  refine AH (AS (ET.we (Cb Tx.nTuple (CQ ["near"] [("other",2)] (Aj ps x) T.int T.int (fun z => !decide (z = (y:Int))) rfl (BW (AA Ff) ["web","place","other"] (by decide +kernel)) (CO (Bz G hr xf (AE (ev 0) (AE (ev 1) AD)) fun Φ' p => ⟨n,ps,.int x,rfl,rfl,wn,fun i e hi => ?_,fun h => ?_⟩)) (Nat.le_trans Dy (by omega)) fun z hz => ⟨[some (.int z),some (.int y)],fun X' Oe He is O' => ?_⟩)) q))
  ·cases e; exact p
  ·have h:(decide ((0:Int)≤x) && decide ((x:Int)≤n - 1)) = false:=h
   simp at h
   omega
  ·obtain ⟨cl,s',H',fp,rfl⟩:=is
   exact ⟨AU 0 XT (by decide),Dv (ev 0) (ev 1),fun _ => ev 0⟩
def BP (l:List Int):Int × Int:=(l.getD 0 0,l.getD 1 0)
def JE (ps:List (Int × Int)) (x y:Nat):Bool:=Cf ps x y && (decide ((AN ps x y).length = 2) && (decide ((AN ps y x).length = 2) && (!decide (AN ps x y = AN ps y x) && (!Cf ps (BP (AN ps x y)).1 (BP (AN ps x y)).2 && !Cf ps (BP (AN ps y x)).1 (BP (AN ps y x)).2))))
def QY:Cy:=fun ts O Φ _ => ∃ (n:Int) (ps:List (Int × Int)) (x y:Nat),ts = [Am n ps,.int x,.int y]∧WebN n ps∧(x:Int) < n∧(y:Int) < n∧Φ (.bl (JE ps x y)) O
theorem QZ:FnScope ["web","x","y","pairs"] ["web","x","y"] (AA Ht):=⟨rfl,rfl,rfl,by decide +kernel,rfl,by decide +kernel,by decide +kernel⟩
theorem XU:(Ae ["pair"] []).Nodup:=by decide +kernel
theorem Va:(Ae ["a","b"] [(("web" : Str),0)]).Nodup:=by decide +kernel
theorem FM {l:List Int} (h:l.length = 2):l = [(BP l).1,(BP l).2]:=by
 match l,h with
 | [a,b],_ => rfl
theorem Sd {f:Addr} {fd:FuncData} (F:Fun K "can_unsplice" "can_unsplice" Ht f fd) (Tx:Txt mg) (G:FnT P w K mg base "others_near" 5 ["web","place","other"] QX) (Gt:FnT P w K mg base "are_tied" 1 ["web","a","b"] LV):FnOk P w K mg base (CXe P w) 6 f fd ["web","x","y"] (Dm K QY):=by
 refine Ag F QZ ?_ ?_
 ·rintro ts O Φ Ξ ⟨n,ps,x,y,rfl,_⟩
  rfl
 ·rintro cdv A outer s H E O Ξ hr xf _ Φ ⟨n,ps,x,y,rfl,wn,hx,hy,q⟩
  have sb:=AV
  have hu:(A.deeper (envOfC "can_unsplice" (AA Ht) s.heap.objs.size f cdv)).units + 101 < cLine:=by have:=hr.un; omega
  refine AF (AQ 3 (ET.we (Ay (ts:=[AN ps x y,AN ps y x].map fun l => T.tup (l.map T.int)) (AE (Bz G hr xf (AE (ev 0) (AE (ev 1) (AE (ev 2) AD))) fun Φ' p => ⟨n,ps,x,y,rfl,wn,hx,p⟩) (AE (Bz G hr xf (AE (ev 0) (AE (ev 2) (AE (ev 1) AD))) fun Φ' p => ⟨n,ps,y,x,rfl,wn,hy,p⟩) AD)) (by show 2≤sizeLine; decide)) ?_) QZ.nd)
  have e1:([AN ps x y,AN ps y x].map fun l => !decide ((l.length:Int) = 2)).any id = !(decide ((AN ps x y).length = 2) && decide ((AN ps y x).length = 2)):=by
   have c:∀ l:List Int,decide ((l.length:Int) = 2) = decide (l.length = 2):=fun l => decide_eq_decide.mpr (by omega)
   simp only [List.map_cons,List.map_nil,List.any_cons,List.any_nil,id,Bool.or_false,c]
   cases decide ((AN ps x y).length = 2) <;> cases decide ((AN ps y x).length = 2) <;> rfl
  refine AF (AZ (EW.eb (Be (Az (CY (At Gt (hr.mono (by decide)) xf (AE (ev 0) (AE (ev 1) (AE (ev 2) AD))) ⟨n,ps,x,y,rfl,rfl⟩))) fun _ => Be (EB.cast (CY (PX (bs:=[AN ps x y,AN ps y x].map fun l => !decide ((l.length:Int) = 2)) Tx.nAny rfl ?any)) e1) fun _ => Cv (EB.cast (Ab (GX hu) (Ad _) (Iq Fj Fj Mj) (Bc (t:=.tup ((AN ps x y).map T.int)) (ev 3) AB) (Bc (t:=.tup ((AN ps y x).map T.int)) (ev 3) AB)) Hx))) (fun h => ?_) (fun h => Ac ?_))
  case any =>
   rw [List.map_map]
   refine Bd ["pair"] [] [AN ps x y,AN ps y x] (fun l => T.tup (l.map T.int)) _ rfl (BW (AA Ht) ["web","x","y","pairs"] (by decide +kernel)) (BC (ev 3)) (by show 2≤sizeLine; decide) fun l hl => ⟨[some (.tup (l.map T.int))],fun X' Oe He is O' => ?_⟩
   obtain ⟨cl,s',H',fp,rfl⟩:=is
   refine ⟨AU 0 XU (by decide),ET.cast (Ug (Bm Tx.nLen (ev 0)) AB) ?_⟩
   simp
  ·refine AH (AS (ET.we Jr ?_))
   have z:JE ps x y = false:=by
    unfold JE
    cases z1:Cf ps x y <;> cases z2:decide ((AN ps x y).length = 2) <;> cases z3:decide ((AN ps y x).length = 2) <;> cases z4:decide (AN ps x y = AN ps y x) <;> simp [z1,z2,z3,z4] at h ⊢
   rw [z] at q
   exact q
  ·have z1:Cf ps x y = true:=by
    cases z:Cf ps x y with
    | true => rfl
    | false => rw [z] at h; simp at h
   have z2:(AN ps x y).length = 2:=by
    cases z:decide ((AN ps x y).length = 2) with
    | true => simpa using z
    | false => rw [z] at h; simp at h
   have z3:(AN ps y x).length = 2:=by
    cases z:decide ((AN ps y x).length = 2) with
    | true => simpa using z
    | false => rw [z] at h; simp at h
   have z4:AN ps x y≠AN ps y x:=by
    intro z
    rw [z] at h
    simp at h
   have w1:=FM z2
   have w2:=FM z3
   have qe:JE ps x y = !(([AN ps x y,AN ps y x].map fun l => Cf ps (BP l).1 (BP l).2).any id):=by
    unfold JE
    simp only [z1,z2,z3,z4,decide_true,Bool.true_and,List.map_cons,List.map_nil,List.any_cons,List.any_nil,id,Bool.or_false,decide_false,Bool.not_false]
    cases Cf ps (BP (AN ps x y)).1 (BP (AN ps x y)).2 <;> cases Cf ps (BP (AN ps y x)).1 (BP (AN ps y x)).2 <;> rfl
   rw [qe] at q
   refine AH (AS (ET.we (PD (PX (bs:=[AN ps x y,AN ps y x].map fun l => Cf ps (BP l).1 (BP l).2) Tx.nAny rfl ?_)) q))
   rw [List.map_map]
   refine Bd ["a","b"] [("web",0)] [AN ps x y,AN ps y x] (fun l => T.tup (l.map T.int)) _ rfl (BW (AA Ht) ["web","x","y","pairs"] (by decide +kernel)) (BC (ev 3)) (by show 2≤sizeLine; decide) fun l hl => ⟨[some (.int (BP l).1),some (.int (BP l).2),some (Am n ps)],fun X' Oe He is O' => ?_⟩
   have l2:l.length = 2:=by
    simp only [List.mem_cons,List.not_mem_nil,or_false] at hl
    rcases hl with rfl | rfl <;> assumption
   obtain ⟨cl,s',H',fp,rfl⟩:=is
   rw [show l.map T.int = [T.int (BP l).1,T.int (BP l).2] from congrArg (List.map T.int) (FM l2)]
   exact ⟨Bl 0 1 rfl Va (by decide) (by decide),At Gt (hr.mono (by decide)) EX (AE (ev 2) (AE (ev 0) (AE (ev 1) AD))) ⟨n,ps,_,_,rfl,rfl⟩⟩
end
def CH (n x y:Nat):List Int:=(Eg n x y).map fun (z:Nat) => (z:Int)
theorem Nh {n x y:Nat} {z:Int} (h0:0≤z) (h1:z < n):z∈CH n x y↔FJ x y z.toNat = true:=by
 unfold CH Eg
 rw [List.mem_map]
 constructor
 ·rintro ⟨m,hm,rfl⟩
  exact (List.mem_filter.mp hm).2
 ·intro h
  exact ⟨z.toNat,List.mem_filter.mpr ⟨List.mem_range.mpr (by omega),h⟩,by omega⟩
theorem KN {n x y:Nat} {z:Int} (h0:0≤z) (h1:z < n) (h:FJ x y z.toNat = true):(CH n x y)[Le x y z.toNat]? = some z∧∀ (m:Nat) (u:Int),m < Le x y z.toNat→(CH n x y)[m]? = some u→u≠z:=by
 have hz:z.toNat < n:=by omega
 unfold CH
 refine ⟨by rw [List.getElem?_map,Ml hz h]; simp; omega,fun m u hm e => ?_⟩
 rw [List.getElem?_map] at e
 cases y':(Eg n x y)[m]? with
 | none => rw [y'] at e; cases e
 | some v =>
  rw [y'] at e
  cases e
  have:=KL hz h hm y'
  show ((v:Nat):Int)≠z
  omega
def kB (x y:Nat) (p:Int × Int):Bool:=FJ x y p.1.toNat && FJ x y p.2.toNat
def Aw (ps:List (Int × Int)) (x y:Nat):List (Int × Int):=ps.filter (kB x y) ++ [BP (AN ps x y),BP (AN ps y x)]
def Qx (x y:Nat) (p:Int × Int):Int × Int:=((Le x y p.1.toNat:Int),(Le x y p.2.toNat:Int))
theorem Se {x y z:Nat}:FJ x y z = true↔z≠x∧z≠y:=by unfold FJ; simp
theorem JF {n:Int} {ps:List (Int × Int)} (wn:WebN n ps) {x y:Nat} {z:Int} (h:z∈AN ps x y):0≤z∧z < n∧FJ x y z.toNat = true:=by
 unfold AN at h
 obtain ⟨h1,h2⟩:=List.mem_filter.mp h
 have a:=(FI wn.hw).mp h1
 obtain ⟨a0,a1,a2⟩:=a.inb wn.hw
 have h2:z≠(y:Int):=by simpa using h2
 exact ⟨a0,a1,Se.mpr ⟨by omega,by omega⟩⟩
theorem Qa {x y z:Nat}:FJ x y z = FJ y x z:=by unfold FJ; rw [Bool.and_comm]
theorem Fk {l:List Int} (h:l.length = 2):(BP l).1∈l∧(BP l).2∈l:=by
 rw [FM h]
 simp [BP]
theorem Hy {ps:List (Int × Int)} {x y:Nat} (h:JE ps x y = true):Cf ps x y = true∧(AN ps x y).length = 2∧(AN ps y x).length = 2:=by
 unfold JE at h
 simp only [Bool.and_eq_true] at h
 exact ⟨h.1,by simpa using h.2.1,by simpa using h.2.2.1⟩
theorem Qb {n:Int} {ps:List (Int × Int)} (hp:∀ p∈ps,BE n p) {x y:Nat} (h:Cf ps x y = true):x≠y:=by
 unfold Cf at h
 have h:mm ((x:Int),(y:Int))∈ps:=by simpa using h
 have:=hp _ h
 unfold BE mm at this
 simp only at this
 omega
theorem Hz {n:Int} {ps:List (Int × Int)} (ws:WebS n ps) {x y:Nat} (h:JE ps x y = true):∀ p∈Aw ps x y,(0≤p.1∧p.1 < n∧FJ x y p.1.toNat = true)∧0≤p.2∧p.2 < n∧FJ x y p.2.toNat = true:=by
 obtain ⟨_,h2,h3⟩:=Hy h
 intro p hp
 rcases List.mem_append.mp hp with hp | hp
 ·obtain ⟨a,b⟩:=List.mem_filter.mp hp
  unfold kB at b
  rw [Bool.and_eq_true] at b
  have:=ws.hp p a
  unfold BE at this
  exact ⟨⟨by omega,by omega,b.1⟩,by omega,by omega,b.2⟩
 ·simp only [List.mem_cons,List.not_mem_nil,or_false] at hp
  rcases hp with rfl | rfl
  ·exact ⟨JF ws.n (Fk h2).1,JF ws.n (Fk h2).2⟩
  ·have a:=JF ws.n (Fk h3).1
   have b:=JF ws.n (Fk h3).2
   rw [Qa] at a b
   exact ⟨a,b⟩
theorem JG {x y a:Nat}:Le x y a≤a:=by
 unfold Le
 exact Nat.le_trans (List.length_filter_le ..) (by simp)
section
variable {P:Program} {w:World} {K:PySem.W.Frag} {mg:Str→Option Value} {base:Heap} {CP CL:Addr}
structure UnsO (n:Int) (ps:List (Int × Int)) (ts:List T) (O:AM) (Φ:BX) (XP XL:Prop):Prop where
 np:(∃ t∈ts,Gx t 0 (n - 1) = false)→XP
 nl:∀ x y:Nat,ts = [.int x,.int y]→(x:Int) < n→(y:Int) < n→JE ps x y = false→XL
 ok:∀ x y:Nat,ts = [.int x,.int y]→(x:Int) < n→(y:Int) < n→JE ps x y = true→∀ rs:List (Int × Int),rs.Pairwise Hm→(∀ q,q∈rs↔q∈((Aw ps x y).map (Qx x y)).map mm)→rs.length≤250→Φ (Am (n - 2) rs) O
def Th (CP CL:Addr):Cy:=fun ts O Φ Ξ => ∃ n ps a b,ts = [Am n ps,a,b]∧WebS n ps∧(∀ t∈[a,b],BH t = false)∧UnsO n ps [a,b] O Φ (Ξ (.ref CP) O) (Ξ (.ref CL) O)
theorem Mm:FnScope ["web","x","y","kept","pairs"] ["web","x","y"] (AA LS):=⟨rfl,rfl,rfl,by decide +kernel,rfl,by decide +kernel,by decide +kernel⟩
theorem XV:(Ae ["place"] [(("x" : Str),1),(("y" : Str),2)]).Nodup:=by decide +kernel
theorem Ti:(Ae ["a","b"] [(("kept" : Str),3)]).Nodup:=by decide +kernel
theorem Vb {f:Addr} {fd:FuncData} (F:Fun K "unspliced" "unspliced" LS f fd) (Tx:Txt mg) (mL:mg "NoLine" = some (.ref CL)) (xL:PySem.W.excIn K CL Ck "ValueError.__new__" = true) (Gn:FnT P w K mg base "need_places" 4 ["web","things"] (Iy CP)) (Gc:FnT P w K mg base "can_unsplice" 6 ["web","x","y"] QY) (Go:FnT P w K mg base "others_near" 5 ["web","place","other"] QX) (Gt:FnT P w K mg base "ties_of" 1 ["pairs"] DU) :
  FnOk P w K mg base (CXe P w) 7 f fd ["web","x","y"] (Dm K (Th CP CL)):=by
 refine Il F Mm ?_ ?_
 ·rintro ts O Φ Ξ ⟨n,ps,a,b,rfl,_⟩
  rfl
 ·rintro cdv A outer s H E O Ξ hr xo _ Φ ⟨n,ps,a,b,rfl,ws,hraw,so⟩
  have xf:=xo.f
  have sb:=AV
  have n0:=ws.n0
  have n1:=ws.n1
  have hl:=ws.hl
  have hu:(A.deeper (envOfC "unspliced" (AA LS) s.heap.objs.size f cdv)).units + 102 < cLine:=by have:=hr.un; omega
  refine AF (CA (AX Gn (hr.mono (by decide)) xf (EA.wa (ts:=[Am n ps,.lst [a,b]]) (AE (ev 0) (AE (Ay (AE (ev 1) (AE (ev 2) AD)) (by show 2≤sizeLine; decide)) AD)) ⟨n,_,[a,b],rfl,by simp,hraw,fun h => ?_,so.np⟩)))
  obtain ⟨i,rfl,i0,i1⟩:=FH (h a (by simp))
  obtain ⟨j,rfl,j0,j1⟩:=FH (h b (by simp))
  obtain ⟨x,rfl⟩:=Int.eq_ofNat_of_zero_le i0
  obtain ⟨y,rfl⟩:=Int.eq_ofNat_of_zero_le j0
  refine AF (AZ (k:=!JE ps x y) (Az (CY (Bz Gc hr xf (AE (ev 0) (AE (ev 1) (AE (ev 2) AD))) fun Φ' p => ⟨n,ps,x,y,rfl,ws.n,i1,j1,p⟩))) (fun h => AH (FF xo rfl mL xL (so.nl x y rfl i1 j1 (by simpa using h)))) (fun h => Ac ?_))
  have hb:JE ps x y = true:=by simpa using h
  obtain ⟨hb1,hb2,hb3⟩:=Hy hb
  have xy:=Qb ws.hp hb1
  have pk:=Hz ws hb
  have hn:((n.toNat:Nat):Int) = n:=by omega
  refine AF (AQ 3 (ET.we (CQ ["place"] [("x",1),("y",2)] (List.range n.toNat) (fun (z:Nat) => T.int (0 + (z:Int))) (fun (z:Nat) => T.int (0 + (z:Int))) (FJ x y) rfl (BW (AA LS) ["web","x","y","kept","pairs"] (by decide +kernel)) (Av Tx.nRange (AK (ev 0) AB) ⟨by omega,by omega⟩) (by simp; omega) fun z hz => ⟨[some (.int (0 + (z:Int))),some (.int x),some (.int y)],fun X' Oe He is O' => ?_⟩) ?_) Mm.nd)
  ·obtain ⟨cl,s',H',fp,rfl⟩:=is
   refine ⟨AU 0 XV (by decide),EB.cast (Ab (DS hu) rfl (CS (t:=.int (0 + (z:Int))) (us:=[(x:Int),(y:Int)].map T.int) (by rw [Bf]) BV (by show 0≤100; decide)) (ev 0) (Ah (AE (ev 1) (AE (ev 2) AD)) (by show 2≤sizeLine; decide))) ?_,fun _ => ev 0⟩
   rw [BO]
   unfold FJ
   have e0:(0 + (z:Int)) = z:=by omega
   rw [e0]
   by_cases h1:z = x <;> by_cases h2:z = y <;> simp [h1,h2] <;> omega
  have ek:((List.range n.toNat).filter (FJ x y)).map (fun (z:Nat) => T.int (0 + (z:Int))) = (CH n.toNat x y).map T.int:=by
   unfold CH Eg
   rw [List.map_map]
   refine List.map_congr_left fun z _ => ?_
   show T.int (0 + (z:Int)) = T.int z
   rw [Int.zero_add]
  rw [ek]
  refine AF (ES (i:=4) (nc:=["a","b"]) (cap:=[("kept",3)]) (by rfl) Mm.nd rfl (BW (AA LS) ["web","x","y","kept","pairs"] (by decide +kernel)) (EI.wi (CO (AK (ev 0) AB)) (DR ps AC AC (kB x y) (by omega) (fun p hp => ⟨[some (.int p.1),some (.int p.2),some (.lst ((CH n.toNat x y).map T.int))],fun X' Oe He is O' => ?_⟩) ?_)))
  ·obtain ⟨cl,s',H',fp,rfl⟩:=is
   have hpp:=ws.hp p hp
   unfold BE at hpp
   have inE:∀ z:Int,0≤z→z < n→decide (z∈CH n.toNat x y) = FJ x y z.toNat:=fun z z0 z1 => by
    rw [Bool.eq_iff_iff,decide_eq_true_iff,Nh z0 (by omega)]
   refine ⟨Bl 0 1 rfl Ti (by decide) (by decide),EW.eb (Cw (EB.cast (Ab (Hq hu) rfl (Ir (t:=.int p.1) (us:=(CH n.toNat x y).map T.int) (by rw [Bf]) BV (by show 0≤100; decide)) (ev 0) (ev 2)) ((BO).trans (inE p.1 (by omega) (by omega)))) fun _ => Cu (EB.cast (Ab (Hq hu) rfl (Ir (t:=.int p.2) (us:=(CH n.toNat x y).map T.int) (by rw [Bf]) BV (by show 0≤100; decide)) (ev 1) (ev 2)) ((BO).trans (inE p.2 (by omega) (by omega))))),fun _ => Aa (ev 0) (ev 1)⟩
  have lf:(ps.filter (kB x y)).length≤ps.length:=List.length_filter_le ..
  have two:∀ l:List Int,l.length = 2→T.tup (l.map T.int) = AC (BP l):=fun l h => by
   rw [show l.map T.int = [T.int (BP l).1,T.int (BP l).2] from congrArg (List.map T.int) (FM h)]
   rfl
  refine AF (AQ 4 (ET.we (t:=.lst ((Aw ps x y).map AC)) (ET.cast (CC (ts:=(ps.filter (kB x y)).map AC) (us:=[.tup ((AN ps x y).map T.int),.tup ((AN ps y x).map T.int)]) (ev 4) (Ay (AE (Bz Go (hr.mono (by decide)) xf (AE (ev 0) (AE (ev 1) (AE (ev 2) AD))) fun Φ' p => ⟨n,ps,x,y,rfl,ws.n,i1,p⟩) (AE (Bz Go (hr.mono (by decide)) xf (AE (ev 0) (AE (ev 2) (AE (ev 1) AD))) fun Φ' p => ⟨n,ps,y,x,rfl,ws.n,j1,p⟩) AD)) (by show 2≤sizeLine; decide)) (by rw [List.length_map]; show _ + 2≤_; omega)) (by
   unfold Aw
   rw [two _ hb2,two _ hb3,List.map_append]
   rfl)) ?_) Mm.nd)
  have lp:(Aw ps x y).length≤202:=by
   unfold Aw
   rw [List.length_append]
   show _ + 2≤202
   omega
  refine AH (AS (Ey (EZ (ET.we (Rs Tx.nLen (ev 3)) (EZ (AX Gt (hr.mono (by decide)) xf (EA.wa (ts:=[.lst (((Aw ps x y).map (Qx x y)).map AC)]) (AE ?lc AD) ⟨(Aw ps x y).map (Qx x y),rfl,by rw [List.length_map]; omega,fun q hq => ?_,fun rs h1 h2 h3 => BL ⟨by show 2≤sizeLine; decide,?_⟩⟩)))))))
  case lc =>
   rw [List.map_map]
   refine Bd ["a","b"] [("kept",3)] (Aw ps x y) AC _ rfl (BW (AA LS) ["web","x","y","kept","pairs"] (by decide +kernel)) (BC (ev 4)) (by omega) fun p hp => ⟨[some (.int p.1),some (.int p.2),some (.lst ((CH n.toNat x y).map T.int))],fun X' Oe He is O' => ?_⟩
   obtain ⟨cl,s',H',fp,rfl⟩:=is
   obtain ⟨⟨p0,p1,p2⟩,p3,p4,p5⟩:=pk p hp
   have k1:=KN p0 (by omega:p.1 < (n.toNat:Int)) p2
   have k2:=KN p3 (by omega:p.2 < (n.toNat:Int)) p5
   exact ⟨Bl 0 1 rfl Ti (by decide) (by decide),Aa (KJ k1.1 k1.2 (ev 2) (ev 0)) (KJ k2.1 k2.2 (ev 2) (ev 1))⟩
  ·obtain ⟨p,hp,rfl⟩:=List.mem_map.mp hq
   obtain ⟨⟨p0,p1,p2⟩,p3,p4,p5⟩:=pk p hp
   have a1:=JG (x:=x) (y:=y) (a:=p.1.toNat)
   have a2:=JG (x:=x) (y:=y) (a:=p.2.toNat)
   unfold Qx
   simp only
   omega
  ·have e2:(((CH n.toNat x y).map T.int).length:Int) = n - 2:=by
    rw [List.length_map]
    unfold CH
    rw [List.length_map,QW,Lf xy,if_pos (by omega),if_pos (by omega)]
    omega
   rw [e2]
   exact so.ok x y rfl i1 j1 hb rs h1 h2 (by rw [List.length_map] at h3; omega)
end
section
variable {P:Program} {w:World} {K:PySem.W.Frag} {mg:Str→Option Value} {base:Heap} {CP CL CG CR fi:Addr}
structure Cat (P:Program) (w:World) (K:PySem.W.Frag) (mg:Str→Option Value) (base:Heap) (CP CL CG CR:Addr):Prop where
 ex:∃ fR fdR,FnH P w K mg base 2 fR fdR ["_law_e"] (Ws CP (.tup [.str "place"]))∧FnH P w K mg base 2 fR fdR ["_law_e"] (Ws CL (.tup [.str "line"]))∧(∀ i j:Int,FnH P w K mg base 2 fR fdR ["_law_e"] (SZ K CG [(("many" : Str),V.int i),(("most" : Str),V.int j)] (.tup [.str "great",.int i,.int j])))∧mg "_law_refused" = some (.ref fR)∧PySem.W.keepIn K (.ref fR) = true∧Binds K fdR ["_law_e"] []
 mR:mg "RingError" = some (.ref CR)
 bR:PySem.W.mroIn K CR (.type "BaseException") = some true
 kP:PySem.W.kitCls K (.ref CP) (.ref CR) = some true
 kL:PySem.W.kitCls K (.ref CL) (.ref CR) = some true
 kG:PySem.W.kitCls K (.ref CG) (.ref CR) = some true
abbrev Tj:T:=.tup [.str "place"]
abbrev Qy:T:=.tup [.str "line"]
abbrev Vc (n:Int):T:=.tup [.str "great",.int (n + 2),.int 16]
def JH:Cy:=fun ts O Φ _ => ∃ n ps us,ts = [Am n ps,.tup us]∧WebS n ps∧(∀ t∈us,BH t = false)∧((us.length = 4∧SplO n ps us O Φ (Φ Tj O) (Φ Qy O) (Φ (Vc n) O))∨(us.length = 2∧UnsO n ps us O Φ (Φ Tj O) (Φ Qy O)))
theorem Qc:FnScope ["_law_web","_law_places","_law_e"] ["_law_web","_law_places"] (AA Hu):=⟨rfl,rfl,rfl,by decide +kernel,rfl,by decide +kernel,by decide +kernel⟩
theorem Sf {f:Addr} {fd:FuncData} (F:Fun K "_law_told" "_law_told" Hu f fd) (Tx:Txt mg) (B:Cat P w K mg base CP CL CG CR) (Gs:FnT P w K mg base "spliced" 5 ["web","a","b","c","e"] (Tg CP CL CG)) (Gu:FnT P w K mg base "unspliced" 7 ["web","x","y"] (Th CP CL)) :
  FnOk P w K mg base (CXe P w) 8 f fd ["_law_web","_law_places"] (Dm K JH):=by
 refine Ag F Qc ?_ ?_
 ·rintro ts O Φ Ξ ⟨n,ps,us,rfl,_⟩
  rfl
 ·rintro cdv A outer s H E O Ξ hr xf _ Φ ⟨n,ps,us,rfl,ws,hraw,hq⟩
  obtain ⟨fR,fdR,FP,FL,FG,mF,kF,bF⟩:=B.ex
  refine AH (SF (i:=2) (fun cls O' => O' = O∧((cls = .ref CP∧Φ Tj O)∨(cls = .ref CL∧Φ Qy O)∨(cls = MU CG (n + 2) 16∧Φ (Vc n) O))) (fun pins E' H1 fr xf1 => ?_) (fun cls O' h => ?_) (fun y cls O' C x o H1 hc h1 fr hz => ?_) rfl rfl rfl Qc.nd rfl rfl B.mR B.bR rfl (by decide))
  ·rcases hq with ⟨hl,so⟩ | ⟨hl,so⟩
   ·obtain ⟨a,b,c,e,rfl⟩:∃ a b c e,us = [a,b,c,e]:=by
     match us,hl with
     | [a,b,c,e],_ => exact ⟨a,b,c,e,rfl⟩
    refine AF (AZ (k:=true) (EB.cast (Cr (Bm Tx.nLen (ev 1)) AB) rfl) (fun _ => ?_) (fun h => by cases h))
    refine AH (AS (Jx (Z:=⟨Bp (zB P w K mg base ["_law_web","_law_places","_law_e"] "_law_told" (AA Hu) f cdv A outer s H E O Ξ).X pins E',O,H1,fun cls O' => O' = O∧((cls = .ref CP∧Φ Tj O)∨(cls = .ref CL∧Φ Qy O)∨(cls = MU CG (n + 2) 16∧Φ (Vc n) O))⟩) Gs (hr.mono (by decide)) xf1 (EA.wa (AE (ev 0) (AE (AK (ev 1) AB) (AE (AK (ev 1) AB) (AE (AK (ev 1) AB) (AE (AK (ev 1) AB) AD))))) ⟨n,ps,a,b,c,e,rfl,ws,hraw,?_⟩)))
    exact ⟨fun h => ⟨rfl,.inl ⟨rfl,so.np h⟩⟩,fun a b c e h1 h2 h3 => ⟨rfl,.inr (.inl ⟨rfl,so.nl a b c e h1 h2 h3⟩)⟩,fun a b c e h1 h2 h3 h4 => ⟨rfl,.inr (.inr ⟨rfl,so.ng a b c e h1 h2 h3 h4⟩)⟩,so.ok⟩
   ·obtain ⟨a,b,rfl⟩:∃ a b,us = [a,b]:=by
     match us,hl with
     | [a,b],_ => exact ⟨a,b,rfl⟩
    refine AF (AZ (k:=false) (EB.cast (Cr (Bm Tx.nLen (ev 1)) AB) rfl) (fun h => by cases h) (fun _ => Ac ?_))
    refine AH (AS (Jx (Z:=⟨Bp (zB P w K mg base ["_law_web","_law_places","_law_e"] "_law_told" (AA Hu) f cdv A outer s H E O Ξ).X pins E',O,H1,fun cls O' => O' = O∧((cls = .ref CP∧Φ Tj O)∨(cls = .ref CL∧Φ Qy O)∨(cls = MU CG (n + 2) 16∧Φ (Vc n) O))⟩) Gu hr xf1 (EA.wa (AE (ev 0) (AE (AK (ev 1) AB) (AE (AK (ev 1) AB) AD))) ⟨n,ps,a,b,rfl,ws,hraw,?_⟩)))
    exact ⟨fun h => ⟨rfl,.inl ⟨rfl,so.np h⟩⟩,fun x y h1 h2 h3 h4 => ⟨rfl,.inr (.inl ⟨rfl,so.nl x y h1 h2 h3 h4⟩)⟩,so.ok⟩
  ·rcases h.2 with ⟨e,_⟩ | ⟨e,_⟩ | ⟨e,_⟩
   ·exact ⟨CP,.inl e,B.kP⟩
   ·exact ⟨CL,.inl e,B.kL⟩
   ·exact ⟨CG,.inr ⟨_,e⟩,B.kG⟩
  ·obtain ⟨rfl,hc⟩:=hc
   have exc:=HK.exc (y:=y) h1 fr hz
   have rH:RoomH 2 (zH (zB P w K mg base ["_law_web","_law_places","_law_e"] "_law_told" (AA Hu) f cdv A outer s H E O' Ξ) y O' (upd H1 x o)).X.A:=Room.toH (hr.mono (by decide))
   rcases hc with ⟨rfl,q⟩ | ⟨rfl,q⟩ | ⟨rfl,q⟩
   ·obtain rfl:=HK.cls_ref h1
    exact AH (AS (ET.we (GZ FP mF kF bF rH exc (ev 2)) q))
   ·obtain rfl:=HK.cls_ref h1
    exact AH (AS (ET.we (GZ FL mF kF bF rH exc (ev 2)) q))
   ·obtain rfl:=HK.cls_of h1
    have exf:=HK.exf (y:=y) h1 fr hz
    rw [Jw] at exf
    exact AH (AS (ET.we (QU (FG (n + 2) 16) mF kF bF rH exf (ev 2)) q))
def Mn:Cy:=PH fun ts r => ∃ n ps x,ts = [Am n ps,.int x]∧ps.length≤200∧r = .lst ((KM ps x).map T.int)
theorem Sg:FnScope ["_law_web","_law_place"] ["_law_web","_law_place"] (AA Gd):=⟨rfl,rfl,rfl,by decide +kernel,rfl,by decide +kernel,by decide +kernel⟩
theorem XW:(Ae ["_law_a","_law_b"] [(("_law_place" : Str),1)]).Nodup:=by decide +kernel
theorem Qd {f:Addr} {fd:FuncData} (F:Fun K "_law_near" "_law_near" Gd f fd):FnOk P w K mg base (CXe P w) 1 f fd ["_law_web","_law_place"] (Dm K Mn):=by
 refine Ag F Sg ?_ ?_
 ·rintro ts O Φ Ξ ⟨r,⟨n,ps,x,rfl,_⟩,_⟩
  rfl
 ·rintro cdv A outer s H E O Ξ hr xf _ Φ ⟨_,⟨n,ps,x,rfl,hl,rfl⟩,q⟩
  have sb:=AV
  have hu:(A.deeper (envOfC "_law_near" (AA Gd) s.heap.objs.size f cdv)).units + 102 < cLine:=by have:=hr.un; omega
  refine AH (AS (ET.we (t:=.lst ((KM ps x).map T.int)) (ET.cast (CQ ["_law_a","_law_b"] [("_law_place",1)] ps AC (fun p => .int (p.1 + p.2 - x)) (fun p => decide (x∈[p.1,p.2])) rfl (BW (AA Gd) ["_law_web","_law_place"] (by decide +kernel)) (CO (AK (ev 0) AB)) (by omega) fun p hp => ⟨[some (.int p.1),some (.int p.2),some (.int x)],fun X' Oe He is O' => ?_⟩) ?_) q))
  ·obtain ⟨cl,s',H',fp,rfl⟩:=is
   refine ⟨Bl 0 1 rfl XW (by decide) (by decide),EB.cast (Ab (Hq hu) rfl (CS (t:=.int x) (us:=[p.1,p.2].map T.int) (by rw [Bf]) BV (by show 0≤100; decide)) (ev 2) (Ah (AE (ev 0) (AE (ev 1) AD)) (by show 2≤sizeLine; decide))) BO,fun _ => Bu (Ai (ev 0) (ev 1)) (ev 2)⟩
  ·unfold KM
   rw [List.map_map]
   rfl
end
section
variable {P:Program} {w:World} {K:PySem.W.Frag} {mg:Str→Option Value} {base:Heap}
def XX (n:Int) (ps:List (Int × Int)) (a b c e:Int) (O:AM) (Φ:BX):Prop:=(Mh ps a b c e = false→Φ Qy O)∧(Mh ps a b c e = true→14 < n→Φ (Vc n) O) ∧
 (Mh ps a b c e = true→n≤14→∀ rs:List (Int × Int),rs.Pairwise Hm→(∀ q,q∈rs↔q∈Vm ps [(a,b),(c,e)] (Sb n a b c e))→rs.length≤ps.length + 5→Φ (Am (n + 2) rs) O)
def JI:Cy:=fun ts O Φ _ => ∃ n ps a b c e,ts = [Am n ps,.int a,.int b,.int c,.int e]∧WebS n ps∧(∀ z∈[a,b,c,e],0≤z∧z < n)∧XX n ps a b c e O Φ
def Qe:List Str:=["_law_web","_law_a","_law_b","_law_c","_law_e","_law_outs","_law_x","_law_ins"]
theorem Fl:FnScope Qe ["_law_web","_law_a","_law_b","_law_c","_law_e"] (AA Gb):=⟨rfl,rfl,rfl,by decide +kernel,rfl,by decide +kernel,by decide +kernel⟩
theorem XY:(Ae ["_law_tie"] [(("_law_outs" : Str),5)]).Nodup:=by decide +kernel
theorem Di {a b:Int}:mm (a,b) = mm (b,a):=by
 unfold mm
 apply Prod.ext
 ·show min a b = min b a
  omega
 ·show max a b = max b a
  omega
theorem Qf {f:Addr} {fd:FuncData} (F:Fun K "_law_spliced_of" "_law_spliced_of" Gb f fd) (Tx:Txt mg) (Gw:FnT P w K mg base "_law_web_of" 1 ["_law_many","_law_ties"] CF) :
  FnOk P w K mg base (CXe P w) 2 f fd ["_law_web","_law_a","_law_b","_law_c","_law_e"] (Dm K JI):=by
 refine Ag F Fl ?_ ?_
 ·rintro ts O Φ Ξ ⟨n,ps,a,b,c,e,rfl,_⟩
  rfl
 ·rintro cdv A outer s H E O Ξ hr xf _ Φ ⟨n,ps,a,b,c,e,rfl,ws,hz,q1,q2,q3⟩
  have sb:=AV
  have n0:=ws.n0
  have n1:=ws.n1
  have hl:=ws.hl
  have hu:(A.deeper (envOfC "_law_spliced_of" (AA Gb) s.heap.objs.size f cdv)).units + 102 < cLine:=by have:=hr.un; omega
  refine AF (AQ 5 (ET.we (t:=.lst ([mm (a,b),mm (c,e)].map AC)) (Ay (AE (Ah (AE (EU Tx.nMin rfl (ev 1) (ev 2)) (AE (CB Tx.nMax rfl (ev 1) (ev 2)) AD))) (AE (Ah (AE (EU Tx.nMin rfl (ev 3) (ev 4)) (AE (CB Tx.nMax rfl (ev 3) (ev 4)) AD))) AD)) (by show 2≤sizeLine; decide)) ?_) Fl.nd)
  have nB:(!Cf ps a b || (!Cf ps c e || decide (mm (a,b) = mm (c,e)))) = !Mh ps a b c e:=by
   unfold Mh
   cases Cf ps a b <;> cases Cf ps c e <;> cases decide (mm (a,b) = mm (c,e)) <;> rfl
  refine AF (AZ (k:=!Mh ps a b c e) (EB.cast (EW.eb (Be (EB.cast (Ab (DS hu) rfl (CS (t:=AC (mm (a,b))) (us:=ps.map AC) (BY _) Au (BA _)) (Bc (ev 5) AB) (AK (ev 0) AB)) (congrArg not BN)) fun _ => Be (EB.cast (Ab (DS hu) rfl (CS (t:=AC (mm (c,e))) (us:=ps.map AC) (BY _) Au (BA _)) (Bc (ev 5) AB) (AK (ev 0) AB)) (congrArg not BN)) fun _ =>
   Cv (EB.cast (Ab (GX (Nat.lt_of_succ_lt hu)) (Ad _) (Iq (BY (mm (a,b))) (BY (mm (c,e))) (BA _)) (Bc (ev 5) AB) (Bc (ev 5) AB)) (GY _ _)))) nB) (fun h => AH (AS (ET.we (Ah (AE Du AD)) (q1 (by simpa using h))))) (fun h => Ac ?_))
  have hs:Mh ps a b c e = true:=by simpa using h
  refine AF (AZ (Oz (AK (ev 0) AB) AB) (fun h => ?_) (fun h => Ac ?_))
  ·have h:(14:Int) < n:=by simpa using h
   exact AH (AS (ET.we (Ah (AE Du (AE (Ai (AK (ev 0) AB) AB) (AE AB AD)))) (q2 hs h)))
  ·have hn:n≤14:=by
    have:¬ (14:Int) < n:=by simpa using h
    omega
   refine AF (AQ 6 (ET.we (AK (ev 0) AB) ?_) Fl.nd)
   refine AF (AQ 7 (ET.we (t:=.lst ([(a,n),(b,n),(c,n + 1),(e,n + 1),(n,n + 1)].map AC)) (Ay (AE (Aa (ev 1) (ev 6)) (AE (Aa (ev 2) (ev 6)) (AE (Aa (ev 3) (Ai (ev 6) AB)) (AE (Aa (ev 4) (Ai (ev 6) AB)) (AE (Aa (ev 6) (Ai (ev 6) AB)) AD))))) (by show 5≤sizeLine; decide)) ?_) Fl.nd)
   have lf:(ps.filter (fun p => !decide (p∈[(a,b),(c,e)].map mm))).length≤ps.length:=List.length_filter_le ..
   have za:=hz a (by simp)
   have zb:=hz b (by simp)
   have zc:=hz c (by simp)
   have ze:=hz e (by simp)
   refine AH (AS (AX Gw (hr.mono (by decide)) xf (EA.wa (ts:=[.int (n + 2),.lst ((ps.filter (fun p => !decide (p∈[(a,b),(c,e)].map mm)) ++ [(a,n),(b,n),(c,n + 1),(e,n + 1),(n,n + 1)]).map AC)]) (AE (Ai (ev 6) AB) (AE ?lc AD)) ⟨n + 2,ps.filter (fun p => !decide (p∈[(a,b),(c,e)].map mm)) ++ [(a,n),(b,n),(c,n + 1),(e,n + 1),(n,n + 1)],rfl,by rw [List.length_append]; show _ + 5≤300; omega,fun p hp => ?_,fun rs h1 h2 h3 => q3 hs hn rs h1 (fun q => (h2 q).trans ?_) (by rw [List.length_append] at h3; have h3:rs.length≤_ + 5:=h3; omega)⟩)))
   case lc =>
    rw [List.map_append]
    refine CC (CQ ["_law_tie"] [("_law_outs",5)] ps AC AC (fun p => !decide (p∈[(a,b),(c,e)].map mm)) rfl (BW (AA Gb) Qe (by decide +kernel)) (CO (AK (ev 0) AB)) (by omega) fun x hx => ⟨[some (AC x),some (.lst ([mm (a,b),mm (c,e)].map AC))],fun X' Oe He is O' => ?_⟩) (ev 7) (by rw [List.length_map]; show _ + 5≤_; omega)
    obtain ⟨cl,s',H',fp,rfl⟩:=is
    exact ⟨AU 0 XY (by decide),EB.cast (Ab (DS hu) rfl (Ir (t:=AC x) (us:=[mm (a,b),mm (c,e)].map AC) (BY x) Au (BA _)) (ev 0) (ev 1)) (congrArg not BN),fun _ => ev 0⟩
   ·rcases List.mem_append.mp hp with hp | hp
    ·exact ws.a.inb p (List.mem_filter.mp hp).1
    ·simp only [List.mem_cons,List.not_mem_nil,or_false] at hp
     unfold Nm
     rcases hp with rfl | rfl | rfl | rfl | rfl <;> simp only <;> omega
   ·unfold Vm Sb
    rw [List.map_append,List.map_append]
    have e1:[(a,n),(b,n),(c,n + 1),(e,n + 1),(n,n + 1)].map mm = [(n,a),(n,b),(n + 1,c),(n + 1,e),(n,n + 1)].map mm:=by
     simp only [List.map_cons,List.map_nil]
     rw [Di (a:=a),Di (a:=b),Di (a:=c),Di (a:=e)]
    rw [e1]
end
theorem KO {n:Int}:∀ {l:List Int} {m:Int},l.Pairwise (· < ·)→(∀ z∈l,m≤z∧z < n)→l.length≤(n - m).toNat
 | [],_,_,_ => Nat.zero_le _
 | a :: l,m,pw,h => by
  obtain ⟨p1,p2⟩:=List.pairwise_cons.mp pw
  have ha:=h a (List.mem_cons_self ..)
  have:=KO (l:=l) (m:=a + 1) p2 fun z hz => ⟨by have:=p1 z hz; omega,(h z (List.mem_cons_of_mem _ hz)).2⟩
  rw [List.length_cons]
  omega
theorem KP {n:Int} {ps:List (Int × Int)} (ws:WebS n ps) {i:Nat}:(Aj ps i).length≤16:=by
 have:=KO (n:=n) (m:=0) (DD ws.hp ws.pw (i:=i)) fun z hz => by
  have a:=(FI ws.n.hw).mp hz
  obtain ⟨a0,a1,a2⟩:=a.inb ws.n.hw
  exact ⟨a0,a1⟩
 have:=ws.n1
 omega
theorem KQ {n:Int} {ps:List (Int × Int)} (ws:WebS n ps) {x y:Nat}:(AN ps x y).Pairwise (· < ·):=(DD ws.hp ws.pw).filter _
theorem Eh {p:Int × Int} (h:p.1 < p.2):mm p = p:=by
 unfold mm
 apply Prod.ext
 ·show min p.1 p.2 = p.1
  omega
 ·show max p.1 p.2 = p.2
  omega
theorem Sh {l:List Int} (h:l.length = 2) (pw:l.Pairwise (· < ·)):(BP l).1 < (BP l).2:=by
 match l,h with
 | [a,b],_ => exact (List.pairwise_cons.mp pw).1 b (by simp)
theorem Si {n:Int} {ps:List (Int × Int)} (ws:WebS n ps) {x y:Nat}:decide ((y:Int)∈Aj ps x) = Cf ps x y:=by
 unfold Cf
 rw [decide_eq_decide,FI ws.n.hw]
 unfold Adj
 constructor
 ·rintro (h | h)
  ·have:=ws.hp _ h
   unfold BE at this
   rw [Eh (by omega)]
   exact h
  ·have:=ws.hp _ h
   unfold BE at this
   rw [Di,Eh (by omega)]
   exact h
 ·intro h
  by_cases c:(x:Int)≤y
  ·have e:mm ((x:Int),(y:Int)) = ((x:Int),(y:Int)):=by
    unfold mm
    apply Prod.ext
    ·show min (x:Int) y = x
     omega
    ·show max (x:Int) y = y
     omega
   rw [e] at h
   exact .inl h
  ·rw [Di,Eh (by omega)] at h
   exact .inr h
theorem Tk {ps:List (Int × Int)} {l:List Int} (h:l.length = 2) (pw:l.Pairwise (· < ·)):decide (BP l∈ps) = Cf ps (BP l).1 (BP l).2:=by
 unfold Cf
 have:mm ((BP l).1,(BP l).2) = BP l:=Eh (Sh h pw)
 rw [this]
theorem XZ {x y:Nat} {p:Int × Int} (h1:0≤p.1) (h2:0≤p.2):((!decide ((x:Int)∈[p.1,p.2])) && !decide ((y:Int)∈[p.1,p.2])) = kB x y p:=by
 unfold kB FJ
 rw [Bool.eq_iff_iff]
 simp only [Bool.and_eq_true,Bool.not_eq_true',decide_eq_false_iff_not,List.mem_cons,List.not_mem_nil,or_false,not_or]
 constructor
 ·rintro ⟨⟨a,b⟩,c,d⟩
  exact ⟨⟨by omega,by omega⟩,by omega,by omega⟩
 ·rintro ⟨⟨a,b⟩,c,d⟩
  exact ⟨⟨by omega,by omega⟩,by omega,by omega⟩
section
variable {Z:Zx} {ρ:List (Option T)} {O:AM} {e:Expr} {p pos:Pos} {ns:List Int}
theorem Gk (m:Z.X.mg "sorted" = none) (h:ET Z ρ O e (.lst (ns.map T.int))) (hl:ns.length < 64) (r:ns.Pairwise (· < ·)) (hg:Gl Z.X "sorted":=by rfl)
  (he:starEach [e] Z.X.env = (false,eval e Z.X.env) :: starEach [] Z.X.env:=by rfl):ET Z ρ O (.Call (.Name "sorted" p) [e] [] pos) (.lst (ns.map T.int)):=fun Φ q => Ld m h hl (fun ms pm s => by rw [Sc pm s r]; exact q) hg he
end
section
variable {P:Program} {w:World} {K:PySem.W.Frag} {mg:Str→Option Value} {base:Heap}
def Xa (n:Int) (ps:List (Int × Int)) (x y:Nat) (O:AM) (Φ:BX):Prop:=(JE ps x y = false→Φ Qy O) ∧
 (JE ps x y = true→∀ rs:List (Int × Int),rs.Pairwise Hm→(∀ q,q∈rs↔q∈((Aw ps x y).map (Qx x y)).map mm)→rs.length≤250→Φ (Am (n - 2) rs) O)
def Mo:Cy:=fun ts O Φ _ => ∃ (n:Int) (ps:List (Int × Int)) (x y:Nat),ts = [Am n ps,.int x,.int y]∧WebS n ps∧(x:Int) < n∧(y:Int) < n∧Xa n ps x y O Φ
def Gm:List Str:=["_law_web","_law_x","_law_y","_law_one","_law_other","_law_ties","_law_a","_law_b"]
theorem Ei:FnScope Gm ["_law_web","_law_x","_law_y"] (AA DT):=⟨rfl,rfl,rfl,by decide +kernel,rfl,by decide +kernel,by decide +kernel⟩
theorem Xb:(Ae ["_law_place"] [(("_law_y" : Str),2)]).Nodup:=by decide +kernel
theorem Xc:(Ae ["_law_place"] [(("_law_x" : Str),1)]).Nodup:=by decide +kernel
theorem Xd:(Ae ["_law_tie"] [(("_law_x" : Str),1),(("_law_y" : Str),2)]).Nodup:=by decide +kernel
theorem Vd:(Ae ["_law_place"] [(("_law_x" : Str),1),(("_law_y" : Str),2)]).Nodup:=by decide +kernel
theorem Qg {f:Addr} {fd:FuncData} (F:Fun K "_law_unspliced_of" "_law_unspliced_of" DT f fd) (Tx:Txt mg) (Gw:FnT P w K mg base "_law_web_of" 1 ["_law_many","_law_ties"] CF) (Gn:FnT P w K mg base "_law_near" 1 ["_law_web","_law_place"] Mn) :
  FnOk P w K mg base (CXe P w) 2 f fd ["_law_web","_law_x","_law_y"] (Dm K Mo):=by
 refine Ag F Ei ?_ ?_
 ·rintro ts O Φ Ξ ⟨n,ps,x,y,rfl,_⟩
  rfl
 ·rintro cdv A outer s H E O Ξ hr xf _ Φ ⟨n,ps,x,y,rfl,ws,hx,hy,q1,q2⟩
  have sb:=AV
  have n0:=ws.n0
  have n1:=ws.n1
  have hl:=ws.hl
  have lx:=KP ws (i:=x)
  have ly:=KP ws (i:=y)
  have hu:(A.deeper (envOfC "_law_unspliced_of" (AA DT) s.heap.objs.size f cdv)).units + 102 < cLine:=by have:=hr.un; omega
  refine AF (AQ 3 (ET.we (Cb Tx.nTuple (CQ ["_law_place"] [("_law_y",2)] (Aj ps x) T.int T.int (fun z => !decide (z = (y:Int))) rfl (BW (AA DT) Gm (by decide +kernel)) (BC (Gk Tx.nSorted (At Gn (hr.mono (by decide)) xf (AE (ev 0) (AE (ev 1) AD)) ⟨n,ps,x,rfl,hl,by rw [Gj ws.hp]⟩) (by omega) (DD ws.hp ws.pw))) (by omega) fun z hz => ⟨[some (.int z),some (.int y)],fun X' Oe He is O' => ?_⟩)) ?_) Ei.nd)
  ·obtain ⟨cl,s',H',fp,rfl⟩:=is
   exact ⟨AU 0 Xb (by decide),Dv (ev 0) (ev 1),fun _ => ev 0⟩
  refine AF (AQ 4 (ET.we (Cb Tx.nTuple (CQ ["_law_place"] [("_law_x",1)] (Aj ps y) T.int T.int (fun z => !decide (z = (x:Int))) rfl (BW (AA DT) Gm (by decide +kernel)) (BC (Gk Tx.nSorted (At Gn (hr.mono (by decide)) xf (AE (ev 0) (AE (ev 2) AD)) ⟨n,ps,y,rfl,hl,by rw [Gj ws.hp]⟩) (by omega) (DD ws.hp ws.pw))) (by omega) fun z hz => ⟨[some (.int z),some (.int x)],fun X' Oe He is O' => ?_⟩)) ?_) Ei.nd)
  ·obtain ⟨cl,s',H',fp,rfl⟩:=is
   exact ⟨AU 0 Xc (by decide),Dv (ev 0) (ev 1),fun _ => ev 0⟩
  have c2:∀ l:List Int,(!decide (((l.map T.int).length:Int) = 2)) = !decide (l.length = 2):=fun l => by
   rw [List.length_map]
   congr 1
   exact decide_eq_decide.mpr (by omega)
  refine AF (AZ (k:=!Cf ps x y || (!decide ((AN ps x y).length = 2) || (!decide ((AN ps y x).length = 2) || decide (AN ps x y = AN ps y x)))) (EW.eb (Be (EB.cast (Ab (DS hu) rfl (Ir (t:=.int y) (us:=(Aj ps x).map T.int) (by rw [Bf]) BV (by show 0≤100; decide)) (ev 2) (At Gn (hr.mono (by decide)) xf (AE (ev 0) (AE (ev 1) AD)) ⟨n,ps,x,rfl,hl,by rw [Gj ws.hp]⟩)) (congrArg not (BO.trans (Si ws)))) fun _ => Be (EB.cast (Dv (Bm Tx.nLen (ev 3)) AB) (c2 (AN ps x y))) fun _ => Be (EB.cast (Dv (Bm Tx.nLen (ev 4)) AB) (c2 (AN ps y x))) fun _ =>
   Cv (EB.cast (Ab (GX (Nat.lt_of_succ_lt hu)) (Ad _) (Iq Fj Fj Mj) (ev (t:=.tup ((AN ps x y).map T.int)) 3) (ev (t:=.tup ((AN ps y x).map T.int)) 4)) Hx))) (fun h => ?_) (fun h => Ac ?_))
  ·have z:JE ps x y = false:=by
    unfold JE
    cases z1:Cf ps x y <;> cases z2:decide ((AN ps x y).length = 2) <;> cases z3:decide ((AN ps y x).length = 2) <;> cases z4:decide (AN ps x y = AN ps y x) <;> simp [z1,z2,z3,z4] at h ⊢
   exact AH (AS (ET.we (Ah (AE Du AD)) (q1 z)))
  have z1:Cf ps x y = true:=by
   cases z:Cf ps x y with
   | true => rfl
   | false => rw [z] at h; simp at h
  have z2:(AN ps x y).length = 2:=by
   cases z:decide ((AN ps x y).length = 2) with
   | true => simpa using z
   | false => rw [z] at h; simp at h
  have z3:(AN ps y x).length = 2:=by
   cases z:decide ((AN ps y x).length = 2) with
   | true => simpa using z
   | false => rw [z] at h; simp at h
  have z4:AN ps x y≠AN ps y x:=by
   intro z
   rw [z] at h
   simp at h
  have ue:JE ps x y = (!Cf ps (BP (AN ps x y)).1 (BP (AN ps x y)).2 && !Cf ps (BP (AN ps y x)).1 (BP (AN ps y x)).2):=by
   unfold JE
   simp only [z1,z2,z3,z4,decide_true,Bool.true_and,decide_false,Bool.not_false]
  have two:∀ l:List Int,l.length = 2→T.tup (l.map T.int) = AC (BP l):=fun l h => by
   rw [show l.map T.int = [T.int (BP l).1,T.int (BP l).2] from congrArg (List.map T.int) (FM h)]
   rfl
  have w1:=two _ z2
  have w2:=two _ z3
  show DI _ [some (Am n ps),some (T.int x),some (T.int y),some (T.tup ((AN ps x y).map T.int)),some (T.tup ((AN ps y x).map T.int)),none,none,none] _ _ _
  rw [w1,w2]
  refine AF (AZ (k:=Cf ps (BP (AN ps x y)).1 (BP (AN ps x y)).2 || Cf ps (BP (AN ps y x)).1 (BP (AN ps y x)).2) (EW.eb (Be (EB.cast (Ab (Hq hu) rfl (CS (t:=AC (BP (AN ps x y))) (us:=ps.map AC) (BY _) Au (BA _)) (ev 3) (AK (ev 0) AB)) (BN.trans (Tk z2 (KQ ws)))) fun _ => Cv (EB.cast (Ab (Hq hu) rfl (CS (t:=AC (BP (AN ps y x))) (us:=ps.map AC) (BY _) Au (BA _)) (ev 4) (AK (ev 0) AB)) (BN.trans (Tk z3 (KQ ws)))))) (fun h => ?_) (fun h => Ac ?_))
  ·refine AH (AS (ET.we (Ah (AE Du AD)) (q1 ?_)))
   rw [ue]
   revert h
   cases Cf ps (BP (AN ps x y)).1 (BP (AN ps x y)).2 <;> cases Cf ps (BP (AN ps y x)).1 (BP (AN ps y x)).2 <;> simp
  have hb:JE ps x y = true:=by
   rw [ue]
   revert h
   cases Cf ps (BP (AN ps x y)).1 (BP (AN ps x y)).2 <;> cases Cf ps (BP (AN ps y x)).1 (BP (AN ps y x)).2 <;> simp
  have pk:=Hz ws hb
  have xy:=Qb ws.hp z1
  have lf:(ps.filter (kB x y)).length≤ps.length:=List.length_filter_le ..
  have lp:(Aw ps x y).length≤202:=by
   unfold Aw
   rw [List.length_append]
   show _ + 2≤202
   omega
  refine AF (AQ 5 (Fa (BL ⟨Nat.zero_le _,fun l hlO => ?_⟩)) Ei.nd)
  refine AF (FD BI.own rfl (EI.wi (BC (ts:=(Aw ps x y).map AC) (ET.cast (CC (ts:=(ps.filter (kB x y)).map AC) (us:=[AC (BP (AN ps x y)),AC (BP (AN ps y x))]) (CQ ["_law_tie"] [("_law_x",1),("_law_y",2)] ps AC AC (kB x y) rfl (BW (AA DT) Gm (by decide +kernel)) (CO (AK (ev 0) AB)) (by omega) fun p hp => ⟨[some (AC p),some (.int x),some (.int y)],fun X' Oe He is O' => ?_⟩) (Ay (AE (ev 3) (AE (ev 4) AD)) (by show 2≤sizeLine; decide)) (by rw [List.length_map]; show _ + 2≤_; omega)) (by unfold Aw; rw [List.map_append]; rfl))) ⟨fun i ρ' O' => ∃ v6 v7,ρ' = [some (Am n ps),some (.int x),some (.int y),some (AC (BP (AN ps x y))),some (AC (BP (AN ps y x))),some (.raw (.ref l)),v6,v7]∧O' = BB O l ((((Aw ps x y).take i).map (Qx x y)).map AC),⟨none,none,rfl,rfl⟩,?_,?_⟩))
  ·obtain ⟨cl,s',H',fp,rfl⟩:=is
   have hpp:=ws.hp p hp
   unfold BE at hpp
   exact ⟨AU 0 Xd (by decide),EB.cast (EW.eb (Cw (EB.cast (Ab (DS hu) rfl (CS (t:=.int x) (us:=[p.1,p.2].map T.int) (by rw [Bf]) BV (by show 0≤100; decide)) (ev 1) (ev 0)) (congrArg not BO)) fun _ => Cu (EB.cast (Ab (DS hu) rfl (CS (t:=.int y) (us:=[p.1,p.2].map T.int) (by rw [Bf]) BV (by show 0≤100; decide)) (ev 2) (ev 0)) (congrArg not BO)))) (XZ (by omega) (by omega)),fun _ => ev 0⟩
  ·rintro i t _ _ e ⟨v6,v7,rfl,rfl⟩
   rw [List.getElem?_map] at e
   cases ec:(Aw ps x y)[i]? with
   | none => rw [ec] at e; cases e
   | some p =>
    rw [ec] at e
    cases e
    have hi:=(List.getElem?_eq_some_iff.mp ec).1
    obtain ⟨⟨p0,p1,p2⟩,p3,p4,p5⟩:=pk p (List.mem_of_getElem? ec)
    refine ⟨[some (Am n ps),some (.int x),some (.int y),some (AC (BP (AN ps x y))),some (AC (BP (AN ps y x))),some (.raw (.ref l)),some (.int p.1),some (.int p.2)],Bl 6 7 rfl Ei.nd (by show 6 < 8; decide) (by show 7 < 8; decide),?_⟩
    have ie:∀ z:Int,0≤z→z - (if decide ((x:Int) < z) = true then 1 else 0) - (if decide ((y:Int) < z) = true then 1 else 0) = ((Le x y z.toNat:Nat):Int):=fun z h0 => by
     rw [Lf xy]
     have ez:((z.toNat:Nat):Int) = z:=by omega
     rw [ez]
     simp only [decide_eq_true_eq]
    refine AH (CA (FB (ET.we (ev 5) ⟨l,rfl,⟨_,AO⟩,ET.we (t:=AC (Qx x y p)) (Cb Tx.nTuple (ET.cast (Bd ["_law_place"] [("_law_x",1),("_law_y",2)] [p.1,p.2] T.int (fun z => .int (z - (if decide ((x:Int) < z) = true then 1 else 0) - (if decide ((y:Int) < z) = true then 1 else 0))) rfl (BW (AA DT) Gm (by decide +kernel)) (CO (Ah (AE (ev 6) (AE (ev 7) AD)))) (by show 2≤sizeLine; decide) fun z hz => ⟨[some (.int z),some (.int x),some (.int y)],fun X' Oe He is O' => ?_⟩) ?_)) ⟨_,AO,?_,?_⟩⟩)))
    ·obtain ⟨cl,s',H',fp,rfl⟩:=is
     exact ⟨AU 0 Vd (by decide),Bu (Bu (ev 0) (Ij Tx.nInt (TV (ev 0) (ev 1)))) (Ij Tx.nInt (TV (ev 0) (ev 2)))⟩
    ·have i1:=congrArg T.int (ie p.1 p0)
     have i2:=congrArg T.int (ie p.2 p3)
     show T.lst [T.int _,T.int _] = T.lst [T.int _,T.int _]
     rw [i1,i2]
     rfl
    ·rw [List.length_map,List.length_map,List.length_take]
     omega
    ·refine ⟨_,_,rfl,?_⟩
     rw [EO,List.take_succ,ec,List.map_append,List.map_append]
     rfl
  ·rintro _ _ ⟨v6,v7,rfl,rfl⟩
   rw [List.length_map,List.take_length]
   refine GS (p:=l) (n:=5) AO hlO rfl ?_
   rw [Ca hlO]
   refine AH (AS (AX Gw (hr.mono (by decide)) xf (EA.wa (ts:=[.int (n - 2),.lst (((Aw ps x y).map (Qx x y)).map AC)]) (AE (Bu (AK (ev 0) AB) AB) (AE (ev 5) AD)) ⟨n - 2,(Aw ps x y).map (Qx x y),rfl,by rw [List.length_map]; omega,fun q hq => ?_,fun rs h1 h2 h3 => q2 hb rs h1 h2 (by rw [List.length_map] at h3; omega)⟩)))
   obtain ⟨p,hp,rfl⟩:=List.mem_map.mp hq
   obtain ⟨⟨p0,p1,p2⟩,p3,p4,p5⟩:=pk p hp
   have a1:=JG (x:=x) (y:=y) (a:=p.1.toNat)
   have a2:=JG (x:=x) (y:=y) (a:=p.2.toNat)
   unfold Nm Qx
   simp only
   omega
end
section
variable {P:Program} {w:World} {K:PySem.W.Frag} {mg:Str→Option Value} {base:Heap}
theorem Qh {i j:Int}:Bf (.tup [.str "great",.int i,.int j]) = true:=by
 unfold Bf
 simp only [rdBs,Bf]
 decide +kernel
theorem Qi {i j:Int}:(dT (.tup [.str "great",.int i,.int j])).depth≤100:=by simp [dT,dTs,PyData.depth,PyData.depthAll]
theorem Ni {i j:Int}:PyData.eqv (dT (.tup [.str "great",.int i,.int j])) (dT (.tup [.str "great",.int i,.int j])) = true:=by
 show PyData.eqvAll [.str "great",.int i,.int j] [.str "great",.int i,.int j] = true
 have e:∀ a:Int,PyData.eqv (.int a) (.int a) = true:=fun a => by unfold PyData.eqv; simp
 have e2:PyData.eqv (.str "great") (.str "great") = true:=by decide +kernel
 simp only [PyData.eqvAll,e,e2,Bool.true_and]
def JJ (n:Int) (us:List Int):Prop:=(us.length = 4∨us.length = 2)∧∀ z∈us,0≤z∧z < n
def KR:Cy:=PH fun ts r => ∃ (n:Int) (ps:List (Int × Int)) (us:List Int),ts = [Am n ps,.tup (us.map T.int)]∧WebS n ps∧JJ n us∧r = .bl true
def Dj:List Str:=["_law_web","_law_places","_law_found","_law_due"]
theorem DW:FnScope Dj ["_law_web","_law_places"] (AA BF):=⟨rfl,rfl,rfl,by decide +kernel,rfl,by decide +kernel,by decide +kernel⟩
theorem KS {us:List Int}:∀ t∈us.map T.int,BH t = false:=by
 intro t ht
 obtain ⟨z,_,rfl⟩:=List.mem_map.mp ht
 rfl
theorem Mp {n:Int} {us:List Int} (hz:∀ z∈us,0≤z∧z < n):¬ ∃ t∈us.map T.int,Gx t 0 (n - 1) = false:=by
 rintro ⟨t,ht,h⟩
 obtain ⟨z,h1,rfl⟩:=List.mem_map.mp ht
 have:=hz z h1
 have h:(decide (0≤z) && decide (z≤n - 1)) = false:=h
 simp at h
 omega
theorem Qj {f:Addr} {fd:FuncData} (F:Fun K "_law_right" "_law_right" BF f fd) (Tx:Txt mg) (nS:mg "str" = none) (Gt:FnT P w K mg base "_law_told" 8 ["_law_web","_law_places"] JH) (Gs:FnT P w K mg base "_law_spliced_of" 2 ["_law_web","_law_a","_law_b","_law_c","_law_e"] JI) (Gu:FnT P w K mg base "_law_unspliced_of" 2 ["_law_web","_law_x","_law_y"] Mo) (Gw:FnT P w K mg base "_law_web_is" 3 ["_law_found","_law_due"] Mc) :
  FnOk P w K mg base (CXe P w) 9 f fd ["_law_web","_law_places"] (Dm K KR):=by
 refine Ag F DW ?_ ?_
 ·rintro ts O Φ Ξ ⟨r,⟨n,ps,us,rfl,_⟩,_⟩
  rfl
 ·rintro cdv A outer s H E O Ξ hr xf _ Φ ⟨_,⟨n,ps,us,rfl,ws,⟨hl,hz⟩,rfl⟩,q⟩
  have hu:(A.deeper (envOfC "_law_right" (AA BF) s.heap.objs.size f cdv)).units + 102 < cLine:=by have:=hr.un; omega
  have hu1:=Nat.lt_of_succ_lt hu
  have fin:∀ (v:Option T) (t due:T) (ts:List T),due = .tup (t :: ts)→BH t = false→(Mf t = true→Bf due = true∧(dT due).depth≤100∧PyData.eqv (dT due) (dT due) = true)→(Mf t = false→∃ m rs,due = Am m rs∧rs.length≤300)→DI (zB P w K mg base Dj "_law_right" (AA BF) f cdv A outer s H E O Ξ) [some (Am n ps),v,some due,some due] O [(AW BF).getD 2 (.Pass ⟨0,0,0,0⟩)] { nx:=fun _ O' => Φ .non O',rt:=Φ }:=by
   intro v t due ts ed hr1 h1 h2
   refine AH (AS (Wj (EB.wt (DQ Tx.nIsi nS Me Fh (AK (ts:=t :: ts) (t:=t) (ET.cast (ev 3) ed) AB (show atI (t :: ts) ((0:Nat):Int) = some t from Bw rfl)) hr1) ?_)))
   cases hs:Mf t with
   | true =>
    obtain ⟨a1,a2,a3⟩:=h1 hs
    refine JV (ET.we (ET.cast (GQ (GX hu1) (Ad _) (Iq a1 a1 a2) (ev 2) (ev 3)) ?_) q)
    rw [a3]
   | false =>
    obtain ⟨m,rs,rfl,hl⟩:=h2 hs
    exact IL (ET.we (At Gw (hr.mono (by decide)) xf (AE (ev 2) (AE (ev 3) AD)) ⟨m,rs,rfl,hl,rfl⟩) q)
  have fLn:∀ v,_:=fun v => fin v (.str "line") Qy [] rfl rfl (fun _ => ⟨SV,Gh,QI⟩) (fun h => by cases h)
  have fGr:∀ v,_:=fun v => fin v (.str "great") (Vc n) [.int (n + 2),.int 16] rfl rfl (fun _ => ⟨Qh,Qi,Ni⟩) (fun h => by cases h)
  have fWb:∀ v (m:Int) (rs:List (Int × Int)),rs.length≤300→_:=fun v m rs h => fin v (.int m) (Am m rs) [.tup (rs.map AC)] rfl rfl (fun h => by cases h) (fun _ => ⟨m,rs,rfl,h⟩)
  rcases hl with hl | hl
  ·obtain ⟨a,b,c,e,rfl⟩:∃ a b c e,us = [a,b,c,e]:=by
    match us,hl with
    | [a,b,c,e],_ => exact ⟨a,b,c,e,rfl⟩
   have go:∀ found:T,XX n ps a b c e O (fun t O' => O' = O∧DI (zB P w K mg base Dj "_law_right" (AA BF) f cdv A outer s H E O Ξ) [some (Am n ps),some (.tup ([a,b,c,e].map T.int)),some found,some t] O [(AW BF).getD 2 (.Pass ⟨0,0,0,0⟩)] { nx:=fun _ O' => Φ .non O',rt:=Φ })→DI (zB P w K mg base Dj "_law_right" (AA BF) f cdv A outer s H E O Ξ) [some (Am n ps),some (.tup ([a,b,c,e].map T.int)),some found,none] O [(AW BF).getD 1 (.Pass ⟨0,0,0,0⟩),(AW BF).getD 2 (.Pass ⟨0,0,0,0⟩)] { nx:=fun _ O' => Φ .non O',rt:=Φ }:=by
    intro found sq
    refine AF (AZ (k:=true) (EB.cast (Cr (Bm Tx.nLen (ev 1)) AB) rfl) (fun _ => ?_) (fun h => by cases h))
    refine AH (AQ 3 (AX Gs (hr.mono (by decide)) xf (EA.wa (AE (ev 0) (AE (AK (ev 1) AB) (AE (AK (ev 1) AB) (AE (AK (ev 1) AB) (AE (AK (ev 1) AB) AD))))) ⟨n,ps,a,b,c,e,rfl,ws,hz,?_⟩)) DW.nd)
    exact ⟨fun h => (sq.1 h).2,fun h1 h2 => (sq.2.1 h1 h2).2,fun h1 h2 rs s1 s2 s3 => (sq.2.2 h1 h2 rs s1 s2 s3).2⟩
   refine AF (AQ 2 (AX Gt hr xf (EA.wa (AE (ev 0) (AE (ev 1) AD)) ⟨n,ps,_,rfl,ws,KS,.inl ⟨rfl,fun h => absurd h (Mp hz),fun a' b' c' e' eq hz' h => ?_,fun a' b' c' e' eq hz' h h2 => ?_,fun a' b' c' e' eq hz' h h2 rs s1 s2 s3 => ?_⟩⟩)) DW.nd)
   ·obtain ⟨rfl,rfl,rfl,rfl⟩:=VQ eq
    exact go _ ⟨fun _ => ⟨rfl,fLn _⟩,fun z => (by rw [h] at z; cases z),fun z => (by rw [h] at z; cases z)⟩
   ·obtain ⟨rfl,rfl,rfl,rfl⟩:=VQ eq
    exact go _ ⟨fun z => (by rw [h] at z; cases z),fun _ _ => ⟨rfl,fGr _⟩,fun _ z => by omega⟩
   ·obtain ⟨rfl,rfl,rfl,rfl⟩:=VQ eq
    refine go _ ⟨fun z => (by rw [h] at z; cases z),fun _ z => (by omega),fun _ _ rs' r1 r2 r3 => ⟨rfl,?_⟩⟩
    have eq:rs = rs':=Io s1 r1 fun z => (s2 z).trans (r2 z).symm
    subst eq
    exact fWb _ _ _ (by omega)
  ·obtain ⟨i,j,rfl⟩:∃ a b,us = [a,b]:=by
    match us,hl with
    | [a,b],_ => exact ⟨a,b,rfl⟩
   have zi:=hz i (by simp)
   have zj:=hz j (by simp)
   obtain ⟨x,rfl⟩:=Int.eq_ofNat_of_zero_le zi.1
   obtain ⟨y,rfl⟩:=Int.eq_ofNat_of_zero_le zj.1
   have go:∀ found:T,Xa n ps x y O (fun t O' => O' = O∧DI (zB P w K mg base Dj "_law_right" (AA BF) f cdv A outer s H E O Ξ) [some (Am n ps),some (.tup ([(x:Int),(y:Int)].map T.int)),some found,some t] O [(AW BF).getD 2 (.Pass ⟨0,0,0,0⟩)] { nx:=fun _ O' => Φ .non O',rt:=Φ })→DI (zB P w K mg base Dj "_law_right" (AA BF) f cdv A outer s H E O Ξ) [some (Am n ps),some (.tup ([(x:Int),(y:Int)].map T.int)),some found,none] O [(AW BF).getD 1 (.Pass ⟨0,0,0,0⟩),(AW BF).getD 2 (.Pass ⟨0,0,0,0⟩)] { nx:=fun _ O' => Φ .non O',rt:=Φ }:=by
    intro found sq
    refine AF (AZ (k:=false) (EB.cast (Cr (Bm Tx.nLen (ev 1)) AB) rfl) (fun h => by cases h) (fun _ => ?_))
    refine AH (AQ 3 (AX Gu (hr.mono (by decide)) xf (EA.wa (AE (ev 0) (AE (AK (ev 1) AB) (AE (AK (ev 1) AB) AD))) ⟨n,ps,x,y,rfl,ws,zi.2,zj.2,?_⟩)) DW.nd)
    exact ⟨fun h => (sq.1 h).2,fun h1 rs s1 s2 s3 => (sq.2 h1 rs s1 s2 s3).2⟩
   have int2:∀ x' y':Nat,[T.int (x:Int),.int (y:Int)] = [.int (x':Int),.int (y':Int)]→x = x'∧y = y':=fun x' y' h => by
    simp only [List.cons.injEq,T.int.injEq,and_true] at h
    omega
   refine AF (AQ 2 (AX Gt hr xf (EA.wa (AE (ev 0) (AE (ev 1) AD)) ⟨n,ps,_,rfl,ws,KS,.inr ⟨rfl,fun h => absurd h (Mp hz),fun x' y' eq h1 h2 h => ?_,fun x' y' eq h1 h2 h rs s1 s2 s3 => ?_⟩⟩)) DW.nd)
   ·obtain ⟨rfl,rfl⟩:=int2 _ _ eq
    exact go _ ⟨fun _ => ⟨rfl,fLn _⟩,fun z => (by rw [h] at z; cases z)⟩
   ·obtain ⟨rfl,rfl⟩:=int2 _ _ eq
    refine go _ ⟨fun z => (by rw [h] at z; cases z),fun _ rs' r1 r2 r3 => ⟨rfl,?_⟩⟩
    have eq:rs = rs':=Io s1 r1 fun z => (s2 z).trans (r2 z).symm
    subst eq
    exact fWb _ _ _ (by omega)
end
def Xe (i:Nat):Stmt:=(AW Jy).getD i (.Pass ⟨0,0,0,0⟩)
def Sj:Stmt→Expr
 | .For _ e _ _ _ => e
 | _ => .Constant .none 0 ⟨0,0,0,0⟩
def JK:Stmt→List Stmt
 | .For _ _ b _ _ => b
 | _ => []
def Tl (i:Nat):Stmt:=(JK (Xe 1)).getD i (.Pass ⟨0,0,0,0⟩)
def Qk:List Str:=["_law_script","_law_places","_law_cell","_law_pen","_law_web","_law_turn","_law_four","_law_one","_law_other","_law_more","_law_a","_law_b","_law_odd"]
theorem Cg:FnScope Qk ["_law_script"] (AA Jy):=⟨rfl,rfl,rfl,by decide +kernel,rfl,by decide +kernel,by decide +kernel⟩
theorem Xf:(Ae ["_law_place"] [(("_law_pen" : Str),3),(("_law_web" : Str),4)]).Nodup:=by decide +kernel
theorem Xh:(Ae ["_law_tie"] [(("_law_web" : Str),4),(("_law_pen" : Str),3)]).Nodup:=by decide +kernel
section
variable {P:Program} {w:World} {K:PySem.W.Frag} {mg:Str→Option Value} {base:Heap} {f:Addr} {cdv:Value} {A:Around} {outer:List Env} {s:Shared} {H:Hp} {E:XK}
abbrev zL (P:Program) (w:World) (K:PySem.W.Frag) (mg:Str→Option Value) (base:Heap) (f:Addr) (cdv:Value) (A:Around) (outer:List Env) (s:Shared) (H:Hp) (E:XK):Zx:=zB P w K mg base Qk "law" (AA Jy) f cdv A outer s H E Pb (fun _ _ => False)
structure Has (P:Program) (w:World) (K:PySem.W.Frag) (mg:Str→Option Value) (base:Heap):Prop where
 tx:Txt mg
 ns:mg "str" = none
 gd:FnT P w K mg base "_law_draw" 2 ["_law_pen","_law_many"] DC
 gp:FnT P w K mg base "_law_pen_of" 1 ["_law_cell"] Td
 gs:FnT P w K mg base "_law_some_web" 3 ["_law_pen","_law_most"] QP
 gn:FnT P w K mg base "_law_no_place" 3 ["_law_pen","_law_many"] QG
 gt:FnT P w K mg base "_law_told" 8 ["_law_web","_law_places"] JH
 gr:FnT P w K mg base "_law_right" 9 ["_law_web","_law_places"] KR
 go:FnT P w K mg base "_law_spliced_of" 2 ["_law_web","_law_a","_law_b","_law_c","_law_e"] JI
theorem Sk {O0 O1:AM} {ρ:List (Option T)} {p:Addr} {n:Int} {F:List T→AM→Prop} {elt:Expr} {csc:Scope} {p1:Pos} (po:PO O0 p O1)
  (step:∀ (i:Nat) (acc:List T) (O':AM) (c:Addr),PO O0 p O'→O' c = none→acc.length≤4→∃ ρ4,∀ X' Oe He,LcCx (zL P w K mg base f cdv A outer s H E).X csc (Ae ["_law_place"] [("_law_pen",3),("_law_web",4)]) X'→WG (zc X' Oe He) 1 (GT ["_law_place"] ρ [("_law_pen",3),("_law_web",4)]) (BB O' c acc) (.Name "_law_place" p1) (.int (0 + (i:Int))) ρ4 ∧
   ∀ X' Oe He,LcCx (zL P w K mg base f cdv A outer s H E).X csc (Ae ["_law_place"] [("_law_pen",3),("_law_web",4)]) X'→∀ Φ:BX,(∀ r O2,0≤r→r < n→PO O0 p O2→O2 c = none→Φ (.int r) (BB O2 c acc))→WE (zc X' Oe He) ρ4 (BB O' c acc) elt Φ)
  (fin:∀ (as:List Int) (O':AM),as.length = 4→(∀ z∈as,0≤z∧z < n)→PO O0 p O'→F (as.map T.int) O') :
  Qv (zL P w K mg base f cdv A outer s H E) ρ elt (.Name "_law_place" p1) [] csc ["_law_place"] [("_law_pen",3),("_law_web",4)] F (Js 0 (4:Int).toNat) O1:=by
 have sb:=AV
 refine ⟨fun i acc O' => i≤4∧∃ as:List Int,acc = as.map T.int∧as.length = i∧(∀ z∈as,0≤z∧z < n)∧PO O0 p O',⟨by omega,[],rfl,rfl,(fun _ h => by cases h),po⟩,?_,?_⟩
 ·rintro i t acc O' c e ⟨_,as,rfl,hl,hz,po'⟩ hc
  obtain ⟨hi,rfl⟩:=CZ e
  have hi:i < 4:=hi
  obtain ⟨ρ4,st⟩:=step i (as.map T.int) O' c po' hc (by rw [List.length_map]; omega)
  refine ⟨ρ4,fun X' Oe He is => ⟨(st X' Oe He is).1,Fd (JV fun X'' Oe' He' is' => (st X'' Oe' He' is').2 X'' Oe' He' is' _ fun r O2 r0 r1 po2 hc2 => ?_)⟩⟩
  refine ⟨O2,rfl,hc2,by rw [List.length_map]; omega,by omega,as ++ [r],by rw [List.map_append]; rfl,by rw [List.length_append]; simp; omega,fun z h => ?_,po2⟩
  rcases List.mem_append.mp h with h | h
  ·exact hz z h
  ·rw [List.mem_singleton.mp h]; exact ⟨r0,r1⟩
 ·rintro acc O' ⟨_,as,rfl,hl,hz,po'⟩
  rw [BM] at hl
  exact fin as O' hl hz po'
theorem Sl {as:List Int} (h:as.length = 4):∃ a b c e,as = [a,b,c,e]:=by
 match as,h with
 | [a,b,c,e],_ => exact ⟨a,b,c,e,rfl⟩
theorem Sm {n:Int} {ps rs:List (Int × Int)} {a b c e:Int} (ws:WebS n ps) (hl:ps.length≤140) (hz:∀ z∈[a,b,c,e],0≤z∧z < n) (hn:n≤14) (pw:rs.Pairwise Hm) (hm:∀ q,q∈rs↔q∈Vm ps [(a,b),(c,e)] (Sb n a b c e)) (hr:rs.length≤ps.length + 5):WebS (n + 2) rs:=by
 have n0:=ws.n0
 refine ⟨by omega,by omega,fun q hq => ?_,pw,by omega⟩
 obtain ⟨z,h1,rfl⟩:=List.mem_map.mp ((hm q).mp hq)
 have za:=hz a (by simp)
 have zb:=hz b (by simp)
 have zc:=hz c (by simp)
 have ze:=hz e (by simp)
 rcases List.mem_append.mp h1 with h1 | h1
 ·have:=ws.hp z (List.mem_filter.mp h1).1
  unfold BE at this
  rw [Eh (by omega)]
  unfold BE
  omega
 ·simp only [Sb,List.mem_cons,List.not_mem_nil,or_false] at h1
  unfold BE mm
  rcases h1 with rfl | rfl | rfl | rfl | rfl <;> simp only <;> omega
variable {O0 O1:AM} {p:Addr} {n:Int} {ps:List (Int × Int)} {v0 v1 v2 v5 v6 v7 v8 v9 v10 v11 v12:Option T} {Φ:BX} {N Bk Ct:LH}
abbrev Dn (v0 v1 v2:Option T) (p:Addr) (n:Int) (ps:List (Int × Int)) (v5 v6 v7 v8 v9 v10 v11 v12:Option T):List (Option T):=[v0,v1,v2,some (.raw (.ref p)),some (Am n ps),v5,v6,v7,v8,v9,v10,v11,v12]
theorem Gp {as:List Int} (B:Has P w K mg base) (hr:Room 9 (zL P w K mg base f cdv A outer s H E).X.A) (xf:XFly (zL P w K mg base f cdv A outer s H E).X (zL P w K mg base f cdv A outer s H E).W) (ws:WebS n ps) (hpl:ps.length≤140) (hl:as.length = 4) (hz:∀ z∈as,0≤z∧z < n)
  (k:∀ v9,N (Dn v0 v1 v2 p n ps v5 (some (.lst (as.map T.int))) v7 v8 v9 v10 v11 v12) O1) :
  DI (zL P w K mg base f cdv A outer s H E) (Dn v0 v1 v2 p n ps v5 (some (.lst (as.map T.int))) v7 v8 v9 v10 v11 v12) O1 [(JK (Tl 2)).getD 2 (.Pass ⟨0,0,0,0⟩),(JK (Tl 2)).getD 3 (.Pass ⟨0,0,0,0⟩),(JK (Tl 2)).getD 4 (.Pass ⟨0,0,0,0⟩)] { nx:=N,rt:=Φ,bk:=Bk,ct:=Ct }:=by
 obtain ⟨a,b,c,e,rfl⟩:=Sl hl
 refine AF (AZ (k:=false) (EB.cast (Az (CY (At B.gr hr xf (AE (ev 4) (AE (Cb B.tx.nTuple (ev 6)) AD)) ⟨n,ps,[a,b,c,e],rfl,ws,⟨.inl rfl,hz⟩,rfl⟩))) rfl) (fun h => by cases h) (fun _ => Ac ?_))
 have n0:=ws.n0
 refine AF (AQ 9 (AX B.go (hr.mono (by decide)) xf (EA.wa (AE (ev 4) (AE (Bc (ev 6) AB) (AE (Bc (ev 6) AB) (AE (Bc (ev 6) AB) (AE (Bc (ev 6) AB) AD))))) ⟨n,ps,a,b,c,e,rfl,ws,hz,fun h => ?_,fun h h2 => ?_,fun h h2 rs s1 s2 s3 => ?_⟩)) Cg.nd)
 ·exact AH (AZ (k:=false) (EW.eb (EW.cast (Cw (x:=false) (y:=false) (EB.cast (Az (DQ B.tx.nIsi B.ns Me Fh (t:=.str "line") (AK (ev 9) AB) rfl)) rfl) fun z => by cases z) rfl)) (fun h => by cases h) (fun _ => Ac (k _)))
 ·exact AH (AZ (k:=false) (EW.eb (EW.cast (Cw (x:=false) (y:=false) (EB.cast (Az (DQ B.tx.nIsi B.ns Me Fh (t:=.str "great") (AK (ev 9) AB) rfl)) rfl) fun z => by cases z) rfl)) (fun h => by cases h) (fun _ => Ac (k _)))
 ·refine AH (AZ (k:=false) (EW.eb (EW.cast (Cw (x:=true) (y:=false) (EB.cast (Az (DQ B.tx.nIsi B.ns Me Fh (t:=.int (n + 2)) (AK (ev 9) AB) rfl)) rfl) fun _ => Cu (EB.cast (Az (k:=true) (CY ?_)) rfl)) rfl)) (fun h => by cases h) (fun _ => Ac (k _)))
  exact At B.gr hr xf (AE (ev 9) (AE (Ah (AE (AK (ev 4) AB) (AE (Ai (AK (ev 4) AB) AB) AD))) AD)) ⟨n + 2,rs,[n,n + 1],rfl,Sm ws hpl hz h2 s1 s2 s3,⟨.inr rfl,fun z hz => by
   simp only [List.mem_cons,List.not_mem_nil,or_false] at hz
   omega⟩,rfl⟩
end
theorem Ve {ts:List T} {k:Nat}:LK ts none (some (k:Int)) = ts.take k:=by
 unfold LK
 rw [HT.OE,HT.RI,List.drop_zero,Nat.sub_zero]
 rcases Nat.le_total k ts.length with h | h
 ·rw [Nat.min_eq_left h]
 ·rw [Nat.min_eq_right h,List.take_of_length_le (Nat.le_refl _),List.take_of_length_le h]
section
variable {P:Program} {w:World} {K:PySem.W.Frag} {mg:Str→Option Value} {base:Heap} {f:Addr} {cdv:Value} {A:Around} {outer:List Env} {s:Shared} {H:Hp} {E:XK}
variable {O0 O1:AM} {p:Addr} {n:Int} {ps:List (Int × Int)} {v0 v1 v2 v5 v6 v7 v8 v9 v10 v11 v12:Option T} {Φ:BX} {N Bk Ct:LH}
theorem Ql {i:Nat} (B:Has P w K mg base) (hr:Room 9 (zL P w K mg base f cdv A outer s H E).X.A) (xf:XFly (zL P w K mg base f cdv A outer s H E).X (zL P w K mg base f cdv A outer s H E).W) (po:PO O0 p O1) (ws:WebS n ps) (hpl:ps.length≤140)
  (k:∀ v6 v7 v8 v9 O',PO O0 p O'→N (Dn v0 v1 v2 p n ps (some (.int (0 + (i:Int)))) v6 v7 v8 v9 v10 v11 v12) O') :
  DI (zL P w K mg base f cdv A outer s H E) (Dn v0 v1 v2 p n ps (some (.int (0 + (i:Int)))) v6 v7 v8 v9 v10 v11 v12) O1 (JK (Tl 2)) { nx:=N,rt:=Φ,bk:=Bk,ct:=Ct }:=by
 have sb:=AV
 have n0:=ws.n0
 have n1:=ws.n1
 have hu:(zL P w K mg base f cdv A outer s H E).X.A.units + 101 < cLine:=by have:=hr.un; omega
 refine AF (ES (i:=6) (nc:=["_law_place"]) (cap:=[("_law_pen",3),("_law_web",4)]) (by rfl) Cg.nd rfl (BW (AA Jy) Qk (by decide +kernel)) (EI.wi (Av (k:=4) B.tx.nRange AB ⟨by decide,by decide⟩) ?_))
 refine Sk (n:=n) po (fun j acc O' c po' hc hl => ⟨[some (.int (0 + (j:Int))),some (.raw (.ref p)),some (Am n ps)],fun X' Oe He is => ?_⟩) ?_
 ·refine ⟨?_,fun X' Oe He is Φ k => ?_⟩
  ·obtain ⟨cl,s',H',fp,rfl⟩:=is
   exact AU 0 Xf (by decide)
  ·obtain ⟨cl,s',H',fp,rfl⟩:=is
   exact Gg B.gd (hr.mono (by decide)) EX po' hc (ev 1) (AK (ev 2) AB) (by omega) (by omega) k
 ·intro as O2 hl hz po2
  have hd:(dT (.tup (ps.map AC))).depth≤100:=by
   have:=BZ (ps:=ps)
   simp only [dT,PyData.depth]
   omega
  have hrd:Bf (.tup (ps.map AC)) = true:=by unfold Bf; exact Au
  refine AF (AZ (k:=!decide (ps = []) && decide (0 < 0 + (i:Int))) (EW.eb (Cw (EB.cast (Ab (Ip hu) (Ad _) (Iq hrd rfl hd) (AK (ev 4) AB) (Ah AD (Nat.zero_le _))) ?_) fun _ => Cu (Oz (ev 5) AB))) (fun h => ?_) (fun h => Ac (Gp B hr xf ws hpl hl hz fun _ => k _ _ _ _ _ po2)))
  ·have e:=Cd (ps:=ps) (qs:=[])
   show (!PyData.eqvAll (dTs (ps.map AC)) (dTs (([]:List (Int × Int)).map AC))) = _
   rw [e]
  ·have hne:0 < ps.length:=by
    simp at h
    exact List.length_pos_iff.mpr h.1
   have hl2:=ws.hl
   refine AF (Um (n:=13) (PR (nc:=["_law_tie"]) (cap:=[("_law_web",4),("_law_pen",3)]) rfl (BW (AA Jy) Qk (by decide +kernel)) (EI.wi (Av (k:=2) B.tx.nRange AB ⟨by decide,by decide⟩) ?_)))
   refine ⟨fun i acc O' => i≤2∧∃ qs:List (Int × Int),acc = qs.map AC∧qs.length = i∧(∀ z∈qs,z∈ps)∧PO O0 p O',⟨by omega,[],rfl,rfl,(fun _ h => by cases h),po2⟩,?_,?_⟩
   ·rintro j t acc O' c e ⟨_,qs,rfl,hql,hq,po'⟩ hc
    obtain ⟨hj,rfl⟩:=CZ e
    have hj:j < 2:=hj
    refine ⟨[some (.int (0 + (j:Int))),some (Am n ps),some (.raw (.ref p))],fun X' Oe He is => ⟨?_,Fd (JV fun X' Oe He is => ?_)⟩⟩
    ·obtain ⟨cl,s',H',fp,rfl⟩:=is
     exact AU 0 Xh (by decide)
    ·obtain ⟨cl,s',H',fp,rfl⟩:=is
     refine MK OH (fun _ _ => rfl) (ET.we (AK (ev 1) AB) (Gg B.gd (hr.mono (by decide)) EX po' hc (ev 2) (Bm B.tx.nLen (AK (ev 1) AB)) (by simp; omega) (by simp; omega) fun r O3 r0 r1 po3 hc3 => ?_))
     have r1:r < ps.length:=by simpa using r1
     have hr':r.toNat < ps.length:=by omega
     have ea:atI (ps.map AC) r = some (AC ps[r.toNat]):=by
      obtain ⟨m,rfl⟩:=Int.eq_ofNat_of_zero_le r0
      have hm:m < ps.length:=by omega
      exact Bw (by rw [List.getElem?_map,List.getElem?_eq_getElem hm]; rfl)
     refine PF ea _ ⟨O3,rfl,hc3,by rw [List.length_map]; omega,by omega,qs ++ [ps[r.toNat]],by rw [List.map_append]; rfl,by simp; omega,fun z hz => ?_,po3⟩
     rcases List.mem_append.mp hz with hz | hz
     ·exact hq z hz
     ·rw [List.mem_singleton.mp hz]; exact List.getElem_mem _
   ·rintro acc O' ⟨_,qs,rfl,hql,hq,po3⟩
    rw [BM] at hql
    have hql:qs.length = 2:=hql
    match qs,hql,hq with
    | [x,y],_,hq =>
     refine ⟨Dn v0 v1 v2 p n ps (some (.int (0 + (i:Int)))) (some (.lst (as.map T.int))) (some (AC x)) (some (AC y)) v9 v10 v11 v12,Rz 7 8 rfl Cg.nd (by decide) (by decide),?_⟩
     have hx:=ws.hp x (hq x (by simp))
     have hy:=ws.hp y (hq y (by simp))
     unfold BE at hx hy
     refine AH (AQ 6 (DG En (MK DZ (fun _ _ => rfl) (ET.we (t:=.lst [.lst [.int x.1,.int x.2],.lst [.int x.2,.int x.1]]) (Ay (AE (Cc B.tx.nList (ev 7)) (AE (Pf (Cc B.tx.nList (ev 7))) AD)) (by show 2≤sizeLine; decide)) (BD B.gd (hr.mono (by decide)) xf po3 (ev 3) AB (by decide) (by decide) fun r O4 r0 r1 po4 => ?_)))) Cg.nd)
     have:r = 0∨r = 1:=by omega
     rcases this with rfl | rfl
     ·refine Ic (t:=.lst [.int x.1,.int x.2]) rfl _ (ET.we (Cc B.tx.nList (ev 8)) (De (by show 4≤sizeLine; decide) _ ?_))
      refine Gp (as:=[x.1,x.2,y.1,y.2]) B hr xf ws hpl rfl (fun z hz => ?_) fun _ => (k _ _ _ _ _ po4)
      simp only [List.mem_cons,List.not_mem_nil,or_false] at hz
      rcases hz with rfl | rfl | rfl | rfl <;> omega
     ·refine Ic (t:=.lst [.int x.2,.int x.1]) rfl _ (ET.we (Cc B.tx.nList (ev 8)) (De (by show 4≤sizeLine; decide) _ ?_))
      refine Gp (as:=[x.2,x.1,y.1,y.2]) B hr xf ws hpl rfl (fun z hz => ?_) fun _ => (k _ _ _ _ _ po4)
      simp only [List.mem_cons,List.not_mem_nil,or_false] at hz
      rcases hz with rfl | rfl | rfl | rfl <;> omega
theorem Qm {odd:T} {L:List Int} (ht:odd∈L.map T.int) (h:Gx odd 0 (n - 1) = false) (hz:∀ z∈L,0≤z∧z < n):False:=by
 obtain ⟨z,h1,rfl⟩:=List.mem_map.mp ht
 have:=hz z h1
 have h:(decide (0≤z) && decide (z≤n - 1)) = false:=h
 simp at h
 omega
theorem Lg {us:List T} {odd:T} {Φ:BX} {O:AM} (hm:odd∈us) (hl:us.length = 4∨us.length = 2) (hodd:Gx odd 0 (n - 1) = false) (q:Φ Tj O):(us.length = 4∧SplO n ps us O Φ (Φ Tj O) (Φ Qy O) (Φ (Vc n) O))∨(us.length = 2∧UnsO n ps us O Φ (Φ Tj O) (Φ Qy O)):=by
 have no4:∀ a b c e:Int,us = [a,b,c,e].map T.int→(∀ z∈[a,b,c,e],0≤z∧z < n)→False:=fun a b c e h hz => Qm (h ▸ hm) hodd hz
 have no2:∀ x y:Nat,us = [.int x,.int y]→(x:Int) < n→(y:Int) < n→False:=fun x y h h1 h2 => Qm (L:=[(x:Int),(y:Int)]) (show odd∈[T.int x,T.int y] from h ▸ hm) hodd fun z hz => by
  simp only [List.mem_cons,List.not_mem_nil,or_false] at hz
  omega
 rcases hl with hl | hl
 ·exact .inl ⟨hl,fun _ => q,fun a b c e h hz => (no4 a b c e h hz).elim,fun a b c e h hz => (no4 a b c e h hz).elim,fun a b c e h hz => (no4 a b c e h hz).elim⟩
 ·exact .inr ⟨hl,fun _ => q,fun x y h h1 h2 => (no2 x y h h1 h2).elim,fun x y h h1 h2 => (no2 x y h h1 h2).elim⟩
theorem Sn {us:List T} {odd:T} (B:Has P w K mg base) (hr:Room 9 (zL P w K mg base f cdv A outer s H E).X.A) (xf:XFly (zL P w K mg base f cdv A outer s H E).X (zL P w K mg base f cdv A outer s H E).W) (ws:WebS n ps) (hm:odd∈us) (hl:us.length = 4∨us.length = 2) (hraw:∀ t∈us,BH t = false) (hodd:Gx odd 0 (n - 1) = false)
  (k:N (Dn v0 (some (.tup us)) v2 p n ps v5 v6 v7 v8 v9 v10 v11 v12) O1) :
  DI (zL P w K mg base f cdv A outer s H E) (Dn v0 (some (.tup us)) v2 p n ps v5 v6 v7 v8 v9 v10 v11 v12) O1 (JK (Tl 5)) { nx:=N,rt:=Φ,bk:=Bk,ct:=Ct }:=by
 have hu:(zL P w K mg base f cdv A outer s H E).X.A.units + 101 < cLine:=by have:=hr.un; omega
 refine AH (PK (Ib (Ip hu) (Ad _) (AX B.gt (hr.mono (by decide)) xf (EA.wa (AE (ev 4) (AE (ev 1) AD)) ⟨n,ps,us,rfl,ws,hraw,Lg hm hl hodd ?_⟩))))
 refine ET.we (Ah (AE Du AD) (by show 1≤sizeLine; decide)) (Iq KG KG Gh _ ⟨_,rfl,?_⟩)
 rw [Ng]
 exact IL (Ac k)
def Nj (o:T):List (List T):=[[o,.int 0],[.int 0,o],[o,o],[o,.int 0,.int 0,.int 0],[.int 0,o,.int 0,.int 0],[.int 0,.int 0,o,.int 0],[.int 0,.int 0,.int 0,o]]
theorem So {o:T} (h:BH o = false) {us:List T} (hm:us∈Nj o):o∈us∧(us.length = 4∨us.length = 2)∧∀ t∈us,BH t = false:=by
 simp only [Nj,List.mem_cons,List.not_mem_nil,or_false] at hm
 rcases hm with rfl | rfl | rfl | rfl | rfl | rfl | rfl <;> refine ⟨by simp,by simp,fun t ht => ?_⟩ <;> simp only [List.mem_cons,List.not_mem_nil,or_false] at ht <;> rcases ht with rfl | rfl | rfl | rfl <;> first | exact h | rfl
theorem Qn {ρ:List (Option T)} {O:AM} {o:T} (hρ:ρ[12]? = some (some o)) (hl:ρ.length = 13) (k:Φ (.lst ((Nj o).map T.tup)) O):HWE (zL P w K mg base f cdv A outer s H E) ρ O (Sj (Tl 5)) Φ:=by
 have z2:(2:Nat)≤sizeLine:=by decide
 have z4:(4:Nat)≤sizeLine:=by decide
 exact HWE.lst (ts:=(Nj o).map T.tup) (.cons (.tup (.cons (.var 12 hρ) (.cons .int .nil)) z2) (.cons (.tup (.cons .int (.cons (.var 12 hρ) .nil)) z2) (.cons (.tup (.cons (.var 12 hρ) (.cons (.var 12 hρ) .nil)) z2) (.cons (.tup (.cons (.var 12 hρ) (.cons .int (.cons .int (.cons .int .nil)))) z4) (.cons (.tup (.cons .int (.cons (.var 12 hρ) (.cons .int (.cons .int .nil)))) z4) (.cons (.tup (.cons .int (.cons .int (.cons (.var 12 hρ) (.cons .int .nil)))) z4) (.cons (.tup (.cons .int (.cons .int (.cons .int (.cons (.var 12 hρ) .nil)))) z4) .nil))))))) (by show 7≤sizeLine; decide) k
theorem Sq {i j:Int} (B:Has P w K mg base) (hr:Room 9 (zL P w K mg base f cdv A outer s H E).X.A) (xf:XFly (zL P w K mg base f cdv A outer s H E).X (zL P w K mg base f cdv A outer s H E).W) (ws:WebS n ps) (hi:0≤i∧i < n) (hj:0≤j∧j < n)
  (k:N (Dn v0 v1 v2 p n ps v5 v6 v7 v8 v9 (some (.int i)) (some (.int j)) v12) O1) :
  DI (zL P w K mg base f cdv A outer s H E) (Dn v0 v1 v2 p n ps v5 v6 v7 v8 v9 (some (.int i)) (some (.int j)) v12) O1 (JK (Tl 3)) { nx:=N,rt:=Φ,bk:=Bk,ct:=Ct }:=by
 refine AH (AZ (k:=false) (EW.eb (EW.cast (Be (x:=false) (y:=false) (EB.cast (Az (k:=true) (CY ?_)) rfl) fun _ => Cv (EB.cast (Az (k:=true) (CY ?_)) rfl)) rfl)) (fun h => by cases h) (fun _ => Ac k))
 ·exact At B.gr hr xf (AE (ev 4) (AE (Ah (AE (ev 10) (AE (ev 11) AD))) AD)) ⟨n,ps,[i,j],rfl,ws,⟨.inr rfl,fun z hz => by
   simp only [List.mem_cons,List.not_mem_nil,or_false] at hz
   omega⟩,rfl⟩
 ·exact At B.gr hr xf (AE (ev 4) (AE (Ah (AE (ev 11) (AE (ev 10) AD))) AD)) ⟨n,ps,[j,i],rfl,ws,⟨.inr rfl,fun z hz => by
   simp only [List.mem_cons,List.not_mem_nil,or_false] at hz
   omega⟩,rfl⟩
theorem Qo (B:Has P w K mg base) (hr:Room 9 (zL P w K mg base f cdv A outer s H E).X.A) (xf:XFly (zL P w K mg base f cdv A outer s H E).X (zL P w K mg base f cdv A outer s H E).W) (po:PO O0 p O1) (ws:WebS n ps)
  (k:∀ (qs:List (Int × Int)) (O':AM),(∀ q∈qs,(0≤q.1∧q.1 < n)∧0≤q.2∧q.2 < n)→PO O0 p O'→Φ (.lst (qs.map AC)) O'):HWE (zL P w K mg base f cdv A outer s H E) (Dn v0 v1 v2 p n ps v5 v6 v7 v8 v9 v10 v11 v12) O1 (Sj (Tl 3)) Φ:=by
 have sb:=AV
 have n0:=ws.n0
 have n1:=ws.n1
 have hl:=ws.hl
 refine ⟨DG En (ET.we (Cc B.tx.nList (Uv (AK (ev 4) AB) AB)) (Ia (EZ (Ey (EZ (BD B.gd (hr.mono (by decide)) xf po (ev 3) (AK (ev 4) AB) (by omega) (by omega) fun r1 O2 r10 r11 po2 => EZ (BD B.gd (hr.mono (by decide)) xf po2 (ev 3) (AK (ev 4) AB) (by omega) (by omega) fun r2 O3 r20 r21 po3 => BL ⟨by show 2≤sizeLine; decide,BL ⟨by show 1≤sizeLine; decide,?_⟩⟩)))))))⟩
 have e:LK (ps.map AC) none (some 25) = (ps.take 25).map AC:=by
  have:=Ve (ts:=ps.map AC) (k:=25)
  rw [List.map_take]
  exact this
 rw [e]
 refine De (ts:=(ps.take 25).map AC) (us:=[AC (r1,r2)]) (by rw [List.length_map,List.length_take]; show _ + 1≤_; omega) _ ?_
 have:=k (ps.take 25 ++ [(r1,r2)]) O3 (fun q hq => ?_) po3
 ·rw [List.map_append] at this
  exact this
 ·rcases List.mem_append.mp hq with hq | hq
  ·have:=ws.hp q (List.mem_of_mem_take hq)
   unfold BE at this
   omega
  ·rw [List.mem_singleton.mp hq]
   exact ⟨⟨r10,r11⟩,r20,r21⟩
end
def Mq (K:PySem.W.Frag):Sp:=fun vs H Q _ => ∃ (a:Addr) (ns:List Int),vs = [.ref a]∧SqL K H a (ns.map V.int)∧ns.length≤63∧∀ H',Q (.bl true) H'
def Yr:BX:=fun t _ => t = .bl true
theorem Mr {Z:Zx} {ρ:List (Option T)} {O:AM} {tg iter:Expr} {body ss:List Stmt} {pos:Pos} {Ψ:Es} (hp:PassesOwn (model Z.X.prog Z.X.w) Z.X.A Z.X.env Z.X.xe) (hc:Z.X.calm = true) (h:HWE Z ρ O iter fun t O' => ∃ ts,t = .lst ts∧∃ I:Nat→LH,I 0 ρ O' ∧
  (∀ i t ρ' O',ts[i]? = some t→I i ρ' O'→∃ ρ2,WG Z Z.X.N.length ρ' O' tg t ρ2∧HS Z ρ2 O' body { nx:=I (i + 1),rt:=Ψ.rt,bk:=fun ρ' O' => HS Z ρ' O' ss Ψ,ct:=I (i + 1) })∧∀ ρ' O',I ts.length ρ' O'→HS Z ρ' O' ss Ψ)
  (hs:∀ x,foldedSetIterable iter Z.X.env x = pure x):HS Z ρ O (.For tg iter body [] pos :: ss) Ψ:=Df (Im hp hc h hs)
section
variable {P:Program} {w:World} {K:PySem.W.Frag} {mg:Str→Option Value} {base:Heap} {f:Addr} {cdv:Value} {A:Around} {outer:List Env} {s:Shared} {H:Hp} {E:XK}
theorem Qp {ρ:List (Option T)} {a:Addr} {ns:List Int} {Φ:BX} {fC:Addr} {fdC:FuncData} (hr:Room 9 (zL P w K mg base f cdv A outer s H E).X.A) (xf:XFly (zL P w K mg base f cdv A outer s H E).X (zL P w K mg base f cdv A outer s H E).W) (hS:SqL K H a (ns.map V.int)) (hn:ns.length≤63) (hρ:ρ[0]? = some (some (.raw (.ref a))))
  (FC:FnOk P w K mg base (CXe P w) 1 fC fdC ["_law_script","_law_k"] (Ge K)) (mC:mg "_law_cell_at" = some (.ref fC)) (kC:PySem.W.keepIn K (.ref fC) = true) (bC:Binds K fdC ["_law_script","_law_k"] [])
  (k:∀ ms:List Int,ms.length≤64→Φ (.lst (ms.map T.int)) Pb):HWE (zL P w K mg base f cdv A outer s H E) ρ Pb (Sj (Xe 1)) Φ:=by
 have sb:=AV
 refine ⟨?_⟩
 refine DG En ?_
 refine Ia (EZ (PZ FC mC kC bC (hr.mono (by decide)) xf (AE (ev 0 hρ) (AE AB AD)) ?_))
 intro σ H1 vs Q as r acc
 obtain ⟨v,u,rfl,r1,r2⟩:=r.two_inv
 cases r1.raw_inv
 cases r2.int_inv
 refine ⟨a,ns,rfl,Ta as.fr.kp hS,fun c => acc _ _ _ _ ?_ (.refl as.ok) (.int c)⟩
 refine BL ⟨by show 1≤sizeLine; decide,?_⟩
 refine VA rfl hS (ev 0 hρ) AB AB fun ms hm => ?_
 exact De (ts:=[T.int c]) (us:=ms.map T.int) (by simp; omega) _ (k (c :: ms) (by simp; omega))
theorem Qq {O:AM} {v0 v1 v3 v4 v5 v6 v7 v8 v9 v10 v11 v12:Option T} {c:Int} {Φ:BX} {N Bk Ct:LH} (B:Has P w K mg base) (hr:Room 9 (zL P w K mg base f cdv A outer s H E).X.A) (xf:XFly (zL P w K mg base f cdv A outer s H E).X (zL P w K mg base f cdv A outer s H E).W)
  (k:∀ v1 v3 v4 v5 v6 v7 v8 v9 v10 v11 v12 O',N [v0,v1,some (.int c),v3,v4,v5,v6,v7,v8,v9,v10,v11,v12] O'):HS (zL P w K mg base f cdv A outer s H E) [v0,v1,some (.int c),v3,v4,v5,v6,v7,v8,v9,v10,v11,v12] O (JK (Xe 1)) { nx:=N,rt:=Φ,bk:=Bk,ct:=Ct }:=by
 have sb:=AV
 refine Df (AQ 3 (AX B.gp (hr.mono (by decide)) xf (EA.wa (AE (ev 2) AD) ⟨c,rfl,fun p xs hp px => ?_⟩)) Cg.nd)
 refine Df (AQ 4 (AX B.gs (hr.mono (by decide)) xf (EA.wa (AE (ev 3) (AE AB AD)) ⟨p,xs,rfl,AO,px,fun n ps O1 n0 n1 hP pw hl po => ?_⟩)) Cg.nd)
 have ws:WebS n ps:=⟨by omega,n1,hP,pw,by omega⟩
 refine Df (FD BI.own rfl (EI.wi (Av (k:=6) B.tx.nRange AB ⟨by decide,by decide⟩) ⟨fun j ρ' O' => ∃ v5 v6 v7 v8 v9,ρ' = Dn v0 v1 (some (.int c)) p n ps v5 v6 v7 v8 v9 v10 v11 v12∧PO (BB O p xs) p O',⟨_,_,_,_,_,rfl,po⟩,?_,?_⟩))
 ·rintro j t _ O2 e ⟨v5,v6,v7,v8,v9,rfl,po2⟩
  obtain ⟨hj,rfl⟩:=CZ e
  exact ⟨Dn v0 v1 (some (.int c)) p n ps (some (.int (0 + (j:Int)))) v6 v7 v8 v9 v10 v11 v12,AU 5 Cg.nd (by show 5 < 13; decide),Ql B hr xf po2 ws hl fun v6 v7 v8 v9 O' po' => ⟨_,_,_,_,_,rfl,po'⟩⟩
 rintro _ O2 ⟨v5,v6,v7,v8,v9,rfl,po2⟩
 refine Mr BI.own rfl (Qo B hr xf po2 ws fun qs O3 hq po3 => ⟨qs.map AC,rfl,fun j ρ' O' => ∃ v10 v11,ρ' = Dn v0 v1 (some (.int c)) p n ps v5 v6 v7 v8 v9 v10 v11 v12∧PO (BB O p xs) p O',⟨_,_,rfl,po3⟩,?_,?_⟩) (by intro _; rfl)
 ·rintro j t _ O4 e ⟨v10,v11,rfl,po4⟩
  rw [List.getElem?_map] at e
  cases ec:qs[j]? with
  | none => rw [ec] at e; cases e
  | some z =>
   rw [ec] at e
   cases e
   obtain ⟨z1,z2⟩:=hq z (List.mem_of_getElem? ec)
   exact ⟨Dn v0 v1 (some (.int c)) p n ps v5 v6 v7 v8 v9 (some (.int z.1)) (some (.int z.2)) v12,Bl 10 11 rfl Cg.nd (by show 10 < 13; decide) (by show 11 < 13; decide),⟨Sq B hr xf ws z1 z2 ⟨_,_,rfl,po4⟩⟩⟩
 rintro _ O4 ⟨v10,v11,rfl,po4⟩
 obtain ⟨ys,hy,py⟩:=po4.at
 refine Df (AQ 12 (AX B.gn (hr.mono (by decide)) xf (EA.wa (AE (ev 3) (AE (AK (ev 4) AB) AD)) ⟨p,ys,n,rfl,hy,py,by omega,n1,fun odd O5 o1 o2 po5 => ?_⟩)) Cg.nd)
 refine LL (Im BI.own rfl (Qn (o:=odd) rfl rfl ⟨(Nj odd).map T.tup,rfl,fun j ρ' O' => ∃ v1,ρ' = Dn v0 v1 (some (.int c)) p n ps v5 v6 v7 v8 v9 v10 v11 (some odd),⟨_,rfl⟩,?_,?_⟩) (by intro _; rfl))
 ·rintro j t _ O6 e ⟨v1,rfl⟩
  rw [List.getElem?_map] at e
  cases ec:(Nj odd)[j]? with
  | none => rw [ec] at e; cases e
  | some us =>
   rw [ec] at e
   cases e
   obtain ⟨u1,u2,u3⟩:=So o1 (List.mem_of_getElem? ec)
   exact ⟨Dn v0 (some (.tup us)) (some (.int c)) p n ps v5 v6 v7 v8 v9 v10 v11 (some odd),AU 1 Cg.nd (by show 1 < 13; decide),⟨Sn B hr xf ws u1 u2 u3 o2 ⟨_,rfl⟩⟩⟩
 ·rintro _ _ ⟨v1,rfl⟩
  exact k _ _ _ _ _ _ _ _ _ _ _ _
def Nk:List (List Int):=[[0,1,0,2],[0,1,1,0],[0,1,1,2],[0,0,1,2],[0,1],[0,0]]
theorem Vf {z:List Int} (h:z∈Nk):JJ 3 z:=by
 simp only [Nk,List.mem_cons,List.not_mem_nil,or_false] at h
 unfold JJ
 rcases h with rfl | rfl | rfl | rfl | rfl | rfl <;> exact ⟨by decide,by decide⟩
theorem Vg:WebS 3 [(0,1),(0,2),(1,2)]:=⟨by decide,by decide,by intro p hp; simp only [List.mem_cons,List.not_mem_nil,or_false] at hp; rcases hp with rfl | rfl | rfl <;> (unfold BE; decide),by unfold Hm; decide,by decide⟩
theorem Qr {ρ:List (Option T)} {O:AM} {Φ:BX} (k:Φ (.lst (Nk.map fun z => .tup (z.map T.int))) O):HWE (zL P w K mg base f cdv A outer s H E) ρ O (Sj (Xe 0)) Φ:=by
 have z2:(2:Nat)≤sizeLine:=by decide
 have z4:(4:Nat)≤sizeLine:=by decide
 have t4:∀ {a b c d:Int} {i j k l m:Nat} {p1 p2 p3 p4 p5:Pos},HET (zL P w K mg base f cdv A outer s H E) ρ O (.Tuple [.Constant (.int a) i p1,.Constant (.int b) j p2,.Constant (.int c) k p3,.Constant (.int d) l p4] m p5) (.tup ([a,b,c,d].map T.int)):=.tup (.cons .int (.cons .int (.cons .int (.cons .int .nil)))) z4
 have t2:∀ {a b:Int} {i j m:Nat} {p1 p2 p5:Pos},HET (zL P w K mg base f cdv A outer s H E) ρ O (.Tuple [.Constant (.int a) i p1,.Constant (.int b) j p2] m p5) (.tup ([a,b].map T.int)):=.tup (.cons .int (.cons .int .nil)) z2
 exact HWE.lst (ts:=Nk.map fun z => .tup (z.map T.int)) (.cons t4 (.cons t4 (.cons t4 (.cons t4 (.cons t2 (.cons t2 .nil)))))) (by show 6≤sizeLine; decide) k
theorem Sr {v0:Option T} {z:List Int} {Φ:BX} {N Bk Ct:LH} (B:Has P w K mg base) (hr:Room 9 (zL P w K mg base f cdv A outer s H E).X.A) (xf:XFly (zL P w K mg base f cdv A outer s H E).X (zL P w K mg base f cdv A outer s H E).W) (hz:z∈Nk)
  (k:N [v0,some (.tup (z.map T.int)),none,none,none,none,none,none,none,none,none,none,none] Pb) :
  HS (zL P w K mg base f cdv A outer s H E) [v0,some (.tup (z.map T.int)),none,none,none,none,none,none,none,none,none,none,none] Pb (JK (Xe 0)) { nx:=N,rt:=Φ,bk:=Bk,ct:=Ct }:=by
 refine LL (AZ (k:=false) (EB.cast (Az (k:=true) (CY ?_)) rfl) (fun h => by cases h) (fun _ => Ac k))
 exact At B.gr hr xf (AE (Ah (AE AB (AE (Ah (ts:=[((0:Int),(1:Int)),(0,2),(1,2)].map AC) (AE (Aa AB AB) (AE (Aa AB AB) (AE (Aa AB AB) AD))) (by show 3≤sizeLine; decide)) AD)) (by show 2≤sizeLine; decide)) (AE (ev 1) AD)) ⟨3,[(0,1),(0,2),(1,2)],z,rfl,Vg,Vf hz,rfl⟩
theorem Qs {a:Addr} {ns:List Int} {fC:Addr} {fdC:FuncData} (B:Has P w K mg base) (hr:Room 9 (zL P w K mg base f cdv A outer s H E).X.A) (xf:XFly (zL P w K mg base f cdv A outer s H E).X (zL P w K mg base f cdv A outer s H E).W) (hS:SqL K H a (ns.map V.int)) (hn:ns.length≤63)
  (FC:FnOk P w K mg base (CXe P w) 1 fC fdC ["_law_script","_law_k"] (Ge K)) (mC:mg "_law_cell_at" = some (.ref fC)) (kC:PySem.W.keepIn K (.ref fC) = true) (bC:Binds K fdC ["_law_script","_law_k"] []):HS (zL P w K mg base f cdv A outer s H E) (Cz Qk [.raw (.ref a)]) Pb (AW Jy) { nx:=fun _ O' => Yr .non O',rt:=Yr }:=by
 refine Mr BI.own rfl (Qr ⟨_,rfl,fun i ρ' O' => ∃ v1,ρ' = [some (.raw (.ref a)),v1,none,none,none,none,none,none,none,none,none,none,none]∧Pb = O',⟨none,rfl,rfl⟩,?_,?_⟩) (by intro _; rfl)
 ·rintro i t _ _ e ⟨v1,rfl,rfl⟩
  rw [List.getElem?_map] at e
  cases ec:Nk[i]? with
  | none => rw [ec] at e; cases e
  | some z =>
   rw [ec] at e
   cases e
   exact ⟨[some (.raw (.ref a)),some (.tup (z.map T.int)),none,none,none,none,none,none,none,none,none,none,none],AU 1 Cg.nd (by show 1 < 13; decide),Sr B hr xf (List.mem_of_getElem? ec) ⟨_,rfl,rfl⟩⟩
 ·rintro _ _ ⟨v1,rfl,rfl⟩
  refine Df (Im BI.own rfl (Qp hr xf hS hn rfl FC mC kC bC fun ms hm => ⟨ms.map T.int,rfl,fun i ρ' O' => ∃ v1 v2 v3 v4 v5 v6 v7 v8 v9 v10 v11 v12,ρ' = [some (.raw (.ref a)),v1,v2,v3,v4,v5,v6,v7,v8,v9,v10,v11,v12],⟨v1,none,none,none,none,none,none,none,none,none,none,none,rfl⟩,?_,?_⟩) (by intro _; rfl))
  ·rintro i t _ O1 e ⟨v1,v2,v3,v4,v5,v6,v7,v8,v9,v10,v11,v12,rfl⟩
   rw [List.getElem?_map] at e
   cases ec:ms[i]? with
   | none => rw [ec] at e; cases e
   | some c =>
    rw [ec] at e
    cases e
    exact ⟨[some (.raw (.ref a)),v1,some (.int c),v3,v4,v5,v6,v7,v8,v9,v10,v11,v12],AU 2 Cg.nd (by show 2 < 13; decide),Qq B hr xf fun _ _ _ _ _ _ _ _ _ _ _ _ => ⟨_,_,_,_,_,_,_,_,_,_,_,_,rfl⟩⟩
  ·rintro _ _ ⟨v1,v2,v3,v4,v5,v6,v7,v8,v9,v10,v11,v12,rfl⟩
   exact LL (AS (ET.we Jr rfl))
theorem Vh {fd:FuncData} {fC:Addr} {fdC:FuncData} (F:Fun K "law" "law" Jy f fd) (B:Has P w K mg base)
  (FC:FnOk P w K mg base (CXe P w) 1 fC fdC ["_law_script","_law_k"] (Ge K)) (mC:mg "_law_cell_at" = some (.ref fC)) (kC:PySem.W.keepIn K (.ref fC) = true) (bC:Binds K fdC ["_law_script","_law_k"] []) :
  FnOk P w K mg base (CXe P w) 10 f fd ["_law_script"] (Mq K):=by
 refine Wo F Cg (fun vs H Q E h => ?_) (fun cdv A outer s H vs Q E hr h => ?_)
 ·obtain ⟨a,ns,rfl,_⟩:=h
  rfl
 ·obtain ⟨a,ns,rfl,hS,hn,k⟩:=h
  refine ⟨[.raw (.ref a)],Pb,Yr,fun _ _ => False,.cons (.raw _) .nil,Pc,fun xf => Qs B hr xf hS hn FC mC kC bC,fun v H' t O' p f r => ?_,fun cls O' H' z => z.elim⟩
  have p:t = T.bl true:=p
  subst p
  cases r.bl_inv
  exact k H'
end
theorem Gq {P:Program} {w:World} {K:PySem.W.Frag} {mg:Str→Option Value} {base:Heap} {C CR CNoPlace CNoNumber CNoLine CNoRing CNotEven CNoWeb CNoText CTooGreat:Addr} {b0 b1 b2 b3 b4 b5 b6 b7:Bool} (M:Mg P w K mg base) (mNoPlace:Cn K "NoPlace" CNoPlace) (mNoNumber:Cn K "NoNumber" CNoNumber) (mNoLine:Cn K "NoLine" CNoLine) (mNoRing:Cn K "NoRing" CNoRing) (mNotEven:Cn K "NotEven" CNotEven) (mNoWeb:Cn K "NoWeb" CNoWeb) (mNoText:Cn K "NoText" CNoText) (mTooGreat:Cn K "TooGreat" CTooGreat) (g:Xg K CR) (x:Xk K C CR CNoPlace CNoNumber CNoLine CNoRing CNotEven CNoWeb CNoText CTooGreat b0 b1 b2 b3 b4 b5 b6 b7):Kinds K mg C b0 b1 b2 b3 b4 b5 b6 b7 :=
 ⟨⟨_,M.mm mNoPlace,x.e0⟩,⟨_,M.mm mNoNumber,x.e1⟩,⟨_,M.mm mNoLine,x.e2⟩,⟨_,M.mm mNoRing,x.e3⟩,⟨_,M.mm mNotEven,x.e4⟩,⟨_,M.mm mNoWeb,x.e5⟩,⟨_,M.mm mNoText,x.e6⟩,⟨_,M.mm mTooGreat,x.e7⟩,x.ve,⟨x.g1,x.g2,x.g3,x.g4,x.g5,g.g6,g.g7⟩⟩
theorem Vi {l:PySem.W.OpenLaw} {w:World} {K:PySem.W.Frag} {h:Heap} {mg:Str→Option Value} {fa CR CNoPlace CNoNumber CNoLine CNoRing CNotEven CNoWeb CNoText CTooGreat:Addr} {tMOST_PLACES:Tok} (X:K.In h) (G:h.Ns mainGlobals mg) (hfa:mg "law" = some (.ref fa))
  (H0:Fx K "is_whole" Is) (H1:Fx K "ties_of" Ea) (H2:Fx K "is_place" LQ) (H3:Fx K "need_place" Po) (H4:Fx K "are_tied" MW) (H5:Fx K "nears_of" JB) (H6:Fx K "near_of" QQ) (H7:Fx K "need_places" LR) (H8:Fx K "retied" Eb) (H9:Fx K "spliced" SI) (H10:Fx K "others_near" Ff) (H11:Fx K "can_unsplice" Ht) (H12:Fx K "unspliced" LS) (H13:Fx K "_law_cell_at" Ps) (H14:Fx K "_law_next" Pt) (H15:Fx K "_law_pen_of" VD) (H16:Fx K "_law_draw" Pu) (H17:Fx K "_law_whole" Iw) (H18:Fx K "_law_kind_of" Hs) (H19:Fx K "_law_refused" SH) (H20:Fx K "_law_web_of" Ga) (H21:Fx K "_law_near" Gd) (H22:Fx K "_law_round" Iu) (H23:Fx K "_law_some_web" DH) (H24:Fx K "_law_tuples_are" Ce) (H25:Fx K "_law_web_is" Iv) (H26:Fx K "_law_no_place" Pp) (H27:Fx K "_law_told" Hu) (H28:Fx K "_law_spliced_of" Gb) (H29:Fx K "_law_unspliced_of" DT) (H30:Fx K "_law_right" BF) (H31:Fx K "law" Jy)
  (zint:Zn K "int") (zbool:Zn K "bool") (ztuple:Zn K "tuple") (zlist:Zn K "list") (zset:Zn K "set") (zrange:Zn K "range") (zisinstance:Zn K "isinstance") (zmax:Zn K "max") (zmin:Zn K "min") (zlen:Zn K "len") (zall:Zn K "all") (zsorted:Zn K "sorted") (zrepr:Zn K "repr") (zValueError:Zn K "ValueError") (zenumerate:Zn K "enumerate") (zany:Zn K "any") (vMOST_PLACES:PySem.W.nsIn K mainGlobals "MOST_PLACES" = some (some (.int 16 tMOST_PLACES))) (mNoPlace:Cn K "NoPlace" CNoPlace) (mNoNumber:Cn K "NoNumber" CNoNumber) (mNoLine:Cn K "NoLine" CNoLine) (mNoRing:Cn K "NoRing" CNoRing) (mNotEven:Cn K "NotEven" CNotEven) (mNoWeb:Cn K "NoWeb" CNoWeb) (mNoText:Cn K "NoText" CNoText) (mTooGreat:Cn K "TooGreat" CTooGreat) (mR:Cn K "RingError" CR) (gR:Xg K CR)
  (yNoPlace:Xk K CNoPlace CR CNoPlace CNoNumber CNoLine CNoRing CNotEven CNoWeb CNoText CTooGreat true false false false false false false false) (xNoPlace:PySem.W.excIn K CNoPlace Ck "ValueError.__new__" = true) (yNoLine:Xk K CNoLine CR CNoPlace CNoNumber CNoLine CNoRing CNotEven CNoWeb CNoText CTooGreat false false true false false false false false) (xNoLine:PySem.W.excIn K CNoLine Ck "ValueError.__new__" = true) (yTooGreat:Xk K CTooGreat CR CNoPlace CNoNumber CNoLine CNoRing CNotEven CNoWeb CNoText CTooGreat false false false false false false false true) (zstr:PySem.W.nsIn K mainGlobals "str" = some none) (iTooGreat:ZC K CTooGreat "TooGreat.__init__" VW) (nMany:PySem.W.findIn K (.ref CTooGreat) "many" = some none) (nMost:PySem.W.findIn K (.ref CTooGreat) "most" = some none)
  : ∃ fd:FuncData,(∀ (s:Shared) (v:Value),BindsTo s fd ⟨[v],[]⟩ [("_law_script",v)])∧∀ base:Heap,K.In base→base.Ns mainGlobals mg→FnOk l.prog w K mg base (CXe l.prog w) 10 fa fd ["_law_script"] (Mq K):=by
 obtain ⟨f0,d0,h0⟩:=H0
 obtain ⟨f1,d1,h1⟩:=H1
 obtain ⟨f2,d2,h2⟩:=H2
 obtain ⟨f3,d3,h3⟩:=H3
 obtain ⟨f4,d4,h4⟩:=H4
 obtain ⟨f5,d5,h5⟩:=H5
 obtain ⟨f6,d6,h6⟩:=H6
 obtain ⟨f7,d7,h7⟩:=H7
 obtain ⟨f8,d8,h8⟩:=H8
 obtain ⟨f9,d9,h9⟩:=H9
 obtain ⟨f10,d10,h10⟩:=H10
 obtain ⟨f11,d11,h11⟩:=H11
 obtain ⟨f12,d12,h12⟩:=H12
 obtain ⟨f13,d13,h13⟩:=H13
 obtain ⟨f14,d14,h14⟩:=H14
 obtain ⟨f15,d15,h15⟩:=H15
 obtain ⟨f16,d16,h16⟩:=H16
 obtain ⟨f17,d17,h17⟩:=H17
 obtain ⟨f18,d18,h18⟩:=H18
 obtain ⟨f19,d19,h19⟩:=H19
 obtain ⟨f20,d20,h20⟩:=H20
 obtain ⟨f21,d21,h21⟩:=H21
 obtain ⟨f22,d22,h22⟩:=H22
 obtain ⟨f23,d23,h23⟩:=H23
 obtain ⟨f24,d24,h24⟩:=H24
 obtain ⟨f25,d25,h25⟩:=H25
 obtain ⟨f26,d26,h26⟩:=H26
 obtain ⟨f27,d27,h27⟩:=H27
 obtain ⟨f28,d28,h28⟩:=H28
 obtain ⟨f29,d29,h29⟩:=H29
 obtain ⟨f30,d30,h30⟩:=H30
 obtain ⟨f31,d31,h31⟩:=H31
 have e:=hfa.symm.trans (PySem.W.mg_of X G h31.a)
 cases e
 have mm:∀ {x:Str} {v:Value},PySem.W.nsIn K mainGlobals x = some (some v)→mg x = some v:=fun e => PySem.W.mg_of X G e
 have nn:∀ {x:Str},Zn K x→mg x = none:=fun e => PySem.W.mg_none_of X G e
 have Tx:Txt mg:=⟨nn zint,nn zbool,nn ztuple,nn zlist,nn zset,nn zrange,nn zisinstance,nn zmax,nn zmin,nn zlen,nn zall,nn zsorted,nn zrepr,nn zValueError,nn zenumerate,nn zany,⟨tMOST_PLACES,mm vMOST_PLACES⟩⟩
 refine ⟨d31,fun s v => ?_,fun base _ _ => ?_⟩
 ·obtain ⟨⟨_,_,_,_,_,_,_,_,_,rfl,_⟩,_⟩:=h31.F
  exact .of_eq rfl
 have M:Mg l.prog w K mg base:=⟨mm⟩
 have UNoPlace:=Gq M mNoPlace mNoNumber mNoLine mNoRing mNotEven mNoWeb mNoText mTooGreat gR yNoPlace
 have UNoLine:=Gq M mNoPlace mNoNumber mNoLine mNoRing mNotEven mNoWeb mNoText mTooGreat gR yNoLine
 have UTooGreat:=Gq M mNoPlace mNoNumber mNoLine mNoRing mNotEven mNoWeb mNoText mTooGreat gR yTooGreat
 obtain ⟨fi,di,hi⟩:=iTooGreat
 have G0:=h0.t M (Pq h0.F Tx) (h0.b3 rfl fun _ _ _ _ _ _ _ _ _ => rfl)
 have G1:=h1.t M (LT h1.F Tx) (h1.b1 rfl fun _ _ _ _ _ _ _ => rfl)
 have G2:=h2.t M (QA h2.F G0) (h2.b2 rfl fun _ _ _ _ _ _ _ _ => rfl)
 have G3:=h3.t M (SO h3.F (mm mNoPlace) xNoPlace G2) (h3.b2 rfl fun _ _ _ _ _ _ _ _ => rfl)
 have G4:=h4.t M (SQ h4.F Tx) (h4.b3 rfl fun _ _ _ _ _ _ _ _ _ => rfl)
 have G5:=h5.t M (QR h5.F Tx) (h5.b1 rfl fun _ _ _ _ _ _ _ => rfl)
 have G6:=h6.t M (SY h6.F Tx G3 G5) (h6.b2 rfl fun _ _ _ _ _ _ _ _ => rfl)
 have G7:=h7.t M (QB h7.F G3) (h7.b2 rfl fun _ _ _ _ _ _ _ _ => rfl)
 have G8:=h8.t M (Nc h8.F G1) (h8.b3 rfl fun _ _ _ _ _ _ _ _ _ => rfl)
 have X:XCl l.prog w K mg base "TooGreat" CTooGreat fi ["many","most"]:=⟨hi.c,hi.kp,mm mTooGreat,⟨di,["self","many","most"],VX hi.F hi.c nMany nMost,hi.bu rfl fun _ _ _ _ _ _ _ _ _ => rfl⟩,UTooGreat.eN,fun n hn => by simp only [List.mem_cons,List.not_mem_nil,or_false] at hn; rcases hn with rfl | rfl; exact nMany; exact nMost,by decide⟩
 have G9:=h9.t M (VY h9.F Tx (mm mNoLine) xNoLine X G7 G4 G1 G8) (h9.b5 rfl fun _ _ _ _ _ _ _ _ _ _ _ => rfl)
 have G10:=h10.t M (VZ h10.F Tx G6) (h10.b3 rfl fun _ _ _ _ _ _ _ _ _ => rfl)
 have G11:=h11.t M (Sd h11.F Tx G10 G4) (h11.b3 rfl fun _ _ _ _ _ _ _ _ _ => rfl)
 have G12:=h12.t M (Vb h12.F Tx (mm mNoLine) xNoLine G7 G11 G10 G1) (h12.b3 rfl fun _ _ _ _ _ _ _ _ _ => rfl)
 have W13:FnOk l.prog w K mg base (CXe l.prog w) 1 f13 _ _ (Ge K):=SK h13.F Tx
 have G14:=h14.t M (SL h14.F) (h14.b1 rfl fun _ _ _ _ _ _ _ => rfl)
 have G15:=h15.t M (VF h15.F Tx) (h15.b1 rfl fun _ _ _ _ _ _ _ => rfl)
 have G16:=h16.t M (SM h16.F G14) (h16.b2 rfl fun _ _ _ _ _ _ _ _ => rfl)
 have G17:=h17.t M (Nb h17.F Tx) (h17.b1 rfl fun _ _ _ _ _ _ _ => rfl)
 have WNoPlace:=QD (P:=l.prog) (w:=w) (base:=base) (by decide) (by decide) h19.F (HE h18.F Tx UNoPlace) (mm h18.a) h18.F.kp (h18.b1 rfl fun _ _ _ _ _ _ _ => rfl)
 have WNoLine:=QD (P:=l.prog) (w:=w) (base:=base) (by decide) (by decide) h19.F (JA h18.F Tx UNoLine) (mm h18.a) h18.F.kp (h18.b1 rfl fun _ _ _ _ _ _ _ => rfl)
 have C:Cat l.prog w K mg base CNoPlace CNoLine CTooGreat CR:=⟨⟨f19,d19,WNoPlace,WNoLine,fun i j => Sa h19.F X (HF h18.F Tx UTooGreat) (mm h18.a) h18.F.kp (h18.b1 rfl fun _ _ _ _ _ _ _ => rfl),mm h19.a,h19.F.kp,(h19.b1 rfl fun _ _ _ _ _ _ _ => rfl)⟩,mm mR,gR.bR,yNoPlace.kit,yNoLine.kit,yTooGreat.kit⟩
 have G20:=h20.t M (Nd h20.F Tx) (h20.b2 rfl fun _ _ _ _ _ _ _ _ => rfl)
 have G21:=h21.t M (Qd h21.F) (h21.b2 rfl fun _ _ _ _ _ _ _ _ => rfl)
 have G22:=h22.t M (QE h22.F Tx) (h22.b3 rfl fun _ _ _ _ _ _ _ _ _ => rfl)
 have G23:=h23.t M (KH h23.F Tx G16 G22 G20) (h23.b2 rfl fun _ _ _ _ _ _ _ _ => rfl)
 have G24:=h24.t M (ST h24.F Tx G17) (h24.b2 rfl fun _ _ _ _ _ _ _ _ => rfl)
 have G25:=h25.t M (Nf h25.F Tx (G17.mono (by decide)) G24) (h25.b2 rfl fun _ _ _ _ _ _ _ _ => rfl)
 have G26:=h26.t M (KE h26.F G16) (h26.b2 rfl fun _ _ _ _ _ _ _ _ => rfl)
 have G27:=h27.t M (Sf h27.F Tx C G9 G12) (h27.b2 rfl fun _ _ _ _ _ _ _ _ => rfl)
 have G28:=h28.t M (Qf h28.F Tx G20) (h28.b5 rfl fun _ _ _ _ _ _ _ _ _ _ _ => rfl)
 have G29:=h29.t M (Qg h29.F Tx G20 G21) (h29.b3 rfl fun _ _ _ _ _ _ _ _ _ => rfl)
 have G30:=h30.t M (Qj h30.F Tx (nn zstr) G27 G28 G29 G25) (h30.b2 rfl fun _ _ _ _ _ _ _ _ => rfl)
 exact Vh h31.F ⟨Tx,nn zstr,G16,G15,G23,G26,G27,G30,G28⟩ W13 (mm h13.a) h13.F.kp (h13.b2 rfl fun _ _ _ _ _ _ _ _ => rfl)
theorem walk {l:PySem.W.OpenLaw} {q:Program} {loose:List Str} {XP:(Str→Option Value)→Heap→Prop} {YP:World→Heap→Prop} {d:DefRec} {K:Params→PySem.W.Frag} (hn:l.most = some 63) (hdf:d.params.defaults = [])
  (hY:∀ (w:World) (h:Heap),YP w h→(K w.params).In h)
  (F:∀ (w:World) (mg:Str→Option Value) (fa:Addr) (h:Heap),(K w.params).In h→h.Ns mainGlobals mg→mg d.name = some (.ref fa) →
   ∃ fd:FuncData,(∀ (s:Shared) (u:Value),BindsTo s fd ⟨[u],[]⟩ [("_law_script",u)])∧∀ base:Heap,(K w.params).In base→base.Ns mainGlobals mg→FnOk l.prog w (K w.params) mg base (CXe l.prog w) 10 fa fd ["_law_script"] (Mq (K w.params))) :
  PySem.W.WalkO q loose XP YP l.row.toRowW d [] (fun f vs => PySem.call f vs) :=
 L2.RQ (n:=63) (k:=10) (x:="_law_script") (CX:=fun w => CXe l.prog w) (sp:=fun w => Mq (K w.params)) hn (by decide) hdf ⟨rfl,by decide,by decide,rfl⟩ hY F (fun _ _ a ns hl _ hS => ⟨a,ns,rfl,hS,hl,fun _ => rfl⟩) fun _ _ _ _ _ z => z.never
end K55
open PySem PySem.W PyProof.Rows
set_option maxRecDepth 100000 in
set_option maxHeartbeats 0 in
theorem PySem.Challenge.cw_noshortring_k55_webs_spliced_holds : PySem.Challenge.rw_noshortring_k55_webs_spliced.Holds := by
 w_on; o_law
 refine PySem.W.holds_open (q:=K55.kq) (loose:=[]) (Xt:=fun s => PySem.W.xlAt K55.kq [] s && PySem.W.recOk [] s) (XP:=PySem.W.XL K55.kq []) (Yf:=fun s => K55.ka.map s.heap.get?) (Ya:=fun w => (K55.Kk w.params).map fun (p:Addr × Obj) => some p.2) (YP:=PySem.W.InK K55.Kk) (N:=6040) K55.left (PySem.W.InK.of fun _ => by kernel_rfl) PySem.W.InK.keeps (fun s e => xl_of s (Bool.and_eq_true_iff.mp e).1) XL.keeps (by rfl) (by rfl) (by rfl) (fun s e => recFacts_of (Bool.and_eq_true_iff.mp e).2) (by rfl) (by first | assumption | decide +kernel) (by first | k_qdec | decide +kernel) ⟨rfl,rfl,rfl,rfl,rfl,by decide +kernel⟩ ?hw ?hc
 (case hw => w_witness2)
 k_fill
 refine K55.walk (l:=PySem.Challenge.rw_noshortring_k55_webs_spliced) rfl rfl (fun w h Y => Y) ?F
 case F =>
  intro w mg fa h KX G hmg
  refine' K55.Vi KX G hmg ?H0 ?H1 ?H2 ?H3 ?H4 ?H5 ?H6 ?H7 ?H8 ?H9 ?H10 ?H11 ?H12 ?H13 ?H14 ?H15 ?H16 ?H17 ?H18 ?H19 ?H20 ?H21 ?H22 ?H23 ?H24 ?H25 ?H26 ?H27 ?H28 ?H29 ?H30 ?H31 ?zint ?zbool ?ztuple ?zlist ?zset ?zrange ?zisinstance ?zmax ?zmin ?zlen ?zall ?zsorted ?zrepr ?zValueError ?zenumerate ?zany ?vMOST_PLACES ?mNoPlace ?mNoNumber ?mNoLine ?mNoRing ?mNotEven ?mNoWeb ?mNoText ?mTooGreat ?mR ?gR ?yNoPlace ?xNoPlace ?yNoLine ?xNoLine ?yTooGreat ?zstr ?iTooGreat ?nMany ?nMost
  case H0 | H1 | H2 | H3 | H4 | H5 | H6 | H7 | H8 | H9 | H10 | H11 | H12 | H13 | H14 | H15 | H16 | H17 | H18 | H19 | H20 | H21 | H22 | H23 | H24 | H25 | H26 | H27 | H28 | H29 | H30 | H31 => (refine' L2.TL.fi ?a ?l ?q ?k; (case a => k_is); (case l => k_is); (case q => k_is); (case k => k_is))
  case zint | zbool | ztuple | zlist | zset | zrange | zisinstance | zmax | zmin | zlen | zall | zsorted | zrepr | zValueError | zenumerate | zany => (delta L2.TL.Zn; k_is)
  case mNoPlace | mNoNumber | mNoLine | mNoRing | mNotEven | mNoWeb | mNoText | mTooGreat | mR => (delta L2.TL.Cn; k_is)
  case vMOST_PLACES => k_is
  case gR => exact ⟨by k_is,by k_is,by k_is⟩
  case yNoPlace => exact ⟨by kit_is,by kit_is,by kit_is,by kit_is,by kit_is,by kit_is,by kit_is,by kit_is,by kit_is,rfl,by kit_is,by k_is,by k_is,by k_is,by k_is,by k_is⟩
  case xNoPlace => k_exc
  case yNoLine => exact ⟨by kit_is,by kit_is,by kit_is,by kit_is,by kit_is,by kit_is,by kit_is,by kit_is,by kit_is,rfl,by kit_is,by k_is,by k_is,by k_is,by k_is,by k_is⟩
  case xNoLine => k_exc
  case yTooGreat => exact ⟨by kit_is,by kit_is,by kit_is,by kit_is,by kit_is,by kit_is,by kit_is,by kit_is,by kit_is,rfl,by kit_is,by k_is,by k_is,by k_is,by k_is,by k_is⟩
  case zstr => k_is
  case iTooGreat => (refine' L2.TL.ini ?l ?r ?i ?t ?s ?k ?fl ?fq ?fk; (case l => k_is); (case r => k_exc); (case i => k_is); (case t => k_is); (case s => k_is); (case k => k_is); (case fl => k_is); (case fq => k_is); (case fk => k_is))
  case nMany => k_is
  case nMost => k_is
