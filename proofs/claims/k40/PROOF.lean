import PyProof.Rows.All
import Wide.All
import OpenK.AllK
import Wide.FinOn
import Lean
import PyProof.EqAt
import PyProof.EqKinds
import PyProof.TupleCall
import PyProof.ListStr
import PyProof.TupleOfStr
import PyProof.ConsumeWalk
import PyProof.SliceStr2
import PyProof.CompUse
import PyProof.Rows.SetFrom
import PyProof.SetRoads
import PyProof.StrLawsIn
import PyProof.Rows.StrIndexOr
import PyProof.Rows.StrJoin2
import PyProof.Rows.SumAny
import PyProof.WalkInts
import PyProof.SeqI3
import PyProof.Draws
import PyProof.ZipIter
import PyProof.EnumMake
import Wide.Txt2
import PyProof.Rows.SortWalk
import PyProof.ListRange
import PyProof.Rows.Range3
import KE.KStateDown
import PyProof.ReprRoads
import PyProof.CallFns
import KE.KTryDeep
import PyProof.ExcBaseAll.ValueError
import KE.KTryMore
import KE.KIsNot
import PyProof.ExcAttrAll.ValueError
import PyProof.NsDelKeeps
import PySem.Challenge.RW_nearreach_k40_heights_looked_at
set_option Elab.async false
set_option linter.all false
set_option maxRecDepth 100000
namespace L2
open PySem PySem.Spec PyProof.Rows
abbrev Key:=Sum Int Str
def ahn:Key→Value→Bool
 | .inl k,v=>Value.isInt k v
 | .inr x,v=>Value.isStrOf x v
def ao5 (w:World):Key→Int
 | .inl k=>hashInt k
 | .inr x=>hashStr w x
theorem jt:∀ {k:Key} {v:Value},ahn k v=true→(∃ i t,k=Sum.inl i∧v=Value.int i t)∨(∃ x t,k=Sum.inr x∧v=Value.str x t)
 | .inl i,v,h=>by
  obtain ⟨t,e⟩:=Value.isInt_shape (k:=i) (v:=v) h
  exact .inl ⟨i,t,rfl,e⟩
 | .inr x,v,h=>by
  obtain ⟨t,e⟩:=Value.isStrOf_shape (x:=x) (v:=v) h
  exact .inr ⟨x,t,rfl,e⟩
theorem aho (a b:Int):decide ((Sum.inl a:Key)=Sum.inl b)=(a == b):=by
 by_cases e:a=b
 ·subst e;simp
 ·have h:¬ (Sum.inl a:Key)=Sum.inl b:=fun q=>e (Sum.inl.inj q)
  rw [decide_eq_false h]
  exact (beq_eq_false_iff_ne.mpr e).symm
theorem ahp (a b:Str):decide ((Sum.inr a:Key)=Sum.inr b)=decide (a=b):=by
 by_cases e:a=b
 ·subst e;simp
 ·have h:¬ (Sum.inr a:Key)=Sum.inr b:=fun q=>e (Sum.inr.inj q)
  rw [decide_eq_false h,decide_eq_false e]
theorem ahq (a:Int) (b:Str):decide ((Sum.inl a:Key)=Sum.inr b)=false:=decide_eq_false (fun q=>nomatch q)
theorem ahr (a:Str) (b:Int):decide ((Sum.inr a:Key)=Sum.inl b)=false:=decide_eq_false (fun q=>nomatch q)
def a2u (prog:Program) (w:World):PySem.KeyKind prog w Key where
 is:=ahn
 hash:=ao5 w
 inj:=fun v a b ha hb=>by
  rcases jt ha with ⟨i,t,rfl,rfl⟩ | ⟨x,t,rfl,rfl⟩
  ·rcases jt hb with ⟨j,u,rfl,e⟩ | ⟨y,u,rfl,e⟩
   ·injection e with e1 _;rw [e1]
   ·exact nomatch e
  ·rcases jt hb with ⟨j,u,rfl,e⟩ | ⟨y,u,rfl,e⟩
   ·exact nomatch e
   ·injection e with e1 _;rw [e1]
 byValue:=fun k v h=>by
  rcases jt h with ⟨i,t,rfl,rfl⟩ | ⟨x,t,rfl,rfl⟩<;>rfl
 pyHash:=fun hv h=>by
  rcases jt hv with ⟨i,t,rfl,rfl⟩ | ⟨x,t,rfl,rfl⟩
  ·exact wpAny_pyHash_int h
  ·exact wpAny_pyHash_str h
 eqBool:=fun hu hv h=>by
  rcases jt hu with ⟨i,t,rfl,rfl⟩ | ⟨x,t,rfl,rfl⟩
  ·rcases jt hv with ⟨j,u,rfl,rfl⟩ | ⟨y,u,rfl,rfl⟩
   ·rw [aho] at h;exact wpAny_eqBool_int h
   ·rw [ahq] at h;exact SeqAt.EqAt.int_str i t y u _ _ _ _ h
  ·rcases jt hv with ⟨j,u,rfl,rfl⟩ | ⟨y,u,rfl,rfl⟩
   ·rw [ahr] at h;exact SeqAt.EqAt.str_int x t j u _ _ _ _ h
   ·rw [ahp] at h;exact wpAny_eqBool_str h
 «strs»:=fun k x t v h=>by
  rcases jt h with ⟨i,u,rfl,e⟩ | ⟨y,u,rfl,e⟩
  ·exact nomatch e
  ·injection e with e1 _
   subst e1
   cases v<;>rfl
end L2
namespace L2
open PySem PySem.Spec PyProof.Rows
inductive V where
 | non | bl (b:Bool) | int (i:Int) | str (x:Str) | byt (b:Array UInt8) | flt (b:UInt64) | ref (a:Addr) | ty (n:String)
 deriving DecidableEq
def RelV:V→Value→Prop
 | .non,u=>u=Value.none
 | .bl b,u=>u=Value.bool b
 | .int i,u=>∃ t,u=Value.int i t
 | .str x,u=>∃ t,u=Value.str x t
 | .byt b,u=>∃ t,u=Value.bytes b t
 | .flt b,u=>∃ t,u=Value.float b t
 | .ref a,u=>u=Value.ref a
 | .ty n,u=>u=Value.type n
abbrev Vals:List V→List Value→Prop:=Paired RelV
theorem Vals.length {xs:List V} {us:List Value} (r:Vals xs us):xs.length=us.length:=Paired.length r
theorem Vals.get:∀ {xs:List V} {us:List Value} {i:Nat} {x:V},Vals xs us→xs[i]? = some x→∃ u,us[i]? = some u∧RelV x u
 | _,_,_,_, .nil,e=>by simp at e
 | _,_,0,_, .cons r _,e=>by simp at e;subst e;exact ⟨_,rfl,r⟩
 | _,_,i+1,x, .cons _ t,e=>by
  obtain ⟨u,h1,h2⟩:=Vals.get (i:=i) (x:=x) t (by simpa using e)
  exact ⟨u,by simpa using h1,h2⟩
theorem Vals.set {x:V} {u:Value} (r:RelV x u):∀ {xs:List V} {us:List Value} (i:Nat),Vals xs us→Vals (xs.set i x) (us.set i u)
 | _,_,_, .nil=>.nil
 | _,_,0, .cons _ t=>.cons r t
 | _,_,i+1, .cons q t=>.cons q (Vals.set r i t)
theorem Vals.append:∀ {xs ys:List V} {us ws:List Value},Vals xs us→Vals ys ws→Vals (xs++ys) (us++ws)
 | _,_,_,_, .nil,s=>s
 | _,_,_,_, .cons r t,s=>.cons r (Vals.append t s)
theorem Vals.take:∀ {xs:List V} {us:List Value} (n:Nat),Vals xs us→Vals (xs.take n) (us.take n)
 | _,_,0,_=>.nil
 | _,_,_+1, .nil=>.nil
 | _,_,n+1, .cons r t=>.cons r (Vals.take n t)
theorem Vals.drop:∀ {xs:List V} {us:List Value} (n:Nat),Vals xs us→Vals (xs.drop n) (us.drop n)
 | _,_,0,r=>r
 | _,_,_+1, .nil=>.nil
 | _,_,n+1, .cons _ t=>Vals.drop n t
def RelO:Option V→Option Value→Prop
 | some v,some u=>RelV v u
 | none,none=>True
 | _,_=>False
def KV {κ:Type}:List (κ × V)→List (κ × Value)→Prop:=Paired fun (p:κ × V) (q:κ × Value)=>p.1=q.1∧RelV p.2 q.2
def kV:Key→V
 | .inl i=>.int i
 | .inr x=>.str x
inductive HO where
 | lst (xs:List V)
 | tup (xs:List V)
 | dK (kvs:List (Key × V)) | dT (kvs:List (List Key × V))
 | set (S:Int→Bool) (n:Nat)
 | ins (C dx:Addr) (fs:List (Str × V))
 | own (x:Addr)
 | xd (fs:List (Str × V))
 | met (f x:Addr)
 | rng (lo hi:Int)
 | frz (o:Obj) (u:HO)
 | tbl (ps:Array Value)
 | ext (φ:Heap→Prop)
abbrev Hp:=Addr→Option HO
def upd (H:Hp) (a:Addr) (o:HO):Hp:=fun b=>if b=a then some o else H b
theorem uf {H:Hp} {a:Addr} {o:HO}:upd H a o a=some o:=by unfold upd;rw [if_pos rfl]
theorem j6 {H:Hp} {a b:Addr} {o:HO} (h:b≠a):upd H a o b=H b:=by unfold upd;rw [if_neg h]
theorem ie {H:Hp} {a b:Addr} {o:HO} (h:H a=some o) (h':H b=none):a≠b:=by
 intro e;subst e;rw [h] at h';cases h'
section
variable (P:Program) (w:World)
def ObjOk (H:Hp) (h:Heap) (a:Addr):HO→Prop
 | .lst xs=>xs.length≤sizeLine∧∃ (its:List Value) (n:Nat),Vals xs its∧h.get? a=some { cls:=.type "list",data:=.seq its.toArray n }
 | .tup xs=>xs.length≤sizeLine∧∃ its:List Value,Vals xs its∧IsTup h a its.toArray
 | .dK kvs=>kvs.length≤sizeLine∧(a == sysModules)=false∧∃ vs,KV kvs vs∧h.DictOf (a2u P w) a vs
 | .dT kvs=>kvs.length≤sizeLine∧(a == sysModules)=false∧∃ xs:List (List Key × Addr × Value),
   Paired (fun (p:List Key × V) (q:List Key × Addr × Value)=>p.1=q.1∧H q.2.1=some (.tup (p.1.map kV))∧RelV p.2 q.2.2) kvs xs ∧
   ∃ o es ep,h.get? a=some o∧o.ExactDict∧o.data = .dict es ep∧es.toList=xs.map (entryOfKey (tupleKind (a2u P w)))∧(xs.map (·.1)).Nodup
 | .set S n=>h.SetOf (intKind P w) a S n
 | .ins C dx fs=>H dx=some (.own a)∧fs.length≤1000∧dx≠a∧h.get? a=some (PySem.W.instObj C dx) ∧
   ∃ mA,h.Ns1 dx mA∧(∀ f,RelO (fs.lookup f) (mA f))∧PySem.Within mA (fs.map (·.1))
 | .own _=>∃ o,h.get? a=some o
 | .xd fs=>∃ mA,h.Ns1 a mA∧∀ f,RelO (fs.lookup f) (mA f)
 | .rng lo hi=>∃ t u v,h.get? a=some { cls:=.type "range",data:=.fields #[.int lo t, .int hi u, .int 1 v] }
 | .frz o u=>h.get? a=some o∧ObjOk H h a u
 | .tbl ps=>h.get? a=some { cls:=.none,data:=.fields ps }
 | .met f x=>h.get? a=some (PySem.W.methodObj (.ref f) (.ref x))
 | .ext φ=>φ h∧(∃ o,h.get? a=some o)∧∀ h1 h2:Heap,φ h1→(∀ o,h1.get? a=some o→h2.get? a=some o)→φ h2
def HOk (H:Hp) (h:Heap):Prop:=∀ a o,H a=some o→ObjOk P w H h a o
end
section
variable {P:Program} {w:World} {H H':Hp} {h h':Heap} {a:Addr} {o:HO}
theorem ObjOk.lt (x:ObjOk P w H h a o):a<h.objs.size:=by
 cases o with
 | lst xs=>obtain ⟨_,_,_,_,e⟩:=x;exact Heap.lt_size e
 | tup xs=>obtain ⟨_,_,_,p⟩:=x;exact p.lt
 | dK kvs=>obtain ⟨_,_,_,_,o,_,_,e,_⟩:=x;exact Heap.lt_size e
 | dT kvs=>obtain ⟨_,_,_,_,o,_,_,e,_⟩:=x;exact Heap.lt_size e
 | set S n=>obtain ⟨o,_,_,_,e,_⟩:=x;exact Heap.lt_size e
 | ins C dx fs=>obtain ⟨_,_,_,e,_⟩:=x;exact Heap.lt_size e
 | own y=>obtain ⟨_,e⟩:=x;exact Heap.lt_size e
 | xd fs=>obtain ⟨_,⟨_,_,_,e,_⟩,_⟩:=x;exact Heap.lt_size e
 | rng lo hi=>obtain ⟨_,_,_,e⟩:=x;exact Heap.lt_size e
 | frz ob u=>obtain ⟨e,_⟩:=x;exact Heap.lt_size e
 | tbl ps=>exact Heap.lt_size (show h.get? a=some _ from x)
 | met f y=>exact Heap.lt_size (show h.get? a=some _ from x)
 | ext φ=>obtain ⟨_,⟨_,e⟩,_⟩:=x;exact Heap.lt_size e
theorem Paired.mapP {α β:Type} {F G:α→β→Prop}:∀ {l₁:List α} {l₂:List β},Paired F l₁ l₂→(∀ a b,F a b→G a b)→Paired G l₁ l₂
 | _,_, .nil,_=>.nil
 | _,_, .cons r t,f=>.cons (f _ _ r) (Paired.mapP t f)
theorem ObjOk.stay (x:ObjOk P w H h a o) (k:∀ b u,(b=a∨H b=some (.own a))→h.get? b=some u→h'.get? b=some u)
  (ho:∀ b,H b=some (.own a)→H' b=some (.own a)) (ht:∀ b xs,H b=some (.tup xs)→H' b=some (.tup xs)):ObjOk P w H' h' a o:=by
 induction o with
 | lst xs=>obtain ⟨z,its,n,r,e⟩:=x;exact ⟨z,its,n,r,k _ _ (.inl rfl) e⟩
 | tup xs=>obtain ⟨z,its,r,ob,e,c⟩:=x;exact ⟨z,its,r,ob,k _ _ (.inl rfl) e,c⟩
 | dK kvs=>obtain ⟨z,y,vs,r,ob,es,ep,e,c⟩:=x;exact ⟨z,y,vs,r,ob,es,ep,k _ _ (.inl rfl) e,c⟩
 | dT kvs =>
  obtain ⟨z,y,xs,r,ob,es,ep,e,c⟩:=x
  exact ⟨z,y,xs,Paired.mapP r fun p q z=>⟨z.1,ht _ _ z.2.1,z.2.2⟩,ob,es,ep,k _ _ (.inl rfl) e,c⟩
 | set S n=>obtain ⟨ob,es,ep,t,e,c⟩:=x;exact ⟨ob,es,ep,t,k _ _ (.inl rfl) e,c⟩
 | ins C dx fs =>
  obtain ⟨d,z,ne,e,mA,⟨od,es,ep,e2,c⟩,r⟩:=x
  exact ⟨ho _ d,z,ne,k _ _ (.inl rfl) e,mA,⟨od,es,ep,k _ _ (.inr d) e2,c⟩,r⟩
 | own y=>obtain ⟨ob,e⟩:=x;exact ⟨ob,k _ _ (.inl rfl) e⟩
 | xd fs=>obtain ⟨mA,⟨od,es,ep,e,c⟩,r⟩:=x;exact ⟨mA,⟨od,es,ep,k _ _ (.inl rfl) e,c⟩,r⟩
 | rng lo hi=>obtain ⟨t,u,v,e⟩:=x;exact ⟨t,u,v,k _ _ (.inl rfl) e⟩
 | frz ob u ih=>obtain ⟨e,q⟩:=x;exact ⟨k _ _ (.inl rfl) e,ih q⟩
 | tbl ps =>
  have e:h.get? a=some { cls:=.none,data:=.fields ps }:=x
  show h'.get? a=some { cls:=.none,data:=.fields ps }
  exact k a _ (.inl rfl) e
 | met f y =>
  have e:h.get? a=some (PySem.W.methodObj (.ref f) (.ref y)):=x
  show h'.get? a=some (PySem.W.methodObj (.ref f) (.ref y))
  exact k a _ (.inl rfl) e
 | ext φ=>obtain ⟨p,⟨o,e⟩,st⟩:=x;exact ⟨st _ _ p fun o q=>k _ _ (.inl rfl) q,⟨o,k _ _ (.inl rfl) e⟩,st⟩
theorem HOk.lt (x:HOk P w H h) (e:H a=some o):a<h.objs.size:=(x a o e).lt
theorem HOk.fresh (x:HOk P w H h) (e:h.objs.size≤a):H a=none:=by
 cases q:H a with
 | none=>rfl
 | some u=>exact absurd (Nat.lt_of_lt_of_le (x.lt q) e) (Nat.lt_irrefl _)
theorem HOk.kept (x:HOk P w H h) (k:∀ b u,h.get? b=some u→h'.get? b=some u):HOk P w H h':=fun a o e =>
 (x a o e).stay (fun b u _ q=>k b u q) (fun _ q=>q) fun _ _ q=>q
theorem HOk.laid (x:HOk P w H h) (k:∀ b u,h.get? b=some u→h'.get? b=some u) (hp:h.objs.size≤a) (new:ObjOk P w (upd H a o) h' a o):HOk P w (upd H a o) h':=fun b u e=>by
 have hn:=x.fresh hp
 by_cases hb:b=a
 ·subst hb;rw [uf] at e;cases e;exact new
 ·rw [j6 hb] at e
  exact (x b u e).stay (fun c v _ q=>k c v q) (fun c q=>by rw [j6 (ie q hn)];exact q) fun c xs q=>by rw [j6 (ie q hn)];exact q
end
def Rd (H:Hp) (a:Addr) (u:HO):Prop:=H a=some u∨∃ o,H a=some (.frz o u)
theorem Rd.of {H:Hp} {a:Addr} {u:HO} (h:H a=some u):Rd H a u:=.inl h
theorem Rd.ok {P:Program} {w:World} {H:Hp} {h:Heap} {a:Addr} {u:HO} (r:Rd H a u) (x:HOk P w H h):ObjOk P w H h a u:=by
 rcases r with r | ⟨o,r⟩
 ·exact x a u r
 ·obtain ⟨_,q⟩:=x a _ r
  exact q
def Mut:Option HO→Prop
 | some (.lst _)=>True
 | some (.dK _)=>True
 | some (.dT _)=>True
 | some (.set _ _)=>True
 | some (.ins _ _ _)=>True
 | some (.ext _)=>True
 | _=>False
section
variable {P:Program} {w:World} {H:Hp} {h h':Heap} {x e:Addr} {o':HO}
theorem HOk.write (ok:HOk P w H h) (mu:Mut (H x)) (he:e=x∨H e=some (.own x)) (k:∀ b u,b≠e→h.get? b=some u→h'.get? b=some u) (heo:∃ u,h'.get? e=some u)
  (new:ObjOk P w (upd H x o') h' x o'):HOk P w (upd H x o') h':=fun b u q=>by
 have nown:∀ c y,H c=some (.own y)→c≠x:=fun c y r z=>by subst z;rw [r] at mu;exact mu
 have ntup:∀ c xs,H c=some (.tup xs)→c≠x:=fun c xs r z=>by subst z;rw [r] at mu;exact mu
 by_cases hb:b=x
 ·subst hb;rw [uf] at q;cases q;exact new
 ·rw [j6 hb] at q
  by_cases hbe:b=e
  ·have q':H b=some (.own x):=by
    rcases he with z | z
    ·exact absurd (hbe.trans z) hb
    ·rw [hbe];exact z
   rw [q] at q';cases q'
   obtain ⟨v,hv⟩:=heo
   exact ⟨v,by rw [hbe];exact hv⟩
  ·refine (ok b u q).stay (fun c v hc r=>k c v ?_ r) (fun c r=>by rw [j6 (nown c b r)];exact r) fun c xs r=>by rw [j6 (ntup c xs r)];exact r
   rcases hc with rfl | hc
   ·exact hbe
   ·rintro rfl
    rcases he with z | z
    ·exact nown c b hc z
    ·rw [hc] at z;cases z;exact hb rfl
end
structure Un (fs ex:List Addr) (H H':Hp) (h h':Heap):Prop where
 keep:∀ b o,h.get? b=some o→H b=none→b ∉ fs→b ∉ ex→h'.get? b=some o
 slot:∀ b o,h.get? b=some o→H b=none→b∈fs→b ∉ ex→∃ sl,h'.get? b=some { o with slots:=sl }
 free:∀ b o,h.get? b=some o→H b=none→b ∉ ex→H' b=none
 there:∀ b o,h.get? b=some o→b ∉ ex→∃ o',h'.get? b=some o'
 tups:∀ b xs,H b=some (.tup xs)→H' b=some (.tup xs)
 frzs:∀ b o u,H b=some (.frz o u)→H' b=some (.frz o u)
 tbls:∀ b ps,H b=some (.tbl ps)→∃ more,H' b=some (.tbl (ps++more))
section
variable {fs fs' ex ex':List Addr} {H H1 H2:Hp} {h h1 h2 h':Heap} {a x e:Addr} {o:HO}
theorem Un.any (u:Un fs ex H H1 h h1) {b:Addr} {ob:Obj} (q:h.get? b=some ob) (n:H b=none) (hx:b ∉ ex):∃ sl,h1.get? b=some { ob with slots:=sl }:=by
 by_cases hb:b∈fs
 ·exact u.slot b ob q n hb hx
 ·exact ⟨ob.slots,u.keep b ob q n hb hx⟩
theorem Un.kept (k:∀ b u,h.get? b=some u→h'.get? b=some u):Un fs ex H H h h' :=
 ⟨fun b ob q _ _ _=>k b ob q,fun b ob q _ _ _=>⟨ob.slots,k b ob q⟩,fun _ _ _ n _=>n,fun b ob q _=>⟨ob,k b ob q⟩,fun _ _ q=>q,fun _ _ _ q=>q,fun _ ps q=>⟨#[],by rw [q];simp⟩⟩
theorem Un.refl:Un fs ex H H h h:=Un.kept fun _ _ q=>q
theorem Un.laid (k:∀ b u,h.get? b=some u→h'.get? b=some u) (hp:h.objs.size≤a) (hn:H a=none):Un fs ex H (upd H a o) h h' where
 keep:=fun b u q _ _ _=>k b u q
 slot:=fun b u q _ _ _=>⟨u.slots,k b u q⟩
 free:=fun b u q n _=>by rw [j6 (Nat.ne_of_lt (Nat.lt_of_lt_of_le (Heap.lt_size q) hp))];exact n
 there:=fun b u q _=>⟨u,k b u q⟩
 tups:=fun b xs q=>by rw [j6 (ie q hn)];exact q
 frzs:=fun b u xs q=>by rw [j6 (ie q hn)];exact q
 tbls:=fun b ps q=>⟨#[],by rw [j6 (ie q hn),q];simp⟩
theorem Un.write (mu:Mut (H x)) (he:e=x∨H e=some (.own x)) (k:∀ b u,b≠e→h.get? b=some u→h'.get? b=some u) (heo:∃ u,h'.get? e=some u):Un fs ex H (upd H x o) h h':=by
 have hx:∀ b,H b=none→b≠x:=fun b n z=>by subst z;rw [n] at mu;exact mu
 have hb:∀ b,H b=none→b≠e:=fun b n z=>by
  subst z
  rcases he with r | r
  ·exact hx b n r
  ·rw [n] at r;cases r
 have hm:∀ b u,H b=some u→¬ Mut (some u)→b≠x:=fun b u q nm z=>by subst z;rw [q] at mu;exact nm mu
 refine ⟨fun b u q n _ _=>k b u (hb b n) q,fun b u q n _ _=>⟨u.slots,k b u (hb b n) q⟩,fun b u q n _=>by rw [j6 (hx b n)];exact n,fun b u q _=>?_,
  fun b xs q=>by rw [j6 (hm b _ q fun z=>z)];exact q,fun b u xs q=>by rw [j6 (hm b _ q fun z=>z)];exact q,fun b ps q=>⟨#[],by rw [j6 (hm b _ q fun z=>z),q];simp⟩⟩
 by_cases hbe:b=e
 ·subst hbe;exact heo
 ·exact ⟨u,k b u hbe q⟩
end
def trk (h:Heap) (H:Hp):List Addr:=(List.range h.objs.size).filter fun a=>(H a).isSome
def ack (h:Heap) (H:Hp):Heap:=PySem.W.hideAll h (trk h H)
theorem a9s (h:Heap) (H:Hp):(ack h H).objs.size=h.objs.size:=PySem.W.hideAll_size _ _
theorem acl {h:Heap} {H:Hp} {b:Addr} {o:Obj} (e:h.get? b=some o) (n:H b=none):(ack h H).get? b=some o :=
 PySem.W.hideAll_get _ e fun hm=>by
  have q:(H b).isSome=true:=(List.mem_filter.mp hm).2
  rw [n] at q;simp at q
theorem afg {h:Heap} {H:Hp} {b:Addr} {o:Obj} (e:(ack h H).get? b=some o):h.get? b=some o∧H b=none:=by
 have e':h.get? b=some o:=PySem.W.of_hideAll (trk h H) e
 refine ⟨e',?_⟩
 cases q:H b with
 | none=>rfl
 | some x =>
  have hm:b∈trk h H:=List.mem_filter.mpr ⟨List.mem_range.mpr (Heap.lt_size e'),by simp [q]⟩
  have z:(ack h H).get? b=none:=PySem.W.hideAll_none (trk h H) hm
  rw [z] at e;cases e
def afh (g h:Heap) (L:Addr):List (Addr × Obj):=(List.range h.objs.size).filterMap fun a=>if a=L∨(g.get? a).isSome=true then none else (h.get? a).map fun o=>(a,o)
def rest (g h:Heap) (L d:Addr):List (Addr × Obj):=(afh g h L).filter fun p=>decide (p.1≠d)
end L2
namespace L2
open PySem PySem.Spec PyProof.Rows
structure Mod (K:PySem.W.Frag) (mg:Str→Option Value) (base:Heap):Prop where
 kin:K.In base
 glob:base.Ns mainGlobals mg
 blt:∃ mb,base.Ns builtinsNs mb∧∀ x:Str,x ≠ "__name__"→mb x=bootBuiltins x
 nolimit:base.NoLimit
structure Cx where
 prog:Program
 w:World
 K:PySem.W.Frag
 mg:Str→Option Value
 base:Heap
 A:Around
 N:List Str
 s₀:Shared
 H₀:Hp
 env:Env
 outer:List Env
 stack:List Env
 ex:List Addr
 fn:Str→Bool
 calm:Bool
 pn:List (Addr × Obj)
 xe:Value→Shared→Prop
def frs (l:List Env):List Addr:=l.filterMap (·.frame)
abbrev Cx.fs (X:Cx):List Addr:=frs X.outer
def Vis (sc:Scope) (x:Str):Prop:=sc.names.lookup x=some .local∨sc.names.lookup x=some .cell∨sc.names.lookup x=some .free
def Loc (sc:Scope) (x:Str):Prop:=sc.names.lookup x=some .local∨sc.names.lookup x=some .cell
def Look (env:Env) (h:Heap) (m:Str→Option Value) (x:Str) (u:Value):Prop :=
 (env.kindOf x=some .local∧m x=some u)∨((env.kindOf x=some .cell∨env.kindOf x=some .free)∧∃ c,env.cells.lookup x=some c∧h.IsCell c (some u))
structure Cx.Ok (X:Cx):Prop where
 mod:Mod X.K X.mg X.base
 kind:X.env.scope.kind = .function
 glob:X.env.globals=mainGlobals
 blt:X.env.builtins=builtinsNs
 above:X.s₀.heap.objs.size≤X.env.locals
 inj:∀ x y c,X.env.cells.lookup x=some c→X.env.cells.lookup y=some c→x=y
 has:∀ x,(X.env.kindOf x=some .cell∨X.env.kindOf x=some .free)→∃ c,X.env.cells.lookup x=some c
 cab:∀ x c,X.fn x=true→X.env.cells.lookup x=some c→X.s₀.heap.objs.size≤c
 hd:X.calm=true→X.A.handled=none
 frames:X.A.frames=some X.stack
 stk:X.stack=X.outer∨(X.stack=X.env::X.outer∧X.env.frame=some X.env.locals)
 exf:∀ b∈X.ex,b≠X.env.locals∧∀ x c,X.env.cells.lookup x=some c→c≠b
 bs:∀ b o,X.base.get? b=some o→X.s₀.heap.get? b=some o∧X.H₀ b=none
 bsz:X.base.objs.size≤X.s₀.heap.objs.size
 noex:∀ b o,X.base.get? b=some o→b ∉ X.ex
 exfs:∀ b∈X.ex,b ∉ X.fs
 funs:X.s₀.heap.FunFrames X.base X.outer
 frf:∀ b∈X.fs,X.H₀ b=none
structure Inv (X:Cx) (pins:List (Addr × Obj)) (σ:List (Option V)) (H:Hp) (s:Shared):Prop where
 ok:X.Ok
 os:s.os=X.s₀.os
 bare:AllBare s.gens
 base:Un X.fs X.ex X.H₀ H X.s₀.heap s.heap
 loc:∃ m,s.heap.Ns X.env.locals m∧∀ (i:Nat) (x:Str) (v:V),X.N[i]? = some x→σ[i]? = some (some v)→Vis X.env.scope x→∃ u,RelV v u∧Look X.env s.heap m x u
 cell:∀ x c,X.env.cells.lookup x=some c→∃ v,s.heap.IsCell c v
 free:H X.env.locals=none
 freeC:∀ x c,X.env.cells.lookup x=some c→H c=none
 pin:∀ p∈X.pn++pins,s.heap.get? p.1=some p.2∧H p.1=none∧p.1≠X.env.locals∧p.1 ∉ X.fs∧∀ v,p.2.data≠.cell v
 hok:HOk X.prog X.w H s.heap
 len:σ.length=X.N.length
section
variable {X:Cx} {pins:List (Addr × Obj)} {σ:List (Option V)} {H H':Hp} {s:Shared} {h':Heap}
theorem Cx.Ok.nofr (ok:X.Ok) {b:Addr} {o:Obj} (e:X.base.get? b=some o):b ∉ X.fs:=fun hb=>by
 have:=(ok.funs.mem hb).1
 rw [e] at this;cases this
theorem Inv.bs (I:Inv X pins σ H s):∀ b o,X.base.get? b=some o→s.heap.get? b=some o∧H b=none:=fun b o e =>
 ⟨I.base.keep b o (I.ok.bs b o e).1 (I.ok.bs b o e).2 (I.ok.nofr e) (I.ok.noex b o e),I.base.free b o (I.ok.bs b o e).1 (I.ok.bs b o e).2 (I.ok.noex b o e)⟩
theorem Inv.bk (I:Inv X pins σ H s):∀ b o,X.base.get? b=some o→s.heap.get? b=some o:=fun b o e=>(I.bs b o e).1
theorem Inv.mod (I:Inv X pins σ H s):Mod X.K X.mg X.base:=I.ok.mod
theorem Inv.kIn (I:Inv X pins σ H s):X.K.In s.heap:=I.ok.mod.kin.keeps I.bk
theorem Inv.fr (I:Inv X pins σ H s):∃ m,Fr X.base X.env.locals s.heap m :=
 let ⟨m,hn,_⟩:=I.loc
 ⟨m,hn,I.bk,Nat.le_trans I.ok.bsz I.ok.above⟩
theorem Inv.lt (I:Inv X pins σ H s):X.env.locals<s.heap.objs.size:=let ⟨_,hn,_⟩:=I.loc;hn.lt
theorem Inv.sz (I:Inv X pins σ H s):X.s₀.heap.objs.size≤s.heap.objs.size:=Nat.le_trans I.ok.above (Nat.le_of_lt I.lt)
theorem Inv.nofs (I:Inv X pins σ H s) {a:Addr} (h:s.heap.objs.size≤a):a ∉ X.fs:=fun hb=>by
 obtain ⟨_,o,ho,_⟩:=I.ok.funs.mem hb
 exact absurd (Nat.lt_of_lt_of_le (Heap.lt_size ho) (Nat.le_trans I.sz h)) (Nat.lt_irrefl _)
theorem Inv.cne (I:Inv X pins σ H s):∀ x c,X.env.cells.lookup x=some c→c≠X.env.locals:=fun x c e z=>by
 obtain ⟨v,o,ho,hd⟩:=I.cell x c e
 obtain ⟨m,⟨o',es,ep,ho',hd',_⟩,_⟩:=I.loc
 rw [z,ho'] at ho;cases ho;rw [hd'] at hd;cases hd
theorem Inv.funs (I:Inv X pins σ H s):s.heap.FunFrames X.base X.outer:=by
 have all:∀ (l:List Env),(∀ b∈frs l,b∈X.fs)→X.s₀.heap.FunFrames X.base l→s.heap.FunFrames X.base l:=by
  intro l
  induction l with
  | nil=>intro _ _;trivial
  | cons env r ih =>
   intro hs hl
   obtain ⟨hk,⟨L,o,hf,hn,ho,hd⟩,hr⟩:=hl
   have hL:L∈X.fs:=hs L (by unfold frs;rw [List.filterMap_cons,hf];exact List.mem_cons_self)
   obtain ⟨sl,e⟩:=I.base.slot L o ho (I.ok.frf L hL) hL fun z=>I.ok.exfs L z hL
   exact ⟨hk,⟨L,_,hf,hn,e,hd⟩,ih (fun b hb=>hs b (by unfold frs;rw [List.filterMap_cons,hf];exact List.mem_cons_of_mem _ hb)) hr⟩
 exact all X.outer (fun _ hb=>hb) I.ok.funs
theorem Inv.stack (I:Inv X pins σ H s):s.heap.FunFrames X.base X.stack:=by
 rcases I.ok.stk with e | ⟨e,hf⟩
 ·rw [e];exact I.funs
 ·rw [e]
  obtain ⟨m,hn,_⟩:=I.loc
  refine .cons (by rw [I.ok.kind];decide) hf hn ?_ I.funs
  exact Heap.get?_none_of_le (Nat.le_trans I.ok.bsz I.ok.above)
theorem Inv.stkSub (I:Inv X pins σ H s):∀ b∈frs X.stack,b∈X.env.locals::X.fs:=fun b hb=>by
 rcases I.ok.stk with e | ⟨e,hf⟩
 ·rw [e] at hb;exact List.mem_cons_of_mem _ hb
 ·rw [e] at hb
  unfold frs at hb
  rw [List.filterMap_cons,hf] at hb
  exact hb
theorem Inv.stkFree (I:Inv X pins σ H s):∀ b∈frs X.stack,H b=none:=fun b hb=>by
 rcases List.mem_cons.mp (I.stkSub b hb) with e | hb
 ·rw [e];exact I.free
 ·obtain ⟨_,o,ho,_⟩:=I.ok.funs.mem hb
  exact I.base.free b o ho (I.ok.frf b hb) fun z=>I.ok.exfs b z hb
theorem Inv.step {g':Array GenState} {t':Nat} {d':Drawn} {ch:List Addr} (I:Inv X pins σ H s)
  (hch:∀ b∈ch,(b∈X.ex∨X.s₀.heap.objs.size≤b)∧b≠X.env.locals∧(∀ x c,X.env.cells.lookup x=some c→c≠b)∧∀ p∈X.pn++pins,p.1≠b)
  (keep:∀ b o,b≠X.env.locals→b ∉ X.fs→b ∉ ch→s.heap.get? b=some o→H b=none→h'.get? b=some o)
  (slot:∀ b o,b≠X.env.locals→b∈X.fs→b ∉ ch→s.heap.get? b=some o→H b=none→∃ sl,h'.get? b=some { o with slots:=sl }) (free:∀ b o,b ∉ ch→s.heap.get? b=some o→H b=none→H' b=none)
  (there:∀ b o,b ∉ ch→s.heap.get? b=some o→∃ o',h'.get? b=some o')
  (tups:∀ b xs,H b=some (.tup xs)→H' b=some (.tup xs)) (frzs:∀ b o u,H b=some (.frz o u)→H' b=some (.frz o u)) (tbls:∀ b ps,H b=some (.tbl ps)→∃ more,H' b=some (.tbl (ps++more)))
  (ns:∀ m,s.heap.Ns X.env.locals m→h'.Ns X.env.locals m) (hok:HOk X.prog X.w H' h') (hg:AllBare g') :
  Inv X pins σ H' { s with heap:=h',gens:=g',drawn:=d',toks:=t' }:=by
 have neL:∀ b o,X.s₀.heap.get? b=some o→b≠X.env.locals:=fun b o e=>Nat.ne_of_lt (Nat.lt_of_lt_of_le (Heap.lt_size e) I.ok.above)
 have neC:∀ b o,X.s₀.heap.get? b=some o→b ∉ X.ex→b ∉ ch:=fun b o e hx hb=>by
  rcases (hch b hb).1 with z | z
  ·exact hx z
  ·exact absurd (Nat.lt_of_lt_of_le (Heap.lt_size e) z) (Nat.lt_irrefl _)
 have cellK:∀ x c,X.env.cells.lookup x=some c→∀ v,s.heap.IsCell c v→h'.IsCell c v:=fun x c e v ⟨o,ho,hd⟩=>by
  have nch:c ∉ ch:=fun z=>(hch c z).2.2.1 x c e rfl
  by_cases hc:c∈X.fs
  ·obtain ⟨sl,q⟩:=slot c o (I.cne x c e) hc nch ho (I.freeC x c e)
   exact ⟨_,q,hd⟩
  ·exact ⟨o,keep c o (I.cne x c e) hc nch ho (I.freeC x c e),hd⟩
 refine ⟨I.ok,I.os,hg,⟨fun b o e n hb hx=>?_,fun b o e n hb hx=>?_,fun b o e n hx=>?_,fun b o e hx=>?_,fun b xs e=>tups b xs (I.base.tups b xs e),fun b o xs e=>frzs b o xs (I.base.frzs b o xs e),fun b ps e=>?_⟩,?_,fun x c e=>?_,?_,fun x c e=>?_,fun p hp=>?_,hok,I.len⟩
 ·exact keep b o (neL b o e) hb (neC b o e hx) (I.base.keep b o e n hb hx) (I.base.free b o e n hx)
 ·obtain ⟨sl,e1⟩:=I.base.slot b o e n hb hx
  obtain ⟨sl',e2⟩:=slot b _ (neL b o e) hb (neC b o e hx) e1 (I.base.free b o e n hx)
  exact ⟨sl',e2⟩
 ·obtain ⟨o',e1⟩:=I.base.there b o e hx
  exact free b o' (neC b o e hx) e1 (I.base.free b o e n hx)
 ·obtain ⟨o',e1⟩:=I.base.there b o e hx
  exact there b o' (neC b o e hx) e1
 ·obtain ⟨m1,e1⟩:=I.base.tbls b ps e
  obtain ⟨m2,e2⟩:=tbls b _ e1
  exact ⟨m1++m2,by rw [e2,Array.append_assoc]⟩
 ·obtain ⟨m,hn,hl⟩:=I.loc
  refine ⟨m,ns m hn,fun i x v e1 e2 e3=>?_⟩
  obtain ⟨u,r,l⟩:=hl i x v e1 e2 e3
  refine ⟨u,r,?_⟩
  rcases l with l | ⟨k,c,e,z⟩
  ·exact .inl l
  ·exact .inr ⟨k,c,e,cellK x c e _ z⟩
 ·obtain ⟨v,z⟩:=I.cell x c e
  exact ⟨v,cellK x c e v z⟩
 ·obtain ⟨m,⟨o,_,_,ho,_⟩,_⟩:=I.loc
  exact free _ o (fun z=>(hch _ z).2.1 rfl) ho I.free
 ·obtain ⟨v,o,ho,hd⟩:=I.cell x c e
  exact free c o (fun z=>(hch c z).2.2.1 x c e rfl) ho (I.freeC x c e)
 ·obtain ⟨e,n,ne,nf,d⟩:=I.pin p hp
  have nch:p.1 ∉ ch:=fun z=>(hch p.1 z).2.2.2 p hp rfl
  exact ⟨keep p.1 p.2 ne nf nch e n,free p.1 p.2 nch e n,ne,nf,d⟩
theorem Inv.un {t':Nat} (I:Inv X pins σ H s) (u:Un X.fs [] H H' s.heap h') (hok:HOk X.prog X.w H' h'):Inv X pins σ H' { s with heap:=h',toks:=t' }:=by
 obtain ⟨m,⟨o,es,ep,ho,r⟩,_⟩:=id I.loc
 obtain ⟨sl,hL⟩:=u.any ho I.free (by simp)
 exact I.step (g':=s.gens) (d':=s.drawn) (ch:=[]) (fun _ z=>nomatch z) (fun b o _ hb _ e n=>u.keep b o e n hb (by simp)) (fun b o _ hb _ e n=>u.slot b o e n hb (by simp)) (fun b o _ e n=>u.free b o e n (by simp)) (fun b o _ e=>u.there b o e (by simp)) u.tups u.frzs u.tbls (fun m' hm=>by
  obtain ⟨o',es',ep',ho',r'⟩:=hm
  rw [ho] at ho';cases ho'
  exact ⟨_,es',ep',hL,r'⟩) hok I.bare
theorem Inv.call {g':Array GenState} {t':Nat} {d':Drawn} {ch:List Addr} (I:Inv X pins σ H s) (u:Un (frs X.stack) ch H H' s.heap h') (hok:HOk X.prog X.w H' h') (hg:AllBare g')
  (hch:∀ b∈ch,(b∈X.ex∨X.s₀.heap.objs.size≤b)∧b≠X.env.locals∧(∀ x c,X.env.cells.lookup x=some c→c≠b)∧∀ p∈X.pn++pins,p.1≠b) :
  Inv X pins σ H' { s with heap:=h',gens:=g',drawn:=d',toks:=t' }:=by
 obtain ⟨m,⟨o,es,ep,ho,r⟩,_⟩:=id I.loc
 obtain ⟨sl,hL⟩:=u.any ho I.free fun z=>(hch _ z).2.1 rfl
 exact I.step (ch:=ch) hch (fun b o hL hb hc e n=>u.keep b o e n (fun z=>(List.mem_cons.mp (I.stkSub b z)).elim hL hb) hc) (fun b o _ _ hc e n=>u.any e n hc) (fun b o hc e n=>u.free b o e n hc) (fun b o hc e=>u.there b o e hc) u.tups u.frzs u.tbls (fun m' hm=>by
  obtain ⟨o',es',ep',ho',r'⟩:=hm
  rw [ho] at ho';cases ho'
  exact ⟨_,es',ep',hL,r'⟩) hok hg
theorem Inv.turned {t':Nat} {it:Addr} (I:Inv X pins σ H s) (k:∀ b o,b≠it→s.heap.get? b=some o→h'.get? b=some o) (hn:H it=none) (hL:it≠X.env.locals)
  (h1:it∈X.ex∨X.s₀.heap.objs.size≤it) (h2:∀ x c,X.env.cells.lookup x=some c→c≠it) (h3:∀ p∈X.pn++pins,p.1≠it):Inv X pins σ H { s with heap:=h',toks:=t' }:=by
 have nit:∀ b u,H b=some u→b≠it:=fun b u e z=>by rw [z,hn] at e;cases e
 refine I.step (g':=s.gens) (d':=s.drawn) (ch:=[it]) (fun b hb=>?_) (fun b o _ _ hc e _=>k b o (fun z=>hc (by simp [z])) e) (fun b o _ _ hc e _=>⟨o.slots,k b o (fun z=>hc (by simp [z])) e⟩) (fun _ _ _ _ n=>n)
  (fun b o hc e=>⟨o,k b o (fun z=>hc (by simp [z])) e⟩) (fun _ _ e=>e) (fun _ _ _ e=>e) (fun b ps e=>⟨#[],by rw [e];simp⟩) (fun m hm=>?_) (fun b u e=>?_) I.bare
 ·have e:b=it:=by simpa using hb
  subst e
  exact ⟨h1,hL,h2,h3⟩
 ·obtain ⟨o,es,ep,ho,r⟩:=hm
  exact ⟨o,es,ep,k _ o (Ne.symm hL) ho,r⟩
 ·refine (I.hok b u e).stay (fun c v hc q=>k c v ?_ q) (fun _ q=>q) fun _ _ q=>q
  rcases hc with z | z
  ·rw [z];exact nit b u e
  ·exact nit c _ z
theorem Inv.tok (I:Inv X pins σ H s) (t:Nat):Inv X pins σ H { s with toks:=t }:=I.un (h':=s.heap) (t':=t) Un.refl I.hok
theorem Inv.kept {t':Nat} (I:Inv X pins σ H s) (k:∀ b u,s.heap.get? b=some u→h'.get? b=some u):Inv X pins σ H { s with heap:=h',toks:=t' }:=I.un (Un.kept k) (I.hok.kept k)
theorem Inv.laid {a:Addr} {o:HO} {t':Nat} (I:Inv X pins σ H s) (k:∀ b u,s.heap.get? b=some u→h'.get? b=some u) (hp:s.heap.objs.size≤a) (new:ObjOk X.prog X.w (upd H a o) h' a o) :
  Inv X pins σ (upd H a o) { s with heap:=h',toks:=t' }:=I.un (Un.laid k hp (I.hok.fresh hp)) (I.hok.laid k hp new)
theorem Inv.write {x e:Addr} {o:HO} {t':Nat} (I:Inv X pins σ H s) (mu:Mut (H x)) (he:e=x∨H e=some (.own x)) (k:∀ b u,b≠e→s.heap.get? b=some u→h'.get? b=some u) (heo:∃ u,h'.get? e=some u)
  (new:ObjOk X.prog X.w (upd H x o) h' x o):Inv X pins σ (upd H x o) { s with heap:=h',toks:=t' }:=I.un (Un.write mu he k heo) (I.hok.write mu he k heo new)
theorem Inv.weak {σ':List (Option V)} (I:Inv X pins σ H s) (hl:σ'.length=σ.length) (w:∀ (i:Nat) v,σ'[i]? = some (some v)→σ[i]? = some (some v)):Inv X pins σ' H s :=
 ⟨I.ok,I.os,I.bare,I.base,let ⟨m,hn,hl'⟩:=I.loc; ⟨m,hn,fun i x v e1 e2 e3=>hl' i x v e1 (w i v e2) e3⟩,I.cell,I.free,I.freeC,I.pin,I.hok,hl.trans I.len⟩
theorem Inv.pins_of {pins':List (Addr × Obj)} (I:Inv X pins σ H s) (h:∀ p∈pins',s.heap.get? p.1=some p.2∧H p.1=none∧p.1≠X.env.locals∧p.1 ∉ X.fs∧∀ v,p.2.data≠.cell v):Inv X pins' σ H s :=
 ⟨I.ok,I.os,I.bare,I.base,I.loc,I.cell,I.free,I.freeC,fun p hp=>(List.mem_append.mp hp).elim (fun z=>I.pin p (List.mem_append_left _ z)) (h p),I.hok,I.len⟩
theorem a7l {N:List Str} (hN:N.Nodup) {i j:Nat} {x:Str} (a:N[i]? = some x) (b:N[j]? = some x):i=j:=by
 obtain ⟨h1,e1⟩:=List.getElem?_eq_some_iff.mp a
 obtain ⟨h2,e2⟩:=List.getElem?_eq_some_iff.mp b
 exact (List.getElem_inj hN).mp (e1.trans e2.symm)
theorem a5q {M:Model} {A:Around} {E:Value→Shared→Prop} {i:Nat} {x:Str} {v:V} {u:Value} {Q:Unit→Shared→Prop} (I:Inv X pins σ H s) (hN:X.N.Nodup) (hi:X.N[i]? = some x) (hx:Loc X.env.scope x) (r:RelV v u)
  (h:∀ s',Inv X pins (σ.set i (some v)) H s'→(∃ a,Heap.SameBut a s.heap s'.heap∧(a=X.env.locals∨X.env.cells.lookup x=some a))→Q () s') (hf:X.fn x=true∨X.env.scope.names.lookup x=some .local:=by first | exact .inl rfl | exact .inr rfl | assumption):wpAny M A (storeName X.env x u) Q E s:=by
 obtain ⟨m,hn,hl⟩:=id I.loc
 have hcls:(X.env.scope.kind == .class || (X.env.scope.kind == .module && X.env.locals != X.env.globals))=false:=by rw [I.ok.kind];rfl
 have hiσ:i<σ.length:=by rw [I.len];exact (List.getElem?_eq_some_iff.mp hi).1
 have cne:=I.cne
 have tracked:∀ {a:Addr} {h':Heap},(∃ o,s.heap.get? a=some o∧H a=none)→Heap.SameBut a s.heap h'→HOk X.prog X.w H h':=fun {a h'} ha hs b ob e=>by
  obtain ⟨_,_,hfree⟩:=ha
  refine (I.hok b ob e).stay (fun c w' hc q=>(hs.2 c ?_).trans q) (fun _ q=>q) fun _ _ q=>q
  rintro rfl
  rcases hc with rfl | hc
  ·rw [hfree] at e;cases e
  ·rw [hfree] at hc;cases hc
 rcases hx with hk | hk
 ·refine wpAny_storeName_local hk hn (fun h' hn' hs=>?_) hcls
  obtain ⟨oL,_,_,hoL,_⟩:=id hn
  refine h _ ⟨I.ok,I.os,I.bare,⟨fun b o e n hb hx=>?_,fun b o e n hb hx=>?_,I.base.free,fun b o e hx=>?_,I.base.tups,I.base.frzs,I.base.tbls⟩,⟨_,hn',fun j y v' e1 e2 e3=>?_⟩,fun y c e=>?_,I.free,I.freeC,fun p hp=>?_,tracked ⟨oL,hoL,I.free⟩ hs,by simpa using I.len⟩ ⟨_,hs, .inl rfl⟩
  ·exact (hs.2 b (Nat.ne_of_lt (Nat.lt_of_lt_of_le (Heap.lt_size e) I.ok.above))).trans (I.base.keep b o e n hb hx)
  ·obtain ⟨sl,e1⟩:=I.base.slot b o e n hb hx
   exact ⟨sl,(hs.2 b (Nat.ne_of_lt (Nat.lt_of_lt_of_le (Heap.lt_size e) I.ok.above))).trans e1⟩
  ·obtain ⟨o',e1⟩:=I.base.there b o e hx
   exact ⟨o',(hs.2 b (Nat.ne_of_lt (Nat.lt_of_lt_of_le (Heap.lt_size e) I.ok.above))).trans e1⟩
  ·by_cases hj:j=i
   ·subst hj
    rw [hi] at e1;cases e1
    rw [List.getElem?_set_self hiσ] at e2
    cases e2
    exact ⟨u,r, .inl ⟨hk,by simp⟩⟩
   ·rw [List.getElem?_set_ne (Ne.symm hj)] at e2
    obtain ⟨u',r',q⟩:=hl j y v' e1 e2 e3
    refine ⟨u',r',?_⟩
    rcases q with ⟨k,e⟩ | ⟨k,c,e,z⟩
    ·refine .inl ⟨k,?_⟩
     have:y≠x:=fun e=>hj (a7l hN e1 (e ▸ hi))
     simp [this,e]
    ·exact .inr ⟨k,c,e,z.sameBut hs (cne y c e)⟩
  ·obtain ⟨w',z⟩:=I.cell y c e
   exact ⟨w',z.sameBut hs (cne y c e)⟩
  ·obtain ⟨e,n,ne,nf,d⟩:=I.pin p hp
   exact ⟨(hs.2 p.1 ne).trans e,n,ne,nf,d⟩
 ·have hfn:X.fn x=true:=by
   rcases hf with z | z
   ·exact z
   ·rw [z] at hk;cases hk
  obtain ⟨c,hc⟩:=I.ok.has x (.inl hk)
  obtain ⟨w',z⟩:=I.cell x c hc
  refine wpAny_storeName_cell I.ok.kind hk hc z (fun h' hc' hs=>?_)
  obtain ⟨oc,hoc,hocd⟩:=id z
  refine h { s with heap:=h' } ⟨I.ok,I.os,I.bare,⟨fun b o e n hb hx=>?_,fun b o e n hb hx=>?_,I.base.free,fun b o e hx=>?_,I.base.tups,I.base.frzs,I.base.tbls⟩,⟨m,hn.sameBut hs (Ne.symm (cne x c hc)),fun j y v' e1 e2 e3=>?_⟩,fun y c' e=>?_,I.free,I.freeC,fun p hp=>?_,tracked ⟨oc,hoc,I.freeC x c hc⟩ hs,by simpa using I.len⟩ ⟨c,hs, .inr hc⟩
  ·exact (hs.2 b (Nat.ne_of_lt (Nat.lt_of_lt_of_le (Heap.lt_size e) (I.ok.cab x c hfn hc)))).trans (I.base.keep b o e n hb hx)
  ·obtain ⟨sl,e1⟩:=I.base.slot b o e n hb hx
   exact ⟨sl,(hs.2 b (Nat.ne_of_lt (Nat.lt_of_lt_of_le (Heap.lt_size e) (I.ok.cab x c hfn hc)))).trans e1⟩
  ·obtain ⟨o',e1⟩:=I.base.there b o e hx
   exact ⟨o',(hs.2 b (Nat.ne_of_lt (Nat.lt_of_lt_of_le (Heap.lt_size e) (I.ok.cab x c hfn hc)))).trans e1⟩
  ·by_cases hj:j=i
   ·subst hj
    rw [hi] at e1;cases e1
    rw [List.getElem?_set_self hiσ] at e2
    cases e2
    exact ⟨u,r, .inr ⟨.inl hk,c,hc,hc'⟩⟩
   ·rw [List.getElem?_set_ne (Ne.symm hj)] at e2
    obtain ⟨u',r',q⟩:=hl j y v' e1 e2 e3
    refine ⟨u',r',?_⟩
    rcases q with q | ⟨k,c',e,z'⟩
    ·exact .inl q
    ·refine .inr ⟨k,c',e,z'.sameBut hs ?_⟩
     rintro rfl
     exact hj (a7l hN e1 (I.ok.inj _ _ _ e hc ▸ hi))
  ·by_cases hcc:c'=c
   ·subst hcc;exact ⟨_,hc'⟩
   ·obtain ⟨w2,z2⟩:=I.cell y c' e
    exact ⟨w2,z2.sameBut hs hcc⟩
  ·obtain ⟨e,n,ne,nf,d⟩:=I.pin p hp
   refine ⟨(hs.2 p.1 ?_).trans e,n,ne,nf,d⟩
   intro q
   rw [q,hoc] at e
   have q':oc=p.2:=Option.some.inj e
   exact d w' (by rw [← q'];exact hocd)
theorem a4m {M:Model} {A:Around} {E:Value→Shared→Prop} {i:Nat} {x:Str} {v:V} {u:Value} {Q:Unit→Shared→Prop} (I:Inv X pins σ H s) (hN:X.N.Nodup) (hi:X.N[i]? = some x) (hx:Loc X.env.scope x) (r:RelV v u)
  (h:∀ s',Inv X pins (σ.set i (some v)) H s'→Q () s') (hf:X.fn x=true∨X.env.scope.names.lookup x=some .local:=by first | exact .inl rfl | exact .inr rfl | assumption):wpAny M A (storeName X.env x u) Q E s :=
 a5q I hN hi hx r (fun s' I' _=>h s' I') hf
end
abbrev XK:=Value→Option Addr→Hp→Prop
abbrev St:=List (Option V)
abbrev VK:=V→Hp→Prop
abbrev TE:=St→Hp→VK→Prop
abbrev TT:=St→Hp→(Bool→Hp→Prop)→Prop
abbrev TA:=St→Hp→(List V→Hp→Prop)→Prop
structure Ends where
 nx:St→Hp→Prop
 rt:VK
 bk:St→Hp→Prop:=fun _ _=>False
 ct:St→Hp→Prop:=fun _ _=>False
abbrev TS:=Ends→St→Hp→Prop
def EP (X:Cx) (pins:List (Addr × Obj)) (σ:St) (Q:VK) (u:Value) (s':Shared):Prop:=∃ v H',Inv X pins σ H' s'∧RelV v u∧Q v H'
def TP (X:Cx) (pins:List (Addr × Obj)) (σ:St) (Q:Bool→Hp→Prop) (b:Bool) (s':Shared):Prop:=∃ H',Inv X pins σ H' s'∧Q b H'
def AP (X:Cx) (pins:List (Addr × Obj)) (σ:St) (Q:List V→Hp→Prop) (us:List Value) (s':Shared):Prop:=∃ vs H',Inv X pins σ H' s'∧Vals vs us∧Q vs H'
def SP (X:Cx) (pins:List (Addr × Obj)) (D:Ends) (f:Flow) (s':Shared):Prop :=
 match f with
 | .next=>∃ σ' H',Inv X pins σ' H' s'∧D.nx σ' H'
 | .brk=>∃ σ' H',Inv X pins σ' H' s'∧D.bk σ' H'
 | .cont=>∃ σ' H',Inv X pins σ' H' s'∧D.ct σ' H'
 | .ret u=>∃ v σ' H',Inv X pins σ' H' s'∧RelV v u∧D.rt v H'
def PE (X:Cx) (e:Expr) (t:TE):Prop :=
 ∀ (pins:List (Addr × Obj)) (s:Shared) (σ:St) (H:Hp) (Q:VK),Inv X pins σ H s→t σ H Q→wpAny (model X.prog X.w) X.A (eval e X.env) (EP X pins σ Q) X.xe s
def PT (X:Cx) (e:Expr) (t:TT):Prop :=
 ∀ (pins:List (Addr × Obj)) (s:Shared) (σ:St) (H:Hp) (Q:Bool→Hp→Prop),Inv X pins σ H s→t σ H Q→wpAny (model X.prog X.w) X.A (isTrue e X.env (eval e X.env)) (TP X pins σ Q) X.xe s
def PW (X:Cx) (e:Expr) (t:TT):Prop :=
 ∀ (whole:Sem Value) (pins:List (Addr × Obj)) (s:Shared) (σ:St) (H:Hp) (Q:Bool→Hp→Prop),Inv X pins σ H s→t σ H Q→wpAny (model X.prog X.w) X.A (isTrue e X.env whole) (TP X pins σ Q) X.xe s
theorem PW.pt {X:Cx} {e:Expr} {t:TT} (h:PW X e t):PT X e t:=h _
def PA (X:Cx) (es:List Expr) (t:TA):Prop :=
 ∀ (pos:Pos) (pins:List (Addr × Obj)) (s:Shared) (σ:St) (H:Hp) (Q:List V→Hp→Prop),Inv X pins σ H s→t σ H Q→wpAny (model X.prog X.w) X.A (spliced (backTo pos (starEach es X.env))) (AP X pins σ Q) X.xe s
def PS (X:Cx) (st:Stmt) (t:TS):Prop :=
 ∀ (pins:List (Addr × Obj)) (s:Shared) (σ:St) (H:Hp) (D:Ends),Inv X pins σ H s→t D σ H→wpAny (model X.prog X.w) X.A (exec st X.env) (SP X pins D) X.xe s
def PSs (X:Cx) (st:List Stmt) (t:TS):Prop :=
 ∀ (pins:List (Addr × Obj)) (s:Shared) (σ:St) (H:Hp) (D:Ends),Inv X pins σ H s→t D σ H→wpAny (model X.prog X.w) X.A (execs st X.env) (SP X pins D) X.xe s
theorem thn {α:Type} {t:Sem α} {Q Q':α→Shared→Prop} {M:Model} {A:Around} {E:Value→Shared→Prop} {s:Shared} (h:wpAny M A t Q E s) (hQ:∀ a s,Q a s→Q' a s):wpAny M A t Q' E s:=wpAny_mono h hQ fun _ _ x=>x
end L2
namespace L2
open PySem PySem.Spec PyProof.Rows
section
variable {X:Cx}
theorem bin {a b:Expr} {ta tb:TE} (ha:PE X a ta) (hb:PE X b tb) {pins:List (Addr × Obj)} {s:Shared} {σ:St} {H:Hp} {R:V→V→Hp→Prop} (I:Inv X pins σ H s) (h:ta σ H fun x H1=>tb σ H1 fun y H2=>R x y H2)
  {α:Type} {Q:α→Shared→Prop} {f:Value→Value→Sem α}
  (hf:∀ v u s2 x y H2,Inv X pins σ H2 s2→RelV x v→RelV y u→R x y H2→wpAny (model X.prog X.w) X.A (f v u) Q X.xe s2) :
  wpAny (model X.prog X.w) X.A (eval a X.env) (fun v s₁=>wpAny (model X.prog X.w) X.A (eval b X.env) (fun u s₂=>wpAny (model X.prog X.w) X.A (f v u) Q X.xe s₂) X.xe s₁) X.xe s:=by
 refine thn (ha pins s σ H _ I h) fun v s1 ⟨x,H1,I1,r1,q1⟩=>?_
 refine thn (hb pins s1 σ H1 _ I1 q1) fun u s2 ⟨y,H2,I2,r2,q2⟩=>?_
 exact hf v u s2 x y H2 I2 r1 r2 q2
def ao6 (i:Nat):TE:=fun σ H Q=>∃ v,σ[i]? = some (some v)∧Q v H
def tC (v:V):TE:=fun _ H Q=>Q v H
theorem ahs {i:Nat} {x:Str} {pos:Pos} (hN:X.N[i]? = some x) (hv:Vis X.env.scope x) (hd:(x == ("__debug__" : Str))=false:=by decide) (hcd:(x == ("__classdict__" : Str))=false:=by decide):PE X (.Name x pos) (ao6 i):=by
 intro pins s σ H Q I h
 obtain ⟨v,e,h⟩:=h
 obtain ⟨m,hn,hl⟩:=I.loc
 obtain ⟨u,r,l⟩:=hl i x v hN e hv
 have fin:EP X pins σ Q u s:=⟨v,H,I,r,h⟩
 rcases l with ⟨hk,hm⟩ | ⟨hk,c,hc,hcell⟩
 ·exact wpAny_Name (wpAny_loadName_local I.ok.kind hk hn hm fin) hd
 ·rcases hk with hk | hk
  ·exact wpAny_Name (wpAny_loadName_cell I.ok.kind hk hc hcell fin) hd
  ·exact wpAny_Name (wpAny_loadName_free I.ok.kind hk hc hcell fin hcd) hd
theorem aht {i j pos}:PE X (.Constant (.int i) j pos) (tC (.int i)):=fun _ _ _ H _ I h=>wpAny_Constant_int ⟨.int i,H,I.tok _,⟨_,rfl⟩,h⟩
theorem alj {b j pos}:PE X (.Constant (.bool b) j pos) (tC (.bl b)):=fun _ _ _ H _ I h=>Constant_bool ⟨.bl b,H,I,rfl,h⟩
theorem ahu {j pos}:PE X (.Constant .none j pos) (tC .non):=fun _ _ _ H _ I h=>Constant_none ⟨.non,H,I,rfl,h⟩
theorem ahv {x j pos}:PE X (.Constant (.str x) j pos) (tC (.str x)):=fun _ _ _ H _ I h=>Calls.Constant_str ⟨.str x,H,I.tok _,⟨_,rfl⟩,h⟩
def Gl (X:Cx) (x:Str):Prop:=X.env.kindOf x=some .globalImplicit
theorem a9t {E:Value→Shared→Prop} {pins:List (Addr × Obj)} {s:Shared} {σ:St} {H:Hp} {x:Str} {u:Value} {pos:Pos} {Q:Value→Shared→Prop} (I:Inv X pins σ H s) (hg:Gl X x) (hm:X.mg x=some u) (h:Q u s)
  (hd:(x == ("__debug__" : Str))=false:=by decide):wpAny (model X.prog X.w) X.A (eval (.Name x pos) X.env) Q E s :=
 Calls.Name_function_global I.ok.kind hg (Calls.loadGlobal_global (by rw [I.ok.glob];exact I.mod.glob.keeps I.bk) hm h) hd
theorem a5r {E:Value→Shared→Prop} {pins:List (Addr × Obj)} {s:Shared} {σ:St} {H:Hp} {x:Str} {u:Value} {pos:Pos} {Q:Value→Shared→Prop} (I:Inv X pins σ H s) (hg:Gl X x) (hm:X.mg x=none) (hv:bootBuiltins x=some u) (h:Q u s)
  (hn:x ≠ "__name__":=by decide) (hd:(x == ("__debug__" : Str))=false:=by decide):wpAny (model X.prog X.w) X.A (eval (.Name x pos) X.env) Q E s:=by
 obtain ⟨mb,h1,h2⟩:=I.mod.blt
 exact Calls.Name_function_global I.ok.kind hg (Calls.loadGlobal_builtin (by rw [I.ok.glob];exact I.mod.glob.keeps I.bk) hm (by rw [I.ok.blt];exact h1.keeps I.bk) ((h2 x hn).trans hv) h) hd
theorem afi {x:Str} {v:V} {u:Value} {pos:Pos} (hg:Gl X x) (hm:X.mg x=none) (hv:bootBuiltins x=some u) (r:RelV v u) (hn:x ≠ "__name__":=by decide) (hd:(x == ("__debug__" : Str))=false:=by decide):PE X (.Name x pos) (tC v) :=
 fun _ _ _ H _ I h=>a5r I hg hm hv ⟨v,H,I,r,h⟩ hn hd
variable {a b:Expr} {ta tb:TE} {pos:Pos}
variable {tA tB':TT} {rest:List Expr}
def ao7 (t u:TT):TT:=fun σ H Q=>t σ H fun c H1=>if c=true then u σ H1 Q else Q false H1
def tOr (t u:TT):TT:=fun σ H Q=>t σ H fun c H1=>if c=true then Q true H1 else u σ H1 Q
def ao8 (t:TT):TT:=fun σ H Q=>t σ H fun c H1=>Q (!c) H1
theorem afj (ha:PT X a tA):PW X (.BoolOp .And [a] pos) tA:=by
 intro wh pins s σ H Q I h
 refine isTrue_and (thn (ha pins s σ H Q I h) fun c s1 e=>?_)
 cases c with
 | true=>exact isTrue_and_nil e
 | false=>exact e
theorem ahw (ha:PT X a tA):PW X (.BoolOp .Or [a] pos) tA:=by
 intro wh pins s σ H Q I h
 refine isTrue_or (thn (ha pins s σ H Q I h) fun c s1 e=>?_)
 cases c with
 | false=>exact isTrue_or_nil e
 | true=>exact e
theorem ahx (ha:PT X a tA) (hb:PW X (.BoolOp .And (b::rest) pos) tB'):PW X (.BoolOp .And (a::b::rest) pos) (ao7 tA tB'):=by
 intro wh pins s σ H Q I h
 refine isTrue_and (thn (ha pins s σ H _ I h) fun c s1 ⟨H1,I1,q1⟩=>?_)
 cases c with
 | true=>exact hb wh pins s1 σ H1 Q I1 q1
 | false=>exact ⟨H1,I1,q1⟩
theorem alk (ha:PT X a tA) (hb:PW X (.BoolOp .Or (b::rest) pos) tB'):PW X (.BoolOp .Or (a::b::rest) pos) (tOr tA tB'):=by
 intro wh pins s σ H Q I h
 refine isTrue_or (thn (ha pins s σ H _ I h) fun c s1 ⟨H1,I1,q1⟩=>?_)
 cases c with
 | true=>exact ⟨H1,I1,q1⟩
 | false=>exact hb wh pins s1 σ H1 Q I1 q1
theorem ahy (ha:PT X a tA):PT X (.UnaryOp .Not a pos) (ao8 tA):=by
 intro pins s σ H Q I h
 exact isTrue_not (ha pins s σ H (fun c H1=>Q (!c) H1) I h)
def alm (ta tb:TE):TE:=fun σ H Q=>ta σ H fun x H1=>∃ c,x = .bl c∧if c=true then tb σ H1 Q else Q (.bl false) H1
def aln (ta:TE):TE:=fun σ H Q=>ta σ H fun x H1=>∃ c,x = .bl c∧Q (.bl (!c)) H1
theorem ahz {op} {t:TE} (h:PE X a t):PE X (.BoolOp op [a] pos) t:=fun pins s σ H Q I hw=>BoolOp_one (h pins s σ H Q I hw)
theorem ai0 (ha:PE X a ta) (hb:PE X (.BoolOp .And (b::rest) pos) tb):PE X (.BoolOp .And (a::b::rest) pos) (alm ta tb):=by
 intro pins s σ H Q I h
 refine BoolOp_and (thn (ha pins s σ H _ I h) fun v s1 ⟨x,H1,I1,r1,q1⟩=>?_)
 obtain ⟨c,rfl,q1⟩:=q1
 cases r1
 refine wpAny_truthy_bool ?_
 cases c with
 | true=>exact hb pins s1 σ H1 Q I1 q1
 | false=>exact ⟨.bl false,H1,I1,rfl,q1⟩
theorem ai1 (ha:PE X a ta):PE X (.UnaryOp .Not a pos) (aln ta):=by
 intro pins s σ H Q I h
 refine UnaryOp_ (thn (ha pins s σ H _ I h) fun v s1 ⟨x,H1,I1,r1,q1⟩=>?_)
 obtain ⟨c,rfl,q1⟩:=q1
 cases r1
 exact not_of (wpAny_truthy_bool ⟨.bl (!c),H1,I1,rfl,q1⟩)
def tIf (t:TT) (ta tb:TE):TE:=fun σ H Q=>t σ H fun c H1=>if c=true then ta σ H1 Q else tb σ H1 Q
theorem acn {c:Expr} (hc:PT X c tA) (ha:PE X a ta) (hb:PE X b tb):PE X (.IfExp c a b pos) (tIf tA ta tb):=by
 intro pins s σ H Q I h
 refine wpAny_IfExp (thn (hc pins s σ H _ I h) fun d s1 ⟨H1,I1,q1⟩=>?_)
 cases d with
 | true=>exact ha pins s1 σ H1 Q I1 q1
 | false=>exact hb pins s1 σ H1 Q I1 q1
end
end L2
namespace L2
open PySem PySem.Spec PyProof.Rows
def SqL (K:PySem.W.Frag) (H:Hp) (a:Addr) (xs:List V):Prop :=
 Rd H a (.lst xs) ∨
  ∃ (o:Obj) (its:Array Value) (n:Nat),K.lookup a=some o∧o.cls = .type "list"∧o.dict=none∧o.data = .seq its n∧its.size≤sizeLine∧Vals xs its.toList
def SqT (K:PySem.W.Frag) (H:Hp) (a:Addr) (xs:List V):Prop :=
 Rd H a (.tup xs) ∨
  ∃ (o:Obj) (its:Array Value) (n:Nat),K.lookup a=some o∧o.cls = .type "tuple"∧o.data = .seq its n∧its.size≤sizeLine∧Vals xs its.toList
def ao9:Value→Option V
 | .none=>some .non
 | .bool b=>some (.bl b)
 | .int i _=>some (.int i)
 | .str x _=>some (.str x)
 | .bytes b _=>some (.byt b)
 | .float b _=>some (.flt b)
 | .ref a=>some (.ref a)
 | .type n=>some (.ty n)
 | _=>none
theorem RelV.abs {x:V} {u:Value} (r:RelV x u):ao9 u=some x:=by
 cases x with
 | non=>cases r;rfl
 | bl _=>cases r;rfl
 | int _=>obtain ⟨t,rfl⟩:=r;rfl
 | str _=>obtain ⟨t,rfl⟩:=r;rfl
 | byt _=>obtain ⟨t,rfl⟩:=r;rfl
 | flt _=>obtain ⟨t,rfl⟩:=r;rfl
 | ref _=>cases r;rfl
 | ty _=>cases r;rfl
theorem RelV.inj {x y:V} {u:Value} (r:RelV x u) (q:RelV y u):x=y:=Option.some.inj (r.abs.symm.trans q.abs)
theorem Vals.inj:∀ {xs ys:List V} {us:List Value},Vals xs us→Vals ys us→xs=ys
 | _,_,_, .nil, .nil=>rfl
 | _,_,_, .cons r t, .cons r' t'=>by rw [r.inj r',Vals.inj t t']
section
variable {X:Cx} {pins:List (Addr × Obj)} {σ:St} {H:Hp} {s:Shared} {a:Addr} {xs ys:List V}
theorem SqL.of {K:PySem.W.Frag} (h:H a=some (.lst xs)):SqL K H a xs:=.inl (.inl h)
theorem SqT.of {K:PySem.W.Frag} (h:H a=some (.tup xs)):SqT K H a xs:=.inl (.inl h)
theorem Inv.list (I:Inv X pins σ H s) (h:SqL X.K H a xs):∃ its:List Value,Vals xs its∧PlainL s.heap a its.toArray∧xs.length≤sizeLine:=by
 rcases h with h | ⟨o,its,n,hk,hc,hd,hs,hz,r⟩
 ·obtain ⟨z,its,n,r,e⟩:=h.ok I.hok
  exact ⟨its,r,⟨_,n,e,rfl,rfl,rfl⟩,z⟩
 ·refine ⟨its.toList,r,⟨o,n,I.kIn a o hk,hc,hd,by simpa using hs⟩,?_⟩
  have e:=r.length
  simp only [Array.length_toList] at e
  omega
theorem Inv.tuple (I:Inv X pins σ H s) (h:SqT X.K H a xs):∃ its:List Value,Vals xs its∧IsTup s.heap a its.toArray∧xs.length≤sizeLine:=by
 rcases h with h | ⟨o,its,n,hk,hc,hs,hz,r⟩
 ·obtain ⟨z,its,r,p⟩:=h.ok I.hok
  exact ⟨its,r,p,z⟩
 ·refine ⟨its.toList,r,⟨o,I.kIn a o hk,hc,n,by simpa using hs⟩,?_⟩
  have e:=r.length
  simp only [Array.length_toList] at e
  omega
theorem Inv.list_inj (I:Inv X pins σ H s) (h:SqL X.K H a xs) (h':SqL X.K H a ys):xs=ys:=by
 obtain ⟨its,r,⟨o,n,e,_,_,d⟩,_⟩:=I.list h
 obtain ⟨its',r',⟨o',n',e',_,_,d'⟩,_⟩:=I.list h'
 rw [e] at e';cases e'
 rw [d] at d'
 injection d' with d1 _
 have:its=its':=by simpa using congrArg Array.toList d1
 subst this
 exact r.inj r'
theorem Inv.tuple_inj (I:Inv X pins σ H s) (h:SqT X.K H a xs) (h':SqT X.K H a ys):xs=ys:=by
 obtain ⟨its,r,⟨o,e,_,n,d⟩,_⟩:=I.tuple h
 obtain ⟨its',r',⟨o',e',_,n',d'⟩,_⟩:=I.tuple h'
 rw [e] at e';cases e'
 rw [d] at d'
 injection d' with d1 _
 have:its=its':=by simpa using congrArg Array.toList d1
 subst this
 exact r.inj r'
end
abbrev Cx.wish (X:Cx) (E:Value→Shared→Prop):Cx:={ X with xe:=E }
abbrev Cx.nox (X:Cx):Cx:=X.wish fun _ _=>False
theorem Cx.Ok.wish {X:Cx} (ok:X.Ok) (E:Value→Shared→Prop):(X.wish E).Ok :=
 ⟨ok.mod,ok.kind,ok.glob,ok.blt,ok.above,ok.inj,ok.has,ok.cab,ok.hd,ok.frames,ok.stk,ok.exf,ok.bs,ok.bsz,ok.noex,ok.exfs,ok.funs,ok.frf⟩
theorem Cx.Ok.unwish {X:Cx} {E:Value→Shared→Prop} (ok:(X.wish E).Ok):X.Ok :=
 ⟨ok.mod,ok.kind,ok.glob,ok.blt,ok.above,ok.inj,ok.has,ok.cab,ok.hd,ok.frames,ok.stk,ok.exf,ok.bs,ok.bsz,ok.noex,ok.exfs,ok.funs,ok.frf⟩
section
variable {X:Cx} {pins:List (Addr × Obj)} {σ:St} {H:Hp} {s:Shared} {E:Value→Shared→Prop}
theorem Inv.wish (I:Inv X pins σ H s) (E:Value→Shared→Prop):Inv (X.wish E) pins σ H s:=⟨I.ok.wish E,I.os,I.bare,I.base,I.loc,I.cell,I.free,I.freeC,I.pin,I.hok,I.len⟩
theorem Inv.unwish (I:Inv (X.wish E) pins σ H s):Inv X pins σ H s:=⟨I.ok.unwish,I.os,I.bare,I.base,I.loc,I.cell,I.free,I.freeC,I.pin,I.hok,I.len⟩
theorem SP.unwish {D:Ends} {f:Flow} {s':Shared} (h:SP (X.wish E) pins D f s'):SP X pins D f s':=by
 cases f with
 | next=>obtain ⟨σ',H',I,q⟩:=h;exact ⟨σ',H',I.unwish,q⟩
 | brk=>obtain ⟨σ',H',I,q⟩:=h;exact ⟨σ',H',I.unwish,q⟩
 | cont=>obtain ⟨σ',H',I,q⟩:=h;exact ⟨σ',H',I.unwish,q⟩
 | ret u=>obtain ⟨v,σ',H',I,r,q⟩:=h;exact ⟨v,σ',H',I.unwish,r,q⟩
theorem PSs.nox {st:List Stmt} {t:TS} (h:PSs X.nox st t):PSs X st t:=fun pins s σ H D I hw =>
 wpAny_mono (h pins s σ H D (I.wish _) hw) (fun _ _ q=>q.unwish) fun _ _ z=>False.elim z
end
section
variable {X:Cx} {st:Stmt} {rest:List Stmt} {t u:TS} {e:Expr} {te:TE} {pos:Pos}
def alo:TS:=fun D σ H=>D.nx σ H
def aoa (t u:TS):TS:=fun D σ H=>t { D with nx:=u D } σ H
theorem afk:PSs X [] alo:=fun _ _ σ H _ I h=>wpAny_execs_nil ⟨σ,H,I,h⟩
theorem aco (h1:PS X st t) (h2:PSs X rest u):PSs X (st::rest) (aoa t u):=by
 intro pins s σ H D I h
 refine wpAny_execs_cons (thn (h1 pins s σ H { D with nx:=u D } I h) fun f s1 q=>?_)
 cases f with
 | next =>
  obtain ⟨σ',H',I',q⟩:=q
  exact h2 pins s1 σ' H' D I' q
 | ret v=>exact q
 | brk=>exact q
 | cont=>exact q
theorem afl (h1:PS X st t):PSs X [st] t:=by
 intro pins s σ H D I h
 refine wpAny_execs_cons (thn (h1 pins s σ H D I h) fun f s1 q=>?_)
 cases f with
 | next=>exact wpAny_execs_nil q
 | ret v=>exact q
 | brk=>exact q
 | cont=>exact q
theorem Inv.quiet {pins:List (Addr × Obj)} {σ:St} {H:Hp} {s:Shared} (I:Inv X pins σ H s):interactive X.env=false:=by simp [interactive,I.ok.kind]
def alp (te:TE):TS:=fun D σ H=>te σ H fun _ H1=>D.nx σ H1
theorem afm (he:PE X e te) (hs:swapsWith e none pos.line X.env=pure false:=by rfl):PS X (.Expr e pos) (alp te):=by
 intro pins s σ H D I h
 exact wpAny_Expr_any (thn (he pins s σ H _ I h) fun v s1 ⟨x,H1,I1,r1,q1⟩=>⟨σ,H1,I1,q1⟩) I.quiet hs
def aob (te:TE):TS:=fun D σ H=>te σ H D.rt
theorem ai2 (he:PE X e te):PS X (.Return (some e) pos) (aob te):=by
 intro pins s σ H D I h
 exact wpAny_Return_some (thn (he pins s σ H _ I h) fun v s1 ⟨x,H1,I1,r1,q1⟩=>⟨x,σ,H1,I1,r1,q1⟩)
def aoc (c:TT) (t u:TS):TS:=fun D σ H=>c σ H fun b H1=>if b=true then t D σ H1 else u D σ H1
theorem alq {c:Expr} {a b:List Stmt} {tc:TT} (hc:PT X c tc) (ha:PSs X a t) (hb:PSs X b u):PS X (.If c a b pos) (aoc tc t u):=by
 intro pins s σ H D I h
 refine wpAny_If (thn (hc pins s σ H _ I h) fun d s1 ⟨H1,I1,q1⟩=>?_)
 cases d with
 | true=>exact ha pins s1 σ H1 D I1 q1
 | false=>exact hb pins s1 σ H1 D I1 q1
end
abbrev TG:=V→St→Hp→(St→Hp→Prop)→Prop
abbrev TGs:=List V→St→Hp→(St→Hp→Prop)→Prop
def PG (X:Cx) (target:Expr) (t:TG):Prop :=
 ∀ (pins:List (Addr × Obj)) (s:Shared) (σ:St) (H:Hp) (v:V) (u:Value) (Q:St→Hp→Prop),Inv X pins σ H s→RelV v u→t v σ H Q →
  wpAny (model X.prog X.w) X.A (assign target X.env u) (fun _ s'=>∃ σ' H',Inv X pins σ' H' s'∧Q σ' H') X.xe s
def PGs (X:Cx) (ts:List Expr) (t:TGs):Prop :=
 ∀ (pins:List (Addr × Obj)) (s:Shared) (σ:St) (H:Hp) (vs:List V) (us:List Value) (Q:St→Hp→Prop),Inv X pins σ H s→Vals vs us→t vs σ H Q →
  wpAny (model X.prog X.w) X.A (assignInOrder ((assignEach ts X.env).map (·.2)) us) (fun _ s'=>∃ σ' H',Inv X pins σ' H' s'∧Q σ' H') X.xe s
abbrev ai3:=V→V→V→Hp→(Hp→Prop)→Prop
def alr (X:Cx) (t:ai3):Prop :=
 ∀ (pins:List (Addr × Obj)) (s:Shared) (σ:St) (H:Hp) (o i v:V) (ov iv u:Value) (Q:Hp→Prop),Inv X pins σ H s→RelV o ov→RelV i iv→RelV v u→t o i v H Q →
  wpAny (model X.prog X.w) X.A (setItem ov iv u) (fun _ s'=>∃ H',Inv X pins σ H' s'∧Q H') X.xe s
abbrev TIp:=V→V→Hp→VK→Prop
def PIp (X:Cx) (op:Operator) (t:TIp):Prop :=
 ∀ (pins:List (Addr × Obj)) (s:Shared) (σ:St) (H:Hp) (x y:V) (v u:Value) (Q:VK),Inv X pins σ H s→RelV x v→RelV y u→t x y H Q →
  wpAny (model X.prog X.w) X.A (inplaceOp op v u) (EP X pins σ Q) X.xe s
section
variable {X:Cx} {pos:Pos}
def a8p (i:Nat):TG:=fun v σ H Q=>Q (σ.set i (some v)) H
theorem ju {i:Nat} {x:Str} (hN:X.N.Nodup) (hi:X.N[i]? = some x) (hx:Loc X.env.scope x) (hf:X.fn x=true∨X.env.scope.names.lookup x=some .local:=by first | exact .inl rfl | exact .inr rfl | assumption):PG X (.Name x pos) (a8p i):=by
 intro pins s σ H v u Q I r h
 exact wpAny_assign_Name (a4m I hN hi hx r (fun s' I'=>⟨_,H,I',h⟩) hf)
def aod:TGs:=fun vs σ H Q=>vs=[]∧Q σ H
def ai4 (t:TG) (u:TGs):TGs:=fun vs σ H Q=>∃ v r,vs=v::r∧t v σ H fun σ' H'=>u r σ' H' Q
theorem afn:PGs X [] aod:=by
 intro pins s σ H vs us Q I r h
 obtain ⟨e,h⟩:=h
 subst e
 cases r
 exact assignInOrder_nil ⟨σ,H,I,h⟩
theorem acp {e:Expr} {es:List Expr} {t:TG} {u:TGs} (h1:PG X e t) (h2:PGs X es u)
  (hs:(assignEach (e::es) X.env).map (·.2)=assign e X.env::(assignEach es X.env).map (·.2):=by rfl):PGs X (e::es) (ai4 t u):=by
 intro pins s σ H vs us Q I r h
 obtain ⟨v,vr,e1,h⟩:=h
 subst e1
 cases r with
 | cons r rr =>
  rw [hs]
  refine assignInOrder_cons (thn (h1 pins s σ H _ _ _ I r h) fun _ s1 ⟨σ1,H1,I1,q1⟩=>?_)
  exact h2 pins s1 σ1 H1 _ _ Q I1 rr q1
def a0q (K:PySem.W.Frag) (n:Nat) (t:TGs):TG:=fun v σ H Q=>∃ a xs,v = .ref a∧SqT K H a xs∧xs.length=n∧t xs σ H Q
theorem ai5 {es:List Expr} {k:Nat} {t:TGs} {n:Nat} (hc:X.calm=true) (h:PGs X es t)
  (hn:(assignEach es X.env).length=n:=by rfl) (hst:(assignEach es X.env).findIdx? (·.1)=none:=by rfl):PG X (.Tuple es k pos) (a0q X.K n t):=by
 intro pins s σ H v u Q I r hw
 obtain ⟨a,xs,e1,hq,hl,hw⟩:=hw
 subst e1
 cases r
 obtain ⟨its,rv,ht,hz⟩:=I.tuple hq
 refine assign_Tuple_tuple (I.ok.hd hc) ht (by simp [hn,← hl,rv.length]) hst fun h' hx=>?_
 have I1:Inv X pins σ H { s with heap:=h' }:=I.kept (t':=s.toks) fun b o e=>hx b o (Nat.ne_of_lt (Heap.lt_size e)) e
 exact h pins _ σ H xs _ Q I1 (by simpa using rv) hw
def a6t (to ti:TE) (t:ai3):TG:=fun v σ H Q=>to σ H fun o H1=>ti σ H1 fun i H2=>t o i v H2 fun H3=>Q σ H3
theorem ai6 {o i:Expr} {to ti:TE} {t:ai3} (ho:PE X o to) (hi:PE X i ti) (hs:alr X t)
  (ha:∀ v,assign (.Subscript o i pos) X.env v=(do
   let ov ← holding [v] (eval o X.env)
   let iv ← holding [v,ov] (eval i X.env)
   standAt pos
   holding [v,ov,iv] (setItem ov iv v)
   release [v,ov,iv] []):=by intro _;rfl):PG X (.Subscript o i pos) (a6t to ti t):=by
 intro pins s σ H v u Q I r h
 rw [ha]
 refine wpAny_bind (wpAny_holding (thn (ho pins s σ H _ I h) fun ov s1 ⟨x,H1,I1,r1,q1⟩=>?_))
 refine wpAny_bind (wpAny_holding (thn (hi pins s1 σ H1 _ I1 q1) fun iv s2 ⟨y,H2,I2,r2,q2⟩=>?_))
 refine wpAny_bind (wpAny_standAt (wpAny_bind (wpAny_holding (thn (hs pins s2 σ H2 x y v ov iv u _ I2 r1 r2 r q2) fun _ s3 ⟨H3,I3,q3⟩=>?_))))
 exact wpAny_release ⟨σ,H3,I3,q3⟩
def al3 (te:TE) (g:TG):TS:=fun D σ H=>te σ H fun x H1=>g x σ H1 D.nx
theorem aeo {tg e:Expr} {te:TE} {g:TG} (he:PE X e te) (hg:PG X tg g) (hs:swapsWithSole [tg] e pos.line X.env=pure false:=by rfl) (hw:swappedStores [tg] e X.env=pure none:=by rfl)
  (h1:(assignEach [tg] X.env).map (·.2)=[assign tg X.env]:=by rfl):PS X (.Assign [tg] e pos) (al3 te g):=by
 intro pins s σ H D I h
 refine wpAny_Assign_stores (thn (he pins s σ H _ I h) fun v s1 ⟨x,H1,I1,r1,q1⟩=>?_) hs hw
 rw [h1]
 exact thn (hg pins s1 σ H1 x v _ I1 r1 q1) fun _ s2 q=>q
theorem ai7 {i:Nat} {x:Str} {e:Expr} {te:TE} {pos':Pos} (hN:X.N.Nodup) (hi:X.N[i]? = some x) (hx:Loc X.env.scope x) (he:PE X e te) (hs:swapsWith e (some (.Name x pos')) pos.line X.env=pure false:=by rfl) (hf:X.fn x=true∨X.env.scope.names.lookup x=some .local:=by first | exact .inl rfl | exact .inr rfl | assumption) :
  PS X (.Assign [.Name x pos'] e pos) (al3 te (a8p i)):=by
 intro pins s σ H D I h
 refine wpAny_Assign_Name (thn (he pins s σ H _ I h) fun v s1 ⟨y,H1,I1,r1,q1⟩=>?_) hs
 exact a4m I1 hN hi hx r1 (fun s2 I2=>⟨_,H1,I2,q1⟩) hf
def aoe (i:Nat) (te:TE) (ti:TIp):TS:=fun D σ H=>∃ x,σ[i]? = some (some x)∧te σ H fun y H1=>ti x y H1 fun z H2=>D.nx (σ.set i (some z)) H2
theorem ai8 {i:Nat} {x:Str} {e:Expr} {te:TE} {op:Operator} {ti:TIp} {pos':Pos} (hN:X.N.Nodup) (hi:X.N[i]? = some x) (hx:Loc X.env.scope x) (he:PE X e te) (ho:PIp X op ti) (hf:X.fn x=true∨X.env.scope.names.lookup x=some .local:=by first | exact .inl rfl | exact .inr rfl | assumption) :
  PS X (.AugAssign (.Name x pos') op e pos) (aoe i te ti):=by
 intro pins s σ H D I h
 obtain ⟨v,e1,h⟩:=h
 obtain ⟨m,hn,hl⟩:=I.loc
 have vis:Vis X.env.scope x:=by rcases hx with k | k;exact .inl k;exact .inr (.inl k)
 obtain ⟨u,r,l⟩:=hl i x v hi e1 vis
 refine wpAny_AugAssign_Name ?_
 have go:wpAny (model X.prog X.w) X.A (eval e X.env) (fun w s₂=>wpAny (model X.prog X.w) X.A (inplaceOp op u w) (fun r s₃=>wpAny (model X.prog X.w) X.A (storeName X.env x r) (fun _=>SP X pins D .next) X.xe s₃) X.xe s₂) X.xe s:=by
  refine thn (he pins s σ H _ I h) fun w s1 ⟨y,H1,I1,r1,q1⟩=>?_
  refine thn (ho pins s1 σ H1 v y u w _ I1 r r1 q1) fun z s2 ⟨zv,H2,I2,r2,q2⟩=>?_
  exact a4m I2 hN hi hx r2 (fun s3 I3=>⟨_,H2,I3,q2⟩) hf
 rcases l with ⟨hk,hm⟩ | ⟨hk,c,hc,hcell⟩
 ·exact wpAny_loadName_local I.ok.kind hk hn hm go
 ·rcases hk with hk | hk
  ·exact wpAny_loadName_cell I.ok.kind hk hc hcell go
  ·rcases hx with k | k
   ·have:X.env.scope.names.lookup x=some .free:=hk
    rw [k] at this;cases this
   ·have:X.env.scope.names.lookup x=some .free:=hk
    rw [k] at this;cases this
def als (to ti te:TE) (tget:V→V→Hp→VK→Prop) (tip:TIp) (tset:ai3):TS:=fun D σ H=>to σ H fun o H1=>ti σ H1 fun i H2=>tget o i H2 fun x H3=>te σ H3 fun y H4=>tip x y H4 fun z H5=>tset o i z H5 fun H6=>D.nx σ H6
def amy (X:Cx) (t:V→V→Hp→VK→Prop):Prop :=
 ∀ (pins:List (Addr × Obj)) (s:Shared) (σ:St) (H:Hp) (o i:V) (ov iv:Value) (Q:VK),Inv X pins σ H s→RelV o ov→RelV i iv→t o i H Q →
  wpAny (model X.prog X.w) X.A (getItem ov iv) (EP X pins σ Q) X.xe s
theorem afo {o i e:Expr} {to ti te:TE} {tget:V→V→Hp→VK→Prop} {tip:TIp} {tset:ai3} {op:Operator} {tpos:Pos} (ho:PE X o to) (hi:PE X i ti) (hg:amy X tget) (he:PE X e te) (hp:PIp X op tip) (hs:alr X tset)
  (ha:∀ ov iv new,augStore i ov iv new=(do holding [new,ov,iv] (setItem ov iv new);release [new,ov,iv] [];pure .next):=by intros;rfl):PS X (.AugAssign (.Subscript o i tpos) op e pos) (als to ti te tget tip tset):=by
 intro pins s σ H D I h
 refine wpAny_AugAssign_SubscriptAny (thn (ho pins s σ H _ I h) fun ov s1 ⟨x1,H1,I1,r1,q1⟩=>?_) ha
 refine thn (hi pins s1 σ H1 _ I1 q1) fun iv s2 ⟨x2,H2,I2,r2,q2⟩=>?_
 refine thn (hg pins s2 σ H2 x1 x2 ov iv _ I2 r1 r2 q2) fun old s3 ⟨x3,H3,I3,r3,q3⟩=>?_
 refine thn (he pins s3 σ H3 _ I3 q3) fun v s4 ⟨x4,H4,I4,r4,q4⟩=>?_
 refine thn (hp pins s4 σ H4 x3 x4 old v _ I4 r3 r4 q4) fun new s5 ⟨x5,H5,I5,r5,q5⟩=>?_
 exact thn (hs pins s5 σ H5 x1 x2 x5 ov iv new _ I5 r1 r2 r5 q5) fun _ s6 ⟨H6,I6,q6⟩=>⟨σ,H6,I6,q6⟩
end
section
variable {X:Cx} {pos:Pos}
def ai9 (c:TT) (tb:TS):TS:=fun D σ H=>∃ W:Nat→St→Hp→Prop,(∃ m,W m σ H)∧∀ m σ H,W m σ H →
 c σ H fun b H1=>if b=true then ∃ N:St→Hp→Prop,(∀ σ' H',N σ' H'→∃ m',m'<m∧W m' σ' H')∧tb { D with nx:=N,ct:=N,bk:=D.nx } σ H1 else D.nx σ H1
theorem acq {c:Expr} {body:List Stmt} {tc:TT} {tb:TS} (hp:PassesOwn (model X.prog X.w) X.A X.env X.xe) (hc:PT X c tc) (hb:PSs X body tb):PS X (.While c body [] pos) (ai9 tc tb):=by
 intro pins s σ H D I h
 obtain ⟨W,⟨m0,w0⟩,turn⟩:=h
 refine wpAny_While (codeAny_whileLoop (fun n s'=>∃ σ' H',Inv X pins σ' H' s'∧W n σ' H') ?_ m0 ⟨σ,H,I,w0⟩)
 rintro n s1 ⟨σ1,H1,I1,w1⟩
 refine wpAny_passesOwn hp (thn (hc pins s1 σ1 H1 _ I1 (turn n σ1 H1 w1)) fun b s2 ⟨H2,I2,q2⟩=>?_)
 cases b with
 | true =>
  obtain ⟨N,hN,q2⟩:=q2
  rw [if_pos rfl]
  refine wpAny_passesOwn hp (thn (hb pins s2 σ1 H2 _ I2 q2) fun f s3 q3=>?_)
  cases f with
  | next =>
   obtain ⟨σ3,H3,I3,n3⟩:=q3
   obtain ⟨m',hm,w3⟩:=hN σ3 H3 n3
   exact ⟨m',hm,σ3,H3,I3,w3⟩
  | cont =>
   obtain ⟨σ3,H3,I3,n3⟩:=q3
   obtain ⟨m',hm,w3⟩:=hN σ3 H3 n3
   exact ⟨m',hm,σ3,H3,I3,w3⟩
  | brk=>exact q3
  | ret v=>exact q3
 | false =>
  rw [if_neg Bool.false_ne_true]
  exact wpAny_execs_nil ⟨σ1,H2,I2,q2⟩
end
structure It where
 go:Nat→Hp→Prop
 yld:Nat→Hp→V→Hp→Prop
 stop:Nat→Hp→Prop
def a6x (X:Cx) (pins:List (Addr × Obj)) (H:Hp) (b:Addr):Prop :=
 H b=none∧b≠X.env.locals∧b ∉ X.fs∧(b∈X.ex∨X.s₀.heap.objs.size≤b)∧(∀ x c,X.env.cells.lookup x=some c→c≠b)∧∀ p∈X.pn++pins,p.1≠b
theorem Inv.fpOk {X:Cx} {pins:List (Addr × Obj)} {σ:St} {H H':Hp} {s:Shared} {b:Addr} (I:Inv X pins σ H s) (hb:s.heap.objs.size≤b) (hn:H' b=none):a6x X pins H' b:=by
 refine ⟨hn,Nat.ne_of_gt (Nat.lt_of_lt_of_le I.lt hb),I.nofs hb, .inr (Nat.le_trans I.sz hb),fun x c e z=>?_,fun p hp z=>?_⟩
 ·obtain ⟨v,q⟩:=I.cell x c e
  exact absurd (Nat.lt_of_lt_of_le q.lt (by rw [z];exact hb)) (Nat.lt_irrefl _)
 ·exact absurd (Nat.lt_of_lt_of_le (Heap.lt_size (I.pin p hp).1) (by rw [z];exact hb)) (Nat.lt_irrefl _)
structure Turn (P:Program) (w:World) (K:PySem.W.Frag) (tg:Expr) (J:It) (fp:List Addr) (it:Addr) (tn:Nat→Heap→Prop):Prop where
 mem:it∈fp
 obj:∀ i h,tn i h→∀ b∈fp,∃ o,h.get? b=some o∧∀ v,o.data≠.cell v
 keep:∀ i h h',tn i h→(∀ b∈fp,∀ o,h.get? b=some o→h'.get? b=some o)→tn i h'
 item:∀ (X:Cx),X.prog=P→X.w=w→X.K=K→X.calm=true→∀ (i:Nat) (pins:List (Addr × Obj)) (s:Shared) (σ:St) (H:Hp) (E:Value→Shared→Prop),Inv X pins σ H s→(∀ b∈fp,a6x X pins H b)→tn i s.heap→J.go i H →
  wpAny (model P w) X.A (pyNext (.ref it)) (fun r s1=>∃ u,r=some u ∧
   wpAny (model P w) X.A (letOwnedTupleGo tg (.ref it) u) (fun _ s2=>∃ x H',Inv X pins σ H' s2∧RelV x u∧J.yld i H x H'∧tn (i+1) s2.heap∧∀ b∈fp,H' b=none) E s1) E s
 done:∀ (X:Cx),X.prog=P→X.w=w→X.K=K→X.calm=true→∀ (i:Nat) (pins:List (Addr × Obj)) (s:Shared) (σ:St) (H:Hp) (E:Value→Shared→Prop),Inv X pins σ H s→(∀ b∈fp,a6x X pins H b)→tn i s.heap→J.stop i H →
  wpAny (model P w) X.A (pyNext (.ref it)) (fun r s1=>r=none∧Inv X pins σ H s1) E s
 self:∀ (A:Around) (i:Nat) (s:Shared) (Q:Value→Shared→Prop) (E:Value→Shared→Prop),tn i s.heap→Q (.ref it) s→wpAny (model P w) A (pyIter (.ref it)) Q E s
abbrev TI:=St→Hp→(It→Hp→Prop)→Prop
def PIE (X:Cx) (pins:List (Addr × Obj)) (σ:St) (tg:Expr) (R:It→Hp→Prop) (itv:Value) (s2:Shared):Prop :=
 ∃ (it:Addr) (fp:List Addr) (tn:Nat→Heap→Prop) (J:It) (H':Hp),itv = .ref it∧Inv X pins σ H' s2∧Turn X.prog X.w X.K tg J fp it tn∧tn 0 s2.heap∧(∀ b∈fp,a6x X pins H' b)∧R J H'
def PI (X:Cx) (tg iter:Expr) (wi:TI):Prop :=
 ∀ (pins:List (Addr × Obj)) (s:Shared) (σ:St) (H:Hp) (R:It→Hp→Prop),Inv X pins σ H s→wi σ H R →
  wpAny (model X.prog X.w) X.A (eval iter X.env) (fun v s1=>wpAny (model X.prog X.w) X.A (pyIter v) (PIE X pins σ tg R) X.xe s1) X.xe s
theorem acr {M:Model} {A:Around} {E:Value→Shared→Prop} {s:Shared} {tg:Expr} {it:Addr} {u:Value} {o:Obj} {n:String} {vs:Array Value} {Q:Unit→Shared→Prop} (ho:s.heap.get? it=some o) (hc:o.cls = .type n) (hd:o.data = .fields vs)
  (hn:["enumerate", "zip", "dict_itemiterator", "dict_reverseitemiterator", "odict_iterator", "itertools.zip_longest", "itertools.pairwise"].contains n=false) (hQ:Q () s):wpAny M A (letOwnedTupleGo tg (.ref it) u) Q E s:=by
 unfold letOwnedTupleGo
 cases tg<;>first
  | exact wpAny_pure hQ
  | (cases u<;>first
    | exact wpAny_pure hQ
    | (refine wpAny_bind (wpAny_load ho ?_)
       rw [hc,hd]
       show wpAny M A (if (["enumerate", "zip", "dict_itemiterator", "dict_reverseitemiterator", "odict_iterator", "itertools.zip_longest", "itertools.pairwise"].contains n && vs[0]? == some (rawInt _))=true then _ else _) Q E s
       rw [if_neg (by intro h;rw [hn,Bool.false_and] at h;cases h)]
       exact wpAny_pure hQ))
def Itl (K:PySem.W.Frag) (a:Addr):It :=
 ⟨fun i H=>∃ xs x,SqL K H a xs∧xs[i]? = some x,fun i H x H'=>H'=H∧∀ xs,SqL K H a xs→xs[i]? = some x,fun i H=>∃ xs,SqL K H a xs∧xs.length≤i⟩
def Itt (K:PySem.W.Frag) (a:Addr):It :=
 ⟨fun i H=>∃ xs x,SqT K H a xs∧xs[i]? = some x,fun i H x H'=>H'=H∧∀ xs,SqT K H a xs→xs[i]? = some x,fun i H=>∃ xs,SqT K H a xs∧xs.length≤i⟩
def Itr (lo:Int) (n:Nat):It:=⟨fun i _=>i<n,fun i H x H'=>H'=H∧x = .int (lo+i),fun i _=>n≤i⟩
theorem a9u {P:Program} {w:World} {K:PySem.W.Frag} {tg:Expr} (a it:Addr):Turn P w K tg (Itl K a) [it] it (fun i h=>h.IsListIter it a i) where
 mem:=by simp
 obj:=fun i h st b hb=>by
  have e:b=it:=by simpa using hb
  subst e
  obtain ⟨o,e,c,d⟩:=st
  exact ⟨o,e,fun v z=>by rw [d] at z;cases z⟩
 keep:=fun i h h' st k=>st.at fun o e=>k it (by simp) o e
 item:=by
  intro X hP hw hK hc i pins s σ H E I hf st hg
  subst hP hw hK
  obtain ⟨xs,x,hq,hx⟩:=hg
  obtain ⟨its,rv,p,hz⟩:=I.list hq
  obtain ⟨u,hu,ru⟩:=rv.get hx
  obtain ⟨f0,f1,f2,f3,f4,f5⟩:=hf it (by simp)
  refine wpAny_pyNext_list_item st p.isList (x:=u) (by simpa using hu) fun h' st' sb=>?_
  have I1:Inv X pins σ H { s with heap:=h' }:=I.turned (t':=s.toks) (fun b o hb e=>(sb.2 b hb).trans e) f0 f1 f3 f4 f5
  obtain ⟨o,e,c,d⟩:=id st'
  exact ⟨u,rfl,acr (s:={ s with heap:=h' }) e c d (by decide) ⟨x,H,I1,ru,⟨rfl,fun ys hy=>by rw [I.list_inj hy hq];exact hx⟩,st',fun b hb=>(hf b hb).1⟩⟩
 done:=by
  intro X hP hw hK hc i pins s σ H E I hf st hg
  subst hP hw hK
  obtain ⟨xs,hq,hx⟩:=hg
  obtain ⟨its,rv,p,hz⟩:=I.list hq
  obtain ⟨f0,f1,f2,f3,f4,f5⟩:=hf it (by simp)
  have hl:=rv.length
  exact wpAny_pyNext_list_end (I.ok.hd hc) st p.isList (by simp;omega) fun h' eb=>⟨rfl,I.turned (t':=s.toks) (fun b o hb e=>eb b o hb e) f0 f1 f3 f4 f5⟩
 self:=fun _ _ _ _ _ st h=>wpAny_pyIter_listiter st h
theorem a8q {P:Program} {w:World} {K:PySem.W.Frag} {tg:Expr} (a it:Addr):Turn P w K tg (Itt K a) [it] it (fun i h=>h.IsTupleIter it a i) where
 mem:=by simp
 obj:=fun i h st b hb=>by
  have e:b=it:=by simpa using hb
  subst e
  obtain ⟨o,e,c,d⟩:=st
  exact ⟨o,e,fun v z=>by rw [d] at z;cases z⟩
 keep:=fun i h h' st k=>st.at fun o e=>k it (by simp) o e
 item:=by
  intro X hP hw hK hc i pins s σ H E I hf st hg
  subst hP hw hK
  obtain ⟨xs,x,hq,hx⟩:=hg
  obtain ⟨its,rv,p,hz⟩:=I.tuple hq
  obtain ⟨u,hu,ru⟩:=rv.get hx
  obtain ⟨f0,f1,f2,f3,f4,f5⟩:=hf it (by simp)
  refine wpAny_pyNext_tuple_item st (show s.heap.IsTuple a its.toArray from p) (x:=u) (by simpa using hu) fun h' st' sb=>?_
  have I1:Inv X pins σ H { s with heap:=h' }:=I.turned (t':=s.toks) (fun b o hb e=>(sb.2 b hb).trans e) f0 f1 f3 f4 f5
  obtain ⟨o,e,c,d⟩:=id st'
  exact ⟨u,rfl,acr (s:={ s with heap:=h' }) e c d (by decide) ⟨x,H,I1,ru,⟨rfl,fun ys hy=>by rw [I.tuple_inj hy hq];exact hx⟩,st',fun b hb=>(hf b hb).1⟩⟩
 done:=by
  intro X hP hw hK hc i pins s σ H E I hf st hg
  subst hP hw hK
  obtain ⟨xs,hq,hx⟩:=hg
  obtain ⟨its,rv,p,hz⟩:=I.tuple hq
  obtain ⟨f0,f1,f2,f3,f4,f5⟩:=hf it (by simp)
  have hl:=rv.length
  exact wpAny_pyNext_tuple_end (I.ok.hd hc) st (show s.heap.IsTuple a its.toArray from p) (by simp;omega) fun h' eb=>⟨rfl,I.turned (t':=s.toks) (fun b o hb e=>eb b o hb e) f0 f1 f3 f4 f5⟩
 self:=fun _ _ _ _ _ st h=>wpAny_pyIter_tupleiter st h
theorem a8r {P:Program} {w:World} {K:PySem.W.Frag} {tg:Expr} (it:Addr) (lo:Int) (n:Nat):Turn P w K tg (Itr lo n) [it] it (fun i h=>IsRangeIter h it (lo+(i:Nat)*1) ((n:Int) - (i:Nat)) 1) where
 mem:=by simp
 obj:=fun i h st b hb=>by
  have e:b=it:=by simpa using hb
  subst e
  exact ⟨_,st,fun v z=>by
   have z':Data.fields _=Data.cell v:=z
   cases z'⟩
 keep:=fun i h h' st k=>k it (by simp) _ st
 item:=by
  intro X hP hw hK hc i pins s σ H E I hf st hg
  subst hP hw hK
  obtain ⟨f0,f1,f2,f3,f4,f5⟩:=hf it (by simp)
  have W:=Walks.range (prog:=X.prog) (w:=X.w) (I.ok.hd hc) it lo 1 n
  refine W.item i s _ _ hg st fun v h' tk hv st' kk=>?_
  obtain ⟨t,rfl⟩:=hv
  have I1:Inv X pins σ H { s with heap:=h',toks:=tk }:=I.turned (fun b o hb e=>kk b o (by simpa using hb) e) f0 f1 f3 f4 f5
  refine ⟨_,rfl,acr (s:={ s with heap:=h',toks:=tk }) (n := "range_iterator") st' rfl rfl (by decide) ⟨.int (lo+i),H,I1,⟨t,?_⟩,⟨rfl,rfl⟩,st',fun b hb=>(hf b hb).1⟩⟩
  rw [Int.mul_one]
 done:=by
  intro X hP hw hK hc i pins s σ H E I hf st hg
  subst hP hw hK
  obtain ⟨f0,f1,f2,f3,f4,f5⟩:=hf it (by simp)
  exact wpAny_pyNext_range_end (I.ok.hd hc) st (by have:n≤i:=hg;omega) fun h' eb=>⟨rfl,I.turned (t':=s.toks) (fun b o hb e=>eb b o hb e) f0 f1 f3 f4 f5⟩
 self:=fun _ _ _ _ _ st h=>wpAny_pyIter_rangeiter st h
end L2
namespace L2
open PySem PySem.Spec PyProof.Rows
section
variable {X:Cx} {tg:Expr}
def alu (K:PySem.W.Frag) (tl:TE):TI:=fun σ H R=>tl σ H fun x H1=>∃ a,x = .ref a∧(∃ xs,SqL K H1 a xs)∧R (Itl K a) H1
def aof (K:PySem.W.Frag) (tl:TE):TI:=fun σ H R=>tl σ H fun x H1=>∃ a,x = .ref a∧(∃ xs,SqT K H1 a xs)∧R (Itt K a) H1
theorem a9v {l:Expr} {tl:TE} (hl:PE X l tl):PI X tg l (alu X.K tl):=by
 intro pins s σ H R I h
 refine thn (hl pins s σ H _ I h) fun v s1 ⟨x,H1,I1,r1,q1⟩=>?_
 obtain ⟨a,e,⟨xs,hq⟩,q⟩:=q1
 subst e
 cases r1
 obtain ⟨its,rv,p,hz⟩:=I1.list hq
 refine wpAny_pyIter_list p.isList ?_
 refine ⟨s1.heap.objs.size,[s1.heap.objs.size],_,_,H1,rfl,I1.kept (t':=s1.toks) fun b o e=>Heap.get?_push_of_some _ e,a9u a _,⟨_,Heap.get?_push_size _ rfl,rfl,rfl⟩,fun b hb=>?_,q⟩
 have e:b=s1.heap.objs.size:=by simpa using hb
 subst e
 exact I1.fpOk (Nat.le_refl _) (I1.hok.fresh (Nat.le_refl _))
theorem aia {l:Expr} {tl:TE} (hl:PE X l tl):PI X tg l (aof X.K tl):=by
 intro pins s σ H R I h
 refine thn (hl pins s σ H _ I h) fun v s1 ⟨x,H1,I1,r1,q1⟩=>?_
 obtain ⟨a,e,⟨xs,hq⟩,q⟩:=q1
 subst e
 cases r1
 obtain ⟨its,rv,p,hz⟩:=I1.tuple hq
 refine wpAny_pyIter_tuple (show s1.heap.IsTuple a its.toArray from p) ?_
 refine ⟨s1.heap.objs.size,[s1.heap.objs.size],_,_,H1,rfl,I1.kept (t':=s1.toks) fun b o e=>Heap.get?_push_of_some _ e,a8q a _,⟨_,Heap.get?_push_size _ rfl,rfl,rfl⟩,fun b hb=>?_,q⟩
 have e:b=s1.heap.objs.size:=by simpa using hb
 subst e
 exact I1.fpOk (Nat.le_refl _) (I1.hok.fresh (Nat.le_refl _))
theorem a7m {pins:List (Addr × Obj)} {σ:St} {H:Hp} {s:Shared} {R:It→Hp→Prop} {E:Value→Shared→Prop} {lo hi:Int} {t u v:Tok} {tk:Nat} (I:Inv X pins σ H s) (h1 : -(2 ^ 62)≤lo) (h2:lo<2 ^ 62) (h3 : -(2 ^ 62)≤hi) (h4:hi<2 ^ 62)
  (q:R (Itr lo (hi - lo).toNat) H):wpAny (model X.prog X.w) X.A (pyIter (.ref s.heap.objs.size)) (PIE X pins σ tg R) E { s with heap:=s.heap.push { cls:=.type "range",data:=.fields #[.int lo t, .int hi u, .int 1 v] },toks:=tk }:=by
 refine wpAny_pyIter_range (IsRange.new ..) (small_one h1 h2 h3 h4) ?_
 have I1:Inv X pins σ H { s with heap:=s.heap.push { cls:=.type "range",data:=.fields #[.int lo t, .int hi u, .int 1 v] },toks:=tk }:=I.kept fun b o e=>Heap.get?_push_of_some _ e
 refine ⟨(s.heap.push { cls:=.type "range",data:=.fields #[.int lo t, .int hi u, .int 1 v] }).objs.size,[(s.heap.push { cls:=.type "range",data:=.fields #[.int lo t, .int hi u, .int 1 v] }).objs.size],_,_,H,rfl,
  I1.kept (t':=tk) fun b o e=>Heap.get?_push_of_some _ e,a8r _ lo (hi - lo).toNat,?_,fun b hb=>?_,q⟩
 ·have e1:lo+((0:Nat):Int)*1=lo:=by simp
  have e2:(((hi - lo).toNat:Nat):Int) - ((0:Nat):Int)=Builtin.Range.rangeSize lo hi 1:=by rw [rangeSize_one];split<;>omega
  show IsRangeIter _ _ (lo+((0:Nat):Int)*1) ((((hi - lo).toNat:Nat):Int) - ((0:Nat):Int)) 1
  rw [e1,e2]
  exact Heap.get?_push_size _ rfl
 ·have e:b=(s.heap.push { cls:=.type "range",data:=.fields #[.int lo t, .int hi u, .int 1 v] }).objs.size:=by simpa using hb
  subst e
  exact I1.fpOk (Nat.le_refl _) (I1.hok.fresh (Nat.le_refl _))
def alv (ta:TA):TI:=fun σ H R=>ta σ H fun vs H1=>∃ j:Int,vs=[.int j] ∧ -(2 ^ 62)≤j∧j<2 ^ 62∧R (Itr 0 j.toNat) H1
def alw (ta:TA):TI:=fun σ H R=>ta σ H fun vs H1=>∃ i j:Int,vs=[.int i, .int j]∧(-(2 ^ 62)≤i∧i<2 ^ 62 ∧ -(2 ^ 62)≤j∧j<2 ^ 62)∧R (Itr i (j - i).toNat) H1
theorem a9w {a:Expr} {ta:TA} {p pos:Pos} (hg:Gl X "range") (hm:X.mg "range" = none) (ha:PA X [a] ta) (hs:starEach [a] X.env=[(false,eval a X.env)]:=by rfl):PI X tg (.Call (.Name "range" p) [a] [] pos) (alv ta):=by
 intro pins s σ H R I h
 refine Call_ (a5r I hg hm boot_range (PyProof.Rows.callWith_type1 (thn (ha pos pins s σ H _ I h) fun us s1 ⟨vs,H1,I1,r1,q1⟩=>?_) hs rfl))
 obtain ⟨j,e,q1,q2,q⟩:=q1
 subst e
 cases r1 with
 | cons r rr =>
  cases rr
  obtain ⟨t,rfl⟩:=r
  exact call_range_1 (a7m I1 (by omega) (by omega) q1 q2 (by simpa using q))
theorem a9x {a b:Expr} {ta:TA} {p pos:Pos} (hg:Gl X "range") (hm:X.mg "range" = none) (ha:PA X [a,b] ta) (hs:starEach [a,b] X.env=[(false,eval a X.env),(false,eval b X.env)]:=by rfl) (hs2:starEach [b] X.env=[(false,eval b X.env)]:=by rfl) :
  PI X tg (.Call (.Name "range" p) [a,b] [] pos) (alw ta):=by
 intro pins s σ H R I h
 refine Call_ (a5r I hg hm boot_range (PyProof.Rows.callWith_type1 (thn (ha pos pins s σ H _ I h) fun us s1 ⟨vs,H1,I1,r1,q1⟩=>?_) (by rw [hs,hs2]) (by rw [hs2];rfl)))
 obtain ⟨i,j,e,⟨q1,q2,q3,q4⟩,q⟩:=q1
 subst e
 cases r1 with
 | cons r rr =>
  cases rr with
  | cons r' rr =>
   cases rr
   obtain ⟨t,rfl⟩:=r
   obtain ⟨t',rfl⟩:=r'
   exact call_range_2 (a7m I1 q1 q2 q3 q4 q)
def aog (wi:TI) (g:TG) (tb:TS):TS:=fun D σ H=>wi σ H fun J H1=>∃ W:Nat→Nat→St→Hp→Prop,(∃ m,W 0 m σ H1)∧∀ i m σ H,W i m σ H →
 (J.stop i H∧D.nx σ H)∨(J.go i H∧∃ N:St→Hp→Prop,(∀ σ' H',N σ' H'→∃ m',m'<m∧W (i+1) m' σ' H')∧∀ x H',J.yld i H x H'→g x σ H' fun σ2 H2=>tb { D with nx:=N,ct:=N,bk:=D.nx } σ2 H2)
def a3w (fp:List Addr) (h:Heap):List (Addr × Obj):=fp.filterMap fun b=>(h.get? b).map fun o=>(b,o)
theorem nj {fp:List Addr} {h:Heap} {b:Addr} {o:Obj} (hb:b∈fp) (e:h.get? b=some o):(b,o)∈a3w fp h:=List.mem_filterMap.mpr ⟨b,hb,by rw [e];rfl⟩
theorem a9y {fp:List Addr} {h:Heap} {p:Addr × Obj} (hp:p∈a3w fp h):p.1∈fp∧h.get? p.1=some p.2:=by
 obtain ⟨b,hb,e⟩:=List.mem_filterMap.mp hp
 cases q:h.get? b with
 | none=>rw [q] at e;cases e
 | some o =>
  rw [q] at e
  have e':(b,o)=p:=Option.some.inj e
  subst e'
  exact ⟨hb,q⟩
theorem Inv.pinned {pins:List (Addr × Obj)} {σ:St} {H:Hp} {s:Shared} {fp:List Addr} (I:Inv X pins σ H s) (hf:∀ b∈fp,a6x X pins H b) (ho:∀ b∈fp,∃ o,s.heap.get? b=some o∧∀ v,o.data≠.cell v):Inv X (pins++a3w fp s.heap) σ H s :=
 I.pins_of fun p hp=>(List.mem_append.mp hp).elim (fun z=>I.pin p (List.mem_append_right _ z)) fun z=>by
  obtain ⟨hb,e⟩:=a9y z
  obtain ⟨f0,f1,f2,_⟩:=hf p.1 hb
  obtain ⟨o,e',d⟩:=ho p.1 hb
  rw [e] at e';cases e'
  exact ⟨e,f0,f1,f2,d⟩
theorem Inv.unpinned {pins pl:List (Addr × Obj)} {σ:St} {H:Hp} {s:Shared} (I:Inv X (pins++pl) σ H s):Inv X pins σ H s:=I.pins_of fun p hp=>I.pin p (List.mem_append_right _ (List.mem_append_left _ hp))
theorem aib {iter:Expr} {body:List Stmt} {wi:TI} {g:TG} {tb:TS} {pos:Pos} (hp:PassesOwn (model X.prog X.w) X.A X.env X.xe) (hc:X.calm=true) (hi:PI X tg iter wi) (hg:PG X tg g) (hb:PSs X body tb)
  (hs:∀ x,foldedSetIterable iter X.env x=pure x:=by intro _;rfl):PS X (.For tg iter body [] pos) (aog wi g tb):=by
 intro pins s σ H D I h
 refine wpAny_For (thn (hi pins s σ H _ I h) fun v s1 h1=>thn h1 fun itv s2 h2=>?_) hs
 obtain ⟨it,fp,tn,J,H2,e,I2,T,st2,f2,W,⟨m0,w0⟩,turn⟩:=h2
 subst e
 have stat:∀ {H':Hp},(∀ b∈fp,H' b=none)→∀ b∈fp,a6x X pins H' b:=fun hn b hb=>⟨hn b hb,(f2 b hb).2⟩
 refine codeAny_forLoop_any (fun n s'=>∃ i σ' H',Inv X pins σ' H' s'∧tn i s'.heap∧(∀ b∈fp,H' b=none)∧W i n σ' H') ?_ m0 ⟨0,σ,H2,I2,st2,fun b hb=>(f2 b hb).1,w0⟩
 rintro n s3 ⟨i,σ3,H3,I3,st3,fr3,w3⟩
 rcases turn i n σ3 H3 w3 with ⟨stop,qn⟩ | ⟨go,N,hN,step⟩
 ·refine wpAny_passesOwn hp (thn (T.done X rfl rfl rfl hc i pins s3 σ3 H3 X.xe I3 (stat fr3) st3 stop) fun r s4 ⟨hr,I4⟩=>?_)
  subst hr
  exact wpAny_execs_nil ⟨σ3,H3,I4,qn⟩
 ·refine wpAny_passesOwn hp (thn (T.item X rfl rfl rfl hc i pins s3 σ3 H3 X.xe I3 (stat fr3) st3 go) fun r s4 ⟨u,hr,h4⟩=>?_)
  subst hr
  refine wpAny_passesOwn hp (thn h4 fun _ s5 ⟨x,H5,I5,r5,y5,st5,fr5⟩=>?_)
  have I5':=I5.pinned (stat fr5) (T.obj _ _ st5)
  refine wpAny_passesOwn hp (thn (hg _ s5 σ3 H5 x u _ I5' r5 (step x H5 y5)) fun _ s6 ⟨σ6,H6,I6,q6⟩=>?_)
  refine wpAny_passesOwn hp (thn (hb _ s6 σ6 H6 _ I6 q6) fun f s7 q7=>?_)
  have again:∀ {σ7:St} {H7:Hp},Inv X (pins++a3w fp s5.heap) σ7 H7 s7→N σ7 H7→∃ m,m<n∧∃ i σ' H',Inv X pins σ' H' s7∧tn i s7.heap∧(∀ b∈fp,H' b=none)∧W i m σ' H':=fun {σ7 H7} I7 n7=>by
   obtain ⟨m',hm,w7⟩:=hN σ7 H7 n7
   refine ⟨m',hm,i+1,σ7,H7,I7.unpinned,T.keep _ _ _ st5 fun b hb o e=>(I7.pin (b,o) (List.mem_append_right _ (List.mem_append_right _ (nj hb e)))).1,fun b hb=>?_,w7⟩
   obtain ⟨o,e,d⟩:=T.obj _ _ st5 b hb
   exact (I7.pin (b,o) (List.mem_append_right _ (List.mem_append_right _ (nj hb e)))).2.1
  cases f with
  | next=>obtain ⟨σ7,H7,I7,n7⟩:=q7;exact again I7 n7
  | cont=>obtain ⟨σ7,H7,I7,n7⟩:=q7;exact again I7 n7
  | brk=>obtain ⟨σ7,H7,I7,q7⟩:=q7;exact ⟨σ7,H7,I7.unpinned,q7⟩
  | ret v=>obtain ⟨x7,σ7,H7,I7,r7,q7⟩:=q7;exact ⟨x7,σ7,H7,I7.unpinned,r7,q7⟩
end
end L2
namespace L2
open PySem PySem.Spec PyProof.Rows
abbrev R2:=V→V→Hp→VK→Prop
def OpR (X:Cx) (f:Value→Value→Sem Value) (r:R2):Prop :=
 ∀ (pins:List (Addr × Obj)) (s:Shared) (σ:St) (H:Hp) (x y:V) (v u:Value) (Q:VK),Inv X pins σ H s→RelV x v→RelV y u→r x y H Q →
  wpAny (model X.prog X.w) X.A (f v u) (EP X pins σ Q) X.xe s
def UnR (X:Cx) (f:Value→Sem Value) (r:V→Hp→VK→Prop):Prop :=
 ∀ (pins:List (Addr × Obj)) (s:Shared) (σ:St) (H:Hp) (x:V) (v:Value) (Q:VK),Inv X pins σ H s→RelV x v→r x H Q →
  wpAny (model X.prog X.w) X.A (f v) (EP X pins σ Q) X.xe s
def CallR (X:Cx) (f:Value) (r:List V→Hp→VK→Prop):Prop :=
 ∀ (pins:List (Addr × Obj)) (s:Shared) (σ:St) (H:Hp) (xs:List V) (us:List Value) (Q:VK),Inv X pins σ H s→Vals xs us→r xs H Q →
  wpAny (model X.prog X.w) X.A (call f us) (EP X pins σ Q) X.xe s
def aoh (X:Cx) (r:V→Hp→(Bool→Hp→Prop)→Prop):Prop :=
 ∀ (pins:List (Addr × Obj)) (s:Shared) (σ:St) (H:Hp) (x:V) (v:Value) (Q:Bool→Hp→Prop),Inv X pins σ H s→RelV x v→r x H Q →
  wpAny (model X.prog X.w) X.A (truthy v) (TP X pins σ Q) X.xe s
def tOp (r:R2) (ta tb:TE):TE:=fun σ H Q=>ta σ H fun x H1=>tb σ H1 fun y H2=>r x y H2 Q
def tUn (r:V→Hp→VK→Prop) (ta:TE):TE:=fun σ H Q=>ta σ H fun x H1=>r x H1 Q
def rI (C:Int→Int→Prop) (g:Int→Int→V):R2:=fun x y H Q=>∃ i j,x = .int i∧y = .int j∧C i j∧Q (g i j) H
def rI0 (g:Int→Int→V):R2:=fun x y H Q=>∃ i j,x = .int i∧y = .int j∧Q (g i j) H
def rU (g:Int→V):V→Hp→VK→Prop:=fun x H Q=>∃ i,x = .int i∧Q (g i) H
section
variable {X:Cx} {a b c:Expr} {ta tb tc:TE} {pos:Pos}
theorem alx (ha:PE X a ta) (hb:PE X b tb) {pins:List (Addr × Obj)} {s:Shared} {σ:St} {H:Hp} {R:V→V→Hp→Prop} (I:Inv X pins σ H s)
  (h:ta σ H fun x H1=>tb σ H1 fun y H2=>R x y H2) {Q:Value→Shared→Prop} {f:Value→Value→Sem Value}
  (hf:∀ v u s2 x y H2,Inv X pins σ H2 s2→RelV x v→RelV y u→R x y H2→wpAny (model X.prog X.w) X.A (f v u) Q X.xe s2) :
  wpAny (model X.prog X.w) X.A (eval a X.env) (fun v s₁=>wpAny (model X.prog X.w) X.A (eval b X.env) (fun u s₂=>wpAny (model X.prog X.w) X.A (f v u) Q X.xe s₂) X.xe s₁) X.xe s:=by
 refine thn (ha pins s σ H _ I h) fun v s1 ⟨x,H1,I1,r1,q1⟩=>?_
 refine thn (hb pins s1 σ H1 _ I1 q1) fun u s2 ⟨y,H2,I2,r2,q2⟩=>?_
 exact hf v u s2 x y H2 I2 r1 r2 q2
theorem aly {op:Operator} {r:R2} (ho:OpR X (binaryOp op) r) (ha:PE X a ta) (hb:PE X b tb):PE X (.BinOp a op b pos) (tOp r ta tb):=by
 intro pins s σ H Q I h
 exact wpAny_BinOp (alx ha hb I h fun v u s2 x y H2 I2 rx ry q=>ho pins s2 σ H2 x y v u Q I2 rx ry q)
theorem alz {op:UnaryOp} {r:V→Hp→VK→Prop} (ho:UnR X (unaryOp op) r) (ha:PE X a ta):PE X (.UnaryOp op a pos) (tUn r ta):=by
 intro pins s σ H Q I h
 exact UnaryOp_ (thn (ha pins s σ H _ I h) fun v s1 ⟨x,H1,I1,r1,q1⟩=>ho pins s1 σ H1 x v Q I1 r1 q1)
theorem opI {f:Value→Value→Sem Value} {C:Int→Int→Prop} {g:Int→Int→Int}
  (rule:∀ (i j:Int) (t u:Tok) (s:Shared) (Q:Value→Shared→Prop) (E:Value→Shared→Prop),C i j→Q (.int (g i j) s.toks) { s with toks:=s.toks+1 }→wpAny (model X.prog X.w) X.A (f (.int i t) (.int j u)) Q E s) :
  OpR X f (rI C fun i j=>.int (g i j)):=by
 intro pins s σ H x y v u Q I rx ry h
 obtain ⟨i,j,rfl,rfl,hc,q⟩:=h
 obtain ⟨t,rfl⟩:=rx
 obtain ⟨t',rfl⟩:=ry
 exact rule i j t t' s _ _ hc ⟨.int (g i j),H,I.tok _,⟨_,rfl⟩,q⟩
theorem am0 {f:Value→Value→Sem Value} {g:Int→Int→Int}
  (rule:∀ (i j:Int) (t u:Tok) (s:Shared) (Q:Value→Shared→Prop) (E:Value→Shared→Prop),Q (.int (g i j) s.toks) { s with toks:=s.toks+1 }→wpAny (model X.prog X.w) X.A (f (.int i t) (.int j u)) Q E s) :
  OpR X f (rI0 fun i j=>.int (g i j)):=by
 intro pins s σ H x y v u Q I rx ry h
 obtain ⟨i,j,rfl,rfl,q⟩:=h
 obtain ⟨t,rfl⟩:=rx
 obtain ⟨t',rfl⟩:=ry
 exact rule i j t t' s _ _ ⟨.int (g i j),H,I.tok _,⟨_,rfl⟩,q⟩
theorem al4 {f:Value→Value→Sem Value} {g:Int→Int→Bool}
  (rule:∀ (i j:Int) (t u:Tok) (s:Shared) (Q:Value→Shared→Prop) (E:Value→Shared→Prop),Q (.bool (g i j)) s→wpAny (model X.prog X.w) X.A (f (.int i t) (.int j u)) Q E s) :
  OpR X f (rI0 fun i j=>.bl (g i j)):=by
 intro pins s σ H x y v u Q I rx ry h
 obtain ⟨i,j,rfl,rfl,q⟩:=h
 obtain ⟨t,rfl⟩:=rx
 obtain ⟨t',rfl⟩:=ry
 exact rule i j t t' s _ _ ⟨.bl (g i j),H,I,rfl,q⟩
def am1 (i j:Int):Prop:=0<j∧j<1073741824
def amz (i j:Int):Prop:=0≤j∧j≤1000000∧i.natAbs<2 ^ 64
def CMul (i j:Int):Prop:=(-(2 ^ 64)<i∧i<2 ^ 64)∨(-(2 ^ 64)<j∧j<2 ^ 64)
theorem CMul.ok {i j:Int} (h:CMul i j):IntMulOk i j:=by
 rcases h with ⟨h1,h2⟩ | ⟨h1,h2⟩
 ·exact .of_left (intBits_le_64 h1 h2)
 ·exact .of_right (intBits_le_64 h1 h2)
theorem aic:OpR X (binaryOp .Add) (rI0 fun i j=>.int (i+j)):=am0 fun _ _ _ _ _ _ _ q=>add_int q
theorem aid:OpR X (binaryOp .Sub) (rI0 fun i j=>.int (i - j)):=am0 fun _ _ _ _ _ _ _ q=>sub_int q
theorem aie:OpR X (binaryOp .Mult) (rI CMul fun i j=>.int (i*j)):=opI fun _ _ _ _ _ _ _ hc q=>mul_int q hc.ok
theorem afp:OpR X (binaryOp .FloorDiv) (rI am1 fun i j=>.int (i / j)):=opI fun i j _ _ _ _ _ hc q=>by
 have h1:(0:Int)<j:=hc.1
 have h2:j<1073741824:=hc.2
 exact floordiv_int (by omega) (by rw [Int.fdiv_eq_ediv_of_nonneg i (by omega)];exact q) (.inl (PyProof.noPylong_small (by omega)))
theorem aif:OpR X (binaryOp .Mod) (rI (fun _ j=>0<j) fun i j=>.int (i % j)):=opI fun i j _ _ _ _ _ hc q=>by
 have h1:(0:Int)<j:=hc
 exact mod_int' (by omega) (by rw [Int.fmod_eq_emod_of_nonneg i (by omega)];exact q)
theorem aig:OpR X (binaryOp .Pow) (rI amz fun i j=>.int (i ^ j.toNat)):=opI fun _ _ _ _ _ _ _ hc q=>pow_int_small hc.1 hc.2.1 hc.2.2 q
theorem a4n:OpR X (inplaceOp .Add) (rI0 fun i j=>.int (i+j)):=am0 fun _ _ _ _ _ _ _ q=>iadd_int q
theorem acs:OpR X (inplaceOp .FloorDiv) (rI am1 fun i j=>.int (i / j)):=opI fun i j _ _ _ _ _ hc q=>by
 have h1:(0:Int)<j:=hc.1
 have h2:j<1073741824:=hc.2
 exact ifloordiv_int (by omega) (by rw [Int.fdiv_eq_ediv_of_nonneg i (by omega)];exact q) (.inl (PyProof.noPylong_small (by omega)))
theorem unI {f:Value→Sem Value} {g:Int→Int}
  (rule:∀ (i:Int) (t:Tok) (s:Shared) (Q:Value→Shared→Prop) (E:Value→Shared→Prop),Q (.int (g i) s.toks) { s with toks:=s.toks+1 }→wpAny (model X.prog X.w) X.A (f (.int i t)) Q E s) :
  UnR X f (rU fun i=>.int (g i)):=by
 intro pins s σ H x v Q I rx h
 obtain ⟨i,rfl,q⟩:=h
 obtain ⟨t,rfl⟩:=rx
 exact rule i t s _ _ ⟨.int (g i),H,I.tok _,⟨_,rfl⟩,q⟩
theorem aih:UnR X (unaryOp .USub) (rU fun i=>.int (-i)):=unI fun _ _ _ _ _ q=>neg_int q
end
section
variable {X:Cx} {a b c:Expr} {ta tb tc:TE} {pos:Pos}
theorem a5s {pins:List (Addr × Obj)} {σ:St} {H:Hp} {s:Shared} {Q:VK} {k k':Bool} (I:Inv X pins σ H s) (q:Q (.bl k) H) (e:k=k'):EP X pins σ Q (.bool k') s:=by
 subst e
 exact ⟨.bl k,H,I,rfl,q⟩
theorem a3s:OpR X (compareOp .Lt) (rI0 fun i j=>.bl (decide (i<j))):=al4 fun _ _ _ _ _ _ _ q=>lt_int q
theorem a8s:OpR X (compareOp .LtE) (rI0 fun i j=>.bl (decide (i≤j))):=al4 fun _ _ _ _ _ _ _ q=>le_int q
theorem acu:OpR X (compareOp .Gt) (rI0 fun i j=>.bl (decide (j<i))):=al4 fun _ _ _ _ _ _ _ q=>gt_int q
theorem a2v:OpR X (compareOp .GtE) (rI0 fun i j=>.bl (decide (j≤i))):=al4 fun _ _ _ _ _ _ _ q=>ge_int q
theorem m9:OpR X (compareOp .Lt) (fun x y H Q=>∃ i j,x = .str i∧y = .str j∧Q (.bl (decide (i.cps.toList<j.cps.toList))) H):=by
 intro pins s σ H x y v u Q I rx ry h
 obtain ⟨i,j,rfl,rfl,q⟩:=h
 obtain ⟨t,rfl⟩:=rx
 obtain ⟨t',rfl⟩:=ry
 exact lt_str (a5s I q rfl)
theorem a9z:OpR X (compareOp .Is) (fun x y H Q=>y = .non∧Q (.bl (decide (x = .non))) H):=by
 intro pins s σ H x y v u Q I rx ry h
 obtain ⟨rfl,q⟩:=h
 cases ry
 refine is_none_gen (a5s I q ?_)
 cases x<;>first
  | (cases rx;rfl)
  | (obtain ⟨t,rfl⟩:=rx;rfl)
theorem a5t:OpR X (compareOp .NotIn) (fun x y H Q=>∃ i j,x = .str i∧y = .str j∧Q (.bl (!(!(Builtin.Str.occurrences j i 0 j.length 1).isEmpty))) H):=by
 intro pins s σ H x y v u Q I rx ry h
 obtain ⟨i,j,rfl,rfl,q⟩:=h
 obtain ⟨t,rfl⟩:=rx
 obtain ⟨t',rfl⟩:=ry
 exact notIn_str (a5s I q rfl)
theorem OpR.or {f:Value→Value→Sem Value} {r r':R2} (h:OpR X f r) (h':OpR X f r'):OpR X f (fun x y H Q=>r x y H Q∨r' x y H Q):=by
 intro pins s σ H x y v u Q I rx ry q
 rcases q with q | q
 ·exact h pins s σ H x y v u Q I rx ry q
 ·exact h' pins s σ H x y v u Q I rx ry q
theorem gk (b:Expr) {op:CmpOp} (h:op≠.In:=by decide) (h2:op≠.NotIn:=by decide):behindInMarks op b=false:=by
 have e1:(op == CmpOp.In)=false:=by cases op<;>first | rfl | exact absurd rfl h
 have e2:(op == CmpOp.NotIn)=false:=by cases op<;>first | rfl | exact absurd rfl h2
 cases b<;>simp [behindInMarks,e1,e2]
theorem afq {op:CmpOp} {r:R2} (ho:OpR X (compareOp op) r) (ha:PE X a ta) (hb:PE X b tb) (hm:behindInMarks op b=false):PE X (.Compare a [op] [b] pos) (tOp r ta tb):=by
 intro pins s σ H Q I h
 exact wpAny_Compare1 (alx ha hb I h fun v u s2 x y H2 I2 rx ry q=>ho pins s2 σ H2 x y v u Q I2 rx ry q) hm
def afr (t:TE):TT:=fun σ H Q=>t σ H fun x H'=>∃ k,x = .bl k∧Q k H'
theorem afs {op:CmpOp} {r:R2} (ho:OpR X (compareOp op) r) (ha:PE X a ta) (hb:PE X b tb) (hm:behindInMarks op b=false):PT X (.Compare a [op] [b] pos) (afr (tOp r ta tb)):=by
 intro pins s σ H Q I h
 refine wpAny_isTrue_Compare1 (thn (ha pins s σ H _ I h) fun v s1 ⟨x,H1,I1,r1,q1⟩=>thn (hb pins s1 σ H1 _ I1 q1) fun u s2 ⟨y,H2,I2,r2,q2⟩ =>
  thn (ho pins s2 σ H2 x y v u _ I2 r1 r2 q2) fun c s3 ⟨z,H3,I3,r3,k,e,q3⟩=>?_) hm
 subst e
 cases r3
 exact wpAny_truthy_bool ⟨H3,I3,q3⟩
def aa0 (r r':R2) (ta tb tc:TE):TE:=fun σ H Q=>ta σ H fun x H1=>tb σ H1 fun y H2=>r x y H2 fun z H3=>∃ k,z = .bl k ∧
 (if k=true then tc σ H3 fun w' H4=>r' y w' H4 Q else Q (.bl false) H3)
theorem acv {op op':CmpOp} {r r':R2} (ho:OpR X (compareOp op) r) (ho':OpR X (compareOp op') r') (ha:PE X a ta) (hb:PE X b tb) (hc:PE X c tc)
  (hm:lastMarks [op,op'] [b,c]=false:=by with_unfolding_all rfl):PE X (.Compare a [op,op'] [b,c] pos) (aa0 r r' ta tb tc):=by
 intro pins s σ H Q I h
 refine Compare_chain (thn (ha pins s σ H _ I h) fun v s1 ⟨x,H1,I1,r1,q1⟩=>chain_link (thn (hb pins s1 σ H1 _ I1 q1) fun u s2 ⟨y,H2,I2,r2,q2⟩ =>
  thn (ho pins s2 σ H2 x y v u _ I2 r1 r2 q2) fun d s3 ⟨z,H3,I3,r3,k,e,q3⟩=>?_)) hm
 subst e
 cases r3
 refine wpAny_truthy_bool ?_
 cases k with
 | false=>exact ite_ff ⟨.bl false,H3,I3,rfl,q3⟩
 | true=>exact ite_tt (chain_last (thn (hc pins s3 σ H3 _ I3 q3) fun w' s4 ⟨z',H4,I4,r4,q4⟩=>ho' pins s4 σ H4 y z' u w' Q I4 r2 r4 q4))
theorem acw {op op':CmpOp} {r r':R2} (ho:OpR X (compareOp op) r) (ho':OpR X (compareOp op') r') (ha:PE X a ta) (hb:PE X b tb) (hc:PE X c tc)
  (hm:lastMarks [op,op'] [b,c]=false:=by with_unfolding_all rfl):PT X (.Compare a [op,op'] [b,c] pos) (afr (aa0 r r' ta tb tc)):=by
 intro pins s σ H Q I h
 refine isTrue_chain (thn (ha pins s σ H _ I h) fun v s1 ⟨x,H1,I1,r1,q1⟩=>test_link (thn (hb pins s1 σ H1 _ I1 q1) fun u s2 ⟨y,H2,I2,r2,q2⟩ =>
  thn (ho pins s2 σ H2 x y v u _ I2 r1 r2 q2) fun d s3 ⟨z,H3,I3,r3,k,e,q3⟩=>?_)) hm
 subst e
 cases r3
 refine wpAny_truthy_bool ?_
 cases k with
 | false =>
  obtain ⟨k',e',q'⟩:=q3
  cases e'
  exact ite_ff ⟨H3,I3,q'⟩
 | true =>
  refine ite_tt (test_last (thn (hc pins s3 σ H3 _ I3 q3) fun w' s4 ⟨z',H4,I4,r4,q4⟩=>thn (ho' pins s4 σ H4 y z' u w' _ I4 r2 r4 q4) fun d' s5 ⟨z2,H5,I5,r5,k2,e2,q5⟩=>?_))
  subst e2
  cases r5
  exact wpAny_truthy_bool ⟨H5,I5,q5⟩
def am2 (K:PySem.W.Frag) (x:V) (H:Hp) (k:Bool):Prop :=
 match x with
 | .non=>k=false
 | .bl b=>k=b
 | .int i=>k=(i != 0)
 | .str y=>y.length≤sizeLine∧k=((y.length:Int) != 0)
 | .byt y=>y.size≤sizeLine∧k=((y.size:Int) != 0)
 | .ref p=>(∃ xs,SqL K H p xs∧k = !xs.isEmpty)∨(∃ xs,SqT K H p xs∧k = !xs.isEmpty)∨∃ kvs,H p=some (.dK kvs)∧k = !kvs.isEmpty
 | _=>False
theorem a8t {κ:Type} {kvs:List (κ × V)} {vs:List (κ × Value)} (r:KV kvs vs):(!vs.isEmpty) = !kvs.isEmpty:=by
 cases r<;>rfl
theorem a3x {xs:List V} {its:List Value} (r:Vals xs its):(!its.toArray.isEmpty) = !xs.isEmpty:=by
 cases r<;>simp
theorem a1u:(sizeLine:Nat)<2 ^ 63:=by rw [sizeLine_eq];decide
theorem aii:aoh X (fun x H Q=>∃ k,am2 X.K x H k∧Q k H):=by
 intro pins s σ H x v Q I rx h
 obtain ⟨k,e,q⟩:=h
 have hl:=a1u
 have hs:sizeLine=16777216:=sizeLine_eq
 cases x with
 | non =>
  cases rx
  have e':k=false:=e
  subst e'
  exact truthy_none ⟨H,I,q⟩
 | bl b =>
  cases rx
  have e':k=b:=e
  subst e'
  exact wpAny_truthy_bool ⟨H,I,q⟩
 | int i =>
  obtain ⟨t,rfl⟩:=rx
  have e':k=(i != 0):=e
  subst e'
  exact PySem.P.truthy_int ⟨H,I,q⟩
 | str y =>
  obtain ⟨t,rfl⟩:=rx
  obtain ⟨hy,e'⟩:y.length≤sizeLine∧k=((y.length:Int) != 0):=e
  subst e'
  exact PySem.P.truthy_str (by omega) ⟨H,I.tok _,q⟩
 | byt y =>
  obtain ⟨t,rfl⟩:=rx
  obtain ⟨hy,e'⟩:y.size≤sizeLine∧k=((y.size:Int) != 0):=e
  subst e'
  exact PySem.W.truthy_bytes (by omega) ⟨H,I.tok _,q⟩
 | ref p =>
  cases rx
  have e':(∃ xs,SqL X.K H p xs∧k = !xs.isEmpty)∨(∃ xs,SqT X.K H p xs∧k = !xs.isEmpty)∨∃ kvs,H p=some (.dK kvs)∧k = !kvs.isEmpty:=e
  rcases e' with ⟨xs,hx,e'⟩ | ⟨xs,hx,e'⟩ | ⟨kvs,hx,e'⟩
  ·subst e'
   obtain ⟨its,r,pl,hz⟩:=I.list hx
   have hlen:=r.length
   exact wpAny_truthy_list pl.isList (by simp only [List.size_toArray];omega) ⟨H,I.tok _,by rw [a3x r];exact q⟩
  ·subst e'
   obtain ⟨its,r,pl,hz⟩:=I.tuple hx
   have hlen:=r.length
   exact truthy_tuple pl (by simp only [List.size_toArray];omega) ⟨H,I.tok _,by rw [a3x r];exact q⟩
  ·subst e'
   obtain ⟨hz,hS,vs,r,m⟩:kvs.length≤sizeLine∧(p == sysModules)=false∧∃ vs,KV kvs vs∧s.heap.DictOf (a2u X.prog X.w) p vs:=I.hok p _ hx
   have hlen:kvs.length=vs.length:=Paired.length r
   exact wpAny_truthy_dict hS m (by omega) ⟨H,I.tok _,by rw [a8t r];exact q⟩
 | _=>exact (show False from e).elim
theorem acx (ha:PE X a ta) (he:∀ whole,isTrue a X.env whole=(do let v ← whole;standAt a.pos;holding [v] (truthy v))) :
  PT X a (fun σ H Q=>ta σ H fun x H'=>∃ k,am2 X.K x H' k∧Q k H'):=by
 intro pins s σ H Q I h
 exact isTrue_plain (thn (ha pins s σ H _ I h) fun v s1 ⟨x,H1,I1,r1,q1⟩=>aii pins s1 σ H1 x v Q I1 r1 q1) (he _)
theorem a8u:OpR X (binaryOp .Add) (fun x y H Q=>∃ i j,x = .str i∧y = .str j∧i.length+j.length≤sizeLine∧Q (.str (i++j)) H):=by
 intro pins s σ H x y v u Q I rx ry h
 obtain ⟨i,j,rfl,rfl,hz,q⟩:=h
 obtain ⟨t,rfl⟩:=rx
 obtain ⟨t',rfl⟩:=ry
 exact add_str (fun t' tk=>⟨.str (i++j),H,I.tok _,⟨_,rfl⟩,q⟩) hz
theorem xg:OpR X (inplaceOp .Add) (fun x y H Q=>∃ i j,x = .str i∧y = .str j∧i.length+j.length≤sizeLine∧Q (.str (i++j)) H):=by
 intro pins s σ H x y v u Q I rx ry h
 obtain ⟨i,j,rfl,rfl,hz,q⟩:=h
 obtain ⟨t,rfl⟩:=rx
 obtain ⟨t',rfl⟩:=ry
 exact iadd_str (fun t' tk=>⟨.str (i++j),H,I.tok _,⟨_,rfl⟩,q⟩) hz
theorem vals1 {x:V} {us:List Value} (r:Vals [x] us):∃ u,us=[u]∧RelV x u:=by
 cases r with
 | cons r1 r2=>cases r2;exact ⟨_,rfl,r1⟩
theorem vals2 {x y:V} {us:List Value} (r:Vals [x,y] us):∃ u w',us=[u,w']∧RelV x u∧RelV y w':=by
 cases r with
 | cons r1 r2 =>
  cases r2 with
  | cons r3 r4=>cases r4;exact ⟨_,_,rfl,r1,r3⟩
theorem acy:CallR X (.builtin "abs") (fun xs H Q=>∃ i,xs=[.int i]∧Q (.int (if i<0 then -i else i)) H):=by
 intro pins s σ H xs us Q I r h
 obtain ⟨i,rfl,q⟩:=h
 obtain ⟨u,rfl,t,rfl⟩:=vals1 r
 exact call_abs_int fun u tk=>⟨.int (if i<0 then -i else i),H,I.tok _,⟨_,rfl⟩,q⟩
theorem a5u (hc:X.calm=true):CallR X (.builtin "max") (fun xs H Q=>∃ i j,xs=[.int i, .int j]∧Q (.int (if j > i then j else i)) H):=by
 intro pins s σ H xs us Q I r h
 obtain ⟨i,j,rfl,q⟩:=h
 obtain ⟨u,w',rfl,⟨t,rfl⟩,⟨t',rfl⟩⟩:=vals2 r
 refine max_two_ints (I.ok.hd hc) fun h' tk k=>⟨_,H,I.kept k,?_,q⟩
 by_cases hj:j > i
 ·rw [if_pos hj,if_pos hj];exact ⟨_,rfl⟩
 ·rw [if_neg hj,if_neg hj];exact ⟨_,rfl⟩
theorem aa1 (hc:X.calm=true):CallR X (.builtin "min") (fun xs H Q=>∃ i j,xs=[.int i, .int j]∧Q (.int (if j<i then j else i)) H):=by
 intro pins s σ H xs us Q I r h
 obtain ⟨i,j,rfl,q⟩:=h
 obtain ⟨u,w',rfl,⟨t,rfl⟩,⟨t',rfl⟩⟩:=vals2 r
 refine min_two_ints (I.ok.hd hc) fun h' tk k=>⟨_,H,I.kept k,?_,q⟩
 by_cases hj:j<i
 ·rw [if_pos hj,if_pos hj];exact ⟨_,rfl⟩
 ·rw [if_neg hj,if_neg hj];exact ⟨_,rfl⟩
theorem aa2:CallR X (.type "int") (fun xs H Q=>(∃ i,xs=[.int i]∧Q (.int i) H)∨∃ k,xs=[.bl k]∧Q (.int (if k then 1 else 0)) H):=by
 intro pins s σ H xs us Q I r h
 rcases h with ⟨i,rfl,q⟩ | ⟨k,rfl,q⟩
 ·obtain ⟨u,rfl,t,rfl⟩:=vals1 r
  exact call_int_int ⟨.int i,H,I,⟨_,rfl⟩,q⟩
 ·obtain ⟨u,rfl,r1⟩:=vals1 r
  cases r1
  exact call_int_bool ⟨.int (if k then 1 else 0),H,I.tok _,⟨_,rfl⟩,q⟩
end
end L2
namespace L2
open PySem PySem.Spec PyProof.Rows
structure ObjM (h:Heap) (x dx C:Addr) (mA:Str→Option Value):Prop where
 obj:h.get? x=some (PySem.W.instObj C dx)
 ns:h.Ns1 dx mA
 ne:dx≠x
theorem aa3 {h:Heap} {dx:Addr} {mA:Str→Option Value} (n:h.Ns1 dx mA):∃ od,h.get? dx=some od∧∀ name,PySem.W.lookIn name od=some (mA name):=by
 obtain ⟨o,es,ep,ho,hd,hk,_,hm⟩:=n
 refine ⟨o,ho,fun name=>?_⟩
 have e:=hm name
 unfold nsFind findBy at e
 rw [← Array.find?_toList] at e
 unfold PySem.W.lookIn
 rw [hd]
 dsimp only
 split
 ·rename_i y q
  rw [q] at e
  exact congrArg some e
 ·rename_i q
  rw [q] at e
  have a:es.toList.any (·.refKey)=false:=by
   rw [List.any_eq_false]
   intro y hy
   obtain ⟨z,t,hkey⟩:=hk y (Array.mem_toList_iff.mp hy)
   simp [DictEntry.refKey,hkey]
  have a':¬ es.toList.any (·.refKey)=true:=by rw [a];exact Bool.false_ne_true
  rw [if_neg a']
  exact congrArg some e
theorem ObjM.look {h:Heap} {x dx C:Addr} {mA:Str→Option Value} (I:ObjM h x dx C mA):∃ od,PySem.W.InstAt h x (PySem.W.instObj C dx) C (some od)∧∀ name,PySem.W.lookIn name od=some (mA name) :=
 let ⟨od,ho,hl⟩:=aa3 I.ns
 ⟨od,⟨I.obj,rfl,rfl,ho⟩,hl⟩
section
variable {P:Program} {w:World} {H H':Hp} {h h':Heap} {a C dx:Addr} {fs fs':List (Str × V)}
theorem aft (hok:HOk P w H h) (e:H a=some (.ins C dx fs)):∃ mA,ObjM h a dx C mA∧(∀ f,RelO (fs.lookup f) (mA f))∧PySem.Within mA (fs.map (·.1))∧fs.length≤1000∧H dx=some (.own a):=by
 obtain ⟨d,z,ne,ob,mA,n,r,q⟩:=(show ObjOk P w H h a (.ins C dx fs) from hok a _ e)
 exact ⟨mA,⟨ob,n,ne⟩,r,q,z,d⟩
end
structure Cls (K:PySem.W.Frag) (C:Addr):Prop where
 pg:PySem.W.plainGet K C Str.empty=true
 hd:PySem.W.hasDictIn K C=true
 po:PySem.W.plainOver K C=true
 sa:PySem.W.findIn K (.ref C) "__setattr__" = some (some (.builtin "object.__setattr__"))
theorem Cls.get {K:PySem.W.Frag} {C:Addr} (c:Cls K C) (f:Str):PySem.W.plainGet K C f=true:=c.pg
section
variable {X:Cx} {pins:List (Addr × Obj)} {σ:St} {H:Hp} {s:Shared} {A:Around} {E:Value→Shared→Prop} {Q:Value→Shared→Prop} {c:Value} {b:Bool}
inductive TyOf (K:PySem.W.Frag) (H:Hp):V→Value→Prop where
 | non:TyOf K H .non (.type "NoneType")
 | bl (x:Bool):TyOf K H (.bl x) (.type "bool")
 | int (i:Int):TyOf K H (.int i) (.type "int")
 | str (x:Str):TyOf K H (.str x) (.type "str")
 | flt (x:UInt64):TyOf K H (.flt x) (.type "float")
 | lst {a:Addr} {xs:List V} (e:H a=some (.lst xs)):TyOf K H (.ref a) (.type "list")
 | frz {a:Addr} {o:Obj} {xs:List V} (e:H a=some (.frz o (.lst xs))):TyOf K H (.ref a) (.type "list")
 | tup {a:Addr} {xs:List V} (e:H a=some (.tup xs)):TyOf K H (.ref a) (.type "tuple")
 | dK {a:Addr} {kvs:List (Key × V)} (e:H a=some (.dK kvs)):TyOf K H (.ref a) (.type "dict")
 | dT {a:Addr} {kvs:List (List Key × V)} (e:H a=some (.dT kvs)):TyOf K H (.ref a) (.type "dict")
 | ins {a C dx:Addr} {fs:List (Str × V)} (e:H a=some (.ins C dx fs)) (cl:Cls K C) (ha:PySem.W.findIn K (.ref C) "__class__" = some (some (.builtin "object.__class__")))
   (hn:PySem.W.specialIn K (.builtin "object.__class__") "__get__" = some (some (.builtin "getset_descriptor.__get__"))) (htk:PySem.W.takesIn K (.builtin "object.__class__")=some true)
   (hm:PySem.W.mroIn K C (.type "object")=some true):TyOf K H (.ref a) (.ref C)
theorem aa4 {x:V} {u t:Value} (I:Inv X pins σ H s) (rx:RelV x u) (ty:TyOf X.K H x t) (e:PySem.W.kitOne X.K t c=some b) (h:∀ tk,Q (.bool b) { s with toks:=tk }) :
  wpAny (model X.prog X.w) A (call (.builtin "isinstance") [u,c]) Q E s:=by
 cases ty with
 | non=>cases (show u=Value.none from rx);exact PySem.W.kia_one PySem.W.kitx_none I.kIn True.intro e (fun z=>nomatch z) h
 | bl y=>cases (show u=Value.bool y from rx);exact PySem.W.kia_one PySem.W.kitx_bool I.kIn True.intro e (fun z=>nomatch z) h
 | int i=>obtain ⟨t,q⟩:=(show ∃ t,u=Value.int i t from rx);cases q;exact PySem.W.kia_one PySem.W.kitx_int I.kIn True.intro e (fun z=>nomatch z) h
 | str y=>obtain ⟨t,q⟩:=(show ∃ t,u=Value.str y t from rx);cases q;exact PySem.W.kia_one PySem.W.kitx_str I.kIn True.intro e (fun z=>nomatch z) h
 | flt y=>obtain ⟨t,q⟩:=(show ∃ t,u=Value.float y t from rx);cases q;exact PySem.W.kia_one PySem.W.kitx_float I.kIn True.intro e (fun z=>nomatch z) h
 | @lst a xs ea =>
  cases (show u=Value.ref a from rx)
  obtain ⟨_,_,n,_,h1⟩:=(show ObjOk X.prog X.w H s.heap a (.lst xs) from I.hok a _ ea)
  exact PySem.W.kia_one PySem.W.kitx_list I.kIn ⟨_,h1,rfl⟩ e (fun z=>nomatch z) h
 | @frz a ob xs ea =>
  cases (show u=Value.ref a from rx)
  obtain ⟨_,_,_,n,_,h1⟩:=(show ObjOk X.prog X.w H s.heap a (.frz ob (.lst xs)) from I.hok a _ ea)
  exact PySem.W.kia_one PySem.W.kitx_list I.kIn ⟨_,h1,rfl⟩ e (fun z=>nomatch z) h
 | @tup a xs ea =>
  cases (show u=Value.ref a from rx)
  obtain ⟨_,_,_,p⟩:=(show ObjOk X.prog X.w H s.heap a (.tup xs) from I.hok a _ ea)
  obtain ⟨o,h1,h2,_⟩:=p
  exact PySem.W.kia_one PySem.W.kitx_tuple I.kIn ⟨o,h1,h2⟩ e (fun z=>nomatch z) h
 | @dK a kvs ea =>
  cases (show u=Value.ref a from rx)
  obtain ⟨_,_,vs,_,p⟩:=(show ObjOk X.prog X.w H s.heap a (.dK kvs) from I.hok a _ ea)
  obtain ⟨o,es,ep,h1,h2,_⟩:=p
  exact PySem.W.kia_one PySem.W.kitx_dict I.kIn ⟨o,h1,h2.1⟩ e (fun z=>nomatch z) h
 | @dT a kvs ea =>
  cases (show u=Value.ref a from rx)
  obtain ⟨_,_,xs,_,o,es,ep,h1,h2,_⟩:=(show ObjOk X.prog X.w H s.heap a (.dT kvs) from I.hok a _ ea)
  exact PySem.W.kia_one PySem.W.kitx_dict I.kIn ⟨o,h1,h2.1⟩ e (fun z=>nomatch z) h
 | @ins a C dx fs ea cl ha hn htk hm =>
  cases (show u=Value.ref a from rx)
  obtain ⟨mA,O,_⟩:=aft I.hok ea
  obtain ⟨od,J,_⟩:=O.look
  exact PySem.W.kia_one (PySem.W.kitx_own (cl.get _) cl.hd ha hn htk hm) I.kIn J e (fun z=>nomatch z) h
end
end L2
namespace L2
open PySem PySem.Spec PyProof.Rows
structure Room (k:Nat) (A:Around):Prop where
 hd:A.handled=none
 dp:A.depth+3*k+5<recursionLimit
 un:A.units+16*k+200<cLine
 gd:A.guards=some []
theorem Room.mono {j k:Nat} {A:Around} (r:Room k A) (h:j≤k):Room j A:=⟨r.hd,by have:=r.dp;omega,by have:=r.un;omega,r.gd⟩
theorem Room.deeper {k:Nat} {A:Around} (r:Room (k+1) A) (env:Env):Room k (A.deeper env) :=
 ⟨r.hd,by have:=r.dp;show A.depth+1+3*k+5<_;omega,by have:=r.un;show A.units+3+16*k+200<_;omega,r.gd⟩
theorem Room.depth {k:Nat} {A:Around} (r:Room k A):A.depth<recursionLimit:=by have:=r.dp;omega
theorem Room.units {k:Nat} {A:Around} (r:Room k A):A.units+64<cLine:=by have:=r.un;omega
def an0:TA:=fun _ H Q=>Q [] H
def am3 (ta:TE) (tr:TA):TA:=fun σ H Q=>ta σ H fun x H1=>tr σ H1 fun xs H2=>Q (x::xs) H2
section
variable {X:Cx} {e:Expr} {es:List Expr} {te:TE} {t:TA} {pos:Pos}
theorem aij:PA X [] an0:=fun _ _ _ _ H Q I h=>Calls.spliced_nil ⟨[],H,I, .nil,h⟩
theorem afu (ha:PE X e te) (hr:PA X es t) (hs:starEach (e::es) X.env=(false,eval e X.env)::starEach es X.env:=by rfl):PA X (e::es) (am3 te t):=by
 intro pos pins s σ H Q I h
 rw [hs]
 show wpAny _ _ (spliced ((false,eval e X.env)::backTo pos (starEach es X.env))) _ _ s
 refine Calls.spliced_cons (thn (ha pins s σ H _ I h) fun u s1 ⟨x,H1,I1,r1,q1⟩=>?_)
 exact thn (hr pos pins s1 σ H1 _ I1 q1) fun us s2 ⟨xs,H2,I2,r2,q2⟩=>⟨x::xs,H2,I2, .cons r1 r2,q2⟩
def aoi (t:TA):TE:=fun σ H Q=>t σ H fun xs H1=>xs.length≤sizeLine∧∀ p,H1 p=none→Q (.ref p) (upd H1 p (.tup xs))
def aoj (t:TA):TE:=fun σ H Q=>t σ H fun xs H1=>xs.length≤sizeLine∧∀ p,H1 p=none→Q (.ref p) (upd H1 p (.lst xs))
theorem aik {x1} (h:PA X es t):PE X (.Tuple es x1 pos) (aoi t):=by
 intro pins s σ H Q I hq
 refine wpAny_Tuple_spliced (thn (h pos pins s σ H _ I hq) fun us s1 ⟨xs,H1,I1,r,z,q⟩=>⟨by rw [← r.length];exact z,?_⟩)
 have hf:H1 s1.heap.objs.size=none:=I1.hok.fresh (Nat.le_refl _)
 refine ⟨.ref s1.heap.objs.size,upd H1 s1.heap.objs.size (.tup xs),I1.laid (t':=s1.toks) (fun b u e=>Heap.get?_push_of_some _ e) (Nat.le_refl _) ?_,rfl,q _ hf⟩
 exact ⟨z,us,r,⟨_,Heap.get?_push_size _ rfl,rfl,_,rfl⟩⟩
theorem ail (h:PA X es t):PE X (.List es pos) (aoj t):=by
 intro pins s σ H Q I hq
 refine wpAny_List_spliced (thn (h pos pins s σ H _ I hq) fun us s1 ⟨xs,H1,I1,r,z,q⟩=>⟨by rw [← r.length];exact z,?_⟩)
 have hf:H1 s1.heap.objs.size=none:=I1.hok.fresh (Nat.le_refl _)
 refine ⟨.ref s1.heap.objs.size,upd H1 s1.heap.objs.size (.lst xs),I1.laid (t':=s1.toks) (fun b u e=>Heap.get?_push_of_some _ e) (Nat.le_refl _) ?_,rfl,q _ hf⟩
 exact ⟨z,us,0,r,Heap.get?_push_size _ rfl⟩
end
abbrev Sp:=List V→Hp→VK→XK→Prop
abbrev CXT:=List Env→Hp→Shared→XK→Value→Shared→Prop
structure Env0 (P:Program) (w:World) (K:PySem.W.Frag) (mg:Str→Option Value) (base:Heap) (A:Around) (outer:List Env) (s:Shared) (H:Hp):Prop where
 frames:A.frames=some outer
 mod:Mod K mg base
 bs:∀ b o,base.get? b=some o→s.heap.get? b=some o∧H b=none
 bsz:base.objs.size≤s.heap.objs.size
 funs:s.heap.FunFrames base outer
 frf:∀ b∈frs outer,H b=none
 hok:HOk P w H s.heap
 bare:AllBare s.gens
def CE (outer:List Env) (P:Program) (w:World) (H:Hp) (s:Shared) (Q:VK) (u:Value) (s':Shared):Prop :=
 ∃ v H',s'.os=s.os∧AllBare s'.gens∧Un (frs outer) [] H H' s.heap s'.heap∧HOk P w H' s'.heap∧RelV v u∧Q v H'
def CR (CX:CXT) (outer:List Env) (P:Program) (w:World) (H:Hp) (s:Shared) (Q:VK) (E:XK) (r:Result) (s':Shared):Prop :=
 match r with
 | .ok (.ret u)=>CE outer P w H s Q u s'
 | .ok _=>False
 | .error e=>CX outer H s E e s'
structure FnOk (P:Program) (w:World) (K:PySem.W.Frag) (mg:Str→Option Value) (base:Heap) (CX:CXT) (k:Nat) (f:Addr) (fd:FuncData) (ps:List Str) (sp:Sp):Prop where
 len:∀ vs H Q E,sp vs H Q E→vs.length=ps.length
 run:∀ (A:Around) (outer:List Env) (s:Shared) (H:Hp) (args:Args) (us:List Value) (vs:List V) (Q:VK) (E:XK),Room k A→Env0 P w K mg base A outer s H→BindsTo s fd args (ps.zip us)→Vals vs us→sp vs H Q E →
  codeAny (model P w) A (.call (.ref f) args) (CR CX outer P w H s Q E) s
theorem FnOk.imp {P:Program} {w:World} {K:PySem.W.Frag} {mg:Str→Option Value} {base:Heap} {CX:CXT} {k:Nat} {f:Addr} {fd:FuncData} {ps:List Str} {sp sp':Sp} (F:FnOk P w K mg base CX k f fd ps sp)
  (h:∀ vs H Q E,sp' vs H Q E→sp vs H Q E):FnOk P w K mg base CX k f fd ps sp' :=
 ⟨fun vs H Q E q=>F.len vs H Q E (h _ _ _ _ q),fun A outer s H args us vs Q E hr he hb hv hs=>F.run A outer s H args us vs Q E hr he hb hv (h _ _ _ _ hs)⟩
section
variable {X:Cx} {pins:List (Addr × Obj)} {σ:St} {H:Hp} {s s':Shared}
theorem Inv.env0 (I:Inv X pins σ H s):Env0 X.prog X.w X.K X.mg X.base X.A X.stack s H :=
 ⟨I.ok.frames,I.ok.mod,I.bs,Nat.le_trans I.ok.bsz I.sz,I.stack,I.stkFree,I.hok,I.bare⟩
theorem Inv.after {Q:VK} {u:Value} (I:Inv X pins σ H s) (h:CE X.stack X.prog X.w H s Q u s'):EP X pins σ Q u s':=by
 obtain ⟨v,H',os,bare,un,hok,r,q⟩:=h
 obtain ⟨hh,g,d,t,os'⟩:=s'
 obtain rfl:os'=s.os:=os
 exact ⟨v,H',I.call (h':=hh) (g':=g) (d':=d) (t':=t) (ch:=[]) un hok bare (fun b z=>absurd z (by simp)),r,q⟩
end
def aim (sp:Sp) (dvs:List V) (E:XK) (t:TA):TE:=fun σ H Q=>t σ H fun vs H1=>sp (vs++dvs) H1 Q E
def Binds (K:PySem.W.Frag) (fd:FuncData) (ps:List Str) (ds:List Value):Prop :=
 ∀ (s:Shared) (us:List Value),K.In s.heap→(us++ds).length=ps.length→BindsTo s fd ⟨us,[]⟩ (ps.zip (us++ds))
theorem Binds.all {K:PySem.W.Frag} {fd:FuncData} {ps:List Str} (h:∀ us:List Value,us.length=ps.length→bindArgs fd ⟨us,[]⟩=pure (ps.zip us)):Binds K fd ps []:=fun s us _ hl=>by
 rw [List.append_nil] at hl ⊢
 exact .of_eq (h us hl)
def a7n (CX:CXT) (X:Cx) (E:XK):Prop:=∀ (pins:List (Addr × Obj)) (σ:St) (H:Hp) (s:Shared) (e:Value) (s':Shared),Inv X pins σ H s→CX X.stack H s E e s'→X.xe e s'
section
variable {X:Cx} {CX:CXT} {k:Nat} {f C:Addr} {fd:FuncData} {ps:List Str} {sp:Sp} {dvs:List V} {ds:List Value} {E:XK} {x m:Str} {p pos apos:Pos} {e o:Expr} {es:List Expr} {ta:TE} {t:TA}
theorem aep {pins:List (Addr × Obj)} {σ:St} {H:Hp} {s:Shared} {Q:VK} {us:List Value} {vs:List V} (F:FnOk X.prog X.w X.K X.mg X.base CX k f fd ps sp) (hr:Room k X.A) (hb:Binds X.K fd ps ds) (hd:Vals dvs ds) (hx:a7n CX X E)
  (I:Inv X pins σ H s) (r:Vals vs us) (h:sp (vs++dvs) H Q E):wpAny (model X.prog X.w) X.A (call (.ref f) us) (EP X pins σ Q) X.xe s:=by
 have r2:Vals (vs++dvs) (us++ds):=r.append hd
 have hl:(us++ds).length=ps.length:=by rw [← r2.length];exact F.len _ _ _ _ h
 refine wpAny_call (codeAny_mono (F.run X.A X.stack s H ⟨us,[]⟩ (us++ds) (vs++dvs) Q E hr I.env0 (hb s us I.kIn hl) r2 h) fun r s' hq=>?_)
 cases r with
 | error e=>exact hx pins σ H s e s' I hq
 | ok fl =>
  cases fl with
  | ret u=>exact I.after hq
  | next=>exact False.elim hq
  | brk=>exact False.elim hq
  | cont=>exact False.elim hq
theorem afv (F:FnOk X.prog X.w X.K X.mg X.base CX k f fd ps sp) (hr:Room k X.A) (hg:Gl X x) (hm:X.mg x=some (.ref f)) (hk:PySem.W.keepIn X.K (.ref f)=true) (hb:Binds X.K fd ps ds) (hd:Vals dvs ds) (hx:a7n CX X E)
  (ha:PA X (e::es) t) (hdb:(x == ("__debug__" : Str))=false:=by decide) (he:starEach (e::es) X.env=(false,eval e X.env)::starEach es X.env:=by rfl) (hpl:(backTo pos (starEach es X.env)).any (·.1)=false:=by rfl) :
  PE X (.Call (.Name x p) (e::es) [] pos) (aim sp dvs E t):=by
 intro pins s σ H Q I h
 refine wpAny_Call_Name_kw (a9t I hg hm ?_ hdb)
 refine PySem.W.callWith_K (h₀:=X.base) I.ok.mod.kin hk (thn (ha pos pins s σ H _ I h) fun us s1 ⟨vs,H1,I1,r,q⟩=>⟨I1.kIn,?_⟩) he hpl
 exact aep F hr hb hd hx I1 r q
theorem acz (F:FnOk X.prog X.w X.K X.mg X.base CX k f fd ps sp) (hr:Room k X.A) (hg:Gl X x) (hm:X.mg x=some (.ref f)) (hk:PySem.W.keepIn X.K (.ref f)=true) (hb:Binds X.K fd ps ds) (hd:Vals dvs ds) (hx:a7n CX X E)
  (hdb:(x == ("__debug__" : Str))=false:=by decide):PE X (.Call (.Name x p) [] [] pos) (aim sp dvs E an0):=by
 intro pins s σ H Q I h
 refine wpAny_Call_Name_kw (a9t I hg hm ?_ hdb)
 exact PySem.W.callWith_K0 I.kIn hk (aep (us:=[]) F hr hb hd hx I .nil h)
end
structure FnScope (N P:List Str) (sc:Scope):Prop where
 kind:sc.kind = .function
 co:sc.isCoroutine=false
 gen:sc.isGenerator=false
 nd:N.Nodup
 pre:N.take P.length=P
 par:∀ x∈P,sc.names.lookup x=some .local∨sc.names.lookup x=some .cell
 nofree:∀ y∈sc.names,y.2≠.free
theorem a5v {kindOf:Str→Option NameKind} {x:Str}:∀ {binds:List (Str × Value)} {m:Str→Option Value},(∀ v,(x,v) ∉ binds)→bindL kindOf binds m x=m x
 | [],_,_=>rfl
 | (n,v)::r,m,h=>by
  unfold bindL
  rw [a5v fun w hw=>h w (List.mem_cons_of_mem _ hw)]
  split
  ·have:x≠n:=by rintro rfl;exact h v List.mem_cons_self
   simp [this]
  ·rfl
theorem a5w {kindOf:Str→Option NameKind} {x:Str}:∀ {binds:List (Str × Value)} {m:Str→Option Value},(∀ v,(x,v) ∉ binds)→bindC kindOf binds m x=m x
 | [],_,_=>rfl
 | (n,v)::r,m,h=>by
  unfold bindC
  rw [a5w fun w hw=>h w (List.mem_cons_of_mem _ hw)]
  split
  ·rfl
  ·have:x≠n:=by rintro rfl;exact h v List.mem_cons_self
   simp [this]
theorem a5x {kindOf:Str→Option NameKind} {x:Str} {v:Value}:∀ {P:List Str} {vs:List Value} {i:Nat} {m:Str→Option Value},P.Nodup→P[i]? = some x→vs[i]? = some v→kindOf x=some .local →
  bindL kindOf (P.zip vs) m x=some v
 | [],_,_,_,_,h,_,_=>by simp at h
 | _::_,[],_,_,_,_,h,_=>by simp at h
 | p::P,w::vs,0,m,nd,h1,h2,hk=>by
  simp at h1 h2;subst h1;subst h2
  show bindL kindOf ((p,w)::P.zip vs) m p=_
  unfold bindL
  rw [a5v fun v hv=>(List.nodup_cons.mp nd).1 (List.of_mem_zip hv).1,if_pos hk]
  simp
 | p::P,w::vs,i+1,m,nd,h1,h2,hk=>by
  show bindL kindOf ((p,w)::P.zip vs) m x=_
  unfold bindL
  exact a5x (i:=i) (List.nodup_cons.mp nd).2 (by simpa using h1) (by simpa using h2) hk
theorem a5y {kindOf:Str→Option NameKind} {x:Str} {v:Value}:∀ {P:List Str} {vs:List Value} {i:Nat} {m:Str→Option Value},P.Nodup→P[i]? = some x→vs[i]? = some v→kindOf x≠some .local →
  bindC kindOf (P.zip vs) m x=some v
 | [],_,_,_,_,h,_,_=>by simp at h
 | _::_,[],_,_,_,_,h,_=>by simp at h
 | p::P,w::vs,0,m,nd,h1,h2,hk=>by
  simp at h1 h2;subst h1;subst h2
  show bindC kindOf ((p,w)::P.zip vs) m p=_
  unfold bindC
  rw [a5w fun v hv=>(List.nodup_cons.mp nd).1 (List.of_mem_zip hv).1,if_neg hk]
  simp
 | p::P,w::vs,i+1,m,nd,h1,h2,hk=>by
  show bindC kindOf ((p,w)::P.zip vs) m x=_
  unfold bindC
  exact a5y (i:=i) (List.nodup_cons.mp nd).2 (by simpa using h1) (by simpa using h2) hk
def start (N:List Str) (vs:List V):St:=vs.map some++List.replicate (N.length - vs.length) none
def a0r (CX:CXT) (P:Program) (w:World) (K:PySem.W.Frag) (mg:Str→Option Value) (base:Heap) (N:List Str) (qual:Str) (scope:Scope) (f:Addr) (cd:Value) (A:Around) (outer:List Env) (s:Shared) (H:Hp) (E:XK):Cx where
 prog:=P
 w:=w
 K:=K
 mg:=mg
 base:=base
 A:=A.deeper (envOfC qual scope s.heap.objs.size f cd)
 N:=N
 s₀:=s
 H₀:=H
 env:=envOfC qual scope s.heap.objs.size f cd
 outer:=outer
 stack:=envOfC qual scope s.heap.objs.size f cd::outer
 ex:=[]
 calm:=true
 fn:=fun _=>true
 pn:=[]
 xe:=fun e s'=>wpAny (model P w) (A.deeper (envOfC qual scope s.heap.objs.size f cd)) (leaving (envOfC qual scope s.heap.objs.size f cd) e) (fun _ s''=>CX outer H s E e s'') (fun e' s''=>CX outer H s E e' s'') s'
theorem a7o {sc:Scope} {n:Nat} {x:Str} (h:sc.names.lookup x=some .cell):∃ c,(cellsFrom n sc.names []).lookup x=some c:=by
 have q:=PySem.W.cellsFrom_some sc.names n [] (.inl h)
 exact Option.isSome_iff_exists.mp q
theorem aa5 {CX:CXT} {P:Program} {w:World} {K:PySem.W.Frag} {mg:Str→Option Value} {base:Heap} {N ps:List Str} {qual:Str} {scope:Scope} {f:Addr} {cd:Value} {A:Around} {outer:List Env} {s s1:Shared} {H:Hp} {E:XK} {us:List Value} {vs:List V}
  (S:FnScope N ps scope) (hd:A.handled=none) (e0:Env0 P w K mg base A outer s H) (hl:vs.length=ps.length) (r:Vals vs us)
  (x:InCallC s s.heap.objs.size (bindL (envOfC qual scope s.heap.objs.size f cd).kindOf (ps.zip us) fun _=>none) (cellsFrom (s.heap.objs.size+1) scope.names []) (bindC (envOfC qual scope s.heap.objs.size f cd).kindOf (ps.zip us) fun _=>none) s1) :
  Inv (a0r CX P w K mg base N qual scope f cd A outer s H E) [] (start N vs) H s1:=by
 have hpl:ps.length≤N.length:=by have:=congrArg List.length S.pre;rw [List.length_take] at this;omega
 obtain ⟨h1,tk,rfl,hk⟩:=x.done
 have noA:∀ b:Addr,b ∉ (a0r CX P w K mg base N qual scope f cd A outer s H E).ex:=fun b z=>absurd (show b∈([]:List Addr) from z) (by simp)
 refine ⟨⟨e0.mod,S.kind,rfl,rfl,Nat.le_refl _,fun y z c h1 h2=>?_,fun y hy=>?_,fun y c _ h=>?_,fun _=>hd,Around.frames_deeper e0.frames, .inr ⟨rfl,rfl⟩,fun b z=>absurd z (noA b),e0.bs,e0.bsz,fun b _ _=>noA b,fun b z=>absurd z (noA b),e0.funs,e0.frf⟩,
  rfl,e0.bare,Un.kept hk,⟨_,x.toInCall.ns,fun i y v h1 h2 h3=>?_⟩,fun y c h=>⟨_,x.cell y c h⟩,e0.hok.fresh (Nat.le_refl _),fun y c h=>?_,fun p hp=>absurd (show p∈([]:List (Addr × Obj)) from hp) (by simp),e0.hok.kept hk,?_⟩
 ·exact name_of_addr x.apart (PySem.mem_of_lookup h1) (PySem.mem_of_lookup h2)
 ·have hy:scope.names.lookup y=some .cell∨scope.names.lookup y=some .free:=hy
  rcases hy with hy | hy
  ·exact a7o hy
  ·exact absurd rfl (S.nofree _ (PySem.mem_of_lookup hy))
 ·exact Nat.le_of_lt (x.above y c (PySem.mem_of_lookup h))
 ·have hi:i<vs.length:=by
   unfold start at h2
   by_cases hi:i<vs.length
   ·exact hi
   ·rw [List.getElem?_append_right (by simpa using hi)] at h2
    rw [List.getElem?_replicate] at h2
    split at h2<;>cases h2
  have ha:vs[i]? = some v:=by
   unfold start at h2
   rw [List.getElem?_append_left (by simpa using hi),List.getElem?_map] at h2
   cases e:vs[i]? with
   | none=>rw [e] at h2;cases h2
   | some a=>rw [e] at h2;cases h2;rfl
  obtain ⟨u,hu,rv⟩:=r.get ha
  have hp:ps[i]? = some y:=by
   rw [← S.pre,List.getElem?_take_of_lt (by omega)];exact h1
  have ndP:ps.Nodup:=by rw [← S.pre];exact S.nd.sublist (List.take_sublist _ _)
  refine ⟨u,rv,?_⟩
  rcases S.par y (List.mem_of_getElem? hp) with k | k
  ·exact .inl ⟨k,a5x ndP hp hu k⟩
  ·obtain ⟨c,e⟩:=a7o (n:=s.heap.objs.size+1) k
   refine .inr ⟨.inl k,c,e,?_⟩
   have q:=x.cell y c e
   rw [a5y ndP hp hu (by show scope.names.lookup y≠_;rw [k];decide)] at q
   exact q
 ·exact e0.hok.fresh (Nat.le_of_lt (x.above y c (PySem.mem_of_lookup h)))
 ·unfold start
  show _=N.length
  rw [List.length_append,List.length_map,List.length_replicate]
  omega
theorem am4 {CX:CXT} {P:Program} {w:World} {K:PySem.W.Frag} {mg:Str→Option Value} {base:Heap} {k:Nat} {f:Addr} {name qual:Str} {params:Arguments} {body:List Stmt} {scope:Scope} {dV kV doc pm cdv ct oc:Value} {an od:Option Addr}
  {osl:Array (Option Value)} {N ps:List Str} {sp:Sp} (lk:K.lookup f=some ⟨oc,od, .func (PySem.W.fnOf name qual params body scope dV kV doc pm an cdv ct),osl⟩) (hcd:PySem.W.codeIn K cdv qual=true) (S:FnScope N ps scope)
  (len:∀ vs H Q E,sp vs H Q E→vs.length=ps.length)
  (hbody:∀ (A:Around) (outer:List Env) (s:Shared) (H:Hp) (vs:List V) (Q:VK) (E:XK),Room k (A.deeper (envOfC qual scope s.heap.objs.size f cdv))→sp vs H Q E →
   ∃ t,PSs (a0r CX P w K mg base N qual scope f cdv A outer s H E) body t∧t { nx:=fun _ H'=>Q .non H',rt:=Q } (start N vs) H) :
  FnOk P w K mg base CX (k+1) f (PySem.W.fnOf name qual params body scope dV kV doc pm an cdv ct) ps sp:=by
 refine ⟨len,fun A outer s H args us vs Q E hr e0 hb r hsp=>?_⟩
 have hl:=len _ _ _ _ hsp
 have KX:K.In s.heap:=e0.mod.kin.keeps fun b o e=>(e0.bs b o e).1
 have lim:s.heap.NoLimit:=e0.mod.nolimit.keeps fun b o e=>(e0.bs b o e).1
 have hkind:∀ y∈ps.zip us,scope.names.lookup y.1=some .local∨(scope.names.lookup y.1=some .cell∧((cellsFrom (s.heap.objs.size+1) scope.names []).lookup y.1).isSome=true):=fun ⟨n,v⟩ hy=>by
  rcases S.par n (List.of_mem_zip hy).1 with q | q
  ·exact .inl q
  ·exact .inr ⟨q,PySem.W.cellsFrom_some _ _ _ (.inl q)⟩
 refine codeAny_call_function hr.depth (KX _ _ lk) rfl S.co S.gen rfl (PySem.W.codeRec_of KX hcd) (hb _ _ _ _ ?_)
 refine wpAny_newFunctionEnv_cells S.kind hkind fun env he s1 x=>?_
 subst he
 refine ⟨lim.keeps x.toInCall.keep,codeAny_func ?_⟩
 obtain ⟨t,ht,hq⟩:=hbody A outer s H vs Q E (hr.deeper _) hsp
 have I:Inv (a0r CX P w K mg base N qual scope f cdv A outer s H E) [] (start N vs) H s1:=aa5 S hr.hd e0 hl r x
 refine wpAny_mono (ht [] s1 (start N vs) H _ I hq) (fun fl s' hs=>?_) fun e s' hs=>hs
 have fin:∀ {σ':St} {H':Hp} {v:V} {u:Value},Inv (a0r CX P w K mg base N qual scope f cdv A outer s H E) [] σ' H' s'→RelV v u→Q v H'→CE outer P w H s Q u s' :=
  fun {σ' H' v u} J rv q=>⟨v,H',J.os,J.bare,J.base,J.hok,rv,q⟩
 cases fl with
 | ret u =>
  obtain ⟨v,σ',H',J,rv,q⟩:=hs
  exact fin J rv q
 | next =>
  obtain ⟨σ',H',J,q⟩:=hs
  exact fin (v:=V.non) (u:=Value.none) J rfl q
 | brk =>
  obtain ⟨_,_,_,q⟩:=hs
  exact False.elim q
 | cont =>
  obtain ⟨_,_,_,q⟩:=hs
  exact False.elim q
end L2
namespace L2
open PySem PySem.Spec PyProof.Rows
section
variable {X:Cx} {x:Str} {p pos:Pos} {e:Expr} {es:List Expr} {t:TA} {id T:String} {r:List V→Hp→VK→Prop}
def tCB (r:List V→Hp→VK→Prop) (t:TA):TE:=fun σ H Q=>t σ H fun vs H1=>r vs H1 Q
theorem ad0 (hc:CallR X (.builtin id) r) (hg:Gl X x) (hm:X.mg x=none) (hv:bootBuiltins x=some (.builtin id)) (ha:PA X (e::es) t) (hn:x ≠ "__name__":=by decide) (hdb:(x == ("__debug__" : Str))=false:=by decide)
  (he:starEach (e::es) X.env=(false,eval e X.env)::starEach es X.env:=by rfl) (hpl:(backTo pos (starEach es X.env)).any (·.1)=false:=by rfl):PE X (.Call (.Name x p) (e::es) [] pos) (tCB r t):=by
 intro pins s σ H Q I h
 refine wpAny_Call_Name_kw (a5r I hg hm hv ?_ hn hdb)
 exact PyProof.Rows.callWith_builtin1 (thn (ha pos pins s σ H _ I h) fun us s1 ⟨vs,H1,I1,r1,q1⟩=>hc pins s1 σ H1 vs us Q I1 r1 q1) he hpl
theorem aa6 (hc:CallR X (.type T) r) (hg:Gl X x) (hm:X.mg x=none) (hv:bootBuiltins x=some (.type T)) (ha:PA X (e::es) t) (hn:x ≠ "__name__":=by decide) (hdb:(x == ("__debug__" : Str))=false:=by decide)
  (he:starEach (e::es) X.env=(false,eval e X.env)::starEach es X.env:=by rfl) (hpl:(backTo pos (starEach es X.env)).any (·.1)=false:=by rfl):PE X (.Call (.Name x p) (e::es) [] pos) (tCB r t):=by
 intro pins s σ H Q I h
 refine wpAny_Call_Name_kw (a5r I hg hm hv ?_ hn hdb)
 exact PyProof.Rows.callWith_type1 (thn (ha pos pins s σ H _ I h) fun us s1 ⟨vs,H1,I1,r1,q1⟩=>hc pins s1 σ H1 vs us Q I1 r1 q1) he hpl
end
end L2
namespace HT
open PySem PyProof.Rows
section
variable {prog:Program} {w:World} {A:Around} {E:Value→Shared→Prop} {s:Shared}
theorem afw {t b:Addr} {vs ws:List Value} {Q:Value→Shared→Prop} (ht:IsTup s.heap t vs.toArray) (hb:IsTup s.heap b ws.toArray) (hv:vs≠[])
  (h1:ws=[]→Q (.ref t) s) (h2:ws≠[]→Q (.ref s.heap.objs.size) { s with heap:=s.heap.push { cls:=.type "tuple",data:=.seq (vs++ws).toArray } })
  (hsz:vs.length+ws.length≤sizeLine):wpAny (model prog w) A (binaryOp .Add (.ref t) (.ref b)) Q E s:=by
 obtain ⟨⟨cls,dd,data,sl⟩,ho,hc,n,hd⟩:=id ht
 obtain ⟨⟨cls2,dd2,data2,sl2⟩,ho2,hc2,n2,hd2⟩:=id hb
 simp only at hc hd hc2 hd2
 subst hc hd hc2 hd2
 have e:vs.toArray++ws.toArray=(vs++ws).toArray:=by simp
 by_cases hw:ws=[]
 ·exact concat_meets ⟨_,ho,rfl⟩ ⟨_,ho2,rfl⟩ noFill_tuple_add seq_tuple_add PySem.F.slot_tuple_add PySem.F.entry_tuple_add (PySem.F.args_tuple_add_2 _ _)
   (tuple_addW1 t b vs.toArray ws.toArray n n2 dd dd2 sl sl2 (by simpa using hv) (by simp [hw])) ⟨ho,ho2,h1 hw⟩
 ·refine concat_meets ⟨_,ho,rfl⟩ ⟨_,ho2,rfl⟩ noFill_tuple_add seq_tuple_add PySem.F.slot_tuple_add PySem.F.entry_tuple_add (PySem.F.args_tuple_add_2 _ _)
   (tuple_addW2 t b vs.toArray ws.toArray n n2 dd dd2 sl sl2 (by simpa using hv) (by simpa using hw) (by rw [List.size_toArray,List.size_toArray];exact hsz)) ⟨ho,ho2,?_⟩
  rw [e]
  exact h2 hw
def sIx (n d:Nat):Option Int→Nat
 | none=>d
 | some v=>if v<0 then (v+(n:Int)).toNat else min v.toNat n
theorem a7p (n d:Nat):sIx n d none=d:=rfl
theorem aa7 (n d k:Nat):sIx n d (some (k:Int))=min k n:=by
 show (if (k:Int)<0 then ((k:Int)+(n:Int)).toNat else min (k:Int).toNat n)=min k n
 rw [if_neg (by omega),Int.toNat_natCast]
theorem aa8 (n d:Nat) (hd:d≤n) (o:Option Int):sIx n d o≤n:=by
 cases o with
 | none=>exact hd
 | some v =>
  show (if v<0 then (v+(n:Int)).toNat else min v.toNat n)≤n
  by_cases hv:v<0
  ·rw [if_pos hv];omega
  ·rw [if_neg hv];exact Nat.min_le_right _ _
theorem aa9 (v:Int) (n d:Nat):(if v<0 then max (v+(n:Int)) 0 else min v (n:Int))=((sIx n d (some v):Nat):Int):=by
 show (if v<0 then max (v+(n:Int)) 0 else min v (n:Int))=(((if v<0 then (v+(n:Int)).toNat else min v.toNat n):Nat):Int)
 by_cases hv:v<0
 ·simp only [if_pos hv];omega
 ·simp only [if_neg hv];omega
theorem a8v (lo hi:Option Int) (n:Nat):Builtin.Slice.sliceAdjust lo hi 1 (n:Int)=(((sIx n 0 lo:Nat):Int),((sIx n n hi:Nat):Int)):=by
 have h1:¬ ((1:Int)<0):=by omega
 unfold Builtin.Slice.sliceAdjust
 simp only [h1,if_false]
 refine Prod.ext ?_ ?_
 ·cases lo with
  | none=>rfl
  | some v=>exact aa9 v n 0
 ·cases hi with
  | none=>rfl
  | some v=>exact aa9 v n n
theorem a8w (i j:Nat):Builtin.Slice.slicePlaces (i:Int) (j:Int) 1=j - i:=by
 unfold Builtin.Slice.slicePlaces
 have h1:(1:Int) > 0:=by omega
 simp only [h1,if_true,Int.ediv_one]
 split<;>omega
theorem a3y {v:Value} {o:Option Int} {Q:Option Int→Shared→Prop} (p:IsPart v o) (h:Q o s):wpAny (model prog w) A (Builtin.Slice.slicePartIndex v) Q E s:=by
 cases p with
 | none=>exact slicePart_none h
 | int i t=>exact slicePart_int h
theorem yu {sl:Addr} {vl vu:Value} {lo hi:Option Int} {n:Nat} {Q:Int × Int × Nat→Shared→Prop} (hs:s.heap.IsSliceOf sl vl vu .none) (pl:IsPart vl lo) (pu:IsPart vu hi)
  (h:Q (((sIx n 0 lo:Nat):Int),1,sIx n n hi - sIx n 0 lo) s):wpAny (model prog w) A (Builtin.Slice.sliceApplied (.ref sl) (pure (n:Int))) Q E s:=by
 obtain ⟨os,hos,hcs,hds⟩:=id hs
 unfold Builtin.Slice.sliceApplied Builtin.Slice.sliceFields
 refine wpAny_bind (wpAny_bind (wpAny_field hos hds (x:=vl) rfl (wpAny_bind (wpAny_field hos hds (x:=vu) rfl (wpAny_bind (wpAny_field hos hds (x:=.none) rfl (wpAny_pure ?_)))))))
 refine wpAny_bind (slicePart_none ?_)
 show wpAny _ _ (if ((1:Int) == 0)=true then _ else _) _ _ s
 rw [if_neg (by decide)]
 refine wpAny_bind (a3y pl (wpAny_bind (a3y pu (wpAny_bind (wpAny_pure ?_)))))
 show wpAny _ _ (match Builtin.Slice.sliceAdjust lo hi 1 (n:Int) with | (lo,hi)=>pure (lo,(1:Int),Builtin.Slice.slicePlaces lo hi 1)) _ _ s
 rw [a8v lo hi n]
 show wpAny _ _ (pure (((sIx n 0 lo:Nat):Int),(1:Int),Builtin.Slice.slicePlaces ((sIx n 0 lo:Nat):Int) ((sIx n n hi:Nat):Int) 1)) _ _ s
 rw [a8w]
 exact wpAny_pure h
theorem ad1 (xs:Array Value) (i k:Nat):((List.range k).filterMap fun (m:Nat)=>xs[((i:Int)+(m:Int)*1).toNat]?).toArray=((xs.toList.drop i).take k).toArray:=by
 have e:(fun (m:Nat)=>xs[((i:Int)+(m:Int)*1).toNat]?)=fun m=>xs[i+m]?:=by
  funext m
  have:((i:Int)+(m:Int)*1).toNat=i+m:=by omega
  rw [this]
 rw [e]
 have:=pick_run xs i k
 rw [List.filterMap_map] at this
 have e2:((fun x=>xs[x]?) ∘ fun x=>i+x)=fun m=>xs[i+m]?:=rfl
 rw [e2] at this
 rw [this]
theorem a1i {t sl:Addr} {items:Array Value} {vl vu:Value} {lo hi:Option Int} {Q:Value→Shared→Prop} (ht:IsTup s.heap t items) (hs:s.heap.IsSliceOf sl vl vu .none) (pl:IsPart vl lo) (pu:IsPart vu hi)
  (hw:¬ (sIx items.size 0 lo=0∧sIx items.size items.size hi=items.size))
  (h:Q (.ref s.heap.objs.size) { s with heap:=s.heap.push { cls:=.type "tuple",data:=.seq ((items.toList.drop (sIx items.size 0 lo)).take (sIx items.size items.size hi - sIx items.size 0 lo)).toArray } })
  (hsz:items.size≤sizeLine):wpAny (model prog w) A (getItem (.ref t) (.ref sl)) Q E s:=by
 have htake:sizeOk (.seq ((items.toList.drop (sIx items.size 0 lo)).take (sIx items.size items.size hi - sIx items.size 0 lo)).toArray):=by
  show ((items.toList.drop (sIx items.size 0 lo)).take (sIx items.size items.size hi - sIx items.size 0 lo)).toArray.size≤sizeLine
  rw [List.size_toArray,List.length_take,List.length_drop,Array.length_toList]
  omega
 have hj:sIx items.size items.size hi≤items.size:=aa8 _ _ (Nat.le_refl _) hi
 obtain ⟨os,hos,hcs,hds⟩:=id hs
 have hTs:s.TypeIs (.ref sl) "slice":=⟨os,hos,hcs⟩
 unfold getItem
 try with_reducible refine wpAny_holding ?_
 first | refine wpAny_bind (wpAny_pure ?_) | skip
 refine wpAny_bind (wpAny_sequenceKey ht.typeIs (by decide) ?_)
 refine wpAny_bind (wpAny_callSpecial?_slot (name:=Str.ofString "__getitem__") ht.typeIs PyProof.Rows.slot_tuple_getitem
  (wpAny_call_entry PyProof.Rows.slot_tuple_getitem ht.typeIs entry_tuple_getitem ?_ (args_tuple_getitem _ _)))
 show wpAny _ _ (Builtin.Tuple.tupleItemsOf (.ref t)>>=_) _ _ s
 refine wpAny_bind (tupleItemsOf_ ht ?_)
 refine wpAny_bind (wpAny_typeOf hTs ?_)
 rw [if_pos (by decide)]
 refine wpAny_bind (yu hs pl pu ?_)
 have hno:¬ ((((sIx items.size 0 lo:Nat):Int) == 0 && (1:Int) == 1 && (sIx items.size items.size hi - sIx items.size 0 lo) == items.size)=true):=by
  intro q
  rw [Bool.and_eq_true,Bool.and_eq_true] at q
  have q1:((sIx items.size 0 lo:Nat):Int)=0:=eq_of_beq q.1.1
  have q2:sIx items.size items.size hi - sIx items.size 0 lo=items.size:=eq_of_beq q.2
  exact hw ⟨by omega,by omega⟩
 show wpAny _ _ (if (((sIx items.size 0 lo:Nat):Int) == 0 && (1:Int) == 1 && (sIx items.size items.size hi - sIx items.size 0 lo) == items.size)=true then _ else _) _ _ s
 rw [if_neg hno,ad1]
 first
  | exact wpAny_bind (m:=Builtin.Tuple.tupleExact _) (wpAny_newObj_type (wpAny_pure ⟨_,rfl,wpAny_pure h⟩) htake)
  | exact wpAny_bind (m:=Builtin.Tuple.tupleExact _) (wpAny_newObj_type (wpAny_bind (wpAny_pure (wpAny_pure ⟨_,rfl,wpAny_pure h⟩))) htake)
  | exact wpAny_bind (wpAny_bind (m:=Builtin.Tuple.tupleExact _) (wpAny_newObj_type (wpAny_pure (wpAny_pure ⟨_,rfl,wpAny_pure h⟩)) htake))
  | exact wpAny_bind (wpAny_bind (m:=Builtin.Tuple.tupleExact _) (wpAny_newObj_type (wpAny_pure ⟨_,rfl,wpAny_pure h⟩) htake))
end
end HT
namespace L2
open PySem PySem.Spec PyProof.Rows
abbrev TO:=St→Hp→(Option Int→Hp→Prop)→Prop
def PO (X:Cx) (e:Option Expr) (t:TO):Prop :=
 ∀ (pins:List (Addr × Obj)) (s:Shared) (σ:St) (H:Hp) (Q:Option Int→Hp→Prop),Inv X pins σ H s→t σ H Q →
  wpAny (model X.prog X.w) X.A (evalPart e X.env) (fun u s'=>∃ o H',Inv X pins σ H' s'∧IsPart u o∧Q o H') X.xe s
def afx:TO:=fun _ H Q=>Q none H
def am5 (t:TE):TO:=fun σ H Q=>t σ H fun x H1=>∃ i,x = .int i∧Q (some i) H1
theorem intsAre_of {ns:List Int}:∀ {us:List Value},Vals (ns.map V.int) us→IntsAre us ns:=by
 induction ns with
 | nil=>intro us r;rw [List.map_nil] at r;cases r;exact .nil
 | cons n ns ih =>
  intro us r
  rw [List.map_cons] at r
  cases r with
  | cons r1 r2 =>
   obtain ⟨t,e⟩:=r1
   subst e
   exact .cons n t (ih r2)
section
variable {X:Cx} {e:Expr} {te:TE} {lo hi:Option Expr} {tl th:TO} {pos p2:Pos}
theorem afy:PO X none afx:=by
 intro pins s σ H Q I h
 rw [evalPart_none]
 exact wpAny_pure ⟨none,H,I, .none,h⟩
theorem afz (h:PE X e te):PO X (some e) (am5 te):=by
 intro pins s σ H Q I hw
 rw [evalPart_some]
 refine thn (h pins s σ H _ I hw) fun u s1 ⟨x,H1,I1,r1,q1⟩=>?_
 obtain ⟨i,rfl,q⟩:=q1
 obtain ⟨t,rfl⟩:=r1
 exact ⟨some i,H1,I1, .int i t,q⟩
def SlR (X:Cx) (r:V→Option Int→Option Int→Hp→VK→Prop):Prop :=
 ∀ (pins:List (Addr × Obj)) (s:Shared) (σ:St) (H:Hp) (x:V) (v vl vu:Value) (lo hi:Option Int) (sl:Addr) (Q:VK),Inv X pins σ H s→RelV x v→s.heap.IsSliceOf sl vl vu .none→IsPart vl lo→IsPart vu hi→r x lo hi H Q →
  ∃ T id,typeLookup (.type T) "__getitem__" = pure (some (.builtin id))∧s.TypeIs v T∧wpAny (model X.prog X.w) X.A (getItem v (.ref sl)) (EP X pins σ Q) X.xe s
theorem SlR.or {r r':V→Option Int→Option Int→Hp→VK→Prop} (h:SlR X r) (h':SlR X r'):SlR X (fun x lo hi H Q=>r x lo hi H Q∨r' x lo hi H Q):=by
 intro pins s σ H x v vl vu lo hi sl Q I rx hs pl pu q
 rcases q with q | q
 ·exact h pins s σ H x v vl vu lo hi sl Q I rx hs pl pu q
 ·exact h' pins s σ H x v vl vu lo hi sl Q I rx hs pl pu q
def tSl (r:V→Option Int→Option Int→Hp→VK→Prop) (te:TE) (tl th:TO):TE:=fun σ H Q=>te σ H fun x H1=>tl σ H1 fun l H2=>th σ H2 fun u H3=>r x l u H3 Q
theorem ad2 {r:V→Option Int→Option Int→Hp→VK→Prop} (hr:SlR X r) (he:PE X e te) (hl:PO X lo tl) (hu:PO X hi th):PE X (.Subscript e (.Slice lo hi none p2) pos) (tSl r te tl th):=by
 intro pins s σ H Q I h
 refine Subscript_ (thn (he pins s σ H _ I h) fun v s1 ⟨x,H1,I1,r1,q1⟩=>?_)
 refine wpAny_Slice (thn (hl pins s1 σ H1 _ I1 q1) fun vl s2 ⟨l,H2,I2,pl,q2⟩=>thn (hu pins s2 σ H2 _ I2 q2) fun vu s3 ⟨u,H3,I3,pu,q3⟩=>?_)
 rw [evalPart_none]
 refine wpAny_pure ?_
 have I4:Inv X pins σ H3 { s3 with heap:=s3.heap.push { cls:=.type "slice",data:=.fields #[vl,vu, .none] } }:=I3.kept (t':=s3.toks) fun b ob q=>Heap.get?_push_of_some _ q
 obtain ⟨T,id,hT,ht,hg⟩:=hr pins { s3 with heap:=s3.heap.push { cls:=.type "slice",data:=.fields #[vl,vu, .none] } } σ H3 x v vl vu l u s3.heap.objs.size Q I4 r1 (Heap.IsSliceOf.new ..) pl pu q3
 show wpAny (model X.prog X.w) X.A (subscriptTail e (.Slice lo hi none p2) v (.ref s3.heap.objs.size)) (EP X pins σ Q) X.xe { s3 with heap:=s3.heap.push { cls:=.type "slice",data:=.fields #[vl,vu, .none] } }
 exact tail_any (ops:=[.ref s3.heap.objs.size,v]) ht hT hg (by with_unfolding_all rfl)
def aeq (xs:List V) (lo hi:Option Int):List V:=(xs.drop (HT.sIx xs.length 0 lo)).take (HT.sIx xs.length xs.length hi - HT.sIx xs.length 0 lo)
theorem a2w (xs:List V) (lo hi:Option Int):(aeq xs lo hi).length≤xs.length:=by
 unfold aeq
 rw [List.length_take,List.length_drop]
 omega
def am6 (K:PySem.W.Frag):V→Option Int→Option Int→Hp→VK→Prop:=fun x lo hi H Q=>∃ a xs,x = .ref a∧SqT K H a xs ∧
 ¬ (HT.sIx xs.length 0 lo=0∧HT.sIx xs.length xs.length hi=xs.length)∧∀ p,H p=none→Q (.ref p) (upd H p (.tup (aeq xs lo hi)))
theorem ain:SlR X (am6 X.K):=by
 intro pins s σ H x v vl vu lo hi sl Q I rx hs pl pu h
 obtain ⟨a,xs,rfl,hx,hw,q⟩:=h
 cases rx
 obtain ⟨its,r,ht,hz⟩:=I.tuple hx
 have hlen:its.toArray.size=xs.length:=by rw [List.size_toArray];exact r.length.symm
 refine ⟨"tuple",_,PyProof.Rows.slot_tuple_getitem.lookup,ht.typeIs,?_⟩
 refine HT.a1i ht hs pl pu (by rw [hlen];exact hw) ?_ (by rw [hlen];exact hz)
 rw [hlen]
 refine ⟨.ref s.heap.objs.size,_,I.laid (t':=s.toks) (o:=.tup (aeq xs lo hi)) (fun b ob q=>Heap.get?_push_of_some _ q) (Nat.le_refl _) ?_,rfl,q _ (I.hok.fresh (Nat.le_refl _))⟩
 exact ⟨Nat.le_trans (a2w xs lo hi) hz,_,(r.drop (HT.sIx xs.length 0 lo)).take (HT.sIx xs.length xs.length hi - HT.sIx xs.length 0 lo),IsTup.new _ _⟩
def aio (K:PySem.W.Frag):R2:=fun x y H Q=>∃ a b xs ys,x = .ref a∧y = .ref b∧SqT K H a xs∧SqT K H b ys∧xs≠[]∧xs.length+ys.length≤sizeLine ∧
 (ys=[]→Q (.ref a) H)∧(ys≠[]→∀ p,H p=none→Q (.ref p) (upd H p (.tup (xs++ys))))
theorem Vals.nil_iff {xs:List V} {us:List Value} (r:Vals xs us):us=[]↔xs=[]:=by
 cases r with
 | nil=>simp
 | cons _ _=>simp
theorem ag0:OpR X (binaryOp .Add) (aio X.K):=by
 intro pins s σ H x y v u Q I rx ry h
 obtain ⟨a,b,xs,ys,rfl,rfl,ha,hb,hx,hz,q1,q2⟩:=h
 cases rx
 cases ry
 obtain ⟨its,r1,p1,_⟩:=I.tuple ha
 obtain ⟨its2,r2,p2,_⟩:=I.tuple hb
 refine HT.afw p1 p2 (fun z=>hx (r1.nil_iff.mp z)) (fun z=>⟨.ref a,H,I,rfl,q1 (r2.nil_iff.mp z)⟩) (fun z=>?_) (by rw [← r1.length,← r2.length];exact hz)
 refine ⟨.ref s.heap.objs.size,_,I.laid (t':=s.toks) (o:=.tup (xs++ys)) (fun b ob q=>Heap.get?_push_of_some _ q) (Nat.le_refl _) ?_,rfl,q2 (fun w=>z (r2.nil_iff.mpr w)) _ (I.hok.fresh (Nat.le_refl _))⟩
 exact ⟨by rw [List.length_append];exact hz,_,r1.append r2,IsTup.new _ _⟩
end
end L2
namespace L2
open PySem PySem.Spec PyProof.Rows
def ixN (n:Nat) (i:Int):Option Nat:=if 0≤i then (if i<n then some i.toNat else none) else if -(n:Int)≤i then some (i+n).toNat else none
def atI {α:Type} (xs:List α) (i:Int):Option α:=(ixN xs.length i).bind fun j=>xs[j]?
theorem aaa {n:Nat} {i:Int} {j:Nat} (h:ixN n i=some j):seqIndex? i n=some j∧j<n ∧ -(n:Int)≤i∧i<n:=by
 unfold ixN at h
 by_cases h0:0≤i
 ·rw [if_pos h0] at h
  by_cases h1:i<n
  ·rw [if_pos h1] at h
   have e:i.toNat=j:=Option.some.inj h
   exact ⟨by rw [seqIndex_of h0 h1,e],by omega,by omega,h1⟩
  ·rw [if_neg h1] at h;cases h
 ·rw [if_neg h0] at h
  by_cases h1 : -(n:Int)≤i
  ·rw [if_pos h1] at h
   have e:(i+n).toNat=j:=Option.some.inj h
   exact ⟨by rw [seqIndex_neg (by omega) h1,e],by omega,h1,by omega⟩
  ·rw [if_neg h1] at h;cases h
theorem a4o {α:Type} {xs:List α} {i:Int} {v:α} (h:atI xs i=some v):∃ j,seqIndex? i xs.length=some j∧xs[j]? = some v∧j<xs.length ∧ -(xs.length:Int)≤i∧i<xs.length:=by
 unfold atI at h
 cases e:ixN xs.length i with
 | none=>rw [e] at h;cases h
 | some j =>
  rw [e] at h
  obtain ⟨h1,h2,h3,h4⟩:=aaa e
  exact ⟨j,h1,h,h2,h3,h4⟩
theorem qg {α:Type} {xs:List α} {j:Nat} {v:α} (h:xs[j]? = some v):atI xs (j:Int)=some v:=by
 have hj:j<xs.length:=(List.getElem?_eq_some_iff.mp h).1
 have e:ixN xs.length (j:Int)=some j:=by
  unfold ixN
  rw [if_pos (by omega),if_pos (by omega)];simp
 unfold atI;rw [e];exact h
def a6y (b:Expr):Prop:=∀ o i,subscripted b false o i=operate [o,i] (getItem o i)
def IxR (X:Cx) (r:R2):Prop :=
 ∀ (value slice:Expr) (pins:List (Addr × Obj)) (s:Shared) (σ:St) (H:Hp) (x y:V) (v u:Value) (Q:VK),Inv X pins σ H s→RelV x v→RelV y u→r x y H Q →
  subscripted slice false v u=operate [v,u] (getItem v u)→wpAny (model X.prog X.w) X.A (subscriptTail value slice v u) (EP X pins σ Q) X.xe s
def MtR (X:Cx) (id:String) (r:V→List V→Hp→VK→Prop):Prop :=
 ∀ (pins:List (Addr × Obj)) (s:Shared) (σ:St) (H:Hp) (x:V) (xs:List V) (v:Value) (us:List Value) (Q:VK),Inv X pins σ H s→RelV x v→Vals xs us→r x xs H Q →
  wpAny (model X.prog X.w) X.A (call (.builtin id) (v::us)) (EP X pins σ Q) X.xe s
section
variable {X:Cx} {a b:Expr} {ta tb:TE} {pos:Pos}
theorem IxR.or {r r':R2} (h:IxR X r) (h':IxR X r'):IxR X (fun x y H Q=>r x y H Q∨r' x y H Q):=by
 intro value slice pins s σ H x y v u Q I rx ry q hs
 rcases q with q | q
 ·exact h value slice pins s σ H x y v u Q I rx ry q hs
 ·exact h' value slice pins s σ H x y v u Q I rx ry q hs
theorem am7 {r:R2} (hr:IxR X r) (ha:PE X a ta) (hb:PE X b tb) (hs:a6y b):PE X (.Subscript a b pos) (tOp r ta tb):=by
 intro pins s σ H Q I h
 exact Subscript_ (alx ha hb I h fun v u s2 x y H2 I2 rx ry q=>hr a b pins s2 σ H2 x y v u Q I2 rx ry q (hs _ _))
def al5 (K:PySem.W.Frag):R2:=fun x y H Q=>∃ p xs i v,x = .ref p∧y = .int i∧SqL K H p xs∧atI xs i=some v∧Q v H
def ana (K:PySem.W.Frag):R2:=fun x y H Q=>∃ p xs i v,x = .ref p∧y = .int i∧SqT K H p xs∧atI xs i=some v∧Q v H
def anb:R2:=fun x y H Q=>∃ z i c,x = .str z∧y = .int i∧z.length≤sizeLine∧atI z.cps.toList i=some c∧Q (.str ⟨#[c]⟩) H
theorem ag1:IxR X (al5 X.K):=by
 intro value slice pins s σ H x y v u Q I rx ry h hs
 obtain ⟨p,xs,i,z,rfl,rfl,hq,he,q⟩:=h
 cases rx
 obtain ⟨t,rfl⟩:=ry
 obtain ⟨its,r,pl,hz⟩:=I.list hq
 obtain ⟨j,h1,h2,h3,h4,h5⟩:=a4o he
 obtain ⟨w,ew,rw'⟩:=r.get h2
 have hl:=r.length
 have hn:=a1u
 have fin:EP X pins σ Q w s:=⟨z,H,I,rw',q⟩
 by_cases h0:0≤i
 ·have hj:i.toNat=j:=by
   rw [seqIndex_of h0 h5] at h1
   exact Option.some.inj h1
  exact item_listR pl.isList h0 (by omega) (by rw [hj];simpa using ew) fin hs
 ·have hj:(i+(its.toArray.size:Int)).toNat=j:=by
   rw [seqIndex_neg (by omega) h4] at h1
   rw [List.size_toArray,← hl]
   exact Option.some.inj h1
  exact subscriptTail_builtinR (x:=w) pl.isList.typeIs slot_list_getitem.lookup
   (wpAny_getItem_list_neg (Q:=fun r s'=>r=w∧EP X pins σ Q r s') pl.isList (by omega) (by rw [List.size_toArray]<;>omega) (by omega) (by rw [hj];simpa using ew) ⟨rfl,fin⟩) hs
theorem a2x:IxR X (ana X.K):=by
 intro value slice pins s σ H x y v u Q I rx ry h hs
 obtain ⟨p,xs,i,z,rfl,rfl,hq,he,q⟩:=h
 cases rx
 obtain ⟨t,rfl⟩:=ry
 obtain ⟨its,r,pl,hz⟩:=I.tuple hq
 obtain ⟨j,h1,h2,h3,h4,h5⟩:=a4o he
 obtain ⟨w,ew,rw'⟩:=r.get h2
 have hl:=r.length
 have hn:=a1u
 have fin:EP X pins σ Q w s:=⟨z,H,I,rw',q⟩
 exact subscriptTail_builtinR (x:=w) pl.typeIs slot_tuple_getitem.lookup
  (getItem_tuple (j:=j) (Q:=fun r s'=>r=w∧EP X pins σ Q r s') pl (by omega) (by omega) (by rw [List.size_toArray,← hl];exact h1) (by simpa using ew) ⟨rfl,fin⟩) hs
theorem aip:IxR X anb:=by
 intro value slice pins s σ H x y v u Q I rx ry h hs
 obtain ⟨z,i,c,rfl,rfl,hz,he,q⟩:=h
 obtain ⟨t,rfl⟩:=rx
 obtain ⟨t',rfl⟩:=ry
 obtain ⟨j,h1,h2,h3,h4,h5⟩:=a4o he
 have hl:z.cps.toList.length=z.length:=by simp [Str.length]
 rw [hl] at h1 h4 h5
 have hn:=a1u
 exact tail_any (typeIs_str s z t) slot_str_getitem.lookup (getItem_str (c:=c) (by
  have e1:decide (i < -(2 ^ 63:Int))=false:=decide_eq_false (by omega)
  have e2:decide (i≥2 ^ 63)=false:=decide_eq_false (by omega)
  rw [e1,e2,Bool.or_false]) (by rw [h1];simpa using h2) ⟨.str ⟨#[c]⟩,H,I.tok _,⟨_,rfl⟩,q⟩) hs
def rIx (K:PySem.W.Frag):R2:=fun x y H Q=>al5 K x y H Q∨ana K x y H Q∨anb x y H Q
theorem aiq:IxR X (rIx X.K):=ag1.or (a2x.or aip)
theorem a8x (its:List Value) (n j:Nat) (u:Value):Obj.mapSeq (·.setIfInBounds j u) { cls:=.type "list",data:=.seq its.toArray n }={ cls:=.type "list",data:=.seq (its.set j u).toArray n }:=by
 simp [Obj.mapSeq]
theorem Inv.lst {pins:List (Addr × Obj)} {σ:St} {H:Hp} {s:Shared} {p:Addr} {xs:List V} (I:Inv X pins σ H s) (h:H p=some (.lst xs)) :
  ∃ (its:List Value) (n:Nat),Vals xs its∧s.heap.get? p=some { cls:=.type "list",data:=.seq its.toArray n }∧xs.length≤sizeLine:=by
 obtain ⟨z,its,n,r,e⟩:=I.hok p _ h
 exact ⟨its,n,r,e,z⟩
theorem Inv.lstUpd {pins:List (Addr × Obj)} {σ:St} {H:Hp} {s:Shared} {p:Addr} {xs ys:List V} {its its':List Value} {n n':Nat} {f:Obj→Obj} (I:Inv X pins σ H s) (h:H p=some (.lst xs))
  (ho:s.heap.get? p=some { cls:=.type "list",data:=.seq its.toArray n }) (hf:f { cls:=.type "list",data:=.seq its.toArray n }={ cls:=.type "list",data:=.seq its'.toArray n' }) (r:Vals ys its') (hz:ys.length≤sizeLine) (t:Nat) :
  Inv X pins σ (upd H p (.lst ys)) { s with heap:=s.heap.update p f,toks:=t }:=by
 have e:(s.heap.update p f).get? p=some { cls:=.type "list",data:=.seq its'.toArray n' }:=by
  rw [Heap.get?_update_self f ho (by rw [hf]<;>rfl),hf]
 refine I.write (x:=p) (e:=p) (by rw [h];trivial) (.inl rfl) (fun b u hb q=>(Heap.get?_update_other _ _ (Ne.symm hb)).trans q) ⟨_,e⟩ ?_
 exact ⟨hz,its',n',r,e⟩
def air:V→V→V→Hp→(Hp→Prop)→Prop:=fun o i v H Q=>∃ p xs k j,o = .ref p∧i = .int k∧H p=some (.lst xs)∧ixN xs.length k=some j∧Q (upd H p (.lst (xs.set j v)))
theorem set_list:alr X air:=by
 intro pins s σ H o i v ov iv u Q I ro ri rv h
 obtain ⟨p,xs,k,j,rfl,rfl,hp,hj,q⟩:=h
 cases ro
 obtain ⟨t,rfl⟩:=ri
 obtain ⟨its,n,r,ho,hz⟩:=I.lst hp
 obtain ⟨h1,h2,h3,h4⟩:=aaa hj
 have hl:=r.length
 have hn:=a1u
 have I':Inv X pins σ (upd H p (.lst (xs.set j v))) { s with heap:=s.heap.update p (Obj.mapSeq (·.setIfInBounds j u)) } :=
  I.lstUpd hp ho (a8x its n j u) (r.set rv j) (by rw [List.length_set];exact hz) s.toks
 by_cases h0:0≤k
 ·have hk:k.toNat=j:=by
   rw [seqIndex_of h0 h4] at h1
   exact Option.some.inj h1
  exact PySem.W.ki_setAt ho h0 (by omega) (by rw [List.size_toArray,← hl];exact h4) (by rw [hk];exact ⟨_,I',q⟩)
 ·have hk:(k+(its.toArray.size:Int)).toNat=j:=by
   rw [seqIndex_neg (by omega) h3] at h1
   rw [List.size_toArray,← hl]
   exact Option.some.inj h1
  exact PySem.W.ki_setBack ho (by omega) (by rw [List.size_toArray,← hl];exact h3) (by omega) (by rw [hk];exact ⟨_,I',q⟩)
theorem a5z (lo hi:Option Int) (n:Nat):(sliceBounds lo hi none n).1=((HT.sIx n 0 lo:Nat):Int)∧(sliceBounds lo hi none n).2.1=((HT.sIx n n hi:Nat):Int)∧(sliceBounds lo hi none n).2.2=1:=by
 refine ⟨?_,?_,rfl⟩
 ·cases lo with
  | none=>simp [sliceBounds,HT.sIx]
  | some i =>
   simp only [sliceBounds,HT.sIx,Option.getD_none,show (1:Int) > 0 by decide,if_true]
   by_cases h:i<0
   ·simp only [h,if_true]<;>omega
   ·simp only [h,if_false]<;>omega
 ·cases hi with
  | none=>simp [sliceBounds,HT.sIx]
  | some i =>
   simp only [sliceBounds,HT.sIx,Option.getD_none,show (1:Int) > 0 by decide,if_true]
   by_cases h:i<0
   ·simp only [h,if_true]<;>omega
   ·simp only [h,if_false]<;>omega
theorem a4p (its:List Value) (lo hi:Option Int):slicePick its.toArray lo hi none=((its.drop (HT.sIx its.length 0 lo)).take (HT.sIx its.length its.length hi - HT.sIx its.length 0 lo)).toArray:=by
 obtain ⟨h1,h2,h3⟩:=a5z lo hi its.toArray.size
 unfold slicePick
 rw [h1,h2,h3]
 simp only [sliceRange_one,pick_run,List.size_toArray]<;>rfl
def am8 (K:PySem.W.Frag):V→Option Int→Option Int→Hp→VK→Prop:=fun x lo hi H Q=>∃ a xs,x = .ref a∧SqL K H a xs∧∀ p,H p=none→Q (.ref p) (upd H p (.lst (aeq xs lo hi)))
theorem ag2:SlR X (am8 X.K):=by
 intro pins s σ H x v vl vu lo hi sl Q I rx hs pl pu h
 obtain ⟨a,xs,rfl,hx,q⟩:=h
 cases rx
 obtain ⟨its,r,ht,hz⟩:=I.list hx
 have hlen:=r.length
 refine ⟨"list",_,slot_list_getitem.lookup,ht.isList.typeIs,?_⟩
 refine wpAny_getItem_list_slice ht.isList hs pl pu .none (by simp) ?_ (by rw [List.size_toArray]<;>omega)
 rw [a4p,← hlen]
 refine ⟨.ref s.heap.objs.size,_,I.laid (t':=s.toks) (o:=.lst (aeq xs lo hi)) (fun b ob q=>Heap.get?_push_of_some _ q) (Nat.le_refl _) ?_,rfl,q _ (I.hok.fresh (Nat.le_refl _))⟩
 exact ⟨Nat.le_trans (a2w xs lo hi) hz,_,0,(r.drop (HT.sIx xs.length 0 lo)).take (HT.sIx xs.length xs.length hi - HT.sIx xs.length 0 lo),Heap.get?_push_size _ rfl⟩
def a0i:V→Bool
 | .non=>true
 | .bl _=>true
 | .int _=>true
 | .str _=>true
 | _=>false
def eqV:V→V→Bool
 | .non, .non=>true
 | .bl a, .bl b=>a == b
 | .bl a, .int b=>(if a then 1 else 0) == b
 | .int a, .bl b=>a == (if b then 1 else 0)
 | .int a, .int b=>a == b
 | .str a, .str b=>a == b
 | _,_=>false
theorem aab {A:Around} {s:Shared} {y x:V} {u v:Value} (ry:RelV y u) (rx:RelV x v) (fy:a0i y=true) (fx:a0i x=true):SeqAt.EqAt A s u v (eqV y x):=by
 cases y with
 | non =>
  cases ry
  cases x with
  | non=>cases rx;exact SeqAt.EqAt.same _
  | bl b=>cases rx;exact SeqAt.EqAt.none_bool b
  | int b=>obtain ⟨t,rfl⟩:=rx;exact SeqAt.EqAt.none_int b t
  | str b=>obtain ⟨t,rfl⟩:=rx;exact SeqAt.EqAt.none_str b t
  | _=>exact absurd (show false=true from fx) Bool.false_ne_true
 | bl a =>
  cases ry
  cases x with
  | non=>cases rx;exact SeqAt.EqAt.bool_none a
  | bl b=>cases rx;exact SeqAt.EqAt.bool_bool a b
  | int b=>obtain ⟨t,rfl⟩:=rx;exact SeqAt.EqAt.bool_int a b t
  | str b=>obtain ⟨t,rfl⟩:=rx;exact SeqAt.EqAt.bool_str a b t
  | _=>exact absurd (show false=true from fx) Bool.false_ne_true
 | int a =>
  obtain ⟨t',rfl⟩:=ry
  cases x with
  | non=>cases rx;exact SeqAt.EqAt.int_none a t'
  | bl b=>cases rx;exact SeqAt.EqAt.int_bool a t' b
  | int b=>obtain ⟨t,rfl⟩:=rx;exact SeqAt.EqAt.int_int a t' b t
  | str b=>obtain ⟨t,rfl⟩:=rx;exact SeqAt.EqAt.int_str a t' b t
  | _=>exact absurd (show false=true from fx) Bool.false_ne_true
 | str a =>
  obtain ⟨t',rfl⟩:=ry
  cases x with
  | non=>cases rx;exact SeqAt.EqAt.str_none a t'
  | bl b=>cases rx;exact SeqAt.EqAt.str_bool a t' b
  | int b=>obtain ⟨t,rfl⟩:=rx;exact SeqAt.EqAt.str_int a t' b t
  | str b=>obtain ⟨t,rfl⟩:=rx;exact SeqAt.EqAt.str_str a t' b t
  | _=>exact absurd (show false=true from fx) Bool.false_ne_true
 | _=>exact absurd (show false=true from fy) Bool.false_ne_true
def eqU (x:V) (u:Value):Bool:=match u with
 | .none=>eqV .non x
 | .bool b=>eqV (.bl b) x
 | .int i _=>eqV (.int i) x
 | .str z _=>eqV (.str z) x
 | _=>false
theorem aer {x y:V} {u:Value} (r:RelV y u) (f:a0i y=true):eqU x u=eqV y x:=by
 cases y with
 | non=>cases r;rfl
 | bl b=>cases r;rfl
 | int i=>obtain ⟨t,rfl⟩:=r;rfl
 | str z=>obtain ⟨t,rfl⟩:=r;rfl
 | _=>exact absurd (show false=true from f) Bool.false_ne_true
theorem a6z {x:V}:∀ {xs:List V} {us:List Value},Vals xs us→xs.all a0i=true→us.any (eqU x)=xs.any fun y=>eqV y x
 | _,_, .nil,_=>rfl
 | y::xs,u::us, .cons r t,f=>by
  rw [List.all_cons,Bool.and_eq_true] at f
  rw [List.any_cons,List.any_cons,aer r f.1,a6z t f.2]
theorem a4q {A:Around} {s:Shared} {x:V} {v:Value} (rx:RelV x v) (fx:a0i x=true):∀ {xs:List V} {us:List Value},Vals xs us→xs.all a0i=true→∀ u∈us,SeqAt.EqAt A s u v (eqU x u)
 | _,_, .nil,_=>fun u hu=>by cases hu
 | y::xs,u::us, .cons r t,f=>fun u' hu=>by
  rw [List.all_cons,Bool.and_eq_true] at f
  rcases List.mem_cons.mp hu with rfl | hu
  ·rw [aer r f.1];exact aab r rx f.1 fx
  ·exact a4q rx fx t f.2 u' hu
def inV (x:V) (xs:List V):Bool:=xs.any fun y=>eqV y x
def rIn (K:PySem.W.Frag) (neg:Bool):R2:=fun x y H Q=>∃ p xs,y = .ref p∧(SqL K H p xs∨SqT K H p xs)∧a0i x=true∧xs.all a0i=true∧Q (.bl (if neg then !inV x xs else inV x xs)) H
theorem a1v:OpR X (compareOp .NotIn) (rIn X.K true):=by
 intro pins s σ H x y v u Q I rx ry h
 obtain ⟨p,xs,rfl,hq,fx,fs,q⟩:=h
 cases ry
 rcases hq with hq | hq
 ·obtain ⟨its,r,pl,hz⟩:=I.list hq
  refine SeqAt.notIn_listAt (eqU x) pl.isList (fun w hw=>a4q rx fx r fs w (by simpa using hw)) ⟨.bl _,H,I,rfl,?_⟩
  rw [show its.toArray.any (eqU x)=its.any (eqU x) by simp,a6z r fs]
  exact q
 ·obtain ⟨its,r,pl,hz⟩:=I.tuple hq
  refine SeqAt.notIn_tupleAt (eqU x) pl (fun w hw=>a4q rx fx r fs w (by simpa using hw)) ⟨.bl _,H,I,rfl,?_⟩
  rw [show its.toArray.any (eqU x)=its.any (eqU x) by simp,a6z r fs]
  exact q
theorem fu:CallR X (.builtin "len") (fun xs H Q=>∃ p ys,xs=[.ref p]∧(SqL X.K H p ys∨SqT X.K H p ys)∧Q (.int ys.length) H):=by
 intro pins s σ H xs us Q I r h
 obtain ⟨p,ys,rfl,hq,q⟩:=h
 obtain ⟨u,rfl,rx⟩:=vals1 r
 cases rx
 have hn:=a1u
 rcases hq with hq | hq
 ·obtain ⟨its,r',pl,hz⟩:=I.list hq
  have hlen:=r'.length
  exact Calls.call_len_list pl.isList (by simp only [List.size_toArray]<;>omega) ⟨.int ys.length,H,I.tok _,⟨s.toks+1,by rw [List.size_toArray,hlen]⟩,q⟩
 ·obtain ⟨its,r',pl,hz⟩:=I.tuple hq
  have hlen:=r'.length
  exact len_tuple pl (by simp only [List.size_toArray]<;>omega) ⟨.int ys.length,H,I.tok _,⟨s.toks+1,by rw [List.size_toArray,hlen]⟩,q⟩
theorem g8:CallR X (.builtin "len") (fun xs H Q=>∃ z,xs=[.str z]∧z.length≤sizeLine∧Q (.int z.length) H):=by
 intro pins s σ H xs us Q I r h
 obtain ⟨z,rfl,hz,q⟩:=h
 obtain ⟨u,rfl,t,rfl⟩:=vals1 r
 have hn:=a1u
 exact len_str (by omega) ⟨.int z.length,H,I.tok _,⟨_,rfl⟩,q⟩
theorem CallR.or {f:Value} {r r':List V→Hp→VK→Prop} (h:CallR X f r) (h':CallR X f r'):CallR X f (fun xs H Q=>r xs H Q∨r' xs H Q):=by
 intro pins s σ H xs us Q I rs q
 rcases q with q | q
 ·exact h pins s σ H xs us Q I rs q
 ·exact h' pins s σ H xs us Q I rs q
theorem ug:CallR X (.type "tuple") (fun xs H Q=>∃ p ys,xs=[.ref p]∧((SqL X.K H p ys∧∀ l,H l=none→Q (.ref l) (upd H l (.tup ys)))∨(SqT X.K H p ys∧Q (.ref p) H))):=by
 intro pins s σ H xs us Q I r h
 obtain ⟨p,ys,rfl,h⟩:=h
 obtain ⟨u,rfl,rx⟩:=vals1 r
 cases rx
 rcases h with ⟨hq,q⟩ | ⟨hq,q⟩
 ·obtain ⟨its,r',pl,hz⟩:=I.list hq
  have hlen:=r'.length
  refine call_tuple_list pl.isList (fun h' kp=>?_) (by simp only [List.size_toArray]<;>omega)
  have I1:Inv X pins σ H { s with heap:=h' }:=I.kept (t':=s.toks) kp
  have I2:Inv X pins σ (upd H h'.objs.size (.tup ys)) { s with heap:=h'.push { cls:=.type "tuple",data:=.seq its.toArray } } :=
   I1.laid (t':=s.toks) (fun b o e=>Heap.get?_push_of_some _ e) (Nat.le_refl _) (show ObjOk X.prog X.w _ _ _ (.tup ys) from ⟨hz,its,r',IsTup.new _ _⟩)
  exact ⟨.ref h'.objs.size,_,I2,rfl,q _ (I1.hok.fresh (Nat.le_refl _))⟩
 ·obtain ⟨its,r',pl,hz⟩:=I.tuple hq
  exact call_tuple_same pl ⟨.ref p,H,I,rfl,q⟩
def tyV (K:PySem.W.Frag) (T:String) (x:V) (H:Hp):Prop:=match x with
 | .str _=>T = "str"
 | .int _=>T = "int"
 | .ref p=>(T = "list"∧∃ xs,SqL K H p xs)∨(T = "tuple"∧∃ o,K.lookup p=some o∧o.cls = .type "tuple"∧o.dict=none) ∨
   (T = "dict"∧((∃ kvs,H p=some (.dK kvs))∨∃ kvs,H p=some (.dT kvs)))∨(T = "set"∧∃ S n,H p=some (.set S n))
 | _=>False
theorem ais {pins:List (Addr × Obj)} {σ:St} {H:Hp} {s:Shared} {T:String} {x:V} {v:Value} (I:Inv X pins σ H s) (r:RelV x v) (ty:tyV X.K T x H) :
  s.TypeIs v T∧∀ a,v = .ref a→∃ ob,s.heap.get? a=some ob∧ob.dict=none:=by
 cases x with
 | str z =>
  obtain ⟨t,rfl⟩:=r
  cases (show T = "str" from ty)
  exact ⟨typeIs_str s z t,fun _ e=>nomatch e⟩
 | int i =>
  obtain ⟨t,rfl⟩:=r
  cases (show T = "int" from ty)
  exact ⟨typeIs_int s i t,fun _ e=>nomatch e⟩
 | ref p =>
  cases r
  rcases ty with ⟨rfl,xs,hq⟩ | ⟨rfl,o,hk,hc,hd⟩ | ⟨rfl,hk⟩ | ⟨rfl,S,n,hk⟩
  ·obtain ⟨its,_,pl,_⟩:=I.list hq
   refine ⟨pl.isList.typeIs,fun a e=>?_⟩
   cases e
   obtain ⟨o,n,e,c,hd,_⟩:=pl
   exact ⟨o,e,hd⟩
  ·refine ⟨⟨o,I.kIn p o hk,hc⟩,fun a e=>?_⟩
   cases e
   exact ⟨o,I.kIn _ o hk,hd⟩
  ·have z:∃ o,s.heap.get? p=some o∧o.ExactDict:=by
    rcases hk with ⟨kvs,hk⟩ | ⟨kvs,hk⟩
    ·obtain ⟨_,_,_,_,o,_,_,e,ex,_⟩:=I.hok p _ hk
     exact ⟨o,e,ex⟩
    ·obtain ⟨_,_,_,_,o,_,_,e,ex,_⟩:=I.hok p _ hk
     exact ⟨o,e,ex⟩
   obtain ⟨o,e,ex⟩:=z
   refine ⟨⟨o,e,ex.1⟩,fun a e2=>?_⟩
   cases e2
   exact ⟨o,e,ex.2.1⟩
  ·obtain ⟨o,_,_,_,e,ex,_⟩:=I.hok p _ hk
   refine ⟨⟨o,e,ex.1⟩,fun a e2=>?_⟩
   cases e2
   exact ⟨o,e,ex.2.1⟩
 | _=>exact False.elim ty
def tBM (K:PySem.W.Frag) (T:String) (r:V→List V→Hp→VK→Prop) (to:TE) (t:TA):TE:=fun σ H Q=>to σ H fun x H1=>tyV K T x H1∧t σ H1 fun xs H2=>r x xs H2 Q
variable {o e:Expr} {es:List Expr} {to:TE} {t:TA} {name:Str} {apos cpos:Pos} {T id:String} {r:V→List V→Hp→VK→Prop}
theorem am9 (pa:PlainAttrs T) (slot:Slot T name id) (hty:typeOf (.builtin id)=pure (.type "method_descriptor")) (hm:MtR X id r) (ho:PE X o to) (ha:PA X (e::es) t)
  (hbase:attributeBase o name X.env (eval o X.env)=eval o X.env:=by rfl)
  (hfew:((backTo cpos (starEach (e::es) X.env)).all (fun x => !x.1) && (backToKw cpos (keywordEach [] X.env)).all (fun x=>x.1.isSome)
   && decide ((e::es).length+([]:List Keyword).length+(if ([]:List Keyword).isEmpty then 0 else 1)<30))=true:=by rfl)
  (hline:(apos.endLine == cpos.line)=true:=by rfl) (hs:starEach (e::es) X.env=(false,eval e X.env)::starEach es X.env:=by rfl) (hplain:(backTo cpos (starEach es X.env)).any (·.1)=false:=by rfl) :
  PE X (.Call (.Attribute o name apos) (e::es) [] cpos) (tBM X.K T r to t):=by
 intro pins s σ H Q I h
 refine wpAny_Call_method_late hbase hfew hline rfl (thn (ho pins s σ H _ I h) fun v s1 ⟨x,H1,I1,r1,ty,q1⟩=>?_)
 obtain ⟨h1,h2⟩:=ais I1 r1 ty
 refine ⟨T,id,pa,slot,hty,h1,h2,?_⟩
 have hA:=ha cpos pins s1 σ H1 _ I1 q1
 rw [hs] at hA ⊢
 refine Calls.callWith_builtin (by show (false || (backTo cpos (starEach es X.env)).any (·.1))=false;rw [hplain]<;>rfl) (Calls.evalArgs_plain ?_)
 exact thn hA fun us s2 ⟨vs,H2,I2,r2,q2⟩=>hm pins s2 σ H2 x vs v us Q I2 r1 r2 q2
end
end L2
namespace L2
open PySem PySem.Spec PyProof.Rows
def MtM (X:Cx) (id:String) (r:V→List V→Hp→VK→Prop):Prop :=
 ∀ (pins:List (Addr × Obj)) (s:Shared) (σ:St) (H:Hp) (x:V) (xs:List V) (v:Value) (us:List Value) (Q:VK),Inv X pins σ H s→RelV x v→Vals xs us→r x xs H Q →
  wpAny (model X.prog X.w) X.A (call (.builtin id) (v::us)) (EP X pins σ Q) X.xe s
theorem Vals.one:∀ {x:V} {us:List Value},Vals [x] us→∃ u,us=[u]∧RelV x u
 | _,_, .cons r .nil=>⟨_,rfl,r⟩
theorem Vals.rep {xs:List V} {us:List Value} (h:Vals xs us):∀ k:Nat,Vals (List.replicate k xs).flatten (List.replicate k us).flatten
 | 0=>.nil
 | k+1=>by
  rw [List.replicate_succ,List.replicate_succ,List.flatten_cons,List.flatten_cons]
  exact Vals.append h (Vals.rep h k)
theorem foldl_rep (its:List Value):∀ (k:Nat) (acc:List Value),
  List.foldl (fun x1 x2=>x1++x2) acc.toArray (List.replicate k its.toArray)=(acc++(List.replicate k its).flatten).toArray
 | 0,acc=>by simp
 | k+1,acc=>by
  have e:acc.toArray++its.toArray=(acc++its).toArray:=by simp
  have e2:(acc++its)++(List.replicate k its).flatten=acc++(List.replicate (k+1) its).flatten:=by
   rw [List.replicate_succ,List.flatten_cons,List.append_assoc]
  rw [← e2,← foldl_rep its k (acc++its),← e,List.replicate_succ,List.foldl_cons]
section
variable {X:Cx} {pins:List (Addr × Obj)} {σ:St} {H:Hp} {s:Shared} {l b:Addr} {xs ys zs:List V}
theorem Inv.lset {its its':List Value} {n:Nat} {f:Array Value→Array Value} {t':Nat} (I:Inv X pins σ H s) (hH:H l=some (.lst xs))
  (e:s.heap.get? l=some { cls:=.type "list",data:=.seq its.toArray n }) (hf:f its.toArray=its'.toArray) (hv:Vals ys its') (hz:ys.length≤sizeLine) :
  Inv X pins σ (upd H l (.lst ys)) { s with heap:=s.heap.update l (Obj.mapSeq f),toks:=t' }:=by
 have q:=PySem.IsL.update e f
 rw [hf] at q
 refine I.write (x:=l) (e:=l) (by rw [hH];exact trivial) (.inl rfl) (fun b' u hb hu=>(Heap.get?_update_other s.heap (Obj.mapSeq f) (Ne.symm hb)).trans hu) ⟨_,q⟩ ?_
 exact ⟨hz,its',_,hv,q⟩
theorem Inv.lnew {its:List Value} {t':Nat} (I:Inv X pins σ H s) (hv:Vals ys its) (hz:ys.length≤sizeLine) :
  Inv X pins σ (upd H s.heap.objs.size (.lst ys)) { s with heap:=s.heap.push { cls:=.type "list",data:=.seq its.toArray },toks:=t' } :=
 I.laid (fun _ _ q=>Heap.get?_push_of_some _ q) (Nat.le_refl _) ⟨hz,its,0,hv,Heap.get?_push_size _ rfl⟩
theorem Inv.fresh (I:Inv X pins σ H s):H s.heap.objs.size=none:=I.hok.fresh (Nat.le_refl _)
theorem Inv.lstM (I:Inv X pins σ H s) (hH:H l=some (.lst xs)):xs.length≤sizeLine∧∃ (its:List Value) (n:Nat),Vals xs its∧xs.length=its.length∧s.heap.get? l=some { cls:=.type "list",data:=.seq its.toArray n }:=by
 obtain ⟨z,its,n,r,e⟩:=I.hok l _ hH
 exact ⟨z,its,n,r,r.length,e⟩
theorem ad3 {n:Nat} (h:n≤sizeLine):Builtin.List.listTooLong n=false:=by
 unfold Builtin.List.listTooLong
 exact decide_eq_false (by omega)
end
section
variable {X:Cx}
def aac:V→List V→Hp→VK→Prop:=fun x vs H Q=>∃ l xs y,x = .ref l∧vs=[y]∧H l=some (.lst xs)∧xs.length<sizeLine∧Q .non (upd H l (.lst (xs++[y])))
theorem wg:MtM X "list.append" aac:=by
 intro pins s σ H x vs v us Q I rx rv h
 obtain ⟨l,xs,y,rfl,rfl,hH,hz,q⟩:=h
 cases rx
 obtain ⟨u,rfl,ru⟩:=rv.one
 obtain ⟨z,its,n,r,hl,e⟩:=I.lstM hH
 refine call_meets F.slot_list_append ⟨_,e,rfl⟩ F.entry_list_append (F.args_list_append_2 _ _) (PySem.list_append l its.toArray n u (by rw [List.size_toArray];omega)) ⟨e,?_⟩
 refine ⟨.non,_,I.lset (its':=its++[u]) hH e (by simp) (r.append (.cons ru .nil)) ?_,rfl,q⟩
 rw [List.length_append,List.length_singleton]
 omega
theorem len_rep {α:Type} (xs:List α) (k:Nat):(List.replicate k xs).flatten.length=k*xs.length:=by
 induction k with
 | zero=>simp
 | succ k ih=>rw [List.replicate_succ,List.flatten_cons,List.length_append,ih,Nat.succ_mul,Nat.add_comm]
end
end L2
namespace Att
open PySem PySem.W PySem.Calls PyProof.Rows
theorem a2y {P:Params} {h:Heap}:∀ (ns:List Int) (vs:List Value),WellAll P h vs (ns.map WData.int)→IntsAre vs ns:=by
 intro ns
 induction ns with
 | nil =>
  intro vs w
  rw [List.map_nil] at w
  cases w
  exact .nil
 | cons n ns ih =>
  intro vs w
  rw [List.map_cons] at w
  cases w with
  | cons a b =>
   cases a
   exact .cons _ _ (ih _ b)
theorem aad {l:OpenLaw} {n:Nat} (hn:l.most=some n) {P:Params} {h:Heap} {args:List WData} {vals:List Value}
  (hpre:l.row.toRowW.claim.pre args=true) (hwl:WellAll P h vals args) :
  ∃ a vs ns,vals=[Value.ref a]∧args=[WData.list (ns.map WData.int)]∧h.get? a=some { cls:=.type "list",data:=.seq vs.toArray }∧IntsAre vs ns∧ns.length≤n:=by
 have hsh:WShape.hasAll [] args [.list .int]=true:=(pre_splitW hpre).1
 have hc:l.pre.holds [] { args:=args }=true:=(pre_splitW hpre).2
 obtain ⟨d,r,rfl,h1,h2⟩:=hasAllW_cons hsh
 obtain rfl:=hasAllW_nil h2
 obtain ⟨xs,rfl,h3⟩:=hasW_list h1
 obtain ⟨ns,rfl⟩:=items_int h3
 have hlen:ns.length≤n:=by
  unfold OpenLaw.pre at hc
  have h4:(WTm.not (.lt (.lit (.int (n:Int))) (.len (.arg 0)))).holds [] { args:=[.list (ns.map .int)] }=true:=by
   have h4:=(holds_andW hc).1
   rw [hn] at h4
   exact h4
  have h5:=condW_of h4 (w_not (w_lt w_lit (w_len_list (w_arg rfl))))
  rw [List.length_map] at h5
  refine Nat.le_of_not_lt fun q=>?_
  have q':(n:Int)<((ns.length:Nat):Int):=by omega
  first
   | (rw [decide_eq_true q'] at h5;exact absurd h5 (by decide))
   | (simp at h5;omega)
 cases hwl with
 | cons w1 w2 =>
  cases w2
  cases w1 with
  | list ho hall=>exact ⟨_,_,ns,rfl,rfl,ho,a2y ns _ hall,hlen⟩
theorem aae (l:OpenLaw) (args:List WData):l.row.toRowW.claim.post args (.bool true) args=true :=
 postW_of (r:=l.row.toRowW) (X:=(true == true))
  (show WShape.has [] (.bool true) .bool=true by first | rfl | decide | simp [WShape.has,WShape.arms,WShape.armsAll])
  (show (WTm.eq .res (.lit (.bool true))).value [] { args:=args,res:=some (.bool true),after:=args }=some (.bool (true == true)) from w_eq_bool (w_res rfl) w_lit) rfl
theorem a70 {l:OpenLaw} {n:Nat} {q:Program} {loose:List Str} {XP:(Str→Option Value)→Heap→Prop} {YP:World→Heap→Prop} {d:DefRec}
  (hn:l.most=some n) (hdf:d.params.defaults=[])
  (call:∀ (w:World) (s₀ s₁:Shared) (mg mb:Str→Option Value) (fa:Addr) (o:Obj) (pm cd doc:Value) (a:Addr) (vs:List Value) (ns:List Int),
   Ground q loose [] XP w s₀ mg mb s₁.heap→YP w s₁.heap →
   s₁.heap.get? fa=some o→o.data = .func (docDef d.name d.params d.body d.scope pm cd doc)→s₁.heap.CodeRec cd d.name→mg d.name=some (.ref fa) →
   s₁.heap.get? a=some { cls:=.type "list",data:=.seq vs.toArray }→IntsAre vs ns→ns.length≤n→s₁.gens = #[] →
   codeAny (model l.prog w) callerA (.call (.ref fa) ⟨[.ref a],[]⟩) (fun r s'=>r = .ok (.ret (.bool true))∧OldK s₁.heap s'.heap∧s'.os=s₁.os∧AllBare s'.gens) s₁) :
  WalkO q loose XP YP l.row.toRowW d [] (fun f vs=>PySem.call f vs):=by
 intro w s₀ s₁ mg mb G Y fa o pm cd doc dV kV ho hd hcd hD hmg hg args vals as hpre hlay hrd hwl hlo
 obtain rfl:dV = .none:=Dflts.none hD hdf
 obtain rfl:kV = .none:=Dflts.noKw hD
 obtain ⟨a,vs,ns,rfl,rfl,hobj,hints,hlen⟩:=aad hn hpre hwl
 refine enter_call (codeAny_mono (call w s₀ s₁ mg mb fa o pm cd doc a vs ns G Y ho (fd_plain hd) hcd hmg hobj hints hlen hg) fun r s' hq=>?_)
 obtain ⟨rfl,h2,h3,h4⟩:=hq
 exact ⟨.inl ⟨.bool true, .bool true,[],rfl,fun _=>rfl, .bool true,aae l _,fun _=>⟨List.Pairwise.nil,fun _ hm=>(nomatch hm)⟩⟩,h2,h3,h4⟩
end Att
namespace L2
open PySem PySem.Spec PyProof.Rows
theorem a2z:∀ {vs:List Value} {ns:List Int},IntsAre vs ns→Vals (ns.map V.int) vs
 | _,_, .nil=>.nil
 | _,_, .cons n t h=>.cons ⟨t,rfl⟩ (a2z h)
def Only (H:Hp):Prop:=∀ b,H b=none∨∃ o xs,H b=some (.frz o (.lst xs))
theorem ad4 {P:Program} {w:World} {K:PySem.W.Frag} {mg mb:Str→Option Value} {CX:CXT} {k:Nat} {fa a:Addr} {fd:FuncData} {x:Str} {sp:Sp} {s₁:Shared} {vs:List Value} {ns:List Int}
  (KX:K.In s₁.heap) (hns:s₁.heap.Ns mainGlobals mg) (hb:s₁.heap.Ns builtinsNs mb) (hbb:∀ x:Str,x ≠ "__name__"→mb x=bootBuiltins x) (hlim:s₁.heap.NoLimit) (hg:s₁.gens = #[])
  (ha:s₁.heap.get? a=some { cls:=.type "list",data:=.seq vs.toArray }) (hi:IntsAre vs ns) (hl:ns.length≤sizeLine) (hr:Room k callerA)
  (F:∀ base:Heap,K.In base→base.Ns mainGlobals mg→FnOk P w K mg base CX k fa fd [x] sp) (hbind:∀ (s:Shared) (u:Value),BindsTo s fd ⟨[u],[]⟩ [(x,u)])
  (hsp:∀ H:Hp,Only H→SqL K H a (ns.map V.int)→sp [.ref a] H (fun v _=>v = .bl true) fun _ _ _=>False)
  (hCX:∀ H e s',CX [] H s₁ (fun _ _ _=>False) e s'→False) :
  codeAny (model P w) callerA (.call (.ref fa) ⟨[.ref a],[]⟩) (fun r s'=>r = .ok (.ret (.bool true))∧OldK s₁.heap s'.heap∧s'.os=s₁.os∧AllBare s'.gens) s₁:=by
 have rv:=a2z hi
 have lenV:=hi.length
 have core:∀ H:Hp,Only H→SqL K H a (ns.map V.int)→HOk P w H s₁.heap→(∀ b,H b≠none→b=a)→(H a≠none→K.lookup a=none) →
   codeAny (model P w) callerA (.call (.ref fa) ⟨[.ref a],[]⟩) (fun r s'=>r = .ok (.ret (.bool true))∧OldK s₁.heap s'.heap∧s'.os=s₁.os∧AllBare s'.gens) s₁:=by
  intro H hO hS hok hA hK
  have base_of:∀ {b:Addr} {o:Obj},s₁.heap.get? b=some o→H b=none→(ack s₁.heap H).get? b=some o:=fun e n=>acl e n
  have noA:∀ {b:Addr} {o:Obj} {es:Array DictEntry} {ep:Nat},s₁.heap.get? b=some o→o.data = .dict es ep→H b=none:=fun {b o es ep} e d=>by
   cases q:H b with
   | none=>rfl
   | some u =>
    have e':b=a:=hA b (by rw [q];simp)
    subst e'
    rw [ha] at e;cases e
    have d':Data.seq vs.toArray _=Data.dict es ep:=d
    cases d'
  have nsK:∀ {b:Addr} {m:Str→Option Value},s₁.heap.Ns b m→(ack s₁.heap H).Ns b m:=fun {b m} ⟨o,es,ep,e,d,r⟩=>⟨o,es,ep,base_of e (noA e d),d,r⟩
  have hKb:K.In (ack s₁.heap H):=fun b o e=>base_of (KX b o e) (by
   cases q:H b with
   | none=>rfl
   | some u =>
    have e':b=a:=hA b (by rw [q];simp)
    subst e'
    rw [hK (by rw [q];simp)] at e;cases e)
  have hM:Mod K mg (ack s₁.heap H):=⟨hKb,nsK hns,⟨mb,nsK hb,hbb⟩,let ⟨mc,h1,h2⟩:=hlim; ⟨mc,nsK h1,h2⟩⟩
  have e0:Env0 P w K mg (ack s₁.heap H) callerA [] s₁ H:=⟨rfl,hM,fun b o e=>afg e,Nat.le_of_eq (a9s _ _),trivial,fun b hb=>absurd (show b∈([]:List Addr) from hb) (by simp),hok, .of_eq hg⟩
  refine codeAny_mono ((F _ hKb (nsK hns)).run callerA [] s₁ H ⟨[.ref a],[]⟩ [.ref a] [.ref a] _ _ hr e0 (hbind s₁ (.ref a)) (.cons rfl .nil) (hsp H hO hS)) fun r s' h=>?_
  cases r with
  | error e=>exact (hCX H e s' h).elim
  | ok fl =>
   cases fl with
   | next=>exact False.elim h
   | brk=>exact False.elim h
   | cont=>exact False.elim h
   | ret u =>
    obtain ⟨v,H',os,bare,un,hok',r',q⟩:=h
    have q':v = .bl true:=q
    subst q'
    obtain rfl:u=Value.bool true:=r'
    refine ⟨rfl,OldK.of_keep fun b o e=>?_,os,bare⟩
    cases q:H b with
    | none=>exact un.keep b o e q (by intro z;exact absurd (show b∈([]:List Addr) from z) (by simp)) (by simp)
    | some u =>
     rcases hO b with z | ⟨ob,xs,z⟩
     ·rw [q] at z;cases z
     ·have z2:=un.frzs b ob _ z
      obtain ⟨e1,_⟩:=hok b _ z
      obtain ⟨e2,_⟩:=hok' b _ z2
      rw [e] at e1;cases e1
      exact e2
 cases hk:K.lookup a with
 | some o =>
  have e:=KX a o hk
  rw [ha] at e
  cases e
  refine core (fun _=>none) (fun _=>.inl rfl) (.inr ⟨_,vs.toArray,_,hk,rfl,rfl,rfl,by rw [List.size_toArray,lenV];exact hl,by simpa using rv⟩) (fun b u z=>by have z':(none:Option HO)=some u:=z;cases z') (fun b z=>absurd rfl z) fun z=>absurd rfl z
 | none =>
  refine core (fun b=>if b=a then some (.frz { cls:=.type "list",data:=.seq vs.toArray } (.lst (ns.map V.int))) else none) (fun b=>?_) (.inl (.inr ⟨{ cls:=.type "list",data:=.seq vs.toArray },if_pos rfl⟩)) (fun b u z=>?_) (fun b z=>?_) fun _=>hk
  ·by_cases hb:b=a
   ·exact .inr ⟨_,_,if_pos hb⟩
   ·exact .inl (if_neg hb)
  ·by_cases hb:b=a
   ·have z':=(if_pos hb).symm.trans z
    cases z'
    subst hb
    exact ⟨ha,by rw [List.length_map];exact hl,vs,_,rv,ha⟩
   ·have z':=(if_neg hb).symm.trans z
    cases z'
  ·by_cases hb:b=a
   ·exact hb
   ·exact absurd (if_neg hb) z
end L2
namespace L2
open PySem PySem.Spec PyProof.Rows
theorem ag3 {l:PySem.W.OpenLaw} {n k:Nat} {q:Program} {loose:List Str} {XP:(Str→Option Value)→Heap→Prop} {YP:World→Heap→Prop} {d:DefRec} {K:Params→PySem.W.Frag} {CX:World→CXT} {sp:World→Sp} {x:Str}
  (hn:l.most=some n) (hn2:n≤sizeLine) (hdf:d.params.defaults=[]) (hr:Room k callerA)
  (hY:∀ (w:World) (h:Heap),YP w h→(K w.params).In h)
  (F:∀ (w:World) (mg:Str→Option Value) (fa:Addr) (h:Heap),(K w.params).In h→h.Ns mainGlobals mg→mg d.name=some (.ref fa) →
   ∃ fd:FuncData,(∀ (s:Shared) (u:Value),BindsTo s fd ⟨[u],[]⟩ [(x,u)]) ∧
    ∀ base:Heap,(K w.params).In base→base.Ns mainGlobals mg→FnOk l.prog w (K w.params) mg base (CX w) k fa fd [x] (sp w))
  (hsp:∀ (w:World) (H:Hp) (a:Addr) (ns:List Int),ns.length≤n→Only H→SqL (K w.params) H a (ns.map V.int)→sp w [.ref a] H (fun v _=>v = .bl true) fun _ _ _=>False)
  (hCX:∀ (w:World) (H:Hp) (s:Shared) (e:Value) (s':Shared),CX w [] H s (fun _ _ _=>False) e s'→False) :
  PySem.W.WalkO q loose XP YP l.row.toRowW d [] (fun f vs=>PySem.call f vs):=by
 refine Att.a70 hn hdf fun w s₀ s₁ mg mb fa o pm cd doc a vs ns G Y ho hd hcd hmg hobj hints hlen hg=>?_
 have KX:=hY w _ Y
 obtain ⟨fd,hb,hF⟩:=F w mg fa _ KX G.T.g hmg
 exact ad4 KX G.T.g G.T.b G.T.builtins G.T.nolimit hg hobj hints (Nat.le_trans hlen hn2) hr hF hb (fun H hO hS=>hsp w H a ns hlen hO hS) fun H e s'=>hCX w H s₁ e s'
end L2
namespace L2
open PySem PySem.Spec PyProof.Rows
def a1j (s:Stmt):Arguments:=match s with
 | .FunctionDef _ a _ _ _ _ _ _ _ _=>a
 | _=>{ posonlyargs:=[],args:=[],vararg:=none,kwonlyargs:=[],kw_defaults:=[],kwarg:=none,defaults:=[] }
def iw (s:Stmt):List Stmt:=match s with
 | .FunctionDef _ _ b _ _ _ _ _ _ _=>b
 | _=>[]
def az (s:Stmt):Scope:=match s with
 | .FunctionDef _ _ _ _ _ _ sc _ _ _=>sc
 | _=>{ kind:=.function,names:=[],isGenerator:=false,isCoroutine:=false }
abbrev CX0:CXT:=fun _ _ _ _ _ _=>False
abbrev E0:XK:=fun _ _ _=>False
theorem ait {X:Cx}:a7n CX0 X E0:=fun _ _ _ _ _ _ _ h=>h.elim
structure Fun (K:PySem.W.Frag) (x qual:Str) (st:Stmt) (f:Addr) (fd:FuncData):Prop where
 ex:∃ (oc:Value) (od:Option Addr) (kV doc pm:Value) (an:Option Addr) (cdv ct:Value) (osl:Array (Option Value)),
  fd=PySem.W.fnOf x qual (a1j st) (iw st) (az st) .none kV doc pm an cdv ct∧K.lookup f=some ⟨oc,od, .func fd,osl⟩∧PySem.W.codeIn K cdv qual=true
 kp:PySem.W.keepIn K (.ref f)=true
section
variable {P:Program} {w:World} {K:PySem.W.Frag} {mg:Str→Option Value} {base:Heap}
theorem Fun.ok {x qual:Str} {st:Stmt} {f:Addr} {fd:FuncData} {N ps:List Str} {k:Nat} {sp:Sp} (F:Fun K x qual st f fd) (S:FnScope N ps (az st)) (len:∀ vs H Q E,sp vs H Q E→vs.length=ps.length)
  (hbody:∀ (cdv:Value) (A:Around) (outer:List Env) (s:Shared) (H:Hp) (vs:List V) (Q:VK) (E:XK),Room k (A.deeper (envOfC qual (az st) s.heap.objs.size f cdv))→sp vs H Q E →
   ∃ t,PSs (a0r CX0 P w K mg base N qual (az st) f cdv A outer s H E).nox (iw st) t∧t { nx:=fun _ H'=>Q .non H',rt:=Q } (start N vs) H):FnOk P w K mg base CX0 (k+1) f fd ps sp:=by
 obtain ⟨oc,od,kV,doc,pm,an,cdv,ct,osl,rfl,lk,hcd⟩:=F.ex
 refine am4 lk hcd S len fun A outer s H vs Q E hr hsp=>?_
 obtain ⟨t,h,q⟩:=hbody cdv A outer s H vs Q E hr hsp
 exact ⟨t,h.nox,q⟩
theorem Fun.binds {x qual:Str} {st:Stmt} {f:Addr} {fd:FuncData} {ps:List Str} (F:Fun K x qual st f fd)
  (h:∀ (kV doc pm:Value) (an:Option Addr) (cdv ct:Value) (us:List Value),us.length=ps.length→bindArgs (PySem.W.fnOf x qual (a1j st) (iw st) (az st) .none kV doc pm an cdv ct) ⟨us,[]⟩=pure (ps.zip us)):Binds K fd ps []:=by
 obtain ⟨oc,od,kV,doc,pm,an,cdv,ct,osl,rfl,lk,hcd⟩:=F.ex
 exact .all (h kV doc pm an cdv ct)
theorem m5 {x qual:Str} {st:Stmt} {f:Addr} {oc:Value} {od an:Option Addr} {osl:Array (Option Value)} {kV doc pm cdv ct:Value} (l:K.lookup f=some ⟨oc,od, .func (PySem.W.fnOf x qual (a1j st) (iw st) (az st) .none kV doc pm an cdv ct),osl⟩)
  (c:PySem.W.codeIn K cdv qual=true) (k:PySem.W.keepIn K (.ref f)=true):Fun K x qual st f (PySem.W.fnOf x qual (a1j st) (iw st) (az st) .none kV doc pm an cdv ct):=⟨⟨oc,od,kV,doc,pm,an,cdv,ct,osl,rfl,l,c⟩,k⟩
end
def Same (H H':Hp):Prop:=∀ b o,H b=some o→H' b=some o
theorem Same.seq {K:PySem.W.Frag} {H H':Hp} {a:Addr} {xs:List V} (e:Same H H') (h:SqL K H a xs):SqL K H' a xs:=by
 rcases h with (h | ⟨o,h⟩) | h
 ·exact .inl (.inl (e _ _ h))
 ·exact .inl (.inr ⟨o,e _ _ h⟩)
 ·exact .inr h
end L2
namespace L2
open PySem PySem.Spec PyProof.Rows
section
variable {κ:Type} [DecidableEq κ]
def aaf (kvs:List (κ × V)) (k:κ):Option V:=(kvs.find? fun kv=>decide (kv.1=k)).map (·.2)
def putK (kvs:List (κ × V)) (k:κ) (v:V):List (κ × V) :=
 if (kvs.any fun kv=>decide (kv.1=k))=true then kvs.map (fun kv=>if kv.1=k then (kv.1,v) else kv) else kvs++[(k,v)]
theorem a7q {p:κ × V} {r:List (κ × V)} {k:κ} (e:p.1=k):aaf (p::r) k=some p.2:=by simp [aaf,List.find?_cons,e]
theorem a7r {p:κ × V} {r:List (κ × V)} {k:κ} (e:¬ p.1=k):aaf (p::r) k=aaf r k:=by simp [aaf,List.find?_cons,e]
theorem RelO.getD {o:Option V} {u:Option Value} {d:V} {d':Value} (r:RelO o u) (rd:RelV d d'):RelV (o.getD d) (u.getD d'):=by
 cases o with
 | none=>cases u with
  | none=>exact rd
  | some _=>exact (show False from r).elim
 | some _=>cases u with
  | none=>exact (show False from r).elim
  | some _=>exact r
theorem KV.val {kvs:List (κ × V)} {vs:List (κ × Value)} (r:KV kvs vs) (k:κ):RelO (aaf kvs k) (valueAt vs k):=by
 unfold KV at r
 induction r with
 | nil=>exact True.intro
 | @cons p q ps qs h t ih =>
  obtain ⟨h1,h2⟩:=h
  by_cases e:p.1=k
  ·have e':q.1=k:=h1.symm.trans e
   have b:valueAt (q::qs) k=some q.2:=by simp [valueAt,List.find?_cons,e']
   rw [a7q e,b];exact h2
  ·have e':¬ q.1=k:=fun z=>e (h1.trans z)
   have b:valueAt (q::qs) k=valueAt qs k:=by simp [valueAt,List.find?_cons,e']
   rw [a7r e,b];exact ih
end
abbrev KT (H:Hp):List (List Key × V)→List (List Key × Addr × Value)→Prop:=Paired fun p q=>p.1=q.1∧H q.2.1=some (.tup (p.1.map kV))∧RelV p.2 q.2.2
theorem KT.val {H:Hp} {kvs:List (List Key × V)} {xs:List (List Key × Addr × Value)} (r:KT H kvs xs) (k:List Key):RelO (aaf kvs k) ((atKey xs k).map (·.2)):=by
 induction r with
 | nil=>exact True.intro
 | @cons p q ps qs h t ih =>
  obtain ⟨h1,_,h2⟩:=h
  by_cases e:p.1=k
  ·have e':q.1=k:=h1.symm.trans e
   have b:atKey (q::qs) k=some q.2:=by simp [atKey,List.find?_cons,e']
   rw [a7q e,b];exact h2
  ·have e':¬ q.1=k:=fun z=>e (h1.trans z)
   have b:atKey (q::qs) k=atKey qs k:=by simp [atKey,List.find?_cons,e']
   rw [a7r e,b];exact ih
theorem KT.keeps {H H':Hp} {kvs:List (List Key × V)} {xs:List (List Key × Addr × Value)} (r:KT H kvs xs) (ht:∀ b ys,H b=some (.tup ys)→H' b=some (.tup ys)):KT H' kvs xs :=
 Paired.mapP r fun _ _ z=>⟨z.1,ht _ _ z.2.1,z.2.2⟩
def DGet (H:Hp) (a:Addr) (y:V) (r:Option V):Prop :=
 (∃ kvs k,Rd H a (.dK kvs)∧y=kV k∧r=aaf kvs k)∨∃ kvs k b,Rd H a (.dT kvs)∧y = .ref b∧H b=some (.tup (k.map kV))∧r=aaf kvs k
def DPut (H:Hp) (a:Addr) (y v:V) (H':Hp):Prop :=
 (∃ kvs k,H a=some (.dK kvs)∧y=kV k∧kvs.length<sizeLine∧H'=upd H a (.dK (putK kvs k v))) ∨
 ∃ kvs k b,H a=some (.dT kvs)∧y = .ref b∧H b=some (.tup (k.map kV))∧kvs.length<sizeLine∧H'=upd H a (.dT (putK kvs k v))
theorem DGet.k {H:Hp} {a:Addr} {kvs:List (Key × V)} {k:Key} (e:H a=some (.dK kvs)):DGet H a (kV k) (aaf kvs k):=.inl ⟨kvs,k, .inl e,rfl,rfl⟩
theorem DGet.t {H:Hp} {a b:Addr} {kvs:List (List Key × V)} {k:List Key} (e:H a=some (.dT kvs)) (eb:H b=some (.tup (k.map kV))):DGet H a (.ref b) (aaf kvs k):=.inr ⟨kvs,k,b, .inl e,rfl,eb,rfl⟩
theorem DPut.k {H:Hp} {a:Addr} {kvs:List (Key × V)} {k:Key} {v:V} (e:H a=some (.dK kvs)) (hl:kvs.length<sizeLine):DPut H a (kV k) v (upd H a (.dK (putK kvs k v))):=.inl ⟨kvs,k,e,rfl,hl,rfl⟩
theorem DPut.t {H:Hp} {a b:Addr} {kvs:List (List Key × V)} {k:List Key} {v:V} (e:H a=some (.dT kvs)) (eb:H b=some (.tup (k.map kV))) (hl:kvs.length<sizeLine) :
  DPut H a (.ref b) v (upd H a (.dT (putK kvs k v))):=.inr ⟨kvs,k,b,e,rfl,eb,hl,rfl⟩
section
variable {X:Cx} {pins:List (Addr × Obj)} {σ:St} {H:Hp} {s:Shared} {a:Addr} {y v:V} {u r:Value} {o:Option V} {A:Around} {E:Value→Shared→Prop}
theorem Inv.big (I:Inv X pins σ H s):sysModules<s.heap.objs.size:=by
 have h:mainGlobals<s.heap.objs.size:=(I.mod.glob.keeps I.bk).lt
 exact Nat.lt_trans (by decide) h
end
theorem ad5 {P:Program} {w:World} {H:Hp} (h:Heap) (hb:sysModules<h.objs.size):ObjOk P w H (h.push { cls:=.type "dict",data:=.dict #[] }) h.objs.size (.dK []) :=
 ⟨Nat.zero_le _,beq_eq_false_iff_ne.mpr (Ne.symm (Nat.ne_of_lt hb)),[], .nil,Heap.DictOf.new h⟩
def aiu:TE:=fun _ H Q=>∀ p,H p=none→Q (.ref p) (upd H p (.dK []))
section
variable {X:Cx} {pos:Pos}
theorem ad6:PE X (.Dict [] [] pos) aiu:=fun pins s σ H Q I h =>
 wpAny_Dict_empty ⟨.ref s.heap.objs.size,_,I.laid (a:=s.heap.objs.size) (o:=.dK []) (t':=s.toks) (fun _ _ q=>Heap.get?_push_of_some _ q) (Nat.le_refl _) (ad5 s.heap I.big),rfl,h _ (I.hok.fresh (Nat.le_refl _))⟩
end
end L2
set_option maxHeartbeats 4000000
namespace L2
open PySem PySem.Spec PyProof.Rows
section
variable {X:Cx}
theorem a4r:OpR X (compareOp .Is) (fun x y H Q=>∃ i j,x = .bl i∧y = .bl j∧Q (.bl (i == j)) H):=by
 intro pins s σ H x y v u Q I rx ry h
 obtain ⟨i,j,rfl,rfl,q⟩:=h
 cases rx
 cases ry
 exact is_bool (a5s I q rfl)
theorem wj:OpR X (compareOp .LtE) (fun x y H Q=>∃ i j,x = .str i∧y = .str j∧Q (.bl (!decide (j.cps.toList<i.cps.toList))) H):=by
 intro pins s σ H x y v u Q I rx ry h
 obtain ⟨i,j,rfl,rfl,q⟩:=h
 obtain ⟨t,rfl⟩:=rx
 obtain ⟨t',rfl⟩:=ry
 exact PySem.P.le_str (a5s I q rfl)
def a2d {α:Type} (xs:List α) (lo hi:Option Int):List α:=(xs.drop (HT.sIx xs.length 0 lo)).take (HT.sIx xs.length xs.length hi - HT.sIx xs.length 0 lo)
def ama:V→Option Int→Option Int→Hp→VK→Prop:=fun x lo hi H Q=>∃ z,x = .str z∧z.length≤sizeLine∧Q (.str ⟨(a2d z.cps.toList lo hi).toArray⟩) H
theorem aiv (lo hi:Option Int) (n:Nat):Builtin.Str.strSliceIndices lo hi 1 n=(List.range (HT.sIx n n hi - HT.sIx n 0 lo)).map fun k=>HT.sIx n 0 lo+k:=by
 have e1:Builtin.Str.strSliceIndices lo hi 1 n=sliceRange ((HT.sIx n 0 lo:Nat):Int) ((HT.sIx n n hi:Nat):Int) 1:=by
  unfold Builtin.Str.strSliceIndices
  dsimp only
  congr 1
  ·cases lo with
   | none=>simp [HT.sIx]
   | some i=>simp only [HT.sIx,show (1:Int) > 0 by decide,if_true];split<;>omega
  ·cases hi with
   | none=>simp [HT.sIx]
   | some i=>simp only [HT.sIx,show (1:Int) > 0 by decide,if_true];split<;>omega
 rw [e1]
 exact sliceRange_one _ _
theorem aiw {α:Type} (xs:List α) (a:Nat):∀ k,a+k≤xs.length→((List.range k).map fun j=>a+j).filterMap (xs[·]?)=(xs.drop a).take k
 | 0,_=>by simp
 | k+1,h=>by
  rw [List.range_succ,List.map_append,List.filterMap_append,aiw xs a k (by omega)]
  have hk:a+k<xs.length:=by omega
  rw [List.take_succ]
  congr 1
  simp [List.getElem?_drop,hk]
theorem aix:SlR X ama:=by
 intro pins s σ H x v vl vu lo hi sl Q I rx hs pl pu h
 obtain ⟨z,rfl,hz,q⟩:=h
 obtain ⟨t,rfl⟩:=rx
 refine ⟨"str",_,PyProof.Rows.slot_str_getitem.lookup,typeIs_str s z t,?_⟩
 have hl:z.cps.toList.length=z.length:=by simp [Str.length]
 have fin:∀ (l u:Option (Int × Tok)),vl=partValue l→vu=partValue u→l.map (·.1)=lo→u.map (·.1)=hi→wpAny (model X.prog X.w) X.A (getItem (.str z t) (.ref sl)) (EP X pins σ Q) X.xe s:=by
  intro l u e1 e2 e3 e4
  subst e1 e2
  refine wpAny_getItem_str_slice (l:=l) (u:=u) (st:=none) hs rfl ?_
  have hp:slicePicked z l u none=(List.range (HT.sIx z.length z.length hi - HT.sIx z.length 0 lo)).map fun k=>HT.sIx z.length 0 lo+k:=by
   unfold slicePicked
   rw [e3,e4]
   exact aiv lo hi z.length
  have hb1:HT.sIx z.length z.length hi≤z.length:=HT.aa8 _ _ (Nat.le_refl _) _
  have hb2:HT.sIx z.length 0 lo≤z.length:=HT.aa8 _ _ (Nat.zero_le _) _
  unfold sliceMade
  split
  ·rename_i c
   simp only [Bool.and_eq_true,beq_iff_eq] at c
   obtain ⟨_,c⟩:=c
   rw [hp,List.length_map,List.length_range] at c
   have e:(⟨(a2d z.cps.toList lo hi).toArray⟩:Str)=z:=by
    unfold a2d
    rw [hl]
    have z1:HT.sIx z.length 0 lo=0:=by omega
    have z2:HT.sIx z.length z.length hi=z.length:=by omega
    rw [z1,z2,List.drop_zero,Nat.sub_zero,List.take_of_length_le (by omega)]
   rw [e] at q
   exact ⟨.str z,H,I,⟨_,rfl⟩,q⟩
  ·have e:(⟨(a2d z.cps.toList lo hi).toArray⟩:Str)=⟨((slicePicked z l u none).filterMap (z.cps[·]?)).toArray⟩:=by
    rw [hp]
    unfold a2d
    rw [hl]
    by_cases hc:HT.sIx z.length 0 lo≤HT.sIx z.length z.length hi
    ·rw [← aiw z.cps.toList _ _ (by omega)]
     simp only [Array.getElem?_toList]
    ·rw [show HT.sIx z.length z.length hi - HT.sIx z.length 0 lo=0 by omega]
     simp
   rw [e] at q
   refine ⟨?_, .str _,H,I.tok _,⟨_,rfl⟩,q⟩
   rw [← e]
   show (a2d z.cps.toList lo hi).toArray.size≤sizeLine
   rw [List.size_toArray]
   unfold a2d
   rw [List.length_take,List.length_drop,hl]
   omega
 cases pl with
 | none=>cases pu with
  | none=>exact fin none none rfl rfl rfl rfl
  | int j t'=>exact fin none (some (j,t')) rfl rfl rfl rfl
 | int i t'=>cases pu with
  | none=>exact fin (some (i,t')) none rfl rfl rfl rfl
  | int j t''=>exact fin (some (i,t')) (some (j,t'')) rfl rfl rfl rfl
theorem qi:CallR X (.builtin "isinstance") (fun xs H Q=>∃ x T t b,xs=[x, .ty T]∧TyOf X.K H x t∧PySem.W.kitOne X.K t (.type T)=some b∧Q (.bl b) H):=by
 intro pins s σ H xs us Q I r h
 obtain ⟨x,T,t,b,rfl,ty,e,q⟩:=h
 obtain ⟨u,w',rfl,rx,rt⟩:=vals2 r
 cases rt
 exact aa4 I rx ty e fun tk=>⟨.bl b,H,I.tok tk,rfl,q⟩
theorem a65 (bs:List Bool):((List.range bs.length).all fun i=>(bs[i]?).getD true)=bs.all id:=by
 have e:(List.range bs.length).map (fun i=>(bs[i]?).getD true)=bs:=by
  apply List.ext_getElem (by simp)
  intro i h1 h2
  simp [h2]
 have f:((List.range bs.length).map fun i=>(bs[i]?).getD true).all id=bs.all id:=by rw [e]
 rw [← f,List.all_map]
 rfl
theorem xj (hc:X.calm=true):CallR X (.builtin "all") (fun xs H Q=>∃ (p:Addr) (bs:List Bool),xs=[.ref p]∧SqL X.K H p (bs.map V.bl)∧Q (.bl (bs.all id)) H):=by
 intro pins s σ H xs us Q I r h
 obtain ⟨p,bs,rfl,hq,q⟩:=h
 obtain ⟨u,rfl,rx⟩:=vals1 r
 cases rx
 obtain ⟨its,r',pl,hz⟩:=I.list hq
 have hl:=r'.length
 rw [List.length_map] at hl
 have hlt:p<s.heap.objs.size:=by obtain ⟨_,e,_⟩:=pl.isList;exact Heap.lt_size e
 refine call_all_walk (wpAny_pyIter_list pl.isList ?_)
 refine ⟨s.heap.objs.size,[s.heap.objs.size,p],[s.heap.objs.size],its.toArray.size,_,_,fun i=>(bs[i]?).getD true,rfl,Walks.list (A:=X.A.in1) (I.ok.hd hc) _ p (Nat.ne_of_lt hlt) its.toArray,
  ⟨⟨_,Heap.get?_push_size _ rfl,rfl,rfl⟩,pl.isList.push _⟩,fun i v s' Q' E' hP hQ=>?_,fun h' tk hk=>?_⟩
 ·have hP':its[i]? = some v:=by simpa using hP
  have hi:i<bs.length:=by
   have:=(List.getElem?_eq_some_iff.mp hP').1
   omega
  obtain ⟨u,e,ru⟩:=r'.get (i:=i) (x:=.bl bs[i]) (by simp [hi])
  rw [hP'] at e
  cases e
  cases ru
  simp only [List.getElem?_eq_getElem hi,Option.getD_some] at hQ
  exact wpAny_truthy_bool hQ
 ·have e:((List.range its.toArray.size).all fun i=>(bs[i]?).getD true)=bs.all id:=by
   rw [List.size_toArray,← hl];exact a65 bs
  rw [e]
  exact ⟨.bl _,H,I.kept fun b x e=>hk b x (fun hm=>by rw [List.mem_singleton.mp hm] at e;exact Nat.lt_irrefl _ (Heap.lt_size e)) (Heap.get?_push_of_some _ e),rfl,q⟩
def a0s (x:Str):List V:=x.cps.toList.map fun c=>V.str ⟨#[c]⟩
theorem a8y {x:Str} {acc:Array Value} (h:ItemsOf (SignAt x) acc x.cps.size):Vals (a0s x) acc.toList:=by
 obtain ⟨hs,ha⟩:=h
 have key:∀ (cs:List Nat) (us:List Value),us.length=cs.length→(∀ (j:Nat) (v:Value),us[j]? = some v→∃ c u,cs[j]? = some c∧v = .str ⟨#[c]⟩ u)→Vals (cs.map fun c=>V.str ⟨#[c]⟩) us:=by
  intro cs
  induction cs with
  | nil=>intro us hl _;cases us with | nil=>exact .nil | cons _ _=>simp at hl
  | cons c cs ih =>
   intro us hl hp
   cases us with
   | nil=>simp at hl
   | cons u us =>
    refine .cons ?_ (ih us (by simpa using hl) fun j v e=>hp (j+1) v (by simpa using e))
    obtain ⟨c',t,e1,e2⟩:=hp 0 u rfl
    simp at e1
    subst e1
    exact ⟨t,e2⟩
 refine key _ _ (by simp [hs]) fun j v e=>?_
 obtain ⟨c,u,e1,e2⟩:=ha j v (by simpa using e)
 exact ⟨c,u,by simpa using e1,e2⟩
theorem v5 (hc:X.calm=true):CallR X (.type "tuple") (fun xs H Q=>∃ z,xs=[.str z]∧z.length≤sizeLine∧∀ l,H l=none→Q (.ref l) (upd H l (.tup (a0s z)))):=by
 intro pins s σ H xs us Q I r h
 obtain ⟨z,rfl,hz,q⟩:=h
 obtain ⟨u,rfl,t,rfl⟩:=vals1 r
 refine PySem.call_tuple_str (I.ok.hd hc) z t (fun h' tk acc kp hi=>?_) (by simpa [Str.length] using hz)
 have I1:Inv X pins σ H { s with heap:=h',toks:=tk }:=I.kept kp
 have I2:Inv X pins σ (upd H h'.objs.size (.tup (a0s z))) { s with heap:=h'.push { cls:=.type "tuple",data:=.seq acc },toks:=tk } :=
  I1.laid (t':=tk) (fun b o e=>Heap.get?_push_of_some _ e) (Nat.le_refl _) (show ObjOk X.prog X.w _ _ _ (.tup (a0s z)) from ⟨by simpa [a0s,Str.length] using hz,acc.toList,a8y hi,by simpa using IsTup.new h' acc⟩)
 exact ⟨.ref h'.objs.size,_,I2,rfl,q _ (I1.hok.fresh (Nat.le_refl _))⟩
end
def Its (x:Str):It:=⟨fun i _=>i<x.cps.size,fun i H v H'=>H'=H∧∃ c,x.cps.toList[i]? = some c∧v = .str ⟨#[c]⟩,fun i _=>i=x.cps.size⟩
theorem a7s {P:Program} {w:World} {K:PySem.W.Frag} {tg:Expr} (it:Addr) (x:Str) (t:Tok) (ty:String)
  (hty:["enumerate", "zip", "dict_itemiterator", "dict_reverseitemiterator", "odict_iterator", "itertools.zip_longest", "itertools.pairwise"].contains ty=false)
  (W:∀ A':Around,A'.handled=none→Walks P w A' it [it] [it] x.cps.size (SignAt x) (fun i h=>h.IsStrIter it ty x t i))
  (slf:∀ (A:Around) (i:Nat) (s:Shared) (Q:Value→Shared→Prop) (E:Value→Shared→Prop),s.heap.IsStrIter it ty x t i→Q (.ref it) s→wpAny (model P w) A (pyIter (.ref it)) Q E s) :
  Turn P w K tg (Its x) [it] it (fun i h=>h.IsStrIter it ty x t i) where
 mem:=by simp
 obj:=fun i h st b hb=>by
  have e:b=it:=by simpa using hb
  subst e
  obtain ⟨o,e,c,d⟩:=st
  exact ⟨o,e,fun v z=>by rw [d] at z;cases z⟩
 keep:=fun i h h' st k=>by
  obtain ⟨o,e,c,d⟩:=st
  exact ⟨o,k it (by simp) o e,c,d⟩
 item:=by
  intro X hP hw hK hc i pins s σ H E I hf st hg
  subst hP hw hK
  obtain ⟨f0,f1,f2,f3,f4,f5⟩:=hf it (by simp)
  refine (W X.A (I.ok.hd hc)).item i s _ _ hg st fun v h' tk hv st' kk=>?_
  obtain ⟨c,u,hx,rfl⟩:=hv
  have I1:Inv X pins σ H { s with heap:=h',toks:=tk }:=I.turned (fun b o hb e=>kk b o (by simpa using hb) e) f0 f1 f3 f4 f5
  obtain ⟨o,e,oc,d⟩:=id st'
  exact ⟨_,rfl,acr (s:={ s with heap:=h',toks:=tk }) e oc d hty ⟨.str ⟨#[c]⟩,H,I1,⟨_,rfl⟩,⟨rfl,c,by simpa using hx,rfl⟩,st',fun b hb=>(hf b hb).1⟩⟩
 done:=by
  intro X hP hw hK hc i pins s σ H E I hf st hg
  subst hP hw hK
  obtain ⟨f0,f1,f2,f3,f4,f5⟩:=hf it (by simp)
  have hg':i=x.cps.size:=hg
  subst hg'
  exact (W X.A (I.ok.hd hc)).done s _ _ st fun h' tk eb=>⟨rfl,I.turned (fun b o hb e=>eb b o (by simpa using hb) e) f0 f1 f3 f4 f5⟩
 self:=slf
section
variable {X:Cx} {tg:Expr}
def aok (tl:TE):TI:=fun σ H R=>tl σ H fun x H1=>∃ z,x = .str z∧R (Its z) H1
theorem aes {l:Expr} {tl:TE} (hl:PE X l tl):PI X tg l (aok tl):=by
 intro pins s σ H R I h
 refine thn (hl pins s σ H _ I h) fun v s1 ⟨x,H1,I1,r1,q1⟩=>?_
 obtain ⟨z,e,q⟩:=q1
 subst e
 obtain ⟨t,rfl⟩:=r1
 have fp:∀ b∈[s1.heap.objs.size],a6x X pins H1 b:=fun b hb=>by
  have e:b=s1.heap.objs.size:=by simpa using hb
  subst e
  exact I1.fpOk (Nat.le_refl _) (I1.hok.fresh (Nat.le_refl _))
 cases ha:z.cps.all (· < 128)
 ·exact wpAny_pyIter_wide ha ⟨s1.heap.objs.size,[s1.heap.objs.size],_,_,H1,rfl,I1.kept (t':=s1.toks) fun b o e=>Heap.get?_push_of_some _ e,
   a7s _ z t "str_iterator" (by decide) (fun A' hA=>Walks.strWide hA _ z t) (fun _ _ _ _ _ st h=>wpAny_pyIter_striter_wide st h),⟨_,Heap.get?_push_size _ rfl,rfl,rfl⟩,fp,q⟩
 ·exact wpAny_pyIter_ascii ha ⟨s1.heap.objs.size,[s1.heap.objs.size],_,_,H1,rfl,I1.kept (t':=s1.toks) fun b o e=>Heap.get?_push_of_some _ e,
   a7s _ z t "str_ascii_iterator" (by decide) (fun A' hA=>Walks.strAscii hA _ z t) (fun _ _ _ _ _ st h=>wpAny_pyIter_striter_ascii st h),⟨_,Heap.get?_push_size _ rfl,rfl,rfl⟩,fp,q⟩
end
end L2
namespace L2
open PySem PySem.Spec PyProof.Rows
def cxC (X:Cx) (N:List Str) (scope:Scope) (cl:List (Str × Addr)) (C:Addr) (fp:List Addr) (s:Shared) (H:Hp):Cx where
 prog:=X.prog
 w:=X.w
 K:=X.K
 mg:=X.mg
 base:=X.base
 A:=X.A
 N:=N
 s₀:=s
 H₀:=H
 env:=compEnvC scope cl C X.env
 outer:=X.stack
 stack:=X.stack
 ex:=fp
 fn:=fun _=>false
 calm:=X.calm
 pn:=[]
 xe:=fun _ _=>False
structure CSc (X:Cx) (scope:Scope) (cl:List (Str × Addr)) (ts fr:List Str) (ix:List Nat):Prop where
 clos:closureFor scope X.env=pure cl
 kind:scope.kind = .function
 nocell:∀ y∈scope.names,y.2≠.cell
 names:∀ y∈scope.names,y.2 = .local→scope.names.lookup y.1=some .local
 sub:∀ y c,cl.lookup y=some c→X.env.cells.lookup y=some c
 has:∀ y,((relabel scope X.env).names.lookup y=some .cell∨(relabel scope X.env).names.lookup y=some .free)→∃ c,cl.lookup y=some c
 nofn:∀ y∈ts,(relabel scope X.env).names.lookup y=some .local
 len:ix.length=fr.length
 vis:∀ (j:Nat) (y:Str),fr[j]? = some y→∃ i:Nat,ix[j]? = some i∧X.N[i]? = some y∧(X.env.kindOf y=some .cell∨X.env.kindOf y=some .free)∧((relabel scope X.env).names.lookup y=some .cell∨(relabel scope X.env).names.lookup y=some .free)
def Ext (a b:St):Prop:=b.length=a.length∧∀ (i:Nat) v,a[i]? = some (some v)→b[i]? = some (some v)
def mj (nt:Nat) (ix:List Nat) (σ:St):St:=List.replicate nt none++ix.map fun i=>(σ[i]?).join
def aiy (J:It) (s0:St) (g:TG) (te:TE) (Q:VK) (H1:Hp):Prop:=∃ W:Nat→Nat→List V→Hp→Prop,(∃ m,W 0 m [] H1)∧∀ i m ys H,W i m ys H →
 (J.stop i H∧∀ p,H p=none→Q (.ref p) (upd H p (.lst ys))) ∨
 (J.go i H∧ys.length<sizeLine∧∀ x H',J.yld i H x H'→g x s0 H' fun σ2 H2=>Ext s0 σ2∧te σ2 H2 fun y H3=>∃ m',m'<m∧W (i+1) m' (ys++[y]) H3)
def ad7 (wi:TI) (s0:St→St) (g:TG) (te:TE):TE:=fun σ H Q=>wi σ H fun J H1=>aiy J (s0 σ) g te Q H1
theorem aag {prog:Program} {w:World} {A:Around} {R:Result→Shared→Prop} {s:Shared} {elt target iter:Expr} {scope:Scope} {pos:Pos} {it acc:Value} {env:Env} (J:Nat→Shared→Prop)
  (step:∀ m z,J m z→wpAny (model prog w) A (pyNext it) (fun got z1=>match got with
   | none=>R (.ok .next) z1
   | some v=>wpAny (model prog w) A (letOwnedTupleGo target it v) (fun _ z2=>wpAny (model prog w) A (assign target env v) (fun _ z3=>wpAny (model prog w) A (eval elt env) (fun x z4 =>
     wpAny (model prog w) A (call (.builtin "list.append") [acc,x]) (fun _ z5=>∃ m',m'<m∧J m' z5) (fun _ _=>False) z4)
     (fun _ _=>False) z3) (fun _ _=>False) z2) (fun _ _=>False) z1) (fun _ _=>False) z)
  (m:Nat) (j0:J m s):codeAny (model prog w) A (.compLoop (.ListComp elt [⟨target,iter,[],0⟩] scope pos) 0 it acc env) R s:=by
 refine codeAny_loop rfl J (fun m z hj=>(wpAny_noted ?_:wpAny _ _ ((compTurn (.ListComp elt [⟨target,iter,[],0⟩] scope pos) 0 it acc env).onRaise _) _ _ z)) m j0
 rw [compTurn_list1]
 refine wpAny_bind (wpAny_standAt (wpAny_bind (wpAny_mono (step m z hj) (fun got z1 h1=>?_) fun _ _ no=>no.elim)))
 match got,h1 with
 | none,h1=>exact wpAny_pure h1
 | some v,h1 =>
  refine wpAny_bind (wpAny_mono h1 (fun _ z2 h2=>wpAny_bind (wpAny_mono h2 (fun _ z3 h3=>?_) fun _ _ no=>no.elim)) fun _ _ no=>no.elim)
  refine wpAny_bind (wpAny_bind (wpAny_mono h3 (fun x z4 h4=>?_) fun _ _ no=>no.elim))
  exact wpAny_bind (wpAny_mono h4 (fun _ z5 h5=>wpAny_pure (wpAny_pure ⟨rfl,h5⟩)) fun _ _ no=>no.elim)
section
variable {X:Cx}
theorem a66 {pins:List (Addr × Obj)} {σ:St} {H:Hp} {s:Shared} {scope:Scope} {cl:List (Str × Addr)} {ts fr:List Str} {ix:List Nat} {C:Addr} {fp:List Addr} (S:CSc X scope cl ts fr ix) (I:Inv X pins σ H s)
  (hf:∀ b∈fp,a6x X pins H b) (hb:∀ b∈fp,b<s.heap.objs.size) (hC:s.heap.objs.size≤C):(cxC X (ts++fr) scope cl C fp s H).Ok where
 mod:=I.ok.mod
 kind:=S.kind
 glob:=I.ok.glob
 blt:=I.ok.blt
 above:=hC
 inj:=fun x y c h1 h2=>I.ok.inj x y c (S.sub x c h1) (S.sub y c h2)
 has:=S.has
 cab:=fun _ _ z=>nomatch z
 hd:=I.ok.hd
 frames:=I.ok.frames
 stk:=.inl rfl
 exf:=fun b hb'=>⟨Nat.ne_of_lt (Nat.lt_of_lt_of_le (hb b hb') hC),fun x c e=>(hf b hb').2.2.2.2.1 x c (S.sub x c e)⟩
 bs:=fun b o e=>I.bs b o e
 bsz:=Nat.le_trans I.ok.bsz I.sz
 noex:=fun b o e hb'=>by
  rcases (hf b hb').2.2.2.1 with z | z
  ·exact I.ok.noex b o e z
  ·exact absurd (Nat.lt_of_lt_of_le (Heap.lt_size e) (Nat.le_trans I.ok.bsz z)) (Nat.lt_irrefl _)
 exfs:=fun b hb' z=>by
  rcases List.mem_cons.mp (I.stkSub b z) with e | e
  ·exact (hf b hb').2.1 e
  ·exact (hf b hb').2.2.1 e
 funs:=I.stack
 frf:=fun b hb'=>I.stkFree b hb'
theorem a8z {nt:Nat} {ix:List Nat} {σ:St}:(mj nt ix σ).length=nt+ix.length:=by
 unfold mj;rw [List.length_append,List.length_replicate,List.length_map]
theorem aah {pins:List (Addr × Obj)} {σ:St} {H:Hp} {s s4:Shared} {scope:Scope} {cl:List (Str × Addr)} {ts fr:List Str} {ix:List Nat} {C:Addr} {fp:List Addr} {m:Str→Option Value} (S:CSc X scope cl ts fr ix) (I:Inv X pins σ H s)
  (hf:∀ b∈fp,a6x X pins H b) (hb:∀ b∈fp,b<s.heap.objs.size) (hC:s.heap.objs.size≤C)
  (k:∀ b o,s.heap.get? b=some o→s4.heap.get? b=some o) (hn:s4.heap.Ns C m) (ho:s4.os=s.os) (hg:s4.gens=s.gens) :
  Inv (cxC X (ts++fr) scope cl C fp s H) [] (mj ts.length ix σ) H s4 where
 ok:=a66 S I hf hb hC
 os:=ho
 bare:=by rw [hg];exact I.bare
 base:=Un.kept k
 loc:=by
  refine ⟨m,hn,fun i x v e1 e2 e3=>?_⟩
  have e1:(ts++fr)[i]? = some x:=e1
  by_cases hi:i<ts.length
  ·unfold mj at e2
   rw [List.getElem?_append_left (by simpa using hi),List.getElem?_replicate,if_pos hi] at e2
   cases e2
  ·rw [List.getElem?_append_right (by omega)] at e1
   unfold mj at e2
   rw [List.getElem?_append_right (by simpa using hi),List.length_replicate,List.getElem?_map] at e2
   obtain ⟨j,h1,h2,h3,h4⟩:=S.vis _ x e1
   rw [h1] at e2
   have e2':(σ[j]?).join=some v:=Option.some.inj e2
   have e5:σ[j]? = some (some v):=by
    cases q:σ[j]? with
    | none=>rw [q] at e2';cases e2'
    | some o=>rw [q] at e2';simp at e2';rw [e2']
   obtain ⟨m0,_,hl⟩:=I.loc
   have vis:Vis X.env.scope x:=h3.elim (fun z=>.inr (.inl z)) fun z=>.inr (.inr z)
   obtain ⟨u,ru,l⟩:=hl j x v h2 e5 vis
   refine ⟨u,ru,?_⟩
   rcases l with ⟨z,_⟩ | ⟨_,c,hc,hcell⟩
   ·rcases h3 with h3 | h3<;>rw [h3] at z<;>cases z
   ·obtain ⟨c',hc'⟩:=S.has x h4
    have e6:c'=c:=Option.some.inj ((S.sub x c' hc').symm.trans hc)
    subst e6
    obtain ⟨o,ho,hd⟩:=hcell
    exact .inr ⟨h4,c',hc',o,k _ _ ho,hd⟩
 cell:=fun x c e=>by
  obtain ⟨v,o,ho,hd⟩:=I.cell x c (S.sub x c e)
  exact ⟨v,o,k _ _ ho,hd⟩
 free:=I.hok.fresh hC
 freeC:=fun x c e=>I.freeC x c (S.sub x c e)
 pin:=fun p hp=>absurd (show p∈([]:List (Addr × Obj)) from hp) (by simp)
 hok:=I.hok.kept k
 len:=by
  rw [a8z]
  show _=(ts++fr).length
  rw [List.length_append,S.len]
theorem Inv.unpinned' {pins:List (Addr × Obj)} {σ:St} {H:Hp} {s:Shared} (I:Inv X pins σ H s):Inv X [] σ H s:=I.pins_of fun _ hp=>nomatch hp
theorem comp_back {pins:List (Addr × Obj)} {σ σ':St} {H H':Hp} {s s':Shared} {scope:Scope} {cl:List (Str × Addr)} {N:List Str} {C acc:Addr} {fp:List Addr} {h':Heap} {ys:List V} {its:List Value} {n:Nat} (I:Inv X pins σ H s)
  (hf:∀ b∈fp,a6x X pins H b) (hC:s.heap.objs.size≤C) (hacc:s.heap.objs.size≤acc) (hCa:C≠acc)
  (J:Inv (cxC X N scope cl C fp s H) [] σ' H' s') (hn:H' acc=none) (ha:s'.heap.get? acc=some { cls:=.type "list",data:=.seq its.toArray n }) (rv:Vals ys its) (hz:ys.length≤sizeLine) (sb:Heap.SameBut C s'.heap h') :
  Inv X pins σ (upd H' acc (.lst ys)) { s' with heap:=h' }:=by
 have k:∀ b o,b≠C→s'.heap.get? b=some o→h'.get? b=some o:=fun b o hb e=>sb.extBut b o hb e
 have old:∀ b o,s.heap.get? b=some o→b≠C∧b≠acc:=fun b o e=>⟨Nat.ne_of_lt (Nat.lt_of_lt_of_le (Heap.lt_size e) hC),Nat.ne_of_lt (Nat.lt_of_lt_of_le (Heap.lt_size e) hacc)⟩
 have u0:Un (frs X.stack) fp H H' s.heap s'.heap:=J.base
 have fC:H' C=none:=J.free
 have u:Un (frs X.stack) fp H (upd H' acc (.lst ys)) s.heap h':=by
  refine ⟨fun b o e n' hb hx=>k b o (old b o e).1 (u0.keep b o e n' hb hx),fun b o e n' hb hx=>?_,fun b o e n' hx=>?_,fun b o e hx=>?_,fun b xs e=>?_,fun b o v e=>?_,fun b ps e=>?_⟩
  ·obtain ⟨sl,e1⟩:=u0.slot b o e n' hb hx
   exact ⟨sl,k b _ (old b o e).1 e1⟩
  ·rw [j6 (old b o e).2];exact u0.free b o e n' hx
  ·obtain ⟨o',e1⟩:=u0.there b o e hx
   exact ⟨o',k b _ (old b o e).1 e1⟩
  ·rw [j6 (ie (u0.tups b xs e) hn)];exact u0.tups b xs e
  ·rw [j6 (ie (u0.frzs b o v e) hn)];exact u0.frzs b o v e
  ·obtain ⟨more,e1⟩:=u0.tbls b ps e
   exact ⟨more,by rw [j6 (ie e1 hn)];exact e1⟩
 have hok:HOk X.prog X.w (upd H' acc (.lst ys)) h':=fun b o e=>by
  by_cases hb:b=acc
  ·subst hb;rw [uf] at e;cases e
   exact ⟨hz,its,n,rv,k _ _ (Ne.symm hCa) ha⟩
  ·rw [j6 hb] at e
   refine (J.hok b o e).stay (fun c v hc q=>k c v ?_ q) (fun c q=>by rw [j6 (ie q hn)];exact q) fun c xs q=>by rw [j6 (ie q hn)];exact q
   rcases hc with z | z
   ·rw [z];exact ie e fC
   ·exact ie z fC
 have J':=I.call (g':=s'.gens) (t':=s'.toks) (d':=s'.drawn) (ch:=fp) u hok J.bare fun b hb=>⟨(hf b hb).2.2.2.1,(hf b hb).2.1,(hf b hb).2.2.2.2.1,(hf b hb).2.2.2.2.2⟩
 have eo:s'.os=s.os:=J.os
 obtain ⟨hp,g,d,t,o⟩:=s'
 have eo':o=s.os:=eo
 subst eo'
 exact J'
def a4s (X:Cx) (pins:List (Addr × Obj)) (σ:St) (use:Option (Value→Sem Unit)) (Q:VK) (Qf:Value→Shared→Prop):Prop :=
 ∀ (acc C:Addr) (s6:Shared) (H6:Hp) (m6:Str→Option Value),s6.heap.Ns C m6→a6x X pins H6 C→(∀ h',Heap.SameBut C s6.heap h'→Inv X pins σ H6 { s6 with heap:=h' })→Q (.ref acc) H6 →
  compPost (model X.prog X.w) X.A X.xe use Qf (.ref acc) C (.ok .next) s6
theorem a7t {pins:List (Addr × Obj)} {σ:St} {Q:VK}:a4s X pins σ none Q (EP X pins σ Q):=fun acc C s6 H6 m6 hn _ k q=>⟨m6,hn,fun h' sb=>⟨.ref acc,H6,k h' sb,rfl,q⟩⟩
theorem a7u {pins:List (Addr × Obj)} {σ:St} {D:Ends} {i:Nat} {x:Str} {pos':Pos} (hN:X.N.Nodup) (hi:X.N[i]? = some x) (hx:Loc X.env.scope x) (hf:X.fn x=true∨X.env.scope.names.lookup x=some .local) :
  a4s X pins σ (some (assign (.Name x pos') X.env)) (fun v H1=>a8p i v σ H1 D.nx) (fun _ s'=>SP X pins D .next s'):=by
 intro acc C s6 H6 m6 hn fp k q
 obtain ⟨f1,f2,f3,f4,f5,f6⟩:=fp
 have I6:Inv X pins σ H6 s6:=k s6.heap (Heap.SameBut.refl _ _)
 refine wpAny_assign_Name (a5q (v:=.ref acc) I6 hN hi hx rfl (fun s' I' ⟨a,sb,ha⟩=>⟨m6,hn.sameBut sb ?_,fun h' sb'=>⟨_,H6,I'.turned (t':=s'.toks) (it:=C) (fun b o hb e=>sb'.extBut b o hb e) f1 f2 f4 f5 f6,q⟩⟩) hf)
 rcases ha with ha | ha
 ·rw [ha];exact f2
 ·exact fun z=>f5 x a ha z.symm
theorem a67 {elt tg iter:Expr} {scope:Scope} {pos ppos:Pos} {cl:List (Str × Addr)} {ts fr:List Str} {ix:List Nat} {wi:TI} {g:TG} {te:TE} (hc:X.calm=true) (S:CSc X scope cl ts fr ix) (hi:PI X tg iter wi)
  (hg:∀ C fp s H,PG (cxC X (ts++fr) scope cl C fp s H) tg g) (he:∀ C fp s H,PE (cxC X (ts++fr) scope cl C fp s H) elt te) (hs:∀ x,foldedSetIterable iter X.env x=pure x)
  (use:Option (Value→Sem Unit)) {pins:List (Addr × Obj)} {s:Shared} {σ:St} {H:Hp} {Q:VK} {Qf:Value→Shared→Prop} (I:Inv X pins σ H s) (h:ad7 wi (mj ts.length ix) g te σ H Q) (fin:a4s X pins σ use Q Qf) :
  wpAny (model X.prog X.w) X.A (comprehension (.ListComp elt [⟨tg,iter,[],0⟩] scope pos) scope X.env ppos (newList []) false (eval iter X.env) use) Qf X.xe s:=by
 refine wpAny_comprehension_free (use:=use) rfl hs S.clos S.kind S.names (thn (hi pins s σ H _ I h) fun v s1 h1=>thn h1 fun itv s2 h2=>?_)
 obtain ⟨it,fp,tn,J,H2,e,I2,T,st2,f2,W,⟨m0,w0⟩,turn⟩:=h2
 subst e
 have hob:∀ b∈fp,b<s2.heap.objs.size:=fun b hb=>let ⟨o,e,_⟩:=T.obj _ _ st2 b hb;Heap.lt_size e
 refine wpAny_newObj_type (wpAny_newFunctionEnv S.nocell (by intro y hy;simp at hy) (fun h4 hns4 hsb4=>?_) S.kind)
 dsimp only at hns4 hsb4 ⊢
 generalize hH2:s2.heap.push { cls:=.type "list",dict:=none,data:=.seq ([]:List Value).toArray }=G at hns4 hsb4 ⊢
 have hCs:G.objs.size=s2.heap.objs.size+1:=by rw [← hH2,Heap.size_push]
 have hCle:s2.heap.objs.size≤G.objs.size:=by omega
 have hne:G.objs.size≠s2.heap.objs.size:=by omega
 have old:∀ b o,s2.heap.get? b=some o→h4.get? b=some o:=fun b o e=>by
  have hlt:=Heap.lt_size e
  exact hsb4.extBut b o (Nat.ne_of_lt (Nat.lt_of_lt_of_le hlt hCle)) (Heap.get?_push_of_some _ (hH2 ▸ Heap.get?_push_of_some _ e))
 have hacc:h4.get? s2.heap.objs.size=some { cls:=.type "list",data:=.seq ([]:List Value).toArray 0 } :=
  hsb4.extBut _ _ (Ne.symm hne) (Heap.get?_push_of_some _ (hH2 ▸ Heap.get?_push_size _ rfl))
 have K0:Inv (cxC X (ts++fr) scope cl G.objs.size fp s2 H2) [] (mj ts.length ix σ) H2 { s2 with heap:=h4,toks:=s2.toks+([]:List (Str × Value)).length } :=
  aah S I2 f2 hob hCle old hns4 rfl rfl
 have st4:tn 0 h4:=T.keep _ _ _ st2 fun b _ o e=>old b o e
 have accF:s2.heap.objs.size ∉ fp:=fun z=>Nat.lt_irrefl _ (hob _ z)
 have stat:∀ {H':Hp},(∀ b∈fp,H' b=none)→∀ b∈fp,a6x (cxC X (ts++fr) scope cl G.objs.size fp s2 H2) [] H' b:=fun hn b hb =>
  ⟨hn b hb,fun z=>by have h1:=hob b hb;have z':b=G.objs.size:=z;exact Nat.ne_of_lt (Nat.lt_of_lt_of_le h1 hCle) z',fun z=>(a66 S I2 f2 hob hCle).exfs b hb z, .inl hb,fun x c e=>(f2 b hb).2.2.2.2.1 x c (S.sub x c e),fun p hp=>absurd (show p∈([]:List (Addr × Obj)) from hp) (by simp)⟩
 have statA:∀ {H':Hp},H' s2.heap.objs.size=none→a6x (cxC X (ts++fr) scope cl G.objs.size fp s2 H2) [] H' s2.heap.objs.size:=fun hn =>
  ⟨hn,fun z=>hne (show G.objs.size=s2.heap.objs.size from z.symm),fun z=>by
   obtain ⟨_,o,ho,_⟩:=(a66 S I2 f2 hob hCle).funs.mem z
   exact Nat.lt_irrefl _ (Heap.lt_size ho), .inr (Nat.le_refl _),fun x c e z=>by
   obtain ⟨v,o,ho,_⟩:=I2.cell x c (S.sub x c e)
   rw [z] at ho
   exact Nat.lt_irrefl _ (Heap.lt_size ho),fun p hp=>absurd (show p∈([]:List (Addr × Obj)) from hp) (by simp)⟩
 have loop:∀ s4:Shared,s4={ s2 with heap:=h4,toks:=s2.toks+([]:List (Str × Value)).length } →
   codeAny (model X.prog X.w) X.A (.compLoop (.ListComp elt [⟨tg,iter,[],0⟩] scope pos) 0 (.ref it) (.ref s2.heap.objs.size) (compEnvC scope cl G.objs.size X.env))
    (compPost (model X.prog X.w) X.A X.xe use Qf (.ref s2.heap.objs.size) G.objs.size) s4:=by
  rintro s4 rfl
  refine aag (fun n s'=>∃ i σ' H' ys its k,Inv (cxC X (ts++fr) scope cl G.objs.size fp s2 H2) [] σ' H' s'∧Ext (mj ts.length ix σ) σ'∧tn i s'.heap∧(∀ b∈fp,H' b=none)∧H' s2.heap.objs.size=none ∧
   s'.heap.get? s2.heap.objs.size=some { cls:=.type "list",data:=.seq its.toArray k }∧Vals ys its∧ys.length≤sizeLine∧W i n ys H') ?_ m0
   ⟨0,_,H2,[],[],0,K0,⟨rfl,fun _ _ z=>z⟩,st4,fun b hb=>(f2 b hb).1,I2.hok.fresh (Nat.le_refl _),hacc, .nil,Nat.zero_le _,w0⟩
  rintro n s5 ⟨i,σ5,H5,ys,its,k5,I5,x5,st5,fr5,fa5,ac5,rv5,hz5,w5⟩
  have I5':Inv (cxC X (ts++fr) scope cl G.objs.size fp s2 H2) [] (mj ts.length ix σ) H5 s5:=I5.weak x5.1.symm x5.2
  rcases turn i n ys H5 w5 with ⟨stop,qn⟩ | ⟨go,hlt,step⟩
  ·refine thn (T.done (cxC X (ts++fr) scope cl G.objs.size fp s2 H2) rfl rfl rfl hc i [(s2.heap.objs.size,{ cls:=.type "list",data:=.seq its.toArray k5 })] s5 _ H5 _ (I5'.pins_of fun p hp=>?_) (fun b hb=>?_) st5 stop) fun r s6 ⟨hr,I6⟩=>?_
   ·have e:p=(s2.heap.objs.size,{ cls:=.type "list",data:=.seq its.toArray k5 }):=by simpa using hp
    subst e
    obtain ⟨a0,a1,a2,_⟩:=statA fa5
    exact ⟨ac5,a0,a1,a2,fun v z=>by cases z⟩
   ·obtain ⟨b0,b1,b2,b3,b4,b5⟩:=stat fr5 b hb
    refine ⟨b0,b1,b2,b3,b4,fun p hp=>?_⟩
    have e:p=(s2.heap.objs.size,{ cls:=.type "list",data:=.seq its.toArray k5 }):=by
     have hp':p∈[(s2.heap.objs.size,_)]:=hp
     simpa using hp'
    subst e
    exact fun z=>accF (by have z':s2.heap.objs.size=b:=z;rw [z'];exact hb)
   ·subst hr
    have e6:=(I6.pin (s2.heap.objs.size,{ cls:=.type "list",data:=.seq its.toArray k5 }) (by show _∈[]++[_];simp)).1
    obtain ⟨m6,hn6,_⟩:=I6.loc
    exact fin _ _ s6 _ m6 hn6 (I2.fpOk hCle (by rw [j6 hne];exact I6.free)) (fun h' sb=>comp_back I2 f2 hCle (Nat.le_refl _) hne I6.unpinned' fa5 e6 rv5 hz5 sb) (qn _ fa5)
  ·refine thn (T.item (cxC X (ts++fr) scope cl G.objs.size fp s2 H2) rfl rfl rfl hc i [(s2.heap.objs.size,{ cls:=.type "list",data:=.seq its.toArray k5 })] s5 _ H5 _ (I5'.pins_of fun p hp=>?_) (fun b hb=>?_) st5 go) fun r s6 ⟨u,hr,h6⟩=>?_
   ·have e:p=(s2.heap.objs.size,{ cls:=.type "list",data:=.seq its.toArray k5 }):=by simpa using hp
    subst e
    obtain ⟨a0,a1,a2,_⟩:=statA fa5
    exact ⟨ac5,a0,a1,a2,fun v z=>by cases z⟩
   ·obtain ⟨b0,b1,b2,b3,b4,b5⟩:=stat fr5 b hb
    refine ⟨b0,b1,b2,b3,b4,fun p hp=>?_⟩
    have e:p=(s2.heap.objs.size,{ cls:=.type "list",data:=.seq its.toArray k5 }):=by
     have hp':p∈[(s2.heap.objs.size,_)]:=hp
     simpa using hp'
    subst e
    exact fun z=>accF (by have z':s2.heap.objs.size=b:=z;rw [z'];exact hb)
   ·subst hr
    refine thn h6 fun _ s7 ⟨x,H7,I7,r7,y7,st7,fr7⟩=>?_
    have fa7:H7 s2.heap.objs.size=none:=(I7.pin (s2.heap.objs.size,{ cls:=.type "list",data:=.seq its.toArray k5 }) (by show _∈[]++[_];simp)).2.1
    have ac7:=(I7.pin (s2.heap.objs.size,{ cls:=.type "list",data:=.seq its.toArray k5 }) (by show _∈[]++[_];simp)).1
    have I7':Inv (cxC X (ts++fr) scope cl G.objs.size fp s2 H2) ([]++a3w (s2.heap.objs.size::fp) s7.heap) (mj ts.length ix σ) H7 s7:=by
     refine Inv.pinned I7.unpinned' (fun b hb=>?_) fun b hb=>?_
     ·rcases List.mem_cons.mp hb with e | e
      ·subst e;exact statA fa7
      ·exact stat fr7 b e
     ·rcases List.mem_cons.mp hb with e | e
      ·subst e;exact ⟨_,ac7,fun v z=>by cases z⟩
      ·exact T.obj _ _ st7 b e
    refine thn (hg G.objs.size fp s2 H2 _ s7 _ H7 x u _ I7' r7 (step x H7 y7)) fun _ s8 ⟨σ8,H8,I8,x8,q8⟩=>?_
    refine thn (he G.objs.size fp s2 H2 _ s8 _ H8 _ I8 q8) fun yv s9 ⟨y,H9,I9,r9,m',hm',w9⟩=>?_
    obtain ⟨ac9,fa9,_⟩:=I9.pin (s2.heap.objs.size,{ cls:=.type "list",data:=.seq its.toArray k5 }) (by show _∈[]++([]++_);simp;exact nj List.mem_cons_self ac7)
    have keep9:∀ b∈fp,∀ o,s7.heap.get? b=some o→s9.heap.get? b=some o∧H9 b=none:=fun b hb o e=>by
     obtain ⟨z1,z2,_⟩:=I9.pin (b,o) (by show _∈[]++([]++_);simp;exact nj (List.mem_cons_of_mem _ hb) e)
     exact ⟨z1,z2⟩
    have hl:=rv5.length
    refine call_meets F.slot_list_append ⟨_,ac9,rfl⟩ F.entry_list_append (F.args_list_append_2 _ _) (PySem.list_append s2.heap.objs.size its.toArray k5 yv (by rw [List.size_toArray];omega)) ⟨ac9,?_⟩
    have q:=PySem.IsL.update ac9 (fun a=>a.push yv)
    have qo:∀ b o,b≠s2.heap.objs.size→s9.heap.get? b=some o→(s9.heap.update s2.heap.objs.size (Obj.mapSeq (fun a=>a.push yv))).get? b=some o:=fun b o hb e=>(Heap.get?_update_other s9.heap _ (Ne.symm hb)).trans e
    have q':∃ k,(s9.heap.update s2.heap.objs.size (Obj.mapSeq (fun a=>a.push yv))).get? s2.heap.objs.size=some { cls:=.type "list",data:=.seq (its++[yv]).toArray k }:=⟨_,by rw [q];simp;rfl⟩
    obtain ⟨k9,q9⟩:=q'
    obtain ⟨a0,a1,a2,a3,a4,a5⟩:=statA (show H9 s2.heap.objs.size=none from fa9)
    refine ⟨m',hm',i+1,σ8,H9,ys++[y],its++[yv],k9,(I9.unpinned').turned qo a0 a1 a3 a4 a5,x8,?_,?_,fa9,q9,rv5.append (.cons r9 .nil),?_,w9⟩
    ·refine T.keep _ _ _ st7 fun b hb o e=>qo b o (fun z=>accF (z ▸ hb)) (keep9 b hb o e).1
    ·intro b hb
     obtain ⟨o,e,_⟩:=T.obj _ _ st7 b hb
     exact (keep9 b hb o e).2
    ·rw [List.length_append,List.length_singleton];omega
 exact codeAny_compStart_list (loop _ rfl) (T.self _ 0 _ _ _ st4 (loop _ rfl))
theorem ad8 {elt tg iter:Expr} {scope:Scope} {pos:Pos} {cl:List (Str × Addr)} {ts fr:List Str} {ix:List Nat} {wi:TI} {g:TG} {te:TE} (hc:X.calm=true) (S:CSc X scope cl ts fr ix) (hi:PI X tg iter wi)
  (hg:∀ C fp s H,PG (cxC X (ts++fr) scope cl C fp s H) tg g) (he:∀ C fp s H,PE (cxC X (ts++fr) scope cl C fp s H) elt te)
  (hs:∀ x,foldedSetIterable iter X.env x=pure x:=by intro _;rfl) :
  PE X (.ListComp elt [⟨tg,iter,[],0⟩] scope pos) (ad7 wi (mj ts.length ix) g te):=by
 intro pins s σ H Q I h
 rw [eval_ListComp]
 exact a67 hc S hi hg he hs none I h a7t
theorem a7v {elt tg iter:Expr} {scope:Scope} {pos:Pos} {cl:List (Str × Addr)} {ts fr:List Str} {ix:List Nat} {wi:TI} {g:TG} {te:TE} {i:Nat} {x:Str} {pos' spos:Pos} (hN:X.N.Nodup) (hi':X.N[i]? = some x) (hx:Loc X.env.scope x) (hc:X.calm=true) (S:CSc X scope cl ts fr ix) (hi:PI X tg iter wi)
  (hg:∀ C fp s H,PG (cxC X (ts++fr) scope cl C fp s H) tg g) (he:∀ C fp s H,PE (cxC X (ts++fr) scope cl C fp s H) elt te)
  (hs:∀ x,foldedSetIterable iter X.env x=pure x:=by intro _;rfl) (hsw:swapsWith (.ListComp elt [⟨tg,iter,[],0⟩] scope pos) (some (.Name x pos')) spos.line X.env=pure true:=by rfl) (hf:X.fn x=true∨X.env.scope.names.lookup x=some .local:=by first | exact .inl rfl | exact .inr rfl | assumption) :
  PS X (.Assign [.Name x pos'] (.ListComp elt [⟨tg,iter,[],0⟩] scope pos) spos) (al3 (ad7 wi (mj ts.length ix) g te) (a8p i)):=by
 intro pins s σ H D I h
 rw [exec_Assign_Name_used _ _ _ _ hsw]
 refine wpAny_bind (wpAny_standAt (wpAny_bind ?_))
 refine wpAny_bind (wpAny_mono (a67 hc S hi hg he hs (some (assign (.Name x pos') X.env)) I h (a7u hN hi' hx hf)) (fun _ s' hq=>wpAny_pure (wpAny_pure hq)) fun _ _ e=>e)
end
end L2
namespace L2
open PySem PySem.Spec PyProof.Rows
end L2
namespace L2
open PySem PySem.Spec
theorem ph:bootBuiltins "len" = some (.builtin "len"):=PySem.boot_len
theorem lu:bootBuiltins "isinstance" = some (.builtin "isinstance"):=by first | exact PySem.boot_isinstance | exact PyProof.Rows.boot_isinstance
theorem a7w:bootBuiltins "all" = some (.builtin "all"):=by first | exact PySem.boot_all | exact PyProof.Rows.boot_all
theorem aiz:bootBuiltins "abs" = some (.builtin "abs"):=by first | exact PySem.boot_abs | exact PyProof.Rows.boot_abs
theorem aai:bootBuiltins "int" = some (.type "int"):=by first | exact PySem.boot_int | exact PyProof.Rows.boot_int
theorem a01:bootBuiltins "tuple" = some (.type "tuple"):=by first | exact PySem.boot_tuple | exact PyProof.Rows.boot_tuple
structure Dn (P:Program) (w:World) (K:PySem.W.Frag) (mg:Str→Option Value) (base:Heap) (k:Nat) (x:Str) (ps:List Str) (sp:Sp) (f:Addr) (fd:FuncData):Prop where
 ok:FnOk P w K mg base CX0 k f fd ps sp
 m:mg x=some (.ref f)
 kp:PySem.W.keepIn K (.ref f)=true
 b:Binds K fd ps []
theorem amb:sizeLine=16777216:=sizeLine_eq
theorem ag4 {n:Nat} (h:n≤16777216):n≤sizeLine:=by rw [sizeLine_eq];exact h
end L2
namespace L2
open PySem PySem.Spec
theorem CSc.noFree {X:Cx} {scope:Scope} {ts:List Str} (kind:scope.kind = .function) (h:∀ y∈scope.names,y.2≠.cell∧y.2≠.free) (names:∀ y∈scope.names,y.2 = .local→scope.names.lookup y.1=some .local)
  (ht:∀ y∈ts,scope.names.lookup y=some .local):CSc X scope [] ts [] []:=by
 have e:(relabel scope X.env).names=scope.names:=by
  show scope.names.map _=_
  refine map_eq_self fun y hy=>?_
  obtain ⟨n,k⟩:=y
  have:(k == NameKind.free)=false:=by simpa using (h _ hy).2
  simp [this]
 refine ⟨closureFor_none fun y hy=>(h y hy).2,kind,fun y hy=>(h y hy).1,names,(fun _ _ z=>nomatch z),fun y z=>?_,fun y hy=>by rw [e];exact ht y hy,rfl,(fun _ _ z=>by simp at z)⟩
 rw [e] at z
 rcases z with z | z
 ·exact absurd rfl (h _ (PySem.mem_of_lookup z)).1
 ·exact absurd rfl (h _ (PySem.mem_of_lookup z)).2
theorem amc (x y:Str):(x++y).cps.toList=x.cps.toList++y.cps.toList:=by
 show (x.cps++y.cps).toList=_
 simp
theorem a71 {α:Type} (xs:List α) (k:Nat):a2d xs none (some (k:Int))=xs.take k:=by
 unfold a2d
 rw [HT.a7p,HT.aa7,List.drop_zero,Nat.sub_zero]
 by_cases h:k≤xs.length
 ·rw [Nat.min_eq_left h]
 ·rw [Nat.min_eq_right (by omega),List.take_of_length_le (Nat.le_refl _),List.take_of_length_le (by omega)]
theorem a68 {α:Type} (xs:List α) (k:Nat):a2d xs (some (k:Int)) none=xs.drop k:=by
 unfold a2d
 rw [HT.a7p,HT.aa7]
 by_cases h:k≤xs.length
 ·rw [Nat.min_eq_left h,List.take_of_length_le (by rw [List.length_drop];omega)]
 ·rw [Nat.min_eq_right (by omega),List.drop_eq_nil_of_le (Nat.le_refl _),List.drop_eq_nil_of_le (by omega),List.take_nil]
end L2
namespace L2
open PySem PySem.Spec PyProof.Rows
def aaj (J:It) (s0:St) (g:TG) (tc:TT) (te:TE) (Q:VK) (H1:Hp):Prop:=∃ W:Nat→Nat→List V→Hp→Prop,(∃ m,W 0 m [] H1)∧∀ i m ys H,W i m ys H →
 (J.stop i H∧∀ p,H p=none→Q (.ref p) (upd H p (.lst ys))) ∨
 (J.go i H∧ys.length<sizeLine∧∀ x H',J.yld i H x H'→g x s0 H' fun σ2 H2=>Ext s0 σ2∧tc σ2 H2 fun ok H2'=>if ok=true then te σ2 H2' (fun y H3=>∃ m',m'<m∧W (i+1) m' (ys++[y]) H3) else ∃ m',m'<m∧W (i+1) m' ys H2')
def a4t (wi:TI) (s0:St→St) (g:TG) (tc:TT) (te:TE):TE:=fun σ H Q=>wi σ H fun J H1=>aaj J (s0 σ) g tc te Q H1
theorem a3a (elt target iter cnd:Expr) (scope:Scope) (pos:Pos) (it acc:Value) (env:Env) :
  compTurn (.ListComp elt [⟨target,iter,[cnd],0⟩] scope pos) 0 it acc env=(standAt iter.pos>>=fun _=>pyNext it>>=fun r=>match r with
   | none=>pure (.done .next)
   | some v=>letOwnedTupleGo target it v>>=fun _=>assign target env v>>=fun _=>isTrue cnd env (eval cnd env)>>=fun ok =>
    (if ok=true then (eval elt env>>=fun x=>call (.builtin "list.append") [acc,x]>>=fun _=>pure ()) else pure ())>>=fun _ =>
     again (.compLoop (.ListComp elt [⟨target,iter,[cnd],0⟩] scope pos) 0 it acc env)):=by
 first
  | rfl
  | (unfold compTurn;simp only [List.getElem?_cons_zero];rfl)
  | (show (standAt iter.pos>>=fun _=>pyNext it>>=fun r=>_)=_
     congr 1;funext _;congr 1;funext r
     cases r with
     | none=>rfl
     | some v =>
      show (letOwnedTupleGo target it v>>=fun _=>assign target env v>>=fun _=>_)=(letOwnedTupleGo target it v>>=fun _=>assign target env v>>=fun _=>_)
      congr 1;funext _;congr 1;funext _
      simp
      congr 1;funext ok
      cases ok with
      | false=>rw [if_neg Bool.false_ne_true,if_neg Bool.false_ne_true,pure_bind]
      | true =>
       rw [if_pos rfl,if_pos rfl,bind_assoc]
       congr 1;funext x
       rw [map_eq_pure_bind,bind_assoc]
       congr 1)
theorem a90 {prog:Program} {w:World} {A:Around} {R:Result→Shared→Prop} {s:Shared} {elt target iter cnd:Expr} {scope:Scope} {pos:Pos} {it acc:Value} {env:Env} (J:Nat→Shared→Prop)
  (step:∀ m z,J m z→wpAny (model prog w) A (pyNext it) (fun got z1=>match got with
   | none=>R (.ok .next) z1
   | some v=>wpAny (model prog w) A (letOwnedTupleGo target it v) (fun _ z2=>wpAny (model prog w) A (assign target env v) (fun _ z3=>wpAny (model prog w) A (isTrue cnd env (eval cnd env)) (fun ok z3'=>if ok=true then wpAny (model prog w) A (eval elt env) (fun x z4 =>
     wpAny (model prog w) A (call (.builtin "list.append") [acc,x]) (fun _ z5=>∃ m',m'<m∧J m' z5) (fun _ _=>False) z4)
     (fun _ _=>False) z3' else ∃ m',m'<m∧J m' z3') (fun _ _=>False) z3) (fun _ _=>False) z2) (fun _ _=>False) z1) (fun _ _=>False) z)
  (m:Nat) (j0:J m s):codeAny (model prog w) A (.compLoop (.ListComp elt [⟨target,iter,[cnd],0⟩] scope pos) 0 it acc env) R s:=by
 refine codeAny_loop rfl J (fun m z hj=>(wpAny_noted ?_:wpAny _ _ ((compTurn (.ListComp elt [⟨target,iter,[cnd],0⟩] scope pos) 0 it acc env).onRaise _) _ _ z)) m j0
 rw [a3a]
 refine wpAny_bind (wpAny_standAt (wpAny_bind (wpAny_mono (step m z hj) (fun got z1 h1=>?_) fun _ _ no=>no.elim)))
 match got,h1 with
 | none,h1=>exact wpAny_pure h1
 | some v,h1 =>
  refine wpAny_bind (wpAny_mono h1 (fun _ z2 h2=>wpAny_bind (wpAny_mono h2 (fun _ z3 h3=>wpAny_bind (wpAny_mono h3 (fun ok z3' h3'=>?_) fun _ _ no=>no.elim)) fun _ _ no=>no.elim)) fun _ _ no=>no.elim)
  match ok,h3' with
  | true,h3' =>
   rw [if_pos rfl] at h3'
   refine wpAny_bind (wpAny_bind (wpAny_mono h3' (fun x z4 h4=>?_) fun _ _ no=>no.elim))
   exact wpAny_bind (wpAny_mono h4 (fun _ z5 h5=>wpAny_pure (wpAny_pure ⟨rfl,h5⟩)) fun _ _ no=>no.elim)
  | false,h3' =>
   rw [if_neg Bool.false_ne_true] at h3'
   exact wpAny_bind (wpAny_pure (wpAny_pure ⟨rfl,h3'⟩))
section
variable {X:Cx}
theorem a3b {elt tg iter cnd:Expr} {scope:Scope} {pos ppos:Pos} {cl:List (Str × Addr)} {ts fr:List Str} {ix:List Nat} {wi:TI} {g:TG} {tc:TT} {te:TE} (hc:X.calm=true) (S:CSc X scope cl ts fr ix) (hi:PI X tg iter wi)
  (hg:∀ C fp s H,PG (cxC X (ts++fr) scope cl C fp s H) tg g) (he:∀ C fp s H,PE (cxC X (ts++fr) scope cl C fp s H) elt te) (ht:∀ C fp s H,PT (cxC X (ts++fr) scope cl C fp s H) cnd tc) (hs:∀ x,foldedSetIterable iter X.env x=pure x)
  (use:Option (Value→Sem Unit)) {pins:List (Addr × Obj)} {s:Shared} {σ:St} {H:Hp} {Q:VK} {Qf:Value→Shared→Prop} (I:Inv X pins σ H s) (h:a4t wi (mj ts.length ix) g tc te σ H Q) (fin:a4s X pins σ use Q Qf) :
  wpAny (model X.prog X.w) X.A (comprehension (.ListComp elt [⟨tg,iter,[cnd],0⟩] scope pos) scope X.env ppos (newList []) false (eval iter X.env) use) Qf X.xe s:=by
 refine wpAny_comprehension_free (use:=use) rfl hs S.clos S.kind S.names (thn (hi pins s σ H _ I h) fun v s1 h1=>thn h1 fun itv s2 h2=>?_)
 obtain ⟨it,fp,tn,J,H2,e,I2,T,st2,f2,W,⟨m0,w0⟩,turn⟩:=h2
 subst e
 have hob:∀ b∈fp,b<s2.heap.objs.size:=fun b hb=>let ⟨o,e,_⟩:=T.obj _ _ st2 b hb;Heap.lt_size e
 refine wpAny_newObj_type (wpAny_newFunctionEnv S.nocell (by intro y hy;simp at hy) (fun h4 hns4 hsb4=>?_) S.kind)
 dsimp only at hns4 hsb4 ⊢
 generalize hH2:s2.heap.push { cls:=.type "list",dict:=none,data:=.seq ([]:List Value).toArray }=G at hns4 hsb4 ⊢
 have hCs:G.objs.size=s2.heap.objs.size+1:=by rw [← hH2,Heap.size_push]
 have hCle:s2.heap.objs.size≤G.objs.size:=by omega
 have hne:G.objs.size≠s2.heap.objs.size:=by omega
 have old:∀ b o,s2.heap.get? b=some o→h4.get? b=some o:=fun b o e=>by
  have hlt:=Heap.lt_size e
  exact hsb4.extBut b o (Nat.ne_of_lt (Nat.lt_of_lt_of_le hlt hCle)) (Heap.get?_push_of_some _ (hH2 ▸ Heap.get?_push_of_some _ e))
 have hacc:h4.get? s2.heap.objs.size=some { cls:=.type "list",data:=.seq ([]:List Value).toArray 0 } :=
  hsb4.extBut _ _ (Ne.symm hne) (Heap.get?_push_of_some _ (hH2 ▸ Heap.get?_push_size _ rfl))
 have K0:Inv (cxC X (ts++fr) scope cl G.objs.size fp s2 H2) [] (mj ts.length ix σ) H2 { s2 with heap:=h4,toks:=s2.toks+([]:List (Str × Value)).length } :=
  aah S I2 f2 hob hCle old hns4 rfl rfl
 have st4:tn 0 h4:=T.keep _ _ _ st2 fun b _ o e=>old b o e
 have accF:s2.heap.objs.size ∉ fp:=fun z=>Nat.lt_irrefl _ (hob _ z)
 have stat:∀ {H':Hp},(∀ b∈fp,H' b=none)→∀ b∈fp,a6x (cxC X (ts++fr) scope cl G.objs.size fp s2 H2) [] H' b:=fun hn b hb =>
  ⟨hn b hb,fun z=>by have h1:=hob b hb;have z':b=G.objs.size:=z;exact Nat.ne_of_lt (Nat.lt_of_lt_of_le h1 hCle) z',fun z=>(a66 S I2 f2 hob hCle).exfs b hb z, .inl hb,fun x c e=>(f2 b hb).2.2.2.2.1 x c (S.sub x c e),fun p hp=>absurd (show p∈([]:List (Addr × Obj)) from hp) (by simp)⟩
 have statA:∀ {H':Hp},H' s2.heap.objs.size=none→a6x (cxC X (ts++fr) scope cl G.objs.size fp s2 H2) [] H' s2.heap.objs.size:=fun hn =>
  ⟨hn,fun z=>hne (show G.objs.size=s2.heap.objs.size from z.symm),fun z=>by
   obtain ⟨_,o,ho,_⟩:=(a66 S I2 f2 hob hCle).funs.mem z
   exact Nat.lt_irrefl _ (Heap.lt_size ho), .inr (Nat.le_refl _),fun x c e z=>by
   obtain ⟨v,o,ho,_⟩:=I2.cell x c (S.sub x c e)
   rw [z] at ho
   exact Nat.lt_irrefl _ (Heap.lt_size ho),fun p hp=>absurd (show p∈([]:List (Addr × Obj)) from hp) (by simp)⟩
 have loop:∀ s4:Shared,s4={ s2 with heap:=h4,toks:=s2.toks+([]:List (Str × Value)).length } →
   codeAny (model X.prog X.w) X.A (.compLoop (.ListComp elt [⟨tg,iter,[cnd],0⟩] scope pos) 0 (.ref it) (.ref s2.heap.objs.size) (compEnvC scope cl G.objs.size X.env))
    (compPost (model X.prog X.w) X.A X.xe use Qf (.ref s2.heap.objs.size) G.objs.size) s4:=by
  rintro s4 rfl
  refine a90 (fun n s'=>∃ i σ' H' ys its k,Inv (cxC X (ts++fr) scope cl G.objs.size fp s2 H2) [] σ' H' s'∧Ext (mj ts.length ix σ) σ'∧tn i s'.heap∧(∀ b∈fp,H' b=none)∧H' s2.heap.objs.size=none ∧
   s'.heap.get? s2.heap.objs.size=some { cls:=.type "list",data:=.seq its.toArray k }∧Vals ys its∧ys.length≤sizeLine∧W i n ys H') ?_ m0
   ⟨0,_,H2,[],[],0,K0,⟨rfl,fun _ _ z=>z⟩,st4,fun b hb=>(f2 b hb).1,I2.hok.fresh (Nat.le_refl _),hacc, .nil,Nat.zero_le _,w0⟩
  rintro n s5 ⟨i,σ5,H5,ys,its,k5,I5,x5,st5,fr5,fa5,ac5,rv5,hz5,w5⟩
  have I5':Inv (cxC X (ts++fr) scope cl G.objs.size fp s2 H2) [] (mj ts.length ix σ) H5 s5:=I5.weak x5.1.symm x5.2
  rcases turn i n ys H5 w5 with ⟨stop,qn⟩ | ⟨go,hlt,step⟩
  ·refine thn (T.done (cxC X (ts++fr) scope cl G.objs.size fp s2 H2) rfl rfl rfl hc i [(s2.heap.objs.size,{ cls:=.type "list",data:=.seq its.toArray k5 })] s5 _ H5 _ (I5'.pins_of fun p hp=>?_) (fun b hb=>?_) st5 stop) fun r s6 ⟨hr,I6⟩=>?_
   ·have e:p=(s2.heap.objs.size,{ cls:=.type "list",data:=.seq its.toArray k5 }):=by simpa using hp
    subst e
    obtain ⟨a0,a1,a2,_⟩:=statA fa5
    exact ⟨ac5,a0,a1,a2,fun v z=>by cases z⟩
   ·obtain ⟨b0,b1,b2,b3,b4,b5⟩:=stat fr5 b hb
    refine ⟨b0,b1,b2,b3,b4,fun p hp=>?_⟩
    have e:p=(s2.heap.objs.size,{ cls:=.type "list",data:=.seq its.toArray k5 }):=by
     have hp':p∈[(s2.heap.objs.size,_)]:=hp
     simpa using hp'
    subst e
    exact fun z=>accF (by have z':s2.heap.objs.size=b:=z;rw [z'];exact hb)
   ·subst hr
    have e6:=(I6.pin (s2.heap.objs.size,{ cls:=.type "list",data:=.seq its.toArray k5 }) (by show _∈[]++[_];simp)).1
    obtain ⟨m6,hn6,_⟩:=I6.loc
    exact fin _ _ s6 _ m6 hn6 (I2.fpOk hCle (by rw [j6 hne];exact I6.free)) (fun h' sb=>comp_back I2 f2 hCle (Nat.le_refl _) hne I6.unpinned' fa5 e6 rv5 hz5 sb) (qn _ fa5)
  ·refine thn (T.item (cxC X (ts++fr) scope cl G.objs.size fp s2 H2) rfl rfl rfl hc i [(s2.heap.objs.size,{ cls:=.type "list",data:=.seq its.toArray k5 })] s5 _ H5 _ (I5'.pins_of fun p hp=>?_) (fun b hb=>?_) st5 go) fun r s6 ⟨u,hr,h6⟩=>?_
   ·have e:p=(s2.heap.objs.size,{ cls:=.type "list",data:=.seq its.toArray k5 }):=by simpa using hp
    subst e
    obtain ⟨a0,a1,a2,_⟩:=statA fa5
    exact ⟨ac5,a0,a1,a2,fun v z=>by cases z⟩
   ·obtain ⟨b0,b1,b2,b3,b4,b5⟩:=stat fr5 b hb
    refine ⟨b0,b1,b2,b3,b4,fun p hp=>?_⟩
    have e:p=(s2.heap.objs.size,{ cls:=.type "list",data:=.seq its.toArray k5 }):=by
     have hp':p∈[(s2.heap.objs.size,_)]:=hp
     simpa using hp'
    subst e
    exact fun z=>accF (by have z':s2.heap.objs.size=b:=z;rw [z'];exact hb)
   ·subst hr
    refine thn h6 fun _ s7 ⟨x,H7,I7,r7,y7,st7,fr7⟩=>?_
    have fa7:H7 s2.heap.objs.size=none:=(I7.pin (s2.heap.objs.size,{ cls:=.type "list",data:=.seq its.toArray k5 }) (by show _∈[]++[_];simp)).2.1
    have ac7:=(I7.pin (s2.heap.objs.size,{ cls:=.type "list",data:=.seq its.toArray k5 }) (by show _∈[]++[_];simp)).1
    have I7':Inv (cxC X (ts++fr) scope cl G.objs.size fp s2 H2) ([]++a3w (s2.heap.objs.size::fp) s7.heap) (mj ts.length ix σ) H7 s7:=by
     refine Inv.pinned I7.unpinned' (fun b hb=>?_) fun b hb=>?_
     ·rcases List.mem_cons.mp hb with e | e
      ·subst e;exact statA fa7
      ·exact stat fr7 b e
     ·rcases List.mem_cons.mp hb with e | e
      ·subst e;exact ⟨_,ac7,fun v z=>by cases z⟩
      ·exact T.obj _ _ st7 b e
    refine thn (hg G.objs.size fp s2 H2 _ s7 _ H7 x u _ I7' r7 (step x H7 y7)) fun _ s8 ⟨σ8,H8,I8,x8,q8⟩=>?_
    refine thn (ht G.objs.size fp s2 H2 _ s8 _ H8 _ I8 q8) fun ok s8' ⟨H8',I8',q8'⟩=>?_
    cases ok with
    | false =>
     rw [if_neg Bool.false_ne_true] at q8' ⊢
     obtain ⟨m',hm',w9⟩:=q8'
     obtain ⟨ac9,fa9,_⟩:=I8'.pin (s2.heap.objs.size,{ cls:=.type "list",data:=.seq its.toArray k5 }) (by show _∈[]++([]++_);simp;exact nj List.mem_cons_self ac7)
     have keep9:∀ b∈fp,∀ o,s7.heap.get? b=some o→s8'.heap.get? b=some o∧H8' b=none:=fun b hb o e=>by
      obtain ⟨z1,z2,_⟩:=I8'.pin (b,o) (by show _∈[]++([]++_);simp;exact nj (List.mem_cons_of_mem _ hb) e)
      exact ⟨z1,z2⟩
     refine ⟨m',hm',i+1,σ8,H8',ys,its,k5,I8'.unpinned',x8,?_,?_,fa9,ac9,rv5,hz5,w9⟩
     ·exact T.keep _ _ _ st7 fun b hb o e=>(keep9 b hb o e).1
     ·intro b hb
      obtain ⟨o,e,_⟩:=T.obj _ _ st7 b hb
      exact (keep9 b hb o e).2
    | true =>
     rw [if_pos rfl] at q8' ⊢
     refine thn (he G.objs.size fp s2 H2 _ s8' _ H8' _ I8' q8') fun yv s9 ⟨y,H9,I9,r9,m',hm',w9⟩=>?_
     obtain ⟨ac9,fa9,_⟩:=I9.pin (s2.heap.objs.size,{ cls:=.type "list",data:=.seq its.toArray k5 }) (by show _∈[]++([]++_);simp;exact nj List.mem_cons_self ac7)
     have keep9:∀ b∈fp,∀ o,s7.heap.get? b=some o→s9.heap.get? b=some o∧H9 b=none:=fun b hb o e=>by
      obtain ⟨z1,z2,_⟩:=I9.pin (b,o) (by show _∈[]++([]++_);simp;exact nj (List.mem_cons_of_mem _ hb) e)
      exact ⟨z1,z2⟩
     have hl:=rv5.length
     refine call_meets F.slot_list_append ⟨_,ac9,rfl⟩ F.entry_list_append (F.args_list_append_2 _ _) (PySem.list_append s2.heap.objs.size its.toArray k5 yv (by rw [List.size_toArray];omega)) ⟨ac9,?_⟩
     have q:=PySem.IsL.update ac9 (fun a=>a.push yv)
     have qo:∀ b o,b≠s2.heap.objs.size→s9.heap.get? b=some o→(s9.heap.update s2.heap.objs.size (Obj.mapSeq (fun a=>a.push yv))).get? b=some o:=fun b o hb e=>(Heap.get?_update_other s9.heap _ (Ne.symm hb)).trans e
     have q':∃ k,(s9.heap.update s2.heap.objs.size (Obj.mapSeq (fun a=>a.push yv))).get? s2.heap.objs.size=some { cls:=.type "list",data:=.seq (its++[yv]).toArray k }:=⟨_,by rw [q];simp;rfl⟩
     obtain ⟨k9,q9⟩:=q'
     obtain ⟨a0,a1,a2,a3,a4,a5⟩:=statA (show H9 s2.heap.objs.size=none from fa9)
     refine ⟨m',hm',i+1,σ8,H9,ys++[y],its++[yv],k9,(I9.unpinned').turned qo a0 a1 a3 a4 a5,x8,?_,?_,fa9,q9,rv5.append (.cons r9 .nil),?_,w9⟩
     ·refine T.keep _ _ _ st7 fun b hb o e=>qo b o (fun z=>accF (z ▸ hb)) (keep9 b hb o e).1
     ·intro b hb
      obtain ⟨o,e,_⟩:=T.obj _ _ st7 b hb
      exact (keep9 b hb o e).2
     ·rw [List.length_append,List.length_singleton];omega
 exact codeAny_compStart_list (loop _ rfl) (T.self _ 0 _ _ _ st4 (loop _ rfl))
theorem a91 {elt tg iter cnd:Expr} {scope:Scope} {pos:Pos} {cl:List (Str × Addr)} {ts fr:List Str} {ix:List Nat} {wi:TI} {g:TG} {tc:TT} {te:TE} (hc:X.calm=true) (S:CSc X scope cl ts fr ix) (hi:PI X tg iter wi)
  (hg:∀ C fp s H,PG (cxC X (ts++fr) scope cl C fp s H) tg g) (he:∀ C fp s H,PE (cxC X (ts++fr) scope cl C fp s H) elt te) (ht:∀ C fp s H,PT (cxC X (ts++fr) scope cl C fp s H) cnd tc)
  (hs:∀ x,foldedSetIterable iter X.env x=pure x:=by intro _;rfl) :
  PE X (.ListComp elt [⟨tg,iter,[cnd],0⟩] scope pos) (a4t wi (mj ts.length ix) g tc te):=by
 intro pins s σ H Q I h
 rw [eval_ListComp]
 exact a3b hc S hi hg he ht hs none I h a7t
theorem a92 {elt tg iter cnd:Expr} {scope:Scope} {pos:Pos} {cl:List (Str × Addr)} {ts fr:List Str} {ix:List Nat} {wi:TI} {g:TG} {tc:TT} {te:TE} {i:Nat} {x:Str} {pos' spos:Pos} (hN:X.N.Nodup) (hi':X.N[i]? = some x) (hx:Loc X.env.scope x) (hc:X.calm=true) (S:CSc X scope cl ts fr ix) (hi:PI X tg iter wi)
  (hg:∀ C fp s H,PG (cxC X (ts++fr) scope cl C fp s H) tg g) (he:∀ C fp s H,PE (cxC X (ts++fr) scope cl C fp s H) elt te) (ht:∀ C fp s H,PT (cxC X (ts++fr) scope cl C fp s H) cnd tc)
  (hs:∀ x,foldedSetIterable iter X.env x=pure x:=by intro _;rfl) (hsw:swapsWith (.ListComp elt [⟨tg,iter,[cnd],0⟩] scope pos) (some (.Name x pos')) spos.line X.env=pure true:=by rfl) (hf:X.fn x=true∨X.env.scope.names.lookup x=some .local:=by first | exact .inl rfl | exact .inr rfl | assumption) :
  PS X (.Assign [.Name x pos'] (.ListComp elt [⟨tg,iter,[cnd],0⟩] scope pos) spos) (al3 (a4t wi (mj ts.length ix) g tc te) (a8p i)):=by
 intro pins s σ H D I h
 rw [exec_Assign_Name_used _ _ _ _ hsw]
 refine wpAny_bind (wpAny_standAt (wpAny_bind ?_))
 refine wpAny_bind (wpAny_mono (a3b hc S hi hg he ht hs (some (assign (.Name x pos') X.env)) I h (a7u hN hi' hx hf)) (fun _ s' hq=>wpAny_pure (wpAny_pure hq)) fun _ _ e=>e)
end
end L2
namespace L2
open PySem PySem.Spec PyProof.Rows
section
variable {X:Cx}
theorem a3z:OpR X (compareOp .NotIn) (fun x y H Q=>∃ c T,x = .str ⟨#[c]⟩∧y = .str T∧Q (.bl (!decide (c∈T.cps.toList))) H):=by
 intro pins s σ H x y v u Q I rx ry h
 obtain ⟨c,T,rfl,rfl,q⟩:=h
 exact a5t pins s σ H _ _ v u Q I rx ry ⟨_,_,rfl,rfl,by rw [StrLaws.found_one];exact q⟩
end
theorem CSc.of {X:Cx} {scope:Scope} {cl:List (Str × Addr)} {ts fr:List Str} {ix:List Nat} (clos:closureFor scope X.env=pure cl) (kind:scope.kind = .function)
  (nocell:(scope.names.all fun p=>p.2 != .cell)=true) (names:(scope.names.all fun p=>p.2 != .local || scope.names.lookup p.1 == some .local)=true) (sub:∀ p∈cl,X.env.cells.lookup p.1=some p.2)
  (has:((relabel scope X.env).names.all fun p => !(p.2 == .cell || p.2 == .free) || (cl.lookup p.1).isSome)=true) (nofn:(ts.all fun y=>(relabel scope X.env).names.lookup y == some .local)=true)
  (len:ix.length=fr.length) (vis:((fr.zip ix).all fun p=>X.N[p.2]? == some p.1 && (X.env.kindOf p.1 == some .cell || X.env.kindOf p.1 == some .free) && ((relabel scope X.env).names.lookup p.1 == some .cell || (relabel scope X.env).names.lookup p.1 == some .free))=true) :
  CSc X scope cl ts fr ix:=by
 refine ⟨clos,kind,fun y hy=>?_,fun y hy e=>?_,fun y c e=>sub _ (PySem.mem_of_lookup e),fun y z=>?_,fun y hy=>?_,len,fun j y e=>?_⟩
 ·have:=List.all_eq_true.mp nocell y hy
  simpa using this
 ·have:=List.all_eq_true.mp names y hy
  rw [e] at this
  simpa using this
 ·have key:∀ k,(relabel scope X.env).names.lookup y=some k→(k == .cell || k == .free)=true→∃ c,cl.lookup y=some c:=fun k e hk=>by
   have:=List.all_eq_true.mp has _ (PySem.mem_of_lookup e)
   rw [hk] at this
   exact Option.isSome_iff_exists.mp (by simpa using this)
  rcases z with z | z
  ·exact key _ z rfl
  ·exact key _ z rfl
 ·have:=List.all_eq_true.mp nofn y hy
  simpa using this
 ·obtain ⟨hj,_⟩:=List.getElem?_eq_some_iff.mp e
  have hj2:j<ix.length:=by omega
  have hm:(y,ix[j])∈fr.zip ix:=by
   rw [List.mem_iff_getElem?]
   exact ⟨j,by rw [List.getElem?_zip_eq_some];exact ⟨e,List.getElem?_eq_getElem hj2⟩⟩
  have:=List.all_eq_true.mp vis _ hm
  simp only [Bool.and_eq_true,Bool.or_eq_true,beq_iff_eq] at this
  exact ⟨ix[j],List.getElem?_eq_getElem hj2,this.1.1,this.1.2,this.2⟩
end L2
namespace HT
open PySem PySem.Spec PyProof.Rows
end HT
namespace L2
open PySem PySem.Spec PyProof.Rows
end L2
namespace L2
open PySem PySem.Spec PyProof.Rows
end L2
namespace L2
open PySem PySem.Spec PyProof.Rows
section
variable {X:Cx}
theorem a93 (hc:X.calm=true):CallR X (.builtin "sum") (fun xs H Q=>∃ (p:Addr) (ns:List Int),xs=[.ref p]∧SqL X.K H p (ns.map V.int)∧Q (.int ns.sum) H):=by
 intro pins s σ H xs us Q I r h
 obtain ⟨p,ns,rfl,hq,q⟩:=h
 obtain ⟨u,rfl,rx⟩:=vals1 r
 cases rx
 obtain ⟨its,r',pl,hz⟩:=I.list hq
 have hInts:IntsAre its ns:=intsAre_of r'
 obtain ⟨prs,ep⟩:=hInts.allInts.items
 refine sum_intListG (xs:=prs) (I.ok.hd hc) (ep ▸ pl.isList) fun h' tk t' hk=>⟨.int ns.sum,H,I.kept hk,⟨t',?_⟩,q⟩
 have nums:prs.toList.map (·.1)=ns:=by
  rw [← nums_intItems,← ep]
  exact hInts.numsOf
 have tot:preSum (numAt prs) prs.size=ns.sum:=by
  rw [preSum_eq,← nums]
  congr 1
  exact List.take_of_length_le (by simp)
 rw [tot]
end
end L2
namespace SHP
open PySem L2
end SHP
namespace L2
open PySem PySem.Spec PyProof.Rows
def mxI:List Int→Int
 | []=>0
 | [a]=>a
 | a::b::r=>if mxI (b::r)≤a then a else mxI (b::r)
theorem aet:∀ {l:List Int},l≠[]→mxI l∈l∧∀ x∈l,x≤mxI l
 | [],h=>absurd rfl h
 | [a],_=>⟨List.mem_singleton.mpr rfl,fun x hx=>by rw [List.mem_singleton.mp hx];exact Int.le_refl a⟩
 | a::b::r,_=>by
  obtain ⟨i,m⟩:=aet (l:=b::r) (by simp)
  unfold mxI
  split
  ·rename_i h
   refine ⟨List.mem_cons_self,fun x hx=>?_⟩
   rcases List.mem_cons.mp hx with rfl | hx
   ·exact Int.le_refl _
   ·exact Int.le_trans (m x hx) h
  ·rename_i h
   refine ⟨List.mem_cons_of_mem _ i,fun x hx=>?_⟩
   rcases List.mem_cons.mp hx with rfl | hx
   ·omega
   ·exact m x hx
theorem aj0 {l:List Int} {k:Int} (h1:k∈l) (h2:∀ x∈l,x≤k):k=mxI l:=by
 obtain ⟨a,b⟩:=aet (l:=l) (by intro z;subst z;cases h1)
 have:=b k h1
 have:=h2 _ a
 omega
section
variable {X:Cx}
theorem a94 (hc:X.calm=true):CallR X (.builtin "max") (fun xs H Q=>∃ (p:Addr) (ns:List Int),xs=[.ref p]∧SqL X.K H p (ns.map V.int)∧ns≠[]∧Q (.int (mxI ns)) H):=by
 intro pins s σ H xs us Q I r h
 obtain ⟨p,ns,rfl,hq,hn,q⟩:=h
 obtain ⟨u,rfl,rx⟩:=vals1 r
 cases rx
 obtain ⟨its,r',pl,hz⟩:=I.list hq
 have hInts:IntsAre its ns:=intsAre_of r'
 obtain ⟨prs,ep⟩:=hInts.allInts.items
 have nums:prs.toList.map (·.1)=ns:=by
  rw [← nums_intItems,← ep]
  exact hInts.numsOf
 have sz:prs.size=ns.length:=by rw [← nums,List.length_map,Array.length_toList]
 have pos:0<ns.length:=List.length_pos_iff.mpr hn
 have at':∀ j,j<ns.length→ns[j]? = some (numAt prs j):=fun j hj=>by
  rw [← nums,List.getElem?_map,Array.getElem?_toList]
  unfold numAt
  rw [Array.getElem?_eq_getElem (by omega)]
  rfl
 refine max_intList (xs:=prs) (I.ok.hd hc) (ep ▸ pl.isList) (by omega) fun v h' tk hv hk=>?_
 obtain ⟨t,rfl⟩:=intItems_at hv
 obtain ⟨b1,b2⟩:=argBest_gt (numAt prs) (prs.size - 1)
 generalize argBest (fun i j=>decide (numAt prs i > numAt prs j)) (prs.size - 1)=b at b1 b2
 have e:numAt prs b=mxI ns:=aj0 (List.mem_of_getElem? (at' b (by omega))) fun x hx=>by
  obtain ⟨j,hj,rfl⟩:=List.getElem_of_mem hx
  have:=at' j hj
  rw [List.getElem?_eq_getElem hj] at this
  rw [Option.some.inj this]
  exact b2 j (by omega)
 exact ⟨.int (mxI ns),H,I.kept hk,⟨t,by rw [e]⟩,q⟩
end
end L2
namespace L2
open PySem PySem.Spec PyProof.Rows
end L2
namespace SHP
open PySem L2
end SHP
namespace MI
open PySem L2
inductive D where
 | non | bl (b:Bool) | int (i:Int) | str (x:Str) | ty (n:String) | tup (xs:List D) | rol (xs:List D) | ref (i:Nat) | scr (xs:List D) | rod (ks:List Key) (xs:List D) | rdT (ks:List (List Key)) (xs:List D) | exc (c:Str)
inductive O where
 | lst (xs:List D) | dK (kvs:List (Key × D)) | dT (kvs:List (List Key × D))
abbrev Hd:=List O
abbrev Sd:=List (Option D)
inductive R (α:Type) where
 | ok (a:α) (h:Hd) | ex (c:Str) (h:Hd) | no
def R.bind {α β:Type}:R α→(α→Hd→R β)→R β
 | .ok a h,k=>k a h
 | .ex c h,_=>.ex c h
 | .no,_=>.no
inductive Fl where
 | nx (σ:Sd) (h:Hd) | rt (d:D) (h:Hd) | bk (σ:Sd) (h:Hd) | ct (σ:Sd) (h:Hd) | ex (c:Str) (h:Hd) | no
def R.fl {α:Type}:R α→(α→Hd→Fl)→Fl
 | .ok a h,k=>k a h
 | .ex c h,_=>.ex c h
 | .no,_=>.no
abbrev SE:=Sd→Hd→R D
abbrev ST:=Sd→Hd→R Bool
abbrev SA:=Sd→Hd→R (List D)
abbrev SS:=Sd→Hd→Fl
def SqF (K:PySem.W.Frag) (H:Hp) (a:Addr) (vs:List V):Prop:=(∃ o,H a=some (.frz o (.lst vs)))∨SqL K (fun _=>none) a vs
theorem SqF.l {K:PySem.W.Frag} {H:Hp} {a:Addr} {vs:List V} (h:SqF K H a vs):SqL K H a vs:=by
 rcases h with ⟨o,h⟩ | h
 ·exact .inl (.inr ⟨o,h⟩)
 ·rcases h with (h | ⟨o,h⟩) | h
  ·cases h
  ·cases h
  ·exact .inr h
def SqZ (H:Hp) (a:Addr) (vs:List V):Prop:=∃ o,H a=some (.frz o (.lst vs))
theorem SqZ.l {K:PySem.W.Frag} {H:Hp} {a:Addr} {vs:List V} (h:SqZ H a vs):SqL K H a vs:=let ⟨o,e⟩:=h; .inl (.inr ⟨o,e⟩)
def exO (a:Addr):HO:=.ext fun h=>∃ o,h.get? a=some o
mutual
inductive Rep (K:PySem.W.Frag) (ι:List Addr) (H:Hp):V→D→Prop
 | non:Rep K ι H .non .non
 | bl (b:Bool):Rep K ι H (.bl b) (.bl b)
 | int (i:Int):Rep K ι H (.int i) (.int i)
 | str (x:Str):Rep K ι H (.str x) (.str x)
 | ty (n:String):Rep K ι H (.ty n) (.ty n)
 | tup {a:Addr} {vs:List V} {xs:List D} (h:H a=some (.tup vs)) (r:Reps K ι H vs xs):Rep K ι H (.ref a) (.tup xs)
 | rol {a:Addr} {vs:List V} {xs:List D} (h:SqZ H a vs) (r:Reps K ι H vs xs):Rep K ι H (.ref a) (.rol xs)
 | scr {a:Addr} {vs:List V} {xs:List D} (h:SqF K H a vs) (r:Reps K ι H vs xs):Rep K ι H (.ref a) (.scr xs)
 | ref {a:Addr} {i:Nat} (h:ι[i]? = some a):Rep K ι H (.ref a) (.ref i)
 | rod {a:Addr} {o:Obj} {us:List (Key × V)} {ks:List Key} {xs:List D} (h:H a=some (.frz o (.dK us))) (e:us.map (·.1)=ks) (r:Reps K ι H (us.map (·.2)) xs):Rep K ι H (.ref a) (.rod ks xs)
 | rdT {a:Addr} {o:Obj} {us:List (List Key × V)} {ks:List (List Key)} {xs:List D} (h:H a=some (.frz o (.dT us))) (e:us.map (·.1)=ks) (r:Reps K ι H (us.map (·.2)) xs):Rep K ι H (.ref a) (.rdT ks xs)
 | exc {a C:Addr} {o:Obj} {c:Str} (h:H a=some (.frz o (exO a))) (hc:o.cls = .ref C) (hn:PySem.W.nsIn K mainGlobals c=some (some (.ref C))):Rep K ι H (.ref a) (.exc c)
inductive Reps (K:PySem.W.Frag) (ι:List Addr) (H:Hp):List V→List D→Prop
 | nil:Reps K ι H [] []
 | cons {v:V} {d:D} {vs:List V} {ds:List D} (r:Rep K ι H v d) (rs:Reps K ι H vs ds):Reps K ι H (v::vs) (d::ds)
end
structure Gw (ι:List Addr) (H:Hp) (ι':List Addr) (H':Hp):Prop where
 pre:∃ m,ι'=ι++m
 tup:∀ a vs,H a=some (.tup vs)→H' a=some (.tup vs)
 frz:∀ a o u,H a=some (.frz o u)→H' a=some (.frz o u)
structure Gr (ι:List Addr) (H:Hp) (ι':List Addr) (H':Hp):Prop where
 pre:∃ m,ι'=ι++m∧∀ a∈m,H a=none
 tup:∀ a vs,H a=some (.tup vs)→H' a=some (.tup vs)
 frz:∀ a o u,H a=some (.frz o u)→H' a=some (.frz o u)
 oth:∀ a u,H a=some u→a ∉ ι→H' a=some u
 kp:∀ a u,H a=some u→∃ u',H' a=some u'
theorem Gr.w {ι ι':List Addr} {H H':Hp} (g:Gr ι H ι' H'):Gw ι H ι' H':=⟨let ⟨m,e,_⟩:=g.pre; ⟨m,e⟩,g.tup,g.frz⟩
theorem Gr.refl (ι:List Addr) (H:Hp):Gr ι H ι H:=⟨⟨[],by simp,by simp⟩,fun _ _ h=>h,fun _ _ _ h=>h,fun _ _ h _=>h,fun _ u h=>⟨u,h⟩⟩
theorem Gr.trans {ι ι1 ι2:List Addr} {H H1 H2:Hp} (a:Gr ι H ι1 H1) (b:Gr ι1 H1 ι2 H2):Gr ι H ι2 H2:=by
 obtain ⟨m,rfl,hm⟩:=a.pre
 obtain ⟨n,rfl,hn⟩:=b.pre
 refine ⟨⟨m++n,by simp,fun x hx=>?_⟩,fun x vs h=>b.tup x vs (a.tup x vs h),fun x o u h=>b.frz x o u (a.frz x o u h),fun x u h hx=>?_,fun x u h=>?_⟩
 ·rcases List.mem_append.mp hx with hx | hx
  ·exact hm x hx
  ·cases e:H x with
   | none=>rfl
   | some u =>
    obtain ⟨u',e'⟩:=a.kp x u e
    rw [hn x hx] at e';cases e'
 ·refine b.oth x u (a.oth x u h hx) fun z=>?_
  rcases List.mem_append.mp z with z | z
  ·exact hx z
  ·rw [hm x z] at h;cases h
 ·obtain ⟨u',e⟩:=a.kp x u h
  exact b.kp x u' e
theorem Gw.at {ι ι':List Addr} {H H':Hp} (g:Gw ι H ι' H') {i:Nat} {a:Addr} (h:ι[i]? = some a):ι'[i]? = some a:=by
 obtain ⟨m,rfl⟩:=g.pre
 rw [List.getElem?_append_left (List.getElem?_eq_some_iff.mp h).1]
 exact h
theorem Gr.at {ι ι':List Addr} {H H':Hp} (g:Gr ι H ι' H') {i:Nat} {a:Addr} (h:ι[i]? = some a):ι'[i]? = some a:=g.w.at h
theorem SqF.monoW {K:PySem.W.Frag} {ι ι':List Addr} {H H':Hp} (g:Gw ι H ι' H') {a:Addr} {vs:List V} (h:SqF K H a vs):SqF K H' a vs:=by
 rcases h with ⟨o,h⟩ | h
 ·exact .inl ⟨o,g.frz _ _ _ h⟩
 ·exact .inr h
theorem SqZ.monoW {ι ι':List Addr} {H H':Hp} (g:Gw ι H ι' H') {a:Addr} {vs:List V} (h:SqZ H a vs):SqZ H' a vs:=let ⟨o,e⟩:=h; ⟨o,g.frz _ _ _ e⟩
theorem SqZ.mono {ι ι':List Addr} {H H':Hp} (g:Gr ι H ι' H') {a:Addr} {vs:List V} (h:SqZ H a vs):SqZ H' a vs:=h.monoW g.w
mutual
theorem Rep.monoW {K:PySem.W.Frag} {ι ι':List Addr} {H H':Hp} (g:Gw ι H ι' H'):∀ {v:V} {d:D},Rep K ι H v d→Rep K ι' H' v d
 | _,_, .non=>.non
 | _,_, .bl b=>.bl b
 | _,_, .int i=>.int i
 | _,_, .str x=>.str x
 | _,_, .ty n=>.ty n
 | _,_, .tup h r=>.tup (g.tup _ _ h) (Reps.monoW g r)
 | _,_, .rol h r=>.rol (h.monoW g) (Reps.monoW g r)
 | _,_, .scr h r=>.scr (h.monoW g) (Reps.monoW g r)
 | _,_, .ref h=>.ref (g.at h)
 | _,_, .rod h e r=>.rod (g.frz _ _ _ h) e (Reps.monoW g r)
 | _,_, .rdT h e r=>.rdT (g.frz _ _ _ h) e (Reps.monoW g r)
 | _,_, .exc h hc hn=>.exc (g.frz _ _ _ h) hc hn
theorem Reps.monoW {K:PySem.W.Frag} {ι ι':List Addr} {H H':Hp} (g:Gw ι H ι' H'):∀ {vs:List V} {ds:List D},Reps K ι H vs ds→Reps K ι' H' vs ds
 | _,_, .nil=>.nil
 | _,_, .cons r rs=>.cons (Rep.monoW g r) (Reps.monoW g rs)
end
theorem Rep.mono {K:PySem.W.Frag} {ι ι':List Addr} {H H':Hp} (g:Gr ι H ι' H') {v:V} {d:D} (r:Rep K ι H v d):Rep K ι' H' v d:=r.monoW g.w
theorem Reps.mono {K:PySem.W.Frag} {ι ι':List Addr} {H H':Hp} (g:Gr ι H ι' H') {vs:List V} {ds:List D} (r:Reps K ι H vs ds):Reps K ι' H' vs ds:=r.monoW g.w
section
variable {K:PySem.W.Frag} {ι:List Addr} {H:Hp}
theorem Reps.len {vs:List V} {ds:List D}:Reps K ι H vs ds→vs.length=ds.length
 | .nil=>rfl
 | .cons _ rs=>by rw [List.length_cons,List.length_cons,rs.len]
theorem Reps.get:∀ {vs:List V} {ds:List D} {i:Nat} {d:D},Reps K ι H vs ds→ds[i]? = some d→∃ v,vs[i]? = some v∧Rep K ι H v d
 | _,_,_,_, .nil,e=>by simp at e
 | _,_,0,_, .cons r _,e=>by simp at e;subst e;exact ⟨_,rfl,r⟩
 | _,_,i+1,d, .cons _ rs,e=>by
  obtain ⟨u,h1,h2⟩:=Reps.get (i:=i) (d:=d) rs (by simpa using e)
  exact ⟨u,by simpa using h1,h2⟩
theorem Reps.app:∀ {vs us:List V} {ds es:List D},Reps K ι H vs ds→Reps K ι H us es→Reps K ι H (vs++us) (ds++es)
 | _,_,_,_, .nil,s=>s
 | _,_,_,_, .cons r rs,s=>.cons r (Reps.app rs s)
theorem Reps.set {v:V} {d:D} (q:Rep K ι H v d):∀ {vs:List V} {ds:List D} (i:Nat),Reps K ι H vs ds→Reps K ι H (vs.set i v) (ds.set i d)
 | _,_,_, .nil=>.nil
 | _,_,0, .cons _ rs=>.cons q rs
 | _,_,i+1, .cons r rs=>.cons r (Reps.set q i rs)
theorem Reps.take:∀ {vs:List V} {ds:List D} (n:Nat),Reps K ι H vs ds→Reps K ι H (vs.take n) (ds.take n)
 | _,_,0,_=>.nil
 | _,_,_+1, .nil=>.nil
 | _,_,n+1, .cons r rs=>.cons r (Reps.take n rs)
theorem Reps.drop:∀ {vs:List V} {ds:List D} (n:Nat),Reps K ι H vs ds→Reps K ι H (vs.drop n) (ds.drop n)
 | _,_,0,r=>r
 | _,_,_+1, .nil=>.nil
 | _,_,n+1, .cons _ rs=>Reps.drop n rs
theorem Reps.snoc {vs:List V} {ds:List D} {v:V} {d:D} (r:Reps K ι H vs ds) (q:Rep K ι H v d):Reps K ι H (vs++[v]) (ds++[d]):=r.app (.cons q .nil)
theorem Reps.flat:∀ {vs:List V} {ds:List D} (k:Nat),Reps K ι H vs ds→Reps K ι H (List.replicate k vs).flatten (List.replicate k ds).flatten
 | _,_,0,_=>.nil
 | vs,ds,k+1,r=>by
  rw [List.replicate_succ,List.replicate_succ,List.flatten_cons,List.flatten_cons]
  exact r.app (Reps.flat k r)
end
def KRep {κ:Type} (K:PySem.W.Frag) (ι:List Addr) (H:Hp) (us:List (κ × V)) (kvs:List (κ × D)):Prop:=us.map (·.1)=kvs.map (·.1)∧Reps K ι H (us.map (·.2)) (kvs.map (·.2))
def ORep (K:PySem.W.Frag) (ι:List Addr) (H:Hp) (a:Addr):O→Prop
 | .lst xs=>∃ vs,H a=some (.lst vs)∧Reps K ι H vs xs
 | .dK kvs=>∃ us,H a=some (.dK us)∧KRep K ι H us kvs
 | .dT kvs=>∃ us,H a=some (.dT us)∧KRep K ι H us kvs
structure HRep (K:PySem.W.Frag) (ι:List Addr) (H:Hp) (h:Hd):Prop where
 nd:ι.Nodup
 len:ι.length=h.length
 obj:∀ (i:Nat) (a:Addr) (o:O),ι[i]? = some a→h[i]? = some o→ORep K ι H a o
section
variable {K:PySem.W.Frag} {ι:List Addr} {H:Hp} {h:Hd}
theorem ORep.some {a:Addr} {o:O} (r:ORep K ι H a o):∃ u,H a=some u∧(∀ vs,u≠.tup vs)∧(∀ o' u',u≠.frz o' u'):=by
 cases o with
 | lst xs=>obtain ⟨vs,e,_⟩:=r;exact ⟨_,e,fun _ z=>(by cases z),fun _ _ z=>(by cases z)⟩
 | dK kvs=>obtain ⟨us,e,_⟩:=r;exact ⟨_,e,fun _ z=>(by cases z),fun _ _ z=>(by cases z)⟩
 | dT kvs=>obtain ⟨us,e,_⟩:=r;exact ⟨_,e,fun _ z=>(by cases z),fun _ _ z=>(by cases z)⟩
theorem HRep.at (r:HRep K ι H h) {i:Nat} {a:Addr} (e:ι[i]? = some a):∃ o,h[i]? = some o∧ORep K ι H a o:=by
 have hi:i<h.length:=by rw [← r.len];exact (List.getElem?_eq_some_iff.mp e).1
 exact ⟨h[i],List.getElem?_eq_getElem hi,r.obj i a _ e (List.getElem?_eq_getElem hi)⟩
theorem HRep.addr (r:HRep K ι H h) {i:Nat} {o:O} (e:h[i]? = some o):∃ a,ι[i]? = some a∧ORep K ι H a o:=by
 have hi:i<ι.length:=by rw [r.len];exact (List.getElem?_eq_some_iff.mp e).1
 exact ⟨ι[i],List.getElem?_eq_getElem hi,r.obj i _ o (List.getElem?_eq_getElem hi) e⟩
theorem HRep.notin (r:HRep K ι H h) {p:Addr} (e:H p=none):p ∉ ι:=fun z=>by
 obtain ⟨i,hi⟩:=List.getElem?_of_mem z
 obtain ⟨o,_,q⟩:=r.at hi
 obtain ⟨u,q,_⟩:=q.some
 rw [e] at q;cases q
theorem ORep.monoW {ι':List Addr} {H':Hp} {a:Addr} {o:O} (g:Gw ι H ι' H') (e:H' a=H a) (r:ORep K ι H a o):ORep K ι' H' a o:=by
 cases o with
 | lst xs=>obtain ⟨vs,h1,h2⟩:=r;exact ⟨vs,by rw [e];exact h1,h2.monoW g⟩
 | dK kvs=>obtain ⟨us,h1,h2,h3⟩:=r;exact ⟨us,by rw [e];exact h1,h2,h3.monoW g⟩
 | dT kvs=>obtain ⟨us,h1,h2,h3⟩:=r;exact ⟨us,by rw [e];exact h1,h2,h3.monoW g⟩
theorem ORep.mono {ι':List Addr} {H':Hp} {a:Addr} {o:O} (g:Gr ι H ι' H') (e:H' a=H a) (r:ORep K ι H a o):ORep K ι' H' a o:=r.monoW g.w e
theorem a3c {p:Addr} (e:H p=none) (o:HO):Gr ι H ι (upd H p o) :=
 ⟨⟨[],by simp,by simp⟩,fun a vs h=>by rw [j6 (ie h e)];exact h,fun a o u h=>by rw [j6 (ie h e)];exact h,fun a u h _=>by rw [j6 (ie h e)];exact h,fun a u h=>⟨u,by rw [j6 (ie h e)];exact h⟩⟩
theorem HRep.aside (r:HRep K ι H h) {p:Addr} (e:H p=none) (o:HO):HRep K ι (upd H p o) h:=by
 refine ⟨r.nd,r.len,fun i a o' e1 e2=>?_⟩
 have q:=r.obj i a o' e1 e2
 obtain ⟨u,hu,_⟩:=q.some
 exact q.mono (a3c e o) (j6 (ie hu e))
theorem a7x {p:Addr} (e:H p=none) (o:HO):Gr ι H (ι++[p]) (upd H p o) :=
 ⟨⟨[p],rfl,by simpa using e⟩,(a3c (ι:=ι) e o).tup,(a3c (ι:=ι) e o).frz,(a3c (ι:=ι) e o).oth,(a3c (ι:=ι) e o).kp⟩
theorem HRep.add (r:HRep K ι H h) {p:Addr} (e:H p=none) {o:HO} {ob:O} (q:ORep K (ι++[p]) (upd H p o) p ob):HRep K (ι++[p]) (upd H p o) (h++[ob]):=by
 refine ⟨?_,by simp [r.len],fun i a o' e1 e2=>?_⟩
 ·rw [List.nodup_append]
  exact ⟨r.nd,by simp,fun a ha b hb z=>r.notin e (by rw [List.mem_singleton.mp hb] at z;rw [← z];exact ha)⟩
 ·by_cases hi:i<ι.length
  ·rw [List.getElem?_append_left hi] at e1
   rw [List.getElem?_append_left (by rw [← r.len];exact hi)] at e2
   have q:=r.obj i a o' e1 e2
   obtain ⟨u,hu,_⟩:=q.some
   exact q.mono (a7x e o) (j6 (ie hu e))
  ·have hi2:i<(ι++[p]).length:=(List.getElem?_eq_some_iff.mp e1).1
   have:i=ι.length:=by simp at hi2;omega
   subst this
   rw [List.getElem?_append_right (Nat.le_refl _)] at e1
   rw [r.len,List.getElem?_append_right (Nat.le_refl _)] at e2
   simp at e1 e2
   subst e1 e2
   exact q
theorem a4a {a:Addr} {i:Nat} (r:HRep K ι H h) (e:ι[i]? = some a) (o:HO):Gr ι H ι (upd H a o):=by
 obtain ⟨_,_,q⟩:=r.at e
 obtain ⟨u,hu,n1,n2⟩:=q.some
 refine ⟨⟨[],by simp,by simp⟩,fun b vs hb=>?_,fun b o' u' hb=>?_,fun b u' hb hn=>?_,fun b u' hb=>?_⟩
 ·rw [j6 (fun z=>by subst z;rw [hu] at hb;exact n1 _ (Option.some.inj hb))];exact hb
 ·rw [j6 (fun z=>by subst z;rw [hu] at hb;exact n2 _ _ (Option.some.inj hb))];exact hb
 ·rw [j6 (fun z=>hn (by subst z;exact List.mem_of_getElem? e))];exact hb
 ·by_cases z:b=a
  ·subst z;exact ⟨o,uf⟩
  ·exact ⟨u',by rw [j6 z];exact hb⟩
theorem HRep.put (r:HRep K ι H h) {a:Addr} {i:Nat} (e:ι[i]? = some a) {o:HO} {ob:O} (q:ORep K ι (upd H a o) a ob):HRep K ι (upd H a o) (h.set i ob):=by
 refine ⟨r.nd,by rw [List.length_set];exact r.len,fun j b o' e1 e2=>?_⟩
 by_cases hj:i=j
 ·subst hj
  rw [e] at e1;cases e1
  have hi:i<h.length:=by rw [← r.len];exact (List.getElem?_eq_some_iff.mp e).1
  rw [List.getElem?_set_self hi] at e2;cases e2
  exact q
 ·rw [List.getElem?_set_ne hj] at e2
  have hne:b≠a:=fun z=>by
   subst z
   obtain ⟨h1,g1⟩:=List.getElem?_eq_some_iff.mp e
   obtain ⟨h2,g2⟩:=List.getElem?_eq_some_iff.mp e1
   have np:=List.pairwise_iff_getElem.mp r.nd
   rcases Nat.lt_or_gt_of_ne hj with l | l
   ·exact np i j h1 h2 l (g1.trans g2.symm)
   ·exact np j i h2 h1 l (g2.trans g1.symm)
  exact (r.obj j b o' e1 e2).mono (a4a r e o) (j6 hne)
end
structure SRep (K:PySem.W.Frag) (ι:List Addr) (H:Hp) (σ:St) (τ:Sd):Prop where
 len:σ.length=τ.length
 val:∀ (i:Nat) (d:D),τ[i]? = some (some d)→∃ v,σ[i]? = some (some v)∧Rep K ι H v d
theorem SRep.mono {K:PySem.W.Frag} {ι ι':List Addr} {H H':Hp} {σ:St} {τ:Sd} (g:Gr ι H ι' H') (s:SRep K ι H σ τ):SRep K ι' H' σ τ :=
 ⟨s.len,fun i d e=>let ⟨v,h1,h2⟩:=s.val i d e; ⟨v,h1,h2.mono g⟩⟩
theorem SRep.set {K:PySem.W.Frag} {ι:List Addr} {H:Hp} {σ:St} {τ:Sd} (s:SRep K ι H σ τ) {v:V} {d:D} (r:Rep K ι H v d) (i:Nat):SRep K ι H (σ.set i (some v)) (τ.set i (some d)):=by
 refine ⟨by simp [s.len],fun j d' e=>?_⟩
 by_cases hj:i=j
 ·subst hj
  have hi:i<τ.length:=by
   have:=(List.getElem?_eq_some_iff.mp e).1
   simpa using this
  rw [List.getElem?_set_self hi] at e
  cases e
  exact ⟨v,by rw [List.getElem?_set_self (by rw [s.len];exact hi)],r⟩
 ·rw [List.getElem?_set_ne hj] at e ⊢
  exact s.val j d' e
abbrev XD:=Str→List Addr→Hp→Hd→Prop
def out {α β:Type} (K:PySem.W.Frag) (E:XD) (Rp:List Addr→Hp→β→α→Prop) (ι:List Addr) (H:Hp) (r:R α) (Q:β→Hp→Prop):Prop :=
 match r with
 | .ok a h=>∀ ι' H' b,Gr ι H ι' H'→Rp ι' H' b a→HRep K ι' H' h→Q b H'
 | .ex c h=>∀ ι' H',Gr ι H ι' H'→HRep K ι' H' h→E c ι' H' h
 | .no=>False
theorem a4u {α β:Type} {K:PySem.W.Frag} {E:XD} {Rp:List Addr→Hp→β→α→Prop} {ι ι1:List Addr} {H H1:Hp} {r:R α} {Q:β→Hp→Prop} (o:out K E Rp ι H r Q) (g:Gr ι H ι1 H1):out K E Rp ι1 H1 r Q:=by
 cases r with
 | ok a h=>exact fun ι' H' b g'=>o ι' H' b (g.trans g')
 | ex c h=>exact fun ι' H' g'=>o ι' H' (g.trans g')
 | no=>exact o
theorem dq {α β γ δ:Type} {K:PySem.W.Frag} {E:XD} {Rp:List Addr→Hp→β→α→Prop} {Sp:List Addr→Hp→δ→γ→Prop} {ι:List Addr} {H:Hp} {r:R α} {k:α→Hd→R γ} {Q:δ→Hp→Prop} {P:β→Hp→Prop}
  (o:out K E Sp ι H (r.bind k) Q) (hP:∀ a h ι1 H1 b,Gr ι H ι1 H1→Rp ι1 H1 b a→HRep K ι1 H1 h→out K E Sp ι1 H1 (k a h) Q→P b H1):out K E Rp ι H r P:=by
 cases r with
 | ok a h=>exact fun ι' H' b g r' hr=>hP a h ι' H' b g r' hr (a4u o g)
 | ex c h=>exact o
 | no=>exact o
abbrev w6 (K:PySem.W.Frag):List Addr→Hp→V→D→Prop:=fun ι H v d=>Rep K ι H v d
abbrev aol (K:PySem.W.Frag):List Addr→Hp→List V→List D→Prop:=fun ι H v d=>Reps K ι H v d
abbrev aeu:List Addr→Hp→Bool→Bool→Prop:=fun _ _ a b=>a=b
abbrev aom:List Addr→Hp→Option Int→Option Int→Prop:=fun _ _ a b=>a=b
def acd (K:PySem.W.Frag) (E:XD) (ι:List Addr) (H:Hp) (r:Fl) (N:Ends):Prop :=
 match r with
 | .nx τ h=>∀ ι' H' σ,Gr ι H ι' H'→SRep K ι' H' σ τ→HRep K ι' H' h→N.nx σ H'
 | .bk τ h=>∀ ι' H' σ,Gr ι H ι' H'→SRep K ι' H' σ τ→HRep K ι' H' h→N.bk σ H'
 | .ct τ h=>∀ ι' H' σ,Gr ι H ι' H'→SRep K ι' H' σ τ→HRep K ι' H' h→N.ct σ H'
 | .rt d h=>∀ ι' H' v,Gr ι H ι' H'→Rep K ι' H' v d→HRep K ι' H' h→N.rt v H'
 | .ex c h=>∀ ι' H',Gr ι H ι' H'→HRep K ι' H' h→E c ι' H' h
 | .no=>False
theorem o7 {K:PySem.W.Frag} {E:XD} {ι ι1:List Addr} {H H1:Hp} {r:Fl} {N:Ends} (o:acd K E ι H r N) (g:Gr ι H ι1 H1):acd K E ι1 H1 r N:=by
 cases r with
 | nx τ h=>exact fun ι' H' b g'=>o ι' H' b (g.trans g')
 | bk τ h=>exact fun ι' H' b g'=>o ι' H' b (g.trans g')
 | ct τ h=>exact fun ι' H' b g'=>o ι' H' b (g.trans g')
 | rt d h=>exact fun ι' H' b g'=>o ι' H' b (g.trans g')
 | ex c h=>exact fun ι' H' g'=>o ι' H' (g.trans g')
 | no=>exact o
theorem pq {α β:Type} {K:PySem.W.Frag} {E:XD} {Rp:List Addr→Hp→β→α→Prop} {ι:List Addr} {H:Hp} {r:R α} {k:α→Hd→Fl} {N:Ends} {P:β→Hp→Prop}
  (o:acd K E ι H (r.fl k) N) (hP:∀ a h ι1 H1 b,Gr ι H ι1 H1→Rp ι1 H1 b a→HRep K ι1 H1 h→acd K E ι1 H1 (k a h) N→P b H1):out K E Rp ι H r P:=by
 cases r with
 | ok a h=>exact fun ι' H' b g r' hr=>hP a h ι' H' b g r' hr (o7 o g)
 | ex c h=>exact o
 | no=>exact o
def lift {α β:Type} (K:PySem.W.Frag) (E:XD) (Rp:List Addr→Hp→β→α→Prop) (f:Sd→Hd→R α):St→Hp→(β→Hp→Prop)→Prop:=fun σ H Q =>
 ∃ ι τ h,SRep K ι H σ τ∧HRep K ι H h∧out K E Rp ι H (f τ h) Q
def a4v (K:PySem.W.Frag) (E:XD) (f:SS):TS:=fun N σ H=>∃ ι τ h,SRep K ι H σ τ∧HRep K ι H h∧acd K E ι H (f τ h) N
abbrev ME (X:Cx) (E:XD) (e:Expr) (f:SE):Prop:=PE X e (lift X.K E (w6 X.K) f)
abbrev MT (X:Cx) (E:XD) (e:Expr) (f:ST):Prop:=PT X e (lift X.K E aeu f)
abbrev MW (X:Cx) (E:XD) (e:Expr) (f:ST):Prop:=PW X e (lift X.K E aeu f)
abbrev MA (X:Cx) (E:XD) (es:List Expr) (f:SA):Prop:=PA X es (lift X.K E (aol X.K) f)
abbrev MS (X:Cx) (E:XD) (st:Stmt) (f:SS):Prop:=PS X st (a4v X.K E f)
abbrev MSs (X:Cx) (E:XD) (st:List Stmt) (f:SS):Prop:=PSs X st (a4v X.K E f)
theorem PE.weak {X:Cx} {e:Expr} {t t':TE} (h:PE X e t) (i:∀ σ H Q,t' σ H Q→t σ H Q):PE X e t':=fun pins s σ H Q I q=>h pins s σ H Q I (i _ _ _ q)
theorem PT.weak {X:Cx} {e:Expr} {t t':TT} (h:PT X e t) (i:∀ σ H Q,t' σ H Q→t σ H Q):PT X e t':=fun pins s σ H Q I q=>h pins s σ H Q I (i _ _ _ q)
theorem PW.weak {X:Cx} {e:Expr} {t t':TT} (h:PW X e t) (i:∀ σ H Q,t' σ H Q→t σ H Q):PW X e t':=fun wh pins s σ H Q I q=>h wh pins s σ H Q I (i _ _ _ q)
theorem PA.weak {X:Cx} {e:List Expr} {t t':TA} (h:PA X e t) (i:∀ σ H Q,t' σ H Q→t σ H Q):PA X e t':=fun pos pins s σ H Q I q=>h pos pins s σ H Q I (i _ _ _ q)
theorem PS.weak {X:Cx} {e:Stmt} {t t':TS} (h:PS X e t) (i:∀ N σ H,t' N σ H→t N σ H):PS X e t':=fun pins s σ H N I q=>h pins s σ H N I (i _ _ _ q)
theorem PSs.weak {X:Cx} {e:List Stmt} {t t':TS} (h:PSs X e t) (i:∀ N σ H,t' N σ H→t N σ H):PSs X e t':=fun pins s σ H N I q=>h pins s σ H N I (i _ _ _ q)
end MI
namespace MI
open PySem L2
abbrev LINE:Nat:=16777216
theorem ll {n:Nat} (h:n≤LINE):n≤sizeLine:=ag4 h
def sV (i:Nat):SE:=fun τ h=>match τ[i]? with | some (some d)=>.ok d h | _=>.no
def sC (d:D):SE:=fun _ h=>.ok d h
section
variable {X:Cx} {E:XD} {a b c e:Expr} {fa fb fc:SE} {pos:Pos}
theorem bj (i:Nat) {x:Str} {pos:Pos} (hN:X.N[i]? = some x:=by rfl) (hv:Vis X.env.scope x:=by first | exact Or.inl rfl | exact Or.inr (Or.inl rfl) | exact Or.inr (Or.inr rfl)) (hd:(x == ("__debug__" : Str))=false:=by decide)
  (hcd:(x == ("__classdict__" : Str))=false:=by decide):ME X E (.Name x pos) (sV i):=by
 refine PE.weak (ahs hN hv hd hcd) fun σ H Q ⟨ι,τ,h,S,Rh,o⟩=>?_
 unfold sV at o
 split at o
 ·rename_i d e
  obtain ⟨v,h1,h2⟩:=S.val i d e
  exact ⟨v,h1,o ι H v (.refl _ _) h2 Rh⟩
 ·exact o.elim
theorem aj1 {v:V} {d:D} (h:PE X e (tC v)) (r:∀ ι H,Rep X.K ι H v d):ME X E e (sC d) :=
 PE.weak h fun σ H Q ⟨ι,τ,h,S,Rh,o⟩=>o ι H v (.refl _ _) (r ι H) Rh
theorem aq {i j pos}:ME X E (.Constant (.int i) j pos) (sC (.int i)):=aj1 aht fun _ _=>.int i
theorem v9 {i j pos}:ME X E (.Constant (.bool i) j pos) (sC (.bl i)):=aj1 alj fun _ _=>.bl i
theorem a69 {i j pos}:ME X E (.Constant (.str i) j pos) (sC (.str i)):=aj1 ahv fun _ _=>.str i
theorem a7y {j pos}:ME X E (.Constant .none j pos) (sC .non):=aj1 ahu fun _ _=>.non
theorem a95 {x:Str} {n:String} {pos:Pos} (hg:Gl X x) (hm:X.mg x=none) (hv:bootBuiltins x=some (.type n)) (hn:x ≠ "__name__":=by decide) (hd:(x == ("__debug__" : Str))=false:=by decide):ME X E (.Name x pos) (sC (.ty n)) :=
 aj1 (afi (v:=.ty n) hg hm hv rfl hn hd) fun _ _=>.ty n
def s2 (g:D→D→Hd→R D) (fa fb:SE):SE:=fun τ h=>(fa τ h).bind fun x h1=>(fb τ h1).bind fun y h2=>g x y h2
def s1 (g:D→Hd→R D) (fa:SE):SE:=fun τ h=>(fa τ h).bind g
def a0c (K:PySem.W.Frag) (g:D→D→Hd→R D) (r:R2):Prop:=∀ (E:XD) ι H h x y dx dy Q,Rep K ι H x dx→Rep K ι H y dy→HRep K ι H h→out K E (w6 K) ι H (g dx dy h) Q→r x y H Q
def aon (K:PySem.W.Frag) (g:D→Hd→R D) (r:V→Hp→VK→Prop):Prop:=∀ (E:XD) ι H h x dx Q,Rep K ι H x dx→HRep K ι H h→out K E (w6 K) ι H (g dx h) Q→r x H Q
def a7z (K:PySem.W.Frag) (g:List D→Hd→R D) (r:List V→Hp→VK→Prop):Prop:=∀ (E:XD) ι H h xs ds Q,Reps K ι H xs ds→HRep K ι H h→out K E (w6 K) ι H (g ds h) Q→r xs H Q
theorem al6 {g:D→D→Hd→R D} {r:R2} {K:PySem.W.Frag} (hs:a0c K g r) {σ:St} {H:Hp} {Q:VK} (q:lift K E (w6 K) (s2 g fa fb) σ H Q):tOp r (lift K E (w6 K) fa) (lift K E (w6 K) fb) σ H Q:=by
 obtain ⟨ι,τ,h,S,Rh,o⟩:=q
 refine ⟨ι,τ,h,S,Rh,dq o fun d h1 ι1 H1 v g1 r1 hr1 o1=>?_⟩
 refine ⟨ι1,τ,h1,S.mono g1,hr1,dq o1 fun d2 h2 ι2 H2 u g2 r2 hr2 o2=>?_⟩
 exact hs E ι2 H2 h2 v u d d2 Q (r1.mono g2) r2 hr2 o2
theorem a96 {op:Operator} {r:R2} {g:D→D→Hd→R D} (ho:OpR X (binaryOp op) r) (hs:a0c X.K g r) (ha:ME X E a fa) (hb:ME X E b fb):ME X E (.BinOp a op b pos) (s2 g fa fb) :=
 PE.weak (aly ho ha hb) fun σ H Q q=>al6 hs q
theorem xm {op:CmpOp} {r:R2} {g:D→D→Hd→R D} (ho:OpR X (compareOp op) r) (hs:a0c X.K g r) (ha:ME X E a fa) (hb:ME X E b fb) (hm:behindInMarks op b=false):ME X E (.Compare a [op] [b] pos) (s2 g fa fb) :=
 PE.weak (afq ho ha hb hm) fun σ H Q q=>al6 hs q
theorem amd {op:UnaryOp} {r:V→Hp→VK→Prop} {g:D→Hd→R D} (ho:UnR X (unaryOp op) r) (hs:aon X.K g r) (ha:ME X E a fa):ME X E (.UnaryOp op a pos) (s1 g fa):=by
 refine PE.weak (alz ho ha) fun σ H Q ⟨ι,τ,h,S,Rh,o⟩=>?_
 exact ⟨ι,τ,h,S,Rh,dq o fun d h1 ι1 H1 v g1 r1 hr1 o1=>hs E ι1 H1 h1 v d Q r1 hr1 o1⟩
theorem ame {r:R2} {g:D→D→Hd→R D} (ho:IxR X r) (hs:a0c X.K g r) (ha:ME X E a fa) (hb:ME X E b fb) (hp:a6y b):ME X E (.Subscript a b pos) (s2 g fa fb) :=
 PE.weak (am7 ho ha hb hp) fun σ H Q q=>al6 hs q
def asB (d:D) (h:Hd):R Bool:=match d with | .bl b=>.ok b h | _=>.no
def sT (f:SE):ST:=fun τ h=>(f τ h).bind asB
theorem aak {K:PySem.W.Frag} {t:TE} {f:SE} (hi:∀ σ H Q,lift K E (w6 K) f σ H Q→t σ H Q) {σ:St} {H:Hp} {Q:Bool→Hp→Prop} (q:lift K E aeu (sT f) σ H Q):afr t σ H Q:=by
 refine hi σ H _ ?_
 obtain ⟨ι,τ,h,S,Rh,o⟩:=q
 refine ⟨ι,τ,h,S,Rh,dq o fun d h1 ι1 H1 v g1 r1 hr1 o1=>?_⟩
 cases r1 with
 | bl b=>exact ⟨b,rfl,o1 ι1 H1 b (.refl _ _) rfl hr1⟩
 | _=>exact o1.elim
theorem fj {op:CmpOp} {r:R2} {g:D→D→Hd→R D} (ho:OpR X (compareOp op) r) (hs:a0c X.K g r) (ha:ME X E a fa) (hb:ME X E b fb) (hm:behindInMarks op b=false):MT X E (.Compare a [op] [b] pos) (sT (s2 g fa fb)) :=
 PT.weak (afs ho ha hb hm) fun σ H Q q=>aak (fun _ _ _=>al6 hs) q
def sCh (g g':D→D→Hd→R D) (fa fb fc:SE):SE:=fun τ h=>(fa τ h).bind fun x h1=>(fb τ h1).bind fun y h2=>(g x y h2).bind fun z h3=>match z with
 | .bl true=>(fc τ h3).bind fun w h4=>g' y w h4
 | .bl false=>.ok (.bl false) h3
 | _=>.no
theorem aev {K:PySem.W.Frag} {g g':D→D→Hd→R D} {r r':R2} (hs:a0c K g r) (hs':a0c K g' r') {σ:St} {H:Hp} {Q:VK} (q:lift K E (w6 K) (sCh g g' fa fb fc) σ H Q) :
  aa0 r r' (lift K E (w6 K) fa) (lift K E (w6 K) fb) (lift K E (w6 K) fc) σ H Q:=by
 obtain ⟨ι,τ,h,S,Rh,o⟩:=q
 refine ⟨ι,τ,h,S,Rh,dq o fun d h1 ι1 H1 v g1 r1 hr1 o1=>?_⟩
 refine ⟨ι1,τ,h1,S.mono g1,hr1,dq o1 fun d2 h2 ι2 H2 u g2 r2 hr2 o2=>?_⟩
 refine hs E ι2 H2 h2 v u d d2 _ (r1.mono g2) r2 hr2 (dq o2 fun d3 h3 ι3 H3 z g3 r3 hr3 o3=>?_)
 cases r3 with
 | bl k =>
  refine ⟨k,rfl,?_⟩
  cases k with
  | true =>
   rw [if_pos rfl]
   refine ⟨ι3,τ,h3,((S.mono g1).mono g2).mono g3,hr3,dq o3 fun d4 h4 ι4 H4 w g4 r4 hr4 o4=>?_⟩
   exact hs' E ι4 H4 h4 u w d2 d4 Q ((r2.mono g3).mono g4) r4 hr4 o4
  | false =>
   rw [if_neg Bool.false_ne_true]
   exact o3 ι3 H3 (.bl false) (.refl _ _) (.bl false) hr3
 | _=>exact o3.elim
theorem ad9 {op op':CmpOp} {r r':R2} {g g':D→D→Hd→R D} (ho:OpR X (compareOp op) r) (ho':OpR X (compareOp op') r') (hs:a0c X.K g r) (hs':a0c X.K g' r') (ha:ME X E a fa) (hb:ME X E b fb) (hc:ME X E c fc)
  (hm:lastMarks [op,op'] [b,c]=false:=by with_unfolding_all rfl):ME X E (.Compare a [op,op'] [b,c] pos) (sCh g g' fa fb fc) :=
 PE.weak (acv ho ho' ha hb hc hm) fun σ H Q q=>aev hs hs' q
theorem ada {op op':CmpOp} {r r':R2} {g g':D→D→Hd→R D} (ho:OpR X (compareOp op) r) (ho':OpR X (compareOp op') r') (hs:a0c X.K g r) (hs':a0c X.K g' r') (ha:ME X E a fa) (hb:ME X E b fb) (hc:ME X E c fc)
  (hm:lastMarks [op,op'] [b,c]=false:=by with_unfolding_all rfl):MT X E (.Compare a [op,op'] [b,c] pos) (sT (sCh g g' fa fb fc)) :=
 PT.weak (acw ho ho' ha hb hc hm) fun σ H Q q=>aak (fun _ _ _=>aev hs hs') q
def tru (d:D) (h:Hd):R Bool:=match d with
 | .non=>.ok false h
 | .bl b=>.ok b h
 | .int i=>.ok (i != 0) h
 | .str x=>if x.length≤LINE then .ok ((x.length:Int) != 0) h else .no
 | .tup xs=>.ok (!xs.isEmpty) h
 | .rol xs=>.ok (!xs.isEmpty) h
 | .ref i=>match h[i]? with
  | some (.lst xs)=>.ok (!xs.isEmpty) h
  | some (.dK kvs)=>.ok (!kvs.isEmpty) h
  | _=>.no
 | _=>.no
theorem Reps.emp {K:PySem.W.Frag} {ι:List Addr} {H:Hp} {vs:List V} {ds:List D} (r:Reps K ι H vs ds):vs.isEmpty=ds.isEmpty:=by cases r<;>rfl
theorem KRep.emp {κ:Type} {K:PySem.W.Frag} {ι:List Addr} {H:Hp} {us:List (κ × V)} {kvs:List (κ × D)} (r:KRep K ι H us kvs):us.isEmpty=kvs.isEmpty:=by
 have:=congrArg List.length r.1
 cases us<;>cases kvs<;>simp at this ⊢
theorem ag5 {K:PySem.W.Frag} {ι:List Addr} {H:Hp} {h:Hd} {x:V} {d:D} {Q:Bool→Hp→Prop} (r:Rep K ι H x d) (hr:HRep K ι H h) (o:out K E aeu ι H (tru d h) Q):∃ k,am2 K x H k∧Q k H:=by
 cases r with
 | non=>exact ⟨false,rfl,o ι H _ (.refl _ _) rfl hr⟩
 | bl b=>exact ⟨b,rfl,o ι H _ (.refl _ _) rfl hr⟩
 | int i=>exact ⟨_,rfl,o ι H _ (.refl _ _) rfl hr⟩
 | str x =>
  by_cases hl:x.length≤LINE
  ·simp only [tru,if_pos hl] at o
   exact ⟨_,⟨ll hl,rfl⟩,o ι H _ (.refl _ _) rfl hr⟩
  ·simp only [tru,if_neg hl] at o
   exact o.elim
 | ty n=>exact o.elim
 | rod _ _ _=>exact o.elim
 | scr _ _=>exact o.elim
 | rdT _ _ _=>exact o.elim
 | exc _ _ _=>exact o.elim
 | tup e rs=>exact ⟨_, .inr (.inl ⟨_,SqT.of e,rfl⟩),by rw [rs.emp];exact o ι H _ (.refl _ _) rfl hr⟩
 | rol e rs=>exact ⟨_, .inl ⟨_,e.l,rfl⟩,by rw [rs.emp];exact o ι H _ (.refl _ _) rfl hr⟩
 | @ref a i e =>
  obtain ⟨ob,h1,h2⟩:=hr.at e
  simp only [tru,h1] at o
  cases ob with
  | lst xs =>
   obtain ⟨vs,h3,h4⟩:=h2
   exact ⟨_, .inl ⟨_,SqL.of h3,rfl⟩,by rw [h4.emp];exact o ι H _ (.refl _ _) rfl hr⟩
  | dK kvs =>
   obtain ⟨us,h3,h4⟩:=h2
   exact ⟨_, .inr (.inr ⟨_,h3,rfl⟩),by rw [h4.emp];exact o ι H _ (.refl _ _) rfl hr⟩
  | dT kvs=>exact o.elim
def yz (f:SE):ST:=fun τ h=>(f τ h).bind tru
theorem qb (ha:ME X E a fa) (he:∀ whole,isTrue a X.env whole=(do let v ← whole;standAt a.pos;holding [v] (truthy v)):=by intro _;rfl):MT X E a (yz fa):=by
 refine PT.weak (acx ha he) fun σ H Q ⟨ι,τ,h,S,Rh,o⟩=>?_
 exact ⟨ι,τ,h,S,Rh,dq o fun d h1 ι1 H1 v g1 r1 hr1 o1=>ag5 r1 hr1 o1⟩
def a1k (f g:ST):ST:=fun τ h=>(f τ h).bind fun b h1=>if b=true then g τ h1 else .ok false h1
def sOr (f g:ST):ST:=fun τ h=>(f τ h).bind fun b h1=>if b=true then .ok true h1 else g τ h1
def a1h (f:ST):ST:=fun τ h=>(f τ h).bind fun b h1=>.ok (!b) h1
variable {ga gb:ST}
theorem vf (ha:MT X E a ga):MW X E (.BoolOp .And [a] pos) ga:=afj ha
theorem a3d (ha:MT X E a ga):MW X E (.BoolOp .Or [a] pos) ga:=ahw ha
theorem a0d {rest:List Expr} (ha:MT X E a ga) (hb:MW X E (.BoolOp .And (b::rest) pos) gb):MW X E (.BoolOp .And (a::b::rest) pos) (a1k ga gb):=by
 refine PW.weak (ahx ha hb) fun σ H Q ⟨ι,τ,h,S,Rh,o⟩=>?_
 refine ⟨ι,τ,h,S,Rh,dq o fun d h1 ι1 H1 v g1 r1 hr1 o1=>?_⟩
 cases r1
 cases d with
 | true=>exact ⟨ι1,τ,h1,S.mono g1,hr1,o1⟩
 | false=>exact o1 ι1 H1 false (.refl _ _) rfl hr1
theorem a72 {rest:List Expr} (ha:MT X E a ga) (hb:MW X E (.BoolOp .Or (b::rest) pos) gb):MW X E (.BoolOp .Or (a::b::rest) pos) (sOr ga gb):=by
 refine PW.weak (alk ha hb) fun σ H Q ⟨ι,τ,h,S,Rh,o⟩=>?_
 refine ⟨ι,τ,h,S,Rh,dq o fun d h1 ι1 H1 v g1 r1 hr1 o1=>?_⟩
 cases r1
 cases d with
 | true=>exact o1 ι1 H1 true (.refl _ _) rfl hr1
 | false=>exact ⟨ι1,τ,h1,S.mono g1,hr1,o1⟩
theorem yw (ha:MT X E a ga):MT X E (.UnaryOp .Not a pos) (a1h ga):=by
 refine PT.weak (ahy ha) fun σ H Q ⟨ι,τ,h,S,Rh,o⟩=>?_
 refine ⟨ι,τ,h,S,Rh,dq o fun d h1 ι1 H1 v g1 r1 hr1 o1=>?_⟩
 cases r1
 exact o1 ι1 H1 _ (.refl _ _) rfl hr1
def a0t (f g:SE):SE:=fun τ h=>(f τ h).bind fun d h1=>match d with | .bl true=>g τ h1 | .bl false=>.ok (.bl false) h1 | _=>.no
def al7 (f g:SE):SE:=fun τ h=>(f τ h).bind fun d h1=>match d with | .bl true=>.ok (.bl true) h1 | .bl false=>g τ h1 | _=>.no
def a4w (f:SE):SE:=fun τ h=>(f τ h).bind fun d h1=>match d with | .bl b=>.ok (.bl (!b)) h1 | _=>.no
theorem a80 {op} (ha:ME X E a fa):ME X E (.BoolOp op [a] pos) fa:=ahz ha
theorem a81 {rest:List Expr} (ha:ME X E a fa) (hb:ME X E (.BoolOp .And (b::rest) pos) fb):ME X E (.BoolOp .And (a::b::rest) pos) (a0t fa fb):=by
 refine PE.weak (ai0 ha hb) fun σ H Q ⟨ι,τ,h,S,Rh,o⟩=>?_
 refine ⟨ι,τ,h,S,Rh,dq o fun d h1 ι1 H1 v g1 r1 hr1 o1=>?_⟩
 cases r1 with
 | bl k =>
  refine ⟨k,rfl,?_⟩
  cases k with
  | true=>exact ⟨ι1,τ,h1,S.mono g1,hr1,o1⟩
  | false=>exact o1 ι1 H1 _ (.refl _ _) (.bl _) hr1
 | _=>exact o1.elim
theorem aj2 (ha:ME X E a fa):ME X E (.UnaryOp .Not a pos) (a4w fa):=by
 refine PE.weak (ai1 ha) fun σ H Q ⟨ι,τ,h,S,Rh,o⟩=>?_
 refine ⟨ι,τ,h,S,Rh,dq o fun d h1 ι1 H1 v g1 r1 hr1 o1=>?_⟩
 cases r1 with
 | bl k=>exact ⟨k,rfl,o1 ι1 H1 _ (.refl _ _) (.bl _) hr1⟩
 | _=>exact o1.elim
def a6a (c:ST) (f g:SE):SE:=fun τ h=>(c τ h).bind fun b h1=>if b=true then f τ h1 else g τ h1
theorem a4b (hc:MT X E c ga) (ha:ME X E a fa) (hb:ME X E b fb):ME X E (.IfExp c a b pos) (a6a ga fa fb):=by
 refine PE.weak (acn hc ha hb) fun σ H Q ⟨ι,τ,h,S,Rh,o⟩=>?_
 refine ⟨ι,τ,h,S,Rh,dq o fun d h1 ι1 H1 v g1 r1 hr1 o1=>?_⟩
 cases r1
 cases d with
 | true=>exact ⟨ι1,τ,h1,S.mono g1,hr1,o1⟩
 | false=>exact ⟨ι1,τ,h1,S.mono g1,hr1,o1⟩
def dm:SA:=fun _ h=>.ok [] h
def ak (f:SE) (g:SA):SA:=fun τ h=>(f τ h).bind fun d h1=>(g τ h1).bind fun ds h2=>.ok (d::ds) h2
variable {es:List Expr} {ka:SA}
theorem bf:MA X E [] dm:=PA.weak aij fun σ H Q ⟨ι,τ,h,S,Rh,o⟩=>o ι H [] (.refl _ _) .nil Rh
theorem aa (ha:ME X E e fa) (hr:MA X E es ka) (hs:starEach (e::es) X.env=(false,eval e X.env)::starEach es X.env:=by rfl):MA X E (e::es) (ak fa ka):=by
 refine PA.weak (afu ha hr hs) fun σ H Q ⟨ι,τ,h,S,Rh,o⟩=>?_
 refine ⟨ι,τ,h,S,Rh,dq o fun d h1 ι1 H1 v g1 r1 hr1 o1=>?_⟩
 refine ⟨ι1,τ,h1,S.mono g1,hr1,dq o1 fun d2 h2 ι2 H2 u g2 r2 hr2 o2=>?_⟩
 exact o2 ι2 H2 _ (.refl _ _) (.cons (r1.mono g2) r2) hr2
def a0q (ds:List D) (h:Hd):R D:=if ds.length≤LINE then .ok (.tup ds) h else .no
def a3e (ds:List D) (h:Hd):R D:=if ds.length≤LINE then .ok (.ref h.length) (h++[.lst ds]) else .no
def sA (g:List D→Hd→R D) (k:SA):SE:=fun τ h=>(k τ h).bind g
theorem a0j {K:PySem.W.Frag} {ι:List Addr} {H:Hp} {h:Hd} {vs:List V} {ds:List D} {Q:VK} (r:Reps K ι H vs ds) (hr:HRep K ι H h) (o:out K E (w6 K) ι H (.ok (.tup ds) h) Q):∀ p,H p=none→Q (.ref p) (upd H p (.tup vs)):=fun p hp =>
 o ι _ _ (a3c hp _) (.tup uf (r.mono (a3c hp _))) (hr.aside hp _)
theorem xn {K:PySem.W.Frag} {ι:List Addr} {H:Hp} {h:Hd} {vs:List V} {ds:List D} {Q:VK} (r:Reps K ι H vs ds) (hr:HRep K ι H h) (o:out K E (w6 K) ι H (.ok (.ref h.length) (h++[.lst ds])) Q):∀ p,H p=none→Q (.ref p) (upd H p (.lst vs)):=fun p hp =>
 o (ι++[p]) _ _ (a7x hp _) (.ref (by rw [List.getElem?_append_right (by rw [hr.len];exact Nat.le_refl _),hr.len];simp)) (hr.add hp ⟨_,uf,r.mono (a7x hp _)⟩)
theorem ag6 {K:PySem.W.Frag} {ι:List Addr} {H:Hp} {h:Hd} {i:Nat} {a:Addr} {vs:List V} {ds:List D} {d:D} {v:V} {Q:VK} (r:Reps K ι H vs ds) (hr:HRep K ι H h) (hi:ι[i]? = some a) (rd:Rep K ι H v d) (o:out K E (w6 K) ι H (.ok d (h.set i (.lst ds))) Q):Q v (upd H a (.lst vs)) :=
 o ι _ _ (a4a hr hi _) (rd.mono (a4a hr hi _)) (hr.put hi ⟨_,uf,r.mono (a4a hr hi _)⟩)
theorem a0e {x1} (h:MA X E es ka):ME X E (.Tuple es x1 pos) (sA a0q ka):=by
 refine PE.weak (aik h) fun σ H Q ⟨ι,τ,h,S,Rh,o⟩=>?_
 refine ⟨ι,τ,h,S,Rh,dq o fun d h1 ι1 H1 v g1 r1 hr1 o1=>?_⟩
 unfold a0q at o1
 split at o1
 ·rename_i hl
  exact ⟨ll (by rw [r1.len];exact hl),a0j r1 hr1 o1⟩
 ·exact o1.elim
theorem a0f (h:MA X E es ka):ME X E (.List es pos) (sA a3e ka):=by
 refine PE.weak (ail h) fun σ H Q ⟨ι,τ,h,S,Rh,o⟩=>?_
 refine ⟨ι,τ,h,S,Rh,dq o fun d h1 ι1 H1 v g1 r1 hr1 o1=>?_⟩
 unfold a3e at o1
 split at o1
 ·rename_i hl
  exact ⟨ll (by rw [r1.len];exact hl),xn r1 hr1 o1⟩
 ·exact o1.elim
theorem km {x:Str} {p:Pos} {id:String} {r:List V→Hp→VK→Prop} {g:List D→Hd→R D} (hc:CallR X (.builtin id) r) (hs:a7z X.K g r) (hg:Gl X x) (hm:X.mg x=none) (hv:bootBuiltins x=some (.builtin id)) (ha:MA X E (e::es) ka) (hn:x ≠ "__name__":=by decide) (hdb:(x == ("__debug__" : Str))=false:=by decide)
  (he:starEach (e::es) X.env=(false,eval e X.env)::starEach es X.env:=by rfl) (hpl:(backTo pos (starEach es X.env)).any (·.1)=false:=by rfl):ME X E (.Call (.Name x p) (e::es) [] pos) (sA g ka):=by
 refine PE.weak (ad0 hc hg hm hv ha hn hdb he hpl) fun σ H Q ⟨ι,τ,h,S,Rh,o⟩=>?_
 exact ⟨ι,τ,h,S,Rh,dq o fun d h1 ι1 H1 v g1 r1 hr1 o1=>hs E ι1 H1 h1 v d Q r1 hr1 o1⟩
theorem a3f {x:Str} {p:Pos} {id:String} {r:List V→Hp→VK→Prop} {g:List D→Hd→R D} (hc:CallR X (.type id) r) (hs:a7z X.K g r) (hg:Gl X x) (hm:X.mg x=none) (hv:bootBuiltins x=some (.type id)) (ha:MA X E (e::es) ka) (hn:x ≠ "__name__":=by decide) (hdb:(x == ("__debug__" : Str))=false:=by decide)
  (he:starEach (e::es) X.env=(false,eval e X.env)::starEach es X.env:=by rfl) (hpl:(backTo pos (starEach es X.env)).any (·.1)=false:=by rfl):ME X E (.Call (.Name x p) (e::es) [] pos) (sA g ka):=by
 refine PE.weak (aa6 hc hg hm hv ha hn hdb he hpl) fun σ H Q ⟨ι,τ,h,S,Rh,o⟩=>?_
 exact ⟨ι,τ,h,S,Rh,dq o fun d h1 ι1 H1 v g1 r1 hr1 o1=>hs E ι1 H1 h1 v d Q r1 hr1 o1⟩
end
end MI
namespace MI
open PySem L2
def j7 (f g:SS):SS:=fun τ h=>match f τ h with | .nx τ1 h1=>g τ1 h1 | r=>r
def sNx:SS:=fun τ h=>.nx τ h
def u5 (f:SE):SS:=fun τ h=>(f τ h).fl fun d h1=>.rt d h1
def a0k (f:SE):SS:=fun τ h=>(f τ h).fl fun _ h1=>.nx τ h1
def sIf (c:ST) (f g:SS):SS:=fun τ h=>(c τ h).fl fun b h1=>if b=true then f τ h1 else g τ h1
def jy (i:Nat) (f:SE):SS:=fun τ h=>(f τ h).fl fun d h1=>.nx (τ.set i (some d)) h1
def ace (i:Nat) (g:D→D→Hd→R D) (f:SE):SS:=fun τ h=>match τ[i]? with
 | some (some x)=>(f τ h).fl fun y h1=>(g x y h1).fl fun z h2=>.nx (τ.set i (some z)) h2
 | _=>.no
section
variable {X:Cx} {E:XD} {e o:Expr} {es:List Expr} {fa fb fc:SE} {ga:ST} {st:Stmt} {sts a b:List Stmt} {f g:SS} {pos:Pos}
theorem ik:MSs X E [] sNx:=PSs.weak afk fun N σ H ⟨ι,τ,h,S,Rh,o⟩=>o ι H σ (.refl _ _) S Rh
theorem aj3 {K:PySem.W.Frag} {N:Ends} {σ:St} {H:Hp} (q:a4v K E (j7 f g) N σ H):a4v K E f { N with nx:=a4v K E g N } σ H:=by
 obtain ⟨ι,τ,h,S,Rh,o⟩:=q
 refine ⟨ι,τ,h,S,Rh,?_⟩
 unfold j7 at o
 cases hf:f τ h with
 | nx τ1 h1 =>
  rw [hf] at o
  exact fun ι1 H1 σ1 g1 S1 R1=>⟨ι1,τ1,h1,S1,R1,o7 o g1⟩
 | _=>rw [hf] at o;exact o
theorem ao (h1:MS X E st f) (h2:MSs X E sts g):MSs X E (st::sts) (j7 f g):=PSs.weak (aco h1 h2) fun N σ H q=>aj3 q
theorem bu (h1:MS X E st f):MSs X E [st] f:=afl h1
theorem iy (he:ME X E e fa):MS X E (.Return (some e) pos) (u5 fa):=by
 refine PS.weak (ai2 he) fun N σ H ⟨ι,τ,h,S,Rh,o⟩=>?_
 exact ⟨ι,τ,h,S,Rh,pq o fun d h1 ι1 H1 v g1 r1 hr1 o1=>o1 ι1 H1 v (.refl _ _) r1 hr1⟩
theorem a1l (he:ME X E e fa) (hs:swapsWith e none pos.line X.env=pure false:=by rfl):MS X E (.Expr e pos) (a0k fa):=by
 refine PS.weak (afm he hs) fun N σ H ⟨ι,τ,h,S,Rh,o⟩=>?_
 exact ⟨ι,τ,h,S,Rh,pq o fun d h1 ι1 H1 v g1 r1 hr1 o1=>o1 ι1 H1 σ (.refl _ _) (S.mono g1) hr1⟩
theorem lq {c:Expr} (hc:MT X E c ga) (ha:MSs X E a f) (hb:MSs X E b g):MS X E (.If c a b pos) (sIf ga f g):=by
 refine PS.weak (alq hc ha hb) fun N σ H ⟨ι,τ,h,S,Rh,o⟩=>?_
 refine ⟨ι,τ,h,S,Rh,pq o fun d h1 ι1 H1 v g1 r1 hr1 o1=>?_⟩
 cases r1
 cases d with
 | true=>exact ⟨ι1,τ,h1,S.mono g1,hr1,o1⟩
 | false=>exact ⟨ι1,τ,h1,S.mono g1,hr1,o1⟩
theorem iu {i:Nat} {x:Str} {pos':Pos} (hN:X.N.Nodup) (hi:X.N[i]? = some x) (hx:Loc X.env.scope x) (he:ME X E e fa) (hs:swapsWith e (some (.Name x pos')) pos.line X.env=pure false:=by rfl) (hf:X.fn x=true∨X.env.scope.names.lookup x=some .local:=by first | exact .inl rfl | exact .inr rfl | assumption) :
  MS X E (.Assign [.Name x pos'] e pos) (jy i fa):=by
 refine PS.weak (ai7 hN hi hx he hs hf) fun N σ H ⟨ι,τ,h,S,Rh,o⟩=>?_
 exact ⟨ι,τ,h,S,Rh,pq o fun d h1 ι1 H1 v g1 r1 hr1 o1=>o1 ι1 H1 _ (.refl _ _) ((S.mono g1).set r1 i) hr1⟩
theorem aew {i:Nat} {x:Str} {op:Operator} {r:R2} {gg:D→D→Hd→R D} {pos':Pos} (hN:X.N.Nodup) (hi:X.N[i]? = some x) (hx:Loc X.env.scope x) (ho:OpR X (inplaceOp op) r) (hs:a0c X.K gg r) (he:ME X E e fa) (hf:X.fn x=true∨X.env.scope.names.lookup x=some .local:=by first | exact .inl rfl | exact .inr rfl | assumption) :
  MS X E (.AugAssign (.Name x pos') op e pos) (ace i gg fa):=by
 refine PS.weak (ai8 hN hi hx he ho hf) fun N σ H ⟨ι,τ,h,S,Rh,o⟩=>?_
 unfold ace at o
 split at o
 ·rename_i d ed
  obtain ⟨v,h1,h2⟩:=S.val i d ed
  refine ⟨v,h1,ι,τ,h,S,Rh,pq o fun d2 h3 ι1 H1 u g1 r1 hr1 o1=>?_⟩
  refine hs E ι1 H1 h3 v u d d2 _ (h2.mono g1) r1 hr1 (pq o1 fun d3 h4 ι2 H2 z g2 r2 hr2 o2=>?_)
  exact o2 ι2 H2 _ (.refl _ _) (((S.mono g1).mono g2).set r2 i) hr2
 ·exact o.elim
def put (o k v:D) (h:Hd):Option Hd:=match o,k with
 | .ref i, .int j=>match h[i]? with
  | some (.lst xs)=>match ixN xs.length j with
   | some m=>some (h.set i (.lst (xs.set m v)))
   | none=>none
  | _=>none
 | _,_=>none
theorem aal {K:PySem.W.Frag} {ι:List Addr} {H:Hp} {h h':Hd} {o k v:V} {od kd vd:D} {Q:Hp→Prop} (r1:Rep K ι H o od) (r2:Rep K ι H k kd) (r3:Rep K ι H v vd) (hr:HRep K ι H h) (e:put od kd vd h=some h')
  (q:∀ H',Gr ι H ι H'→HRep K ι H' h'→Q H'):air o k v H Q:=by
 cases r1 with
 | @ref a i ha =>
  cases r2 with
  | int j =>
   obtain ⟨ob,h1,h2⟩:=hr.at ha
   cases ob with
   | lst xs =>
    obtain ⟨vs,h3,h4⟩:=h2
    simp only [put,h1] at e
    cases hm:ixN xs.length j with
    | none=>rw [hm] at e;cases e
    | some m =>
     rw [hm] at e
     cases e
     exact ⟨a,vs,j,m,rfl,rfl,h3,by rw [h4.len];exact hm,q _ (a4a hr ha _) (hr.put ha ⟨_,uf,(h4.set r3 m).mono (a4a hr ha _)⟩)⟩
   | dK _=>simp only [put,h1] at e;cases e
   | dT _=>simp only [put,h1] at e;cases e
  | _=>cases e
 | _=>cases e
def aam (fe fo fi:SE):SS:=fun τ h=>(fe τ h).fl fun v h1=>(fo τ h1).fl fun o h2=>(fi τ h2).fl fun k h3=>match put o k v h3 with | some h4=>.nx τ h4 | none=>.no
theorem a82 {i:Expr} {pos':Pos} (he:ME X E e fa) (ho:ME X E o fb) (hi:ME X E i fc)
  (hs:swapsWithSole [.Subscript o i pos'] e pos.line X.env=pure false:=by rfl) (hw:swappedStores [.Subscript o i pos'] e X.env=pure none:=by rfl)
  (h1:(assignEach [.Subscript o i pos'] X.env).map (·.2)=[assign (.Subscript o i pos') X.env]:=by rfl)
  (ha:∀ v,assign (.Subscript o i pos') X.env v=(do
   let ov ← holding [v] (eval o X.env)
   let iv ← holding [v,ov] (eval i X.env)
   standAt pos'
   holding [v,ov,iv] (setItem ov iv v)
   release [v,ov,iv] []):=by intro _;rfl):MS X E (.Assign [.Subscript o i pos'] e pos) (aam fa fb fc):=by
 refine PS.weak (aeo he (ai6 ho hi set_list ha) hs hw h1) fun N σ H ⟨ι,τ,h,S,Rh,oo⟩=>?_
 refine ⟨ι,τ,h,S,Rh,pq oo fun d h1 ι1 H1 v g1 r1 hr1 o1=>?_⟩
 refine ⟨ι1,τ,h1,S.mono g1,hr1,pq o1 fun d2 h2 ι2 H2 u g2 r2 hr2 o2=>?_⟩
 refine ⟨ι2,τ,h2,(S.mono g1).mono g2,hr2,pq o2 fun d3 h3 ι3 H3 w g3 r3 hr3 o3=>?_⟩
 cases hp:put d2 d3 d h3 with
 | none=>rw [hp] at o3;exact o3.elim
 | some h4 =>
  rw [hp] at o3
  exact aal (r2.mono g3) r3 ((r1.mono g2).mono g3) hr3 hp fun H' g4 hr4=>o3 ι3 H' σ g4 ((((S.mono g1).mono g2).mono g3).mono g4) hr4
def sWh (c:ST) (f:SS):Nat→SS
 | 0,_,_=>.no
 | n+1,τ,h=>(c τ h).fl fun b h1=>if b=true then (match f τ h1 with | .nx τ2 h2=>sWh c f n τ2 h2 | .ct τ2 h2=>sWh c f n τ2 h2 | .bk τ2 h2=>.nx τ2 h2 | r=>r) else .nx τ h1
theorem adb (n:Nat) {c:Expr} (hp:PassesOwn (model X.prog X.w) X.A X.env X.xe) (hc:MT X E c ga) (hb:MSs X E a f):MS X E (.While c a [] pos) (sWh ga f n):=by
 refine PS.weak (acq hp hc hb) fun N σ H q=>?_
 refine ⟨fun m σ H=>a4v X.K E (sWh ga f m) N σ H,⟨n,q⟩,?_⟩
 rintro m σ1 H1 ⟨ι,τ,h,S,Rh,o⟩
 cases m with
 | zero=>exact o.elim
 | succ m =>
  refine ⟨ι,τ,h,S,Rh,pq o fun d h1 ι1 H1 v g1 r1 hr1 o1=>?_⟩
  cases r1
  cases d with
  | false=>exact o1 ι1 H1 _ (.refl _ _) (S.mono g1) hr1
  | true =>
   refine ⟨fun σ' H'=>a4v X.K E (sWh ga f m) N σ' H',fun σ' H' q=>⟨m,Nat.lt_succ_self m,q⟩,ι1,τ,h1,S.mono g1,hr1,?_⟩
   rw [if_pos rfl] at o1
   cases hf:f τ h1 with
   | nx τ2 h2=>rw [hf] at o1;exact fun ι2 H2 σ2 g2 S2 R2=>⟨ι2,τ2,h2,S2,R2,o7 o1 g2⟩
   | ct τ2 h2=>rw [hf] at o1;exact fun ι2 H2 σ2 g2 S2 R2=>⟨ι2,τ2,h2,S2,R2,o7 o1 g2⟩
   | bk τ2 h2=>rw [hf] at o1;exact o1
   | rt d h2=>rw [hf] at o1;exact o1
   | ex c h2=>rw [hf] at o1;exact o1
   | no=>rw [hf] at o1;exact o1.elim
end
abbrev SG:=D→Sd→Hd→Fl
def ag7 (K:PySem.W.Frag) (E:XD) (g:SG):TG:=fun v σ H Q=>∃ ι τ h d,Rep K ι H v d∧SRep K ι H σ τ∧HRep K ι H h∧acd K E ι H (g d τ h) { nx:=Q,rt:=fun _ _=>False }
abbrev MG (X:Cx) (E:XD) (tg:Expr) (g:SG):Prop:=PG X tg (ag7 X.K E g)
abbrev SGs:=List D→Sd→Hd→Fl
def aan (K:PySem.W.Frag) (E:XD) (g:SGs):TGs:=fun vs σ H Q=>∃ ι τ h ds,Reps K ι H vs ds∧SRep K ι H σ τ∧HRep K ι H h∧acd K E ι H (g ds τ h) { nx:=Q,rt:=fun _ _=>False }
abbrev MGs (X:Cx) (E:XD) (tg:List Expr) (g:SGs):Prop:=PGs X tg (aan X.K E g)
theorem PG.weak {X:Cx} {e:Expr} {t t':TG} (h:PG X e t) (i:∀ v σ H Q,t' v σ H Q→t v σ H Q):PG X e t':=fun pins s σ H v u Q I r q=>h pins s σ H v u Q I r (i _ _ _ _ q)
theorem PGs.weak {X:Cx} {e:List Expr} {t t':TGs} (h:PGs X e t) (i:∀ v σ H Q,t' v σ H Q→t v σ H Q):PGs X e t':=fun pins s σ H v u Q I r q=>h pins s σ H v u Q I r (i _ _ _ _ q)
def kN (i:Nat):SG:=fun d τ h=>.nx (τ.set i (some d)) h
def ag8:SGs:=fun ds τ h=>match ds with | []=>.nx τ h | _=>.no
def a2e (g:SG) (k:SGs):SGs:=fun ds τ h=>match ds with | d::r=>(match g d τ h with | .nx τ1 h1=>k r τ1 h1 | _=>.no) | []=>.no
def aex (n:Nat) (k:SGs):SG:=fun d τ h=>match d with | .tup ds=>if ds.length=n then k ds τ h else .no | _=>.no
section
variable {X:Cx} {E:XD} {e:Expr} {es:List Expr} {fa:SE} {pos:Pos} {g:SG} {ks:SGs}
theorem jc {i:Nat} {x:Str} (hN:X.N.Nodup) (hi:X.N[i]? = some x) (hx:Loc X.env.scope x) (hf:X.fn x=true∨X.env.scope.names.lookup x=some .local:=by first | exact .inl rfl | exact .inr rfl | assumption):MG X E (.Name x pos) (kN i) :=
 PG.weak (ju hN hi hx hf) fun v σ H Q ⟨ι,τ,h,d,r,S,Rh,o⟩=>o ι H _ (.refl _ _) (S.set r i) Rh
theorem aao:MGs X E [] ag8:=by
 refine PGs.weak afn fun vs σ H Q ⟨ι,τ,h,ds,r,S,Rh,o⟩=>?_
 cases r with
 | nil=>exact ⟨rfl,o ι H σ (.refl _ _) S Rh⟩
 | cons _ _=>exact o.elim
theorem adc {K:PySem.W.Frag} {vs:List V} {σ:St} {H:Hp} {Q:St→Hp→Prop} (q:aan K E (a2e g ks) vs σ H Q):ai4 (ag7 K E g) (aan K E ks) vs σ H Q:=by
 obtain ⟨ι,τ,h,ds,r,S,Rh,o⟩:=q
 cases r with
 | nil=>exact o.elim
 | @cons v d vs ds r rs =>
  refine ⟨v,vs,rfl,ι,τ,h,d,r,S,Rh,?_⟩
  simp only [a2e] at o
  cases hg:g d τ h with
  | nx τ1 h1 =>
   rw [hg] at o
   exact fun ι1 H1 σ1 g1 S1 R1=>⟨ι1,τ1,h1,ds,rs.mono g1,S1,R1,o7 o g1⟩
  | _=>rw [hg] at o;exact o.elim
theorem aey {k n:Nat} (hc:X.calm=true) (h:MGs X E es ks) (hn:(assignEach es X.env).length=n:=by rfl) (hst:(assignEach es X.env).findIdx? (·.1)=none:=by rfl):MG X E (.Tuple es k pos) (aex n ks):=by
 refine PG.weak (ai5 hc h hn hst) fun v σ H Q ⟨ι,τ,h,d,r,S,Rh,o⟩=>?_
 cases r with
 | @tup a vs xs e rs =>
  simp only [aex] at o
  by_cases hl:xs.length=n
  ·rw [if_pos hl] at o
   exact ⟨a,vs,rfl,SqT.of e,by rw [rs.len];exact hl,ι,τ,h,xs,rs,S,Rh,o⟩
  ·rw [if_neg hl] at o;exact o.elim
 | _=>exact o.elim
def ade (f:SE) (g:SG):SS:=fun τ h=>(f τ h).fl fun d h1=>match g d τ h1 with | .nx τ2 h2=>.nx τ2 h2 | _=>.no
theorem aez {tg:Expr} (he:ME X E e fa) (hg:MG X E tg g) (hs:swapsWithSole [tg] e pos.line X.env=pure false:=by rfl) (hw:swappedStores [tg] e X.env=pure none:=by rfl)
  (h1:(assignEach [tg] X.env).map (·.2)=[assign tg X.env]:=by rfl):MS X E (.Assign [tg] e pos) (ade fa g):=by
 refine PS.weak (aeo he hg hs hw h1) fun N σ H ⟨ι,τ,h,S,Rh,o⟩=>?_
 refine ⟨ι,τ,h,S,Rh,pq o fun d h1 ι1 H1 v g1 r1 hr1 o1=>⟨ι1,τ,h1,d,r1,S.mono g1,hr1,?_⟩⟩
 cases hg:g d τ h1 with
 | nx τ1 h1=>rw [hg] at o1;exact o1
 | _=>rw [hg] at o1;exact o1.elim
end
structure Itm where
 xs:List D
 ck:Hd→Prop
def ahf (K:PySem.W.Frag) (ι0:List Addr) (H0:Hp) (J:It) (it:Itm):Prop:=∀ ι H h,Gr ι0 H0 ι H→HRep K ι H h→it.ck h →
 (∀ (i:Nat) (d:D),it.xs[i]? = some d→J.go i H∧∀ x H',J.yld i H x H'→Gr ι H ι H'∧Rep K ι H' x d∧HRep K ι H' h)∧J.stop it.xs.length H
abbrev amf (K:PySem.W.Frag):List Addr→Hp→It→Itm→Prop:=fun ι H J it=>ahf K ι H J it
abbrev SI:=Sd→Hd→R Itm
abbrev MI (X:Cx) (E:XD) (tg iter:Expr) (f:SI):Prop:=PI X tg iter (lift X.K E (amf X.K) f)
def zb (x:Str):List D:=x.cps.toList.map fun c=>D.str ⟨#[c]⟩
def af0 (d:D) (h:Hd):R Itm:=match d with
 | .tup xs=>.ok ⟨xs,fun _=>True⟩ h
 | .rol xs=>.ok ⟨xs,fun _=>True⟩ h
 | .str x=>.ok ⟨zb x,fun _=>True⟩ h
 | .ref i=>match h[i]? with
  | some (.lst xs)=>.ok ⟨xs,fun h=>h[i]? = some (.lst xs)⟩ h
  | _=>.no
 | _=>.no
def sIt (f:SE):SI:=fun τ h=>(f τ h).bind af0
theorem af1 {K:PySem.W.Frag} {ι0:List Addr} {H0:Hp} {a:Addr} {xs:List D} {ck:Hd→Prop} (hl:∀ ι H h,Gr ι0 H0 ι H→HRep K ι H h→ck h→∃ vs,SqL K H a vs∧Reps K ι H vs xs):ahf K ι0 H0 (Itl K a) ⟨xs,ck⟩:=by
 intro ι H h g hr c
 obtain ⟨vs,h1,h2⟩:=hl ι H h g hr c
 refine ⟨fun i d e=>?_,⟨vs,h1,by rw [h2.len];exact Nat.le_refl _⟩⟩
 obtain ⟨v,e1,r⟩:=h2.get e
 refine ⟨⟨vs,v,h1,e1⟩,fun x H' y=>?_⟩
 obtain ⟨rfl,y⟩:=y
 have:=y vs h1
 rw [e1] at this;cases this
 exact ⟨.refl _ _,r,hr⟩
theorem jz {X:Cx} {E:XD} {tg l:Expr} {f:SE} (hl:ME X E l f):MI X E tg l (sIt f):=by
 intro pins s σ H Rr I ⟨ι,τ,h,S,Rh,o⟩
 unfold sIt at o
 cases hf:f τ h with
 | no=>rw [hf] at o;exact o.elim
 | ex c h1 =>
  rw [hf] at o
  exact aes hl pins s σ H Rr I ⟨ι,τ,h,S,Rh,by rw [hf];exact o⟩
 | ok d h1 =>
  rw [hf] at o
  cases d with
  | tup xs =>
   refine aia hl pins s σ H Rr I ⟨ι,τ,h,S,Rh,?_⟩
   rw [hf]
   intro ι1 H1 v g1 r1 hr1
   cases r1 with
   | @tup a vs _ e rs =>
    refine ⟨a,rfl,⟨vs,SqT.of e⟩,o ι1 H1 _ g1 ?_ hr1⟩
    intro ι2 H2 h2 g2 hr2 _
    have e2:=g2.tup _ _ e
    have rs2:=rs.mono g2
    refine ⟨fun i d ed=>?_,⟨vs,SqT.of e2,by rw [rs2.len];exact Nat.le_refl _⟩⟩
    obtain ⟨v,e1,r⟩:=rs2.get ed
    refine ⟨⟨vs,v,SqT.of e2,e1⟩,fun x H' y=>?_⟩
    obtain ⟨rfl,y⟩:=y
    have:=y vs (SqT.of e2)
    rw [e1] at this;cases this
    exact ⟨.refl _ _,r,hr2⟩
  | rol xs =>
   refine a9v hl pins s σ H Rr I ⟨ι,τ,h,S,Rh,?_⟩
   rw [hf]
   intro ι1 H1 v g1 r1 hr1
   cases r1 with
   | @rol a vs _ e rs =>
    refine ⟨a,rfl,⟨vs,e.l⟩,o ι1 H1 _ g1 ?_ hr1⟩
    exact af1 (fun ι2 H2 h2 g2 hr2 _=>⟨vs,(e.mono g2).l,rs.mono g2⟩)
  | str x =>
   refine aes hl pins s σ H Rr I ⟨ι,τ,h,S,Rh,?_⟩
   rw [hf]
   intro ι1 H1 v g1 r1 hr1
   cases r1
   refine ⟨x,rfl,o ι1 H1 _ g1 ?_ hr1⟩
   intro ι2 H2 h2 g2 hr2 _
   refine ⟨fun i d ed=>?_,by show (zb x).length=_;simp [zb]⟩
   simp only [zb,List.getElem?_map,Option.map_eq_some_iff] at ed
   obtain ⟨c,ec,rfl⟩:=ed
   refine ⟨by show i<x.cps.size;have:=(List.getElem?_eq_some_iff.mp ec).1;simpa using this,fun y H' q=>?_⟩
   obtain ⟨rfl,c',ec',rfl⟩:=q
   rw [ec] at ec';cases ec'
   exact ⟨.refl _ _, .str _,hr2⟩
  | ref i =>
   simp only [R.bind,af0] at o
   cases ho:h1[i]? with
   | none=>rw [ho] at o;exact o.elim
   | some ob =>
    rw [ho] at o
    cases ob with
    | dK _=>exact o.elim
    | dT _=>exact o.elim
    | lst xs =>
     refine a9v hl pins s σ H Rr I ⟨ι,τ,h,S,Rh,?_⟩
     rw [hf]
     intro ι1 H1 v g1 r1 hr1
     cases r1 with
     | @ref a _ e =>
      obtain ⟨vs,e1,rs⟩:=hr1.obj i a _ e ho
      refine ⟨a,rfl,⟨vs,SqL.of e1⟩,o ι1 H1 _ g1 ?_ hr1⟩
      refine af1 (fun ι2 H2 h2 g2 hr2 c=>?_)
      obtain ⟨us,e3,rs3⟩:=hr2.obj i a _ (g2.at e) c
      exact ⟨us,SqL.of e3,rs3⟩
  | _=>exact o.elim
def rng (lo:Int) (n:Nat):List D:=(List.range n).map fun i=>D.int (lo+(i:Nat))
def B62 (j:Int):Prop := -(2 ^ 62)≤j∧j<2 ^ 62
instance (j:Int):Decidable (B62 j):=by unfold B62;exact inferInstance
def v4 (ds:List D) (h:Hd):R Itm:=match ds with
 | [.int j]=>if B62 j then .ok ⟨rng 0 j.toNat,fun _=>True⟩ h else .no
 | _=>.no
def a4x (ds:List D) (h:Hd):R Itm:=match ds with
 | [.int i, .int j]=>if B62 i∧B62 j then .ok ⟨rng i (j - i).toNat,fun _=>True⟩ h else .no
 | _=>.no
def sRg (g:List D→Hd→R Itm) (k:SA):SI:=fun τ h=>(k τ h).bind g
theorem af2 {K:PySem.W.Frag} {ι0:List Addr} {H0:Hp} (lo:Int) (n:Nat):ahf K ι0 H0 (Itr lo n) ⟨rng lo n,fun _=>True⟩:=by
 intro ι H h g hr _
 refine ⟨fun i d ed=>?_,by show n≤(rng lo n).length;simp [rng]⟩
 simp only [rng,List.getElem?_map,Option.map_eq_some_iff] at ed
 obtain ⟨j,ej,rfl⟩:=ed
 obtain ⟨hj,e⟩:=List.getElem?_eq_some_iff.mp ej
 simp at e hj
 subst e
 refine ⟨hj,fun y H' q=>?_⟩
 obtain ⟨rfl,rfl⟩:=q
 exact ⟨.refl _ _, .int _,hr⟩
theorem uq {X:Cx} {E:XD} {tg a:Expr} {k:SA} {p pos:Pos} (hg:Gl X "range") (hm:X.mg "range" = none) (ha:MA X E [a] k) (hs:starEach [a] X.env=[(false,eval a X.env)]:=by rfl):MI X E tg (.Call (.Name "range" p) [a] [] pos) (sRg v4 k):=by
 intro pins s σ H Rr I ⟨ι,τ,h,S,Rh,o⟩
 refine a9w hg hm ha hs pins s σ H Rr I ⟨ι,τ,h,S,Rh,dq o fun ds h1 ι1 H1 vs g1 r1 hr1 o1=>?_⟩
 unfold v4 at o1
 split at o1
 ·rename_i j
  cases r1 with
  | cons r rs =>
   cases r;cases rs
   by_cases hb:B62 j
   ·rw [if_pos hb] at o1
    exact ⟨j,rfl,hb.1,hb.2,o1 ι1 H1 _ (.refl _ _) (af2 0 j.toNat) hr1⟩
   ·rw [if_neg hb] at o1;exact o1.elim
 ·exact o1.elim
theorem aap {X:Cx} {E:XD} {tg a b:Expr} {k:SA} {p pos:Pos} (hg:Gl X "range") (hm:X.mg "range" = none) (ha:MA X E [a,b] k) (hs:starEach [a,b] X.env=[(false,eval a X.env),(false,eval b X.env)]:=by rfl) (hs2:starEach [b] X.env=[(false,eval b X.env)]:=by rfl):MI X E tg (.Call (.Name "range" p) [a,b] [] pos) (sRg a4x k):=by
 intro pins s σ H Rr I ⟨ι,τ,h,S,Rh,o⟩
 refine a9x hg hm ha hs hs2 pins s σ H Rr I ⟨ι,τ,h,S,Rh,dq o fun ds h1 ι1 H1 vs g1 r1 hr1 o1=>?_⟩
 unfold a4x at o1
 split at o1
 ·rename_i i j
  cases r1 with
  | cons r rs =>
   cases r
   cases rs with
   | cons r rs =>
   cases r;cases rs
   by_cases hb:B62 i∧B62 j
   ·rw [if_pos hb] at o1
    exact ⟨i,j,rfl,⟨hb.1.1,hb.1.2,hb.2.1,hb.2.2⟩,o1 ι1 H1 _ (.refl _ _) (af2 i _) hr1⟩
   ·rw [if_neg hb] at o1;exact o1.elim
 ·exact o1.elim
open Classical in
noncomputable def forL (ck:Hd→Prop) (g:SG) (b:SS):List D→Sd→Hd→Fl
 | [],τ,h=>if ck h then .nx τ h else .no
 | x::xs,τ,h=>if ck h then (match g x τ h with
   | .nx τ1 h1=>(match b τ1 h1 with
    | .nx τ2 h2=>forL ck g b xs τ2 h2
    | .ct τ2 h2=>forL ck g b xs τ2 h2
    | .bk τ2 h2=>.nx τ2 h2
    | r=>r)
   | _=>.no) else .no
noncomputable def a1w (f:SI) (g:SG) (b:SS):SS:=fun τ h=>(f τ h).fl fun it h1=>forL it.ck g b it.xs τ h1
theorem ag9 {K:PySem.W.Frag} {E:XD} {ι0:List Addr} {H0:Hp} {J:It} {it:Itm} {g:SG} {b:SS} {N:Ends} {σ0:St} {τ0:Sd} {h0:Hd} (ir:ahf K ι0 H0 J it) (S:SRep K ι0 H0 σ0 τ0) (Rh:HRep K ι0 H0 h0) (o:acd K E ι0 H0 (forL it.ck g b it.xs τ0 h0) N) :
  ∃ W:Nat→Nat→St→Hp→Prop,(∃ m,W 0 m σ0 H0)∧∀ i m σ H,W i m σ H →
   (J.stop i H∧N.nx σ H)∨(J.go i H∧∃ M:St→Hp→Prop,(∀ σ' H',M σ' H'→∃ m',m'<m∧W (i+1) m' σ' H')∧∀ x H',J.yld i H x H'→ag7 K E g x σ H' fun σ2 H2=>a4v K E b { N with nx:=M,ct:=M,bk:=N.nx } σ2 H2):=by
 refine ⟨fun i m σ H=>m=it.xs.length - i∧i≤it.xs.length∧∃ ι τ h,Gr ι0 H0 ι H∧SRep K ι H σ τ∧HRep K ι H h∧acd K E ι H (forL it.ck g b (it.xs.drop i) τ h) N,⟨_,rfl,Nat.zero_le _,ι0,τ0,h0, .refl _ _,S,Rh,o⟩,?_⟩
 rintro i m σ H ⟨rfl,hi,ι,τ,h,g0,S,Rh,o⟩
 by_cases hlt:i<it.xs.length
 ·rw [List.drop_eq_getElem_cons hlt,forL] at o
  by_cases hc:it.ck h
  ·rw [if_pos hc] at o
   obtain ⟨go,yl⟩:=(ir ι H h g0 Rh hc).1 i _ (List.getElem?_eq_getElem hlt)
   refine .inr ⟨go,fun σ' H'=>it.xs.length - (i+1)<it.xs.length - i∧∃ ι τ h,Gr ι0 H0 ι H'∧SRep K ι H' σ' τ∧HRep K ι H' h∧acd K E ι H' (forL it.ck g b (it.xs.drop (i+1)) τ h) N,fun σ' H' q=>⟨_,q.1,rfl,hlt,q.2⟩,fun x H' y=>?_⟩
   obtain ⟨g1,r1,hr1⟩:=yl x H' y
   refine ⟨ι,τ,h,_,r1,S.mono g1,hr1,?_⟩
   have o':=o7 o g1
   cases hg:g it.xs[i] τ h with
   | nx τ1 h1 =>
    rw [hg] at o'
    dsimp only at o'
    intro ι2 H2 σ2 g2 S2 R2
    refine ⟨ι2,τ1,h1,S2,R2,?_⟩
    have o2:=o7 o' g2
    have gg:=(g0.trans g1).trans g2
    cases hb:b τ1 h1 with
    | nx τ2 h2=>rw [hb] at o2;exact fun ι3 H3 σ3 g3 S3 R3=>⟨by omega,ι3,τ2,h2,gg.trans g3,S3,R3,o7 o2 g3⟩
    | ct τ2 h2=>rw [hb] at o2;exact fun ι3 H3 σ3 g3 S3 R3=>⟨by omega,ι3,τ2,h2,gg.trans g3,S3,R3,o7 o2 g3⟩
    | bk τ2 h2=>rw [hb] at o2;exact o2
    | rt d h2=>rw [hb] at o2;exact o2
    | ex c h2=>rw [hb] at o2;exact o2
    | no=>rw [hb] at o2;exact o2.elim
   | _=>rw [hg] at o';exact o'.elim
  ·rw [if_neg hc] at o;exact o.elim
 ·have e:i=it.xs.length:=by omega
  subst e
  rw [List.drop_eq_nil_of_le (Nat.le_refl _),forL] at o
  by_cases hc:it.ck h
  ·rw [if_pos hc] at o
   exact .inl ⟨(ir ι H h g0 Rh hc).2,o ι H σ (.refl _ _) S Rh⟩
  ·rw [if_neg hc] at o;exact o.elim
theorem o8 {X:Cx} {E:XD} {tg iter:Expr} {body:List Stmt} {f:SI} {g:SG} {b:SS} {pos:Pos} (hp:PassesOwn (model X.prog X.w) X.A X.env X.xe) (hc:X.calm=true) (hi:MI X E tg iter f) (hg:MG X E tg g) (hb:MSs X E body b) (hs:∀ x,foldedSetIterable iter X.env x=pure x:=by intro _;rfl):MS X E (.For tg iter body [] pos) (a1w f g b):=by
 refine PS.weak (aib hp hc hi hg hb hs) fun N σ H ⟨ι,τ,h,S,Rh,o⟩=>?_
 exact ⟨ι,τ,h,S,Rh,pq o fun it h1 ι1 H1 J g1 r1 hr1 o1=>ag9 r1 (S.mono g1) hr1 o1⟩
end MI
namespace MI
open PySem PySem.Spec L2
theorem R.bind_assoc {α β γ:Type} (r:R α) (f:α→Hd→R β) (g:β→Hd→R γ):(r.bind f).bind g=r.bind fun a h=>(f a h).bind g:=by cases r<;>rfl
open Classical in
noncomputable def mapR (ck:Hd→Prop) (f:D→Hd→R D):List D→Hd→R (List D)
 | [],h=>if ck h then .ok [] h else .no
 | x::xs,h=>if ck h then (f x h).bind fun y h1=>(mapR ck f xs h1).bind fun ys h2=>.ok (y::ys) h2 else .no
open Classical in
noncomputable def acf (ck:Hd→Prop) (f:D→Hd→R (Option D)):List D→Hd→R (List D)
 | [],h=>if ck h then .ok [] h else .no
 | x::xs,h=>if ck h then (f x h).bind fun y h1=>(acf ck f xs h1).bind fun ys h2=>.ok (y.toList++ys) h2 else .no
def frs' (ix:List Nat) (τ:Sd):Sd:=ix.map fun i=>(τ[i]?).join
def t1 (d:D):Option Sd:=some [some d]
def a4y (t:D→Option Sd) (fe:SE) (rest:Sd) (x:D) (h:Hd):R D:=match t x with | some ts=>fe (ts++rest) h | none=>.no
def a73 (t:D→Option Sd) (c:ST) (fe:SE) (rest:Sd) (x:D) (h:Hd):R (Option D):=match t x with
 | some ts=>(c (ts++rest) h).bind fun b h1=>if b=true then (fe (ts++rest) h1).bind fun y h2=>.ok (some y) h2 else .ok none h1
 | none=>.no
def a83 (yd zs:List D) (h:Hd):R D:=.ok (.ref h.length) (h++[.lst (yd++zs)])
theorem aj4 (r:R D) (m:Hd→R (List D)) (yd:List D):(r.bind fun y h1=>(m h1).bind fun ys h2=>.ok (y::ys) h2).bind (a83 yd)=r.bind fun y h1=>(m h1).bind (a83 (yd++[y])):=by
 cases r with
 | ok y h1 =>
  show ((m h1).bind _).bind _=(m h1).bind _
  cases m h1 with
  | ok ys h2=>simp [R.bind,a83]
  | _=>rfl
 | _=>rfl
theorem amg (r:R (Option D)) (m:Hd→R (List D)) (yd:List D):(r.bind fun y h1=>(m h1).bind fun ys h2=>.ok (y.toList++ys) h2).bind (a83 yd)=r.bind fun y h1=>(m h1).bind (a83 (yd++y.toList)):=by
 cases r with
 | ok y h1 =>
  show ((m h1).bind _).bind _=(m h1).bind _
  cases m h1 with
  | ok ys h2=>simp [R.bind,a83]
  | _=>rfl
 | _=>rfl
noncomputable def jn (fi:SI) (t:D→Option Sd) (fe:SE) (ix:List Nat):SE:=fun τ h=>(fi τ h).bind fun it h1=>if it.xs.length≤LINE then (mapR it.ck (a4y t fe (frs' ix τ)) it.xs h1).bind (a83 []) else .no
noncomputable def v6 (fi:SI) (t:D→Option Sd) (c:ST) (fe:SE) (ix:List Nat):SE:=fun τ h=>(fi τ h).bind fun it h1=>if it.xs.length≤LINE then (acf it.ck (a73 t c fe (frs' ix τ)) it.xs h1).bind (a83 []) else .no
def acg (K:PySem.W.Frag) (n:Nat) (g:TG) (t:D→Option Sd):Prop:=∀ ι H v d ts (r:St) (Q:St→Hp→Prop),Rep K ι H v d→t d=some ts→(∀ us:St,us.length=n→SRep K ι H us ts→Q (us++r) H)→g v (List.replicate n none++r) H Q
theorem a84 {K:PySem.W.Frag} {ι:List Addr} {H:Hp}:SRep K ι H [] []:=⟨rfl,fun i d e=>by simp at e⟩
theorem a6b {K:PySem.W.Frag} {ι:List Addr} {H:Hp} {v:V} {d:D} {σ:St} {τ:Sd} (r:Rep K ι H v d) (s:SRep K ι H σ τ):SRep K ι H (some v::σ) (some d::τ):=by
 refine ⟨by simp [s.len],fun i d' e=>?_⟩
 cases i with
 | zero=>simp at e;subst e;exact ⟨v,rfl,r⟩
 | succ i=>simpa using s.val i d' (by simpa using e)
theorem a2h {K:PySem.W.Frag} {ι:List Addr} {H:Hp} {σ σ':St} {τ τ':Sd} (s:SRep K ι H σ τ) (s':SRep K ι H σ' τ'):SRep K ι H (σ++σ') (τ++τ'):=by
 refine ⟨by simp [s.len,s'.len],fun i d e=>?_⟩
 by_cases hi:i<τ.length
 ·rw [List.getElem?_append_left hi] at e
  rw [List.getElem?_append_left (by rw [s.len];exact hi)]
  exact s.val i d e
 ·rw [List.getElem?_append_right (by omega)] at e
  rw [List.getElem?_append_right (by rw [s.len];omega),s.len]
  exact s'.val _ d e
theorem a2i {K:PySem.W.Frag} {ι:List Addr} {H:Hp} {σ:St} {τ:Sd} (s:SRep K ι H σ τ) (ix:List Nat):SRep K ι H (ix.map fun i=>(σ[i]?).join) (frs' ix τ):=by
 refine ⟨by simp [frs'],fun j d e=>?_⟩
 simp only [frs',List.getElem?_map,Option.map_eq_some_iff] at e
 obtain ⟨i,hi,e⟩:=e
 have:τ[i]? = some (some d):=by
  cases q:τ[i]? with
  | none=>rw [q] at e;cases e
  | some o=>rw [q] at e;simp at e;rw [e]
 obtain ⟨v,h1,h2⟩:=s.val i d this
 exact ⟨v,by simp [hi,h1],h2⟩
theorem qd {K:PySem.W.Frag}:acg K 1 (a8p 0) t1:=fun ι H v d ts r Q hr e q=>by
 cases e
 exact q [some v] rfl (a6b hr a84)
theorem aaq {n:Nat} {us r:St} (h:us.length=n):L2.Ext (List.replicate n none++r) (us++r):=by
 refine ⟨by simp [h],fun i v e=>?_⟩
 by_cases hi:i<n
 ·rw [List.getElem?_append_left (by simpa using hi),List.getElem?_replicate,if_pos hi] at e
  cases e
 ·rw [List.getElem?_append_right (by simpa using hi),List.length_replicate] at e
  rw [List.getElem?_append_right (by omega),h]
  exact e
theorem a85 {K:PySem.W.Frag} {E:XD} {ι0:List Addr} {H0:Hp} {J:It} {it:Itm} {g:TG} {t:D→Option Sd} {fe:SE} {n:Nat} {r:St} {rd:Sd} {h0:Hd} {Q:VK} (ir:ahf K ι0 H0 J it) (tg:acg K n g t) (S:SRep K ι0 H0 r rd) (Rh:HRep K ι0 H0 h0) (hl:it.xs.length≤LINE)
  (o:out K E (w6 K) ι0 H0 ((mapR it.ck (a4y t fe rd) it.xs h0).bind (a83 [])) Q):aiy J (List.replicate n none++r) g (lift K E (w6 K) fe) Q H0:=by
 refine ⟨fun i m ys H=>m=it.xs.length - i∧i≤it.xs.length∧ys.length≤i∧∃ ι h yd,Gr ι0 H0 ι H∧HRep K ι H h∧Reps K ι H ys yd∧out K E (w6 K) ι H ((mapR it.ck (a4y t fe rd) (it.xs.drop i) h).bind (a83 yd)) Q,
  ⟨_,rfl,Nat.zero_le _,Nat.zero_le _,ι0,h0,[], .refl _ _,Rh, .nil,o⟩,?_⟩
 rintro i m ys H ⟨rfl,hi,hy,ι,h,yd,g0,Rh,ry,o⟩
 by_cases hlt:i<it.xs.length
 ·rw [List.drop_eq_getElem_cons hlt,mapR] at o
  by_cases hc:it.ck h
  ·rw [if_pos hc,aj4] at o
   obtain ⟨go,yl⟩:=(ir ι H h g0 Rh hc).1 i _ (List.getElem?_eq_getElem hlt)
   refine .inr ⟨go,Nat.lt_of_le_of_lt hy (Nat.lt_of_lt_of_le hlt (ll hl)),fun x H' y=>?_⟩
   obtain ⟨g1,r1,hr1⟩:=yl x H' y
   have o':=a4u o g1
   cases ht:t it.xs[i] with
   | none=>simp only [a4y,ht] at o';exact o'.elim
   | some ts =>
    simp only [a4y,ht] at o'
    refine tg ι H' x _ ts r _ r1 ht fun us hus su=>⟨aaq hus,ι,ts++rd,h,a2h su (S.mono (g0.trans g1)),hr1,dq o' fun d2 h2 ι2 H2 u g2 r2 hr2 o2=>?_⟩
    refine ⟨it.xs.length - (i+1),by omega,rfl,hlt,by simp;omega,ι2,h2,yd++[d2],(g0.trans g1).trans g2,hr2,((ry.mono g1).mono g2).snoc r2,o2⟩
  ·rw [if_neg hc] at o;exact o.elim
 ·have e:i=it.xs.length:=by omega
  subst e
  rw [List.drop_eq_nil_of_le (Nat.le_refl _),mapR] at o
  by_cases hc:it.ck h
  ·rw [if_pos hc] at o
   refine .inl ⟨(ir ι H h g0 Rh hc).2,xn (E:=E) ry Rh ?_⟩
   simpa [R.bind,a83] using o
  ·rw [if_neg hc] at o;exact o.elim
theorem a6c {K:PySem.W.Frag} {E:XD} {ι0:List Addr} {H0:Hp} {J:It} {it:Itm} {g:TG} {t:D→Option Sd} {c:ST} {fe:SE} {n:Nat} {r:St} {rd:Sd} {h0:Hd} {Q:VK} (ir:ahf K ι0 H0 J it) (tg:acg K n g t) (S:SRep K ι0 H0 r rd) (Rh:HRep K ι0 H0 h0) (hl:it.xs.length≤LINE)
  (o:out K E (w6 K) ι0 H0 ((acf it.ck (a73 t c fe rd) it.xs h0).bind (a83 [])) Q):aaj J (List.replicate n none++r) g (lift K E aeu c) (lift K E (w6 K) fe) Q H0:=by
 refine ⟨fun i m ys H=>m=it.xs.length - i∧i≤it.xs.length∧ys.length≤i∧∃ ι h yd,Gr ι0 H0 ι H∧HRep K ι H h∧Reps K ι H ys yd∧out K E (w6 K) ι H ((acf it.ck (a73 t c fe rd) (it.xs.drop i) h).bind (a83 yd)) Q,
  ⟨_,rfl,Nat.zero_le _,Nat.zero_le _,ι0,h0,[], .refl _ _,Rh, .nil,o⟩,?_⟩
 rintro i m ys H ⟨rfl,hi,hy,ι,h,yd,g0,Rh,ry,o⟩
 by_cases hlt:i<it.xs.length
 ·rw [List.drop_eq_getElem_cons hlt,acf] at o
  by_cases hc:it.ck h
  ·rw [if_pos hc,amg] at o
   obtain ⟨go,yl⟩:=(ir ι H h g0 Rh hc).1 i _ (List.getElem?_eq_getElem hlt)
   refine .inr ⟨go,Nat.lt_of_le_of_lt hy (Nat.lt_of_lt_of_le hlt (ll hl)),fun x H' y=>?_⟩
   obtain ⟨g1,r1,hr1⟩:=yl x H' y
   have o':=a4u o g1
   cases ht:t it.xs[i] with
   | none=>simp only [a73,ht] at o';exact o'.elim
   | some ts =>
    simp only [a73,ht] at o'
    rw [R.bind_assoc] at o'
    refine tg ι H' x _ ts r _ r1 ht fun us hus su=>⟨aaq hus,ι,ts++rd,h,a2h su (S.mono (g0.trans g1)),hr1,dq o' fun b h1 ι1 H1 b' g2 rb hrb ob=>?_⟩
    have su1:SRep K ι1 H1 (us++r) (ts++rd):=(a2h su (S.mono (g0.trans g1))).mono g2
    cases rb
    cases b with
    | true =>
     rw [if_pos rfl] at ob ⊢
     rw [R.bind_assoc] at ob
     refine ⟨ι1,ts++rd,h1,su1,hrb,dq ob fun d2 h2 ι2 H2 u g3 r2 hr2 o2=>?_⟩
     refine ⟨it.xs.length - (i+1),by omega,rfl,hlt,by simp;omega,ι2,h2,yd++[d2],((g0.trans g1).trans g2).trans g3,hr2,(((ry.mono g1).mono g2).mono g3).snoc r2,?_⟩
     simpa [R.bind] using o2
    | false =>
     rw [if_neg Bool.false_ne_true] at ob ⊢
     refine ⟨it.xs.length - (i+1),by omega,rfl,hlt,by omega,ι1,h1,yd,(g0.trans g1).trans g2,hrb,(ry.mono g1).mono g2,?_⟩
     simpa [R.bind] using ob
  ·rw [if_neg hc] at o;exact o.elim
 ·have e:i=it.xs.length:=by omega
  subst e
  rw [List.drop_eq_nil_of_le (Nat.le_refl _),acf] at o
  by_cases hc:it.ck h
  ·rw [if_pos hc] at o
   refine .inl ⟨(ir ι H h g0 Rh hc).2,xn (E:=E) ry Rh ?_⟩
   simpa [R.bind,a83] using o
  ·rw [if_neg hc] at o;exact o.elim
section
variable {X:Cx} {E:XD} {elt tg iter cnd:Expr} {scope:Scope} {pos:Pos} {cl:List (Str × Addr)} {ts fr:List Str} {ix:List Nat} {fi:SI} {g:TG} {t:D→Option Sd} {fe:SE} {fc:ST}
theorem xq (hc:X.calm=true) (S:CSc X scope cl ts fr ix) (hi:MI X E tg iter fi) (hg:∀ C fp s H,PG (cxC X (ts++fr) scope cl C fp s H) tg g) (ht:acg X.K ts.length g t) (he:∀ C fp s H,ME (cxC X (ts++fr) scope cl C fp s H) E elt fe)
  (hs:∀ x,foldedSetIterable iter X.env x=pure x:=by intro _;rfl):ME X E (.ListComp elt [⟨tg,iter,[],0⟩] scope pos) (jn fi t fe ix):=by
 refine PE.weak (ad8 (te:=lift X.K E (w6 X.K) fe) hc S hi hg he hs) fun σ H Q ⟨ι,τ,h,Sr,Rh,o⟩=>?_
 refine ⟨ι,τ,h,Sr,Rh,dq o fun it h1 ι1 H1 J g1 r1 hr1 o1=>?_⟩
 by_cases hl:it.xs.length≤LINE
 ·rw [if_pos hl] at o1
  exact a85 r1 ht (a2i (Sr.mono g1) ix) hr1 hl o1
 ·rw [if_neg hl] at o1;exact o1.elim
theorem a86 (hc:X.calm=true) (S:CSc X scope cl ts fr ix) (hi:MI X E tg iter fi) (hg:∀ C fp s H,PG (cxC X (ts++fr) scope cl C fp s H) tg g) (ht:acg X.K ts.length g t) (he:∀ C fp s H,ME (cxC X (ts++fr) scope cl C fp s H) E elt fe)
  (hq:∀ C fp s H,MT (cxC X (ts++fr) scope cl C fp s H) E cnd fc)
  (hs:∀ x,foldedSetIterable iter X.env x=pure x:=by intro _;rfl):ME X E (.ListComp elt [⟨tg,iter,[cnd],0⟩] scope pos) (v6 fi t fc fe ix):=by
 refine PE.weak (a91 (te:=lift X.K E (w6 X.K) fe) (tc:=lift X.K E aeu fc) hc S hi hg he hq hs) fun σ H Q ⟨ι,τ,h,Sr,Rh,o⟩=>?_
 refine ⟨ι,τ,h,Sr,Rh,dq o fun it h1 ι1 H1 J g1 r1 hr1 o1=>?_⟩
 by_cases hl:it.xs.length≤LINE
 ·rw [if_pos hl] at o1
  exact a6c r1 ht (a2i (Sr.mono g1) ix) hr1 hl o1
 ·rw [if_neg hl] at o1;exact o1.elim
end
mutual
def clo (n:Nat):D→Prop
 | .tup xs=>clos n xs
 | .rol xs=>clos n xs
 | .rod _ xs=>clos n xs
 | .scr xs=>clos n xs
 | .rdT _ xs=>clos n xs
 | .ref i=>i<n
 | _=>True
def clos (n:Nat):List D→Prop
 | []=>True
 | x::xs=>clo n x∧clos n xs
end
mutual
theorem Rep.clo {K:PySem.W.Frag} {ι:List Addr} {H:Hp}:∀ {v:V} {d:D},Rep K ι H v d→clo ι.length d
 | _,_, .non=>by simp [MI.clo]
 | _,_, .bl b=>by simp [MI.clo]
 | _,_, .int i=>by simp [MI.clo]
 | _,_, .str x=>by simp [MI.clo]
 | _,_, .ty n=>by simp [MI.clo]
 | _,_, .tup h r=>by simp only [MI.clo];exact Reps.clo r
 | _,_, .rol h r=>by simp only [MI.clo];exact Reps.clo r
 | _,_, .ref h=>by simp only [MI.clo];exact (List.getElem?_eq_some_iff.mp h).1
 | _,_, .rod h e r=>by simp only [MI.clo];exact Reps.clo r
 | _,_, .scr h r=>by simp only [MI.clo];exact Reps.clo r
 | _,_, .rdT h e r=>by simp only [MI.clo];exact Reps.clo r
 | _,_, .exc h hc hn=>by simp [MI.clo]
theorem Reps.clo {K:PySem.W.Frag} {ι:List Addr} {H:Hp}:∀ {vs:List V} {ds:List D},Reps K ι H vs ds→clos ι.length ds
 | _,_, .nil=>by simp [MI.clos]
 | _,_, .cons r rs=>by simp only [MI.clos];exact ⟨Rep.clo r,Reps.clo rs⟩
end
mutual
theorem Rep.cut {K:PySem.W.Frag} {ι:List Addr} {H:Hp} {n:Nat}:∀ {v:V} {d:D},Rep K ι H v d→clo n d→Rep K (ι.take n) H v d
 | _,_, .non,_=>.non
 | _,_, .bl b,_=>.bl b
 | _,_, .int i,_=>.int i
 | _,_, .str x,_=>.str x
 | _,_, .ty n,_=>.ty n
 | _,_, .tup h r,c=>.tup h (Reps.cut r (by simpa only [MI.clo] using c))
 | _,_, .rol h r,c=>.rol h (Reps.cut r (by simpa only [MI.clo] using c))
 | _,_, .ref h,c=>.ref (by simp only [MI.clo] at c;rw [List.getElem?_take,if_pos c];exact h)
 | _,_, .rod h e r,c=>.rod h e (Reps.cut r (by simpa only [MI.clo] using c))
 | _,_, .scr h r,c=>.scr h (Reps.cut r (by simpa only [MI.clo] using c))
 | _,_, .rdT h e r,c=>.rdT h e (Reps.cut r (by simpa only [MI.clo] using c))
 | _,_, .exc h hc hn,_=>.exc h hc hn
theorem Reps.cut {K:PySem.W.Frag} {ι:List Addr} {H:Hp} {n:Nat}:∀ {vs:List V} {ds:List D},Reps K ι H vs ds→clos n ds→Reps K (ι.take n) H vs ds
 | _,_, .nil,_=>.nil
 | _,_, .cons r rs,c=>by simp only [MI.clos] at c;exact .cons (Rep.cut r c.1) (Reps.cut rs c.2)
end
def a1x (n:Nat):O→Prop
 | .lst xs=>clos n xs
 | .dK kvs=>clos n (kvs.map (·.2))
 | .dT kvs=>clos n (kvs.map (·.2))
def aj5 (n:Nat) (h:Hd):Prop:=∀ o∈h,a1x n o
theorem ORep.clo {K:PySem.W.Frag} {ι:List Addr} {H:Hp} {a:Addr} {o:O} (r:ORep K ι H a o):a1x ι.length o:=by
 cases o with
 | lst xs=>obtain ⟨vs,_,r⟩:=r;exact r.clo
 | dK kvs=>obtain ⟨us,_,_,r⟩:=r;exact r.clo
 | dT kvs=>obtain ⟨us,_,_,r⟩:=r;exact r.clo
theorem ORep.cut {K:PySem.W.Frag} {ι:List Addr} {H:Hp} {a:Addr} {o:O} {n:Nat} (r:ORep K ι H a o) (c:a1x n o):ORep K (ι.take n) H a o:=by
 cases o with
 | lst xs=>obtain ⟨vs,h,r⟩:=r;exact ⟨vs,h,r.cut c⟩
 | dK kvs=>obtain ⟨us,h,e,r⟩:=r;exact ⟨us,h,e,r.cut c⟩
 | dT kvs=>obtain ⟨us,h,e,r⟩:=r;exact ⟨us,h,e,r.cut c⟩
theorem HRep.clo {K:PySem.W.Frag} {ι:List Addr} {H:Hp} {h:Hd} (r:HRep K ι H h):aj5 h.length h:=fun o ho=>by
 obtain ⟨i,hi⟩:=List.getElem?_of_mem ho
 obtain ⟨a,_,q⟩:=r.addr hi
 rw [← r.len];exact q.clo
theorem HRep.cut {K:PySem.W.Frag} {ι:List Addr} {H:Hp} {h g:Hd} (r:HRep K ι H (h++g)) (c:aj5 h.length h):HRep K (ι.take h.length) H h:=by
 refine ⟨r.nd.sublist (List.take_sublist _ _),?_,fun i a o e1 e2=>?_⟩
 ·have:=r.len
  rw [List.length_append] at this
  rw [List.length_take];omega
 ·have hi:i<h.length:=(List.getElem?_eq_some_iff.mp e2).1
  rw [List.getElem?_take,if_pos hi] at e1
  exact (r.obj i a o e1 (by rw [List.getElem?_append_left hi];exact e2)).cut (c o (List.mem_of_getElem? e2))
def X0:XD:=fun _ _ _ _=>False
abbrev SF:=List D→Hd→R D
def qj (K:PySem.W.Frag) (n:Nat) (F:SF):Sp:=fun vs H Q _=>vs.length=n∧∃ ι ds h,Reps K ι H vs ds∧HRep K ι H h∧out K X0 (w6 K) ι H (F ds h) Q
def a0u (n:Nat) (ds:List D):Sd:=ds.map some++List.replicate (n - ds.length) none
def p8 (b:SS) (n:Nat) (ds:List D) (h:Hd):R D:=match b (a0u n ds) h with
 | .rt d h1=>.ok d h1
 | .nx _ h1=>.ok .non h1
 | .ex c h1=>.ex c h1
 | _=>.no
def Rf (n:Nat) (r' r:R D):Prop:=match r with
 | .no=>True
 | .ok d h1=>∃ g,r' = .ok d (h1++g)∧(g=[]∨(n≤h1.length∧clo h1.length d∧aj5 h1.length h1))
 | .ex c h1=>∃ g,r' = .ex c (h1++g)∧(g=[]∨(n≤h1.length∧aj5 h1.length h1))
theorem Rf.same {n:Nat} {r' r:R D} (h:r'=r):Rf n r' r:=by
 subst h
 cases r' with
 | ok d h1=>exact ⟨[],by simp, .inl rfl⟩
 | ex c h1=>exact ⟨[],by simp, .inl rfl⟩
 | no=>exact True.intro
theorem a97 {K:PySem.W.Frag} {ι:List Addr} {H:Hp} {vs:List V} {ds:List D} {N:List Str} (r:Reps K ι H vs ds):SRep K ι H (start N vs) (a0u N.length ds):=by
 refine a2h ?_ ?_
 ·clear N
  induction r using Reps.rec (motive_1:=fun _ _ _=>True) with
  | nil=>exact a84
  | cons r rs _ ih=>exact a6b r ih
  | _=>trivial
 ·rw [r.len]
  exact ⟨by simp,fun i d e=>by rw [List.getElem?_replicate] at e;split at e<;>cases e⟩
theorem af3 {ι ι':List Addr} {H H':Hp} {n:Nat} (g:Gr ι H ι' H') (hn:ι.length≤n):Gr ι H (ι'.take n) H':=by
 obtain ⟨m,rfl,hm⟩:=g.pre
 exact ⟨⟨m.take (n - ι.length),by rw [List.take_append,List.take_of_length_le hn],fun a ha=>hm a (List.mem_of_mem_take ha)⟩,g.tup,g.frz,g.oth,g.kp⟩
section
variable {P:Program} {w:World} {K:PySem.W.Frag} {mg:Str→Option Value} {base:Heap}
theorem aj6 {x qual:Str} {st:Stmt} {f:Addr} {fd:FuncData} {N ps:List Str} {k:Nat} {b:SS} {F:SF} (Fu:Fun K x qual st f fd) (S:FnScope N ps (az st))
  (hb:∀ (cdv:Value) (A:Around) (outer:List Env) (s:Shared) (H:Hp) (E:XK),Room k (A.deeper (PyProof.Rows.envOfC qual (az st) s.heap.objs.size f cdv))→MSs (a0r CX0 P w K mg base N qual (az st) f cdv A outer s H E).nox X0 (iw st) b)
  (hF:∀ ds h,ds.length=ps.length→clos h.length ds→aj5 h.length h→Rf h.length (p8 b N.length ds h) (F ds h)):FnOk P w K mg base CX0 (k+1) f fd ps (qj K ps.length F):=by
 refine Fu.ok S (fun vs H Q E h=>h.1) fun cdv A outer s H vs Q E hr h=>⟨_,hb cdv A outer s H E hr,?_⟩
 obtain ⟨hl,ι,ds,h,r,hr',o⟩:=h
 refine ⟨ι,a0u N.length ds,h,a97 r,hr',?_⟩
 have q:=hF ds h (by rw [← r.len];exact hl) (by rw [← hr'.len];exact r.clo) hr'.clo
 unfold p8 at q
 cases hFd:F ds h with
 | no=>rw [hFd] at o;exact o.elim
 | ex c h1 =>
  rw [hFd] at q o
  obtain ⟨g,e,cl⟩:=q
  have fin:∀ ι' H',Gr ι H ι' H'→HRep K ι' H' (h1++g)→X0 c ι' H' (h1++g):=fun ι' H' g1 hr1=>by
   rcases cl with rfl | ⟨hn,c2⟩
   ·rw [List.append_nil] at hr1
    exact o ι' H' g1 hr1
   ·exact o (ι'.take h1.length) H' (af3 g1 (by rw [hr'.len];exact hn)) (hr1.cut c2)
  cases hbd:b (a0u N.length ds) h with
  | ex c' h' =>
   rw [hbd] at e
   injection e with e1 e2
   subst e1 e2
   exact fin
  | _=>rw [hbd] at e;cases e
 | ok d h1 =>
  rw [hFd] at q o
  obtain ⟨g,e,cl⟩:=q
  have fin:∀ ι' H' v,Gr ι H ι' H'→Rep K ι' H' v d→HRep K ι' H' (h1++g)→Q v H':=fun ι' H' v g1 r1 hr1=>by
   rcases cl with rfl | ⟨hn,c1,c2⟩
   ·rw [List.append_nil] at hr1
    exact o ι' H' v g1 r1 hr1
   ·exact o (ι'.take h1.length) H' v (af3 g1 (by rw [hr'.len];exact hn)) (r1.cut c1) (hr1.cut c2)
  cases hbd:b (a0u N.length ds) h with
  | rt d' h' =>
   rw [hbd] at e
   injection e with e1 e2
   subst e1 e2
   exact fin
  | nx τ' h' =>
   rw [hbd] at e
   injection e with e1 e2
   subst e1 e2
   exact fun ι' H' σ' g1 S1 hr1=>fin ι' H' .non g1 .non hr1
  | _=>rw [hbd] at e;cases e
end
end MI
namespace MI
open PySem PySem.Spec L2
section
variable {K:PySem.W.Frag} {E:XD} {ι:List Addr} {H:Hp} {h:Hd} {Q:VK}
theorem ans {d:D} {v:V} (o:out K E (w6 K) ι H (.ok d h) Q) (r:Rep K ι H v d) (hr:HRep K ι H h):Q v H:=o ι H v (.refl _ _) r hr
theorem HRep.lst (hr:HRep K ι H h) {i:Nat} {a:Addr} {xs:List D} (e:ι[i]? = some a) (hi:h[i]? = some (.lst xs)):∃ vs,H a=some (.lst vs)∧Reps K ι H vs xs:=hr.obj i a _ e hi
end
def aoo:D→D→Hd→R D
 | .int i, .int j,h=>.ok (.int (i+j)) h
 | .str x, .str y,h=>if x.length+y.length≤LINE then .ok (.str (x++y)) h else .no
 | .tup xs, .tup ys,h=>if xs≠[]∧xs.length+ys.length≤LINE then .ok (.tup (xs++ys)) h else .no
 | .ref i, .ref j,h=>match h[i]?,h[j]? with
  | some (.lst xs),some (.lst ys)=>if xs.length+ys.length≤LINE then .ok (.ref h.length) (h++[.lst (xs++ys)]) else .no
  | _,_=>.no
 | _,_,_=>.no
def a6t:D→D→Hd→R D
 | .int i, .int j,h=>.ok (.int (i - j)) h
 | _,_,_=>.no
def a6u:D→D→Hd→R D
 | .int i, .int j,h=>if 0<j then .ok (.int (i % j)) h else .no
 | _,_,_=>.no
def ach:D→D→Hd→R D
 | .int i, .int j,h=>if 0<j∧j<1073741824 then .ok (.int (i / j)) h else .no
 | _,_,_=>.no
def a6v:D→D→Hd→R D
 | .int i, .int j,h=>if 0≤j∧j≤1000000∧i.natAbs<2 ^ 64 then .ok (.int (i ^ j.toNat)) h else .no
 | _,_,_=>.no
section
variable {X:Cx} {K:PySem.W.Frag}
theorem aga:a0c K a6t (rI0 fun i j=>.int (i - j)):=by
 intro E ι H h x y dx dy Q rx ry hr o
 cases rx with
 | int i =>
  cases ry with
  | int j=>exact ⟨i,j,rfl,rfl,ans o (.int _) hr⟩
  | _=>exact o.elim
 | _=>exact o.elim
theorem agb:a0c K a6u (rI (fun _ j=>0<j) fun i j=>.int (i % j)):=by
 intro E ι H h x y dx dy Q rx ry hr o
 cases rx with
 | int i =>
  cases ry with
  | int j =>
   by_cases hc:0<j
   ·simp only [a6u,if_pos hc] at o;exact ⟨i,j,rfl,rfl,hc,ans o (.int _) hr⟩
   ·simp only [a6u,if_neg hc] at o;exact o.elim
  | _=>exact o.elim
 | _=>exact o.elim
theorem aar:a0c K ach (rI am1 fun i j=>.int (i / j)):=by
 intro E ι H h x y dx dy Q rx ry hr o
 cases rx with
 | int i =>
  cases ry with
  | int j =>
   by_cases hc:0<j∧j<1073741824
   ·simp only [ach,if_pos hc] at o;exact ⟨i,j,rfl,rfl,hc,ans o (.int _) hr⟩
   ·simp only [ach,if_neg hc] at o;exact o.elim
  | _=>exact o.elim
 | _=>exact o.elim
theorem agc:a0c K a6v (rI amz fun i j=>.int (i ^ j.toNat)):=by
 intro E ι H h x y dx dy Q rx ry hr o
 cases rx with
 | int i =>
  cases ry with
  | int j =>
   by_cases hc:0≤j∧j≤1000000∧i.natAbs<2 ^ 64
   ·simp only [a6v,if_pos hc] at o;exact ⟨i,j,rfl,rfl,hc,ans o (.int _) hr⟩
   ·simp only [a6v,if_neg hc] at o;exact o.elim
  | _=>exact o.elim
 | _=>exact o.elim
variable {E:XD} {a b e:Expr} {es:List Expr} {fa fb:SE} {ka:SA} {pos:Pos}
theorem a6d (ha:ME X E a fa) (hb:ME X E b fb):ME X E (.BinOp a .Sub b pos) (s2 a6t fa fb):=a96 aid aga ha hb
theorem a4c (ha:ME X E a fa) (hb:ME X E b fb):ME X E (.BinOp a .Mod b pos) (s2 a6u fa fb):=a96 aif agb ha hb
theorem aj7 (ha:ME X E a fa) (hb:ME X E b fb):ME X E (.BinOp a .FloorDiv b pos) (s2 ach fa fb):=a96 afp aar ha hb
theorem a6e (ha:ME X E a fa) (hb:ME X E b fb):ME X E (.BinOp a .Pow b pos) (s2 a6v fa fb):=a96 aig agc ha hb
def a0a:D→Hd→R D
 | .int i,h=>.ok (.int (-i)) h
 | _,_=>.no
theorem nq (ha:ME X E a fa):ME X E (.UnaryOp .USub a pos) (s1 a0a fa):=amd aih (fun E ι H h x dx Q rx hr o=>by
 cases rx with
 | int i=>exact ⟨i,rfl,ans o (.int _) hr⟩
 | _=>exact o.elim) ha
def eqS:D→D→Bool
 | .non, .non=>true
 | .int i, .int j=>decide (i=j)
 | .bl i, .bl j=>decide (i=j)
 | .str i, .str j=>decide (i=j)
 | _,_=>false
def gLt:D→D→Hd→R D
 | .int i, .int j,h=>.ok (.bl (decide (i<j))) h
 | .str i, .str j,h=>.ok (.bl (decide (i.cps.toList<j.cps.toList))) h
 | _,_,_=>.no
def gLe:D→D→Hd→R D
 | .int i, .int j,h=>.ok (.bl (decide (i≤j))) h
 | .str i, .str j,h=>.ok (.bl (!decide (j.cps.toList<i.cps.toList))) h
 | _,_,_=>.no
def gGt:D→D→Hd→R D
 | .int i, .int j,h=>.ok (.bl (decide (j<i))) h
 | _,_,_=>.no
def gGe:D→D→Hd→R D
 | .int i, .int j,h=>.ok (.bl (decide (j≤i))) h
 | _,_,_=>.no
theorem a0g:a0c K gLt (fun x y H Q=>rI0 (fun i j=>.bl (decide (i<j))) x y H Q∨∃ i j,x = .str i∧y = .str j∧Q (.bl (decide (i.cps.toList<j.cps.toList))) H):=by
 intro E ι H h x y dx dy Q rx ry hr o
 cases rx with
 | int i =>
  cases ry with
  | int j=>exact .inl ⟨i,j,rfl,rfl,ans o (.bl _) hr⟩
  | _=>exact o.elim
 | str i =>
  cases ry with
  | str j=>exact .inr ⟨i,j,rfl,rfl,ans o (.bl _) hr⟩
  | _=>exact o.elim
 | _=>exact o.elim
theorem a4d:a0c K gLe (fun x y H Q=>rI0 (fun i j=>.bl (decide (i≤j))) x y H Q∨∃ i j,x = .str i∧y = .str j∧Q (.bl (!decide (j.cps.toList<i.cps.toList))) H):=by
 intro E ι H h x y dx dy Q rx ry hr o
 cases rx with
 | int i =>
  cases ry with
  | int j=>exact .inl ⟨i,j,rfl,rfl,ans o (.bl _) hr⟩
  | _=>exact o.elim
 | str i =>
  cases ry with
  | str j=>exact .inr ⟨i,j,rfl,rfl,ans o (.bl _) hr⟩
  | _=>exact o.elim
 | _=>exact o.elim
theorem a87:a0c K gGt (rI0 fun i j=>.bl (decide (j<i))):=by
 intro E ι H h x y dx dy Q rx ry hr o
 cases rx with
 | int i =>
  cases ry with
  | int j=>exact ⟨i,j,rfl,rfl,ans o (.bl _) hr⟩
  | _=>exact o.elim
 | _=>exact o.elim
theorem zc:a0c K gGe (rI0 fun i j=>.bl (decide (j≤i))):=by
 intro E ι H h x y dx dy Q rx ry hr o
 cases rx with
 | int i =>
  cases ry with
  | int j=>exact ⟨i,j,rfl,rfl,ans o (.bl _) hr⟩
  | _=>exact o.elim
 | _=>exact o.elim
def a3t:D→Bool
 | .non=>true
 | _=>false
theorem adf {ι:List Addr} {H:Hp} {x:V} {d:D} (r:Rep K ι H x d):decide (x = .non)=a3t d:=by cases r<;>simp [a3t]
def gIs:D→D→Hd→R D
 | x, .non,h=>.ok (.bl (a3t x)) h
 | .bl i, .bl j,h=>.ok (.bl (i == j)) h
 | _,_,_=>.no
def af4:D→D→Hd→R D
 | x, .non,h=>.ok (.bl (!a3t x)) h
 | .bl i, .bl j,h=>.ok (.bl (i != j)) h
 | _,_,_=>.no
theorem aas:a0c K gIs (fun x y H Q=>(y = .non∧Q (.bl (decide (x = .non))) H)∨∃ i j,x = .bl i∧y = .bl j∧Q (.bl (i == j)) H):=by
 intro E ι H h x y dx dy Q rx ry hr o
 cases ry with
 | non=>exact .inl ⟨rfl,by rw [adf rx];simp only [gIs] at o;exact ans o (.bl _) hr⟩
 | bl j =>
  cases rx with
  | bl i=>exact .inr ⟨i,j,rfl,rfl,ans o (.bl _) hr⟩
  | _=>exact o.elim
 | _=>cases rx<;>exact o.elim
def a0l:D→Bool
 | .non=>true | .bl _=>true | .int _=>true | .str _=>true
 | _=>false
def eqF:D→D→Bool
 | .non, .non=>true
 | .bl i, .bl j=>i == j
 | .int i, .int j=>i == j
 | .str i, .str j=>i == j
 | .int i, .bl j=>i == (if j then 1 else 0)
 | .bl i, .int j=>(if i then 1 else 0) == j
 | _,_=>false
end
end MI
namespace MI
open PySem PySem.Spec L2
section
variable {X:Cx} {K:PySem.W.Frag} {E:XD} {a b e o:Expr} {es:List Expr} {fa fb:SE} {ka:SA} {pos:Pos}
def a02 (d:D) (h:Hd):Option (List D):=match d with
 | .tup xs=>some xs
 | .rol xs=>some xs
 | .ref i=>match h[i]? with | some (.lst xs)=>some xs | _=>none
 | _=>none
def gIx (x y:D) (h:Hd):R D:=match y with
 | .int i=>(match x with
  | .str z=>if z.length≤LINE then (match atI z.cps.toList i with | some c=>.ok (.str ⟨#[c]⟩) h | none=>.no) else .no
  | x=>match a02 x h with
   | some xs=>(match atI xs i with | some d=>.ok d h | none=>.no)
   | none=>.no)
 | _=>.no
theorem a88 {ι:List Addr} {H:Hp} {vs:List V} {xs:List D} {i:Int} {d:D} (r:Reps K ι H vs xs) (e:atI xs i=some d):∃ v,atI vs i=some v∧Rep K ι H v d:=by
 unfold atI at e ⊢
 rw [r.len]
 cases hx:ixN xs.length i with
 | none=>rw [hx] at e;cases e
 | some j=>rw [hx] at e;exact r.get e
theorem aj8:a0c K gIx (rIx K):=by
 intro E ι H h x y dx dy Q rx ry hr o
 cases ry with
 | int i =>
  have go:∀ {p:Addr} {vs:List V} {xs:List D},Reps K ι H vs xs→out K E (w6 K) ι H (match atI xs i with | some d=>.ok d h | none=>.no) Q→∃ v,atI vs i=some v∧Q v H:=fun {p vs xs} r o=>by
   cases he:atI xs i with
   | none=>rw [he] at o;exact o.elim
   | some d =>
    rw [he] at o
    obtain ⟨v,h1,h2⟩:=a88 r he
    exact ⟨v,h1,ans o h2 hr⟩
  cases rx with
  | str z =>
   by_cases hc:z.length≤LINE
   ·simp only [gIx,if_pos hc] at o
    cases he:atI z.cps.toList i with
    | none=>rw [he] at o;exact o.elim
    | some c=>rw [he] at o;exact .inr (.inr ⟨z,i,c,rfl,rfl,ll hc,he,ans o (.str _) hr⟩)
   ·simp only [gIx,if_neg hc] at o;exact o.elim
  | @tup p vs xs hp r =>
   simp only [gIx,a02] at o
   obtain ⟨v,h1,h2⟩:=go (p:=p) r o
   exact .inr (.inl ⟨p,vs,i,v,rfl,rfl,SqT.of hp,h1,h2⟩)
  | @rol p vs xs hp r =>
   simp only [gIx,a02] at o
   obtain ⟨v,h1,h2⟩:=go (p:=p) r o
   exact .inl ⟨p,vs,i,v,rfl,rfl,hp.l,h1,h2⟩
  | @ref p j hp =>
   obtain ⟨ob,e1,e2⟩:=hr.at hp
   cases ob with
   | lst xs =>
    simp only [gIx,a02,e1] at o
    obtain ⟨vs,h3,h4⟩:=e2
    obtain ⟨v,h1,h2⟩:=go (p:=p) h4 o
    exact .inl ⟨p,vs,i,v,rfl,rfl,SqL.of h3,h1,h2⟩
   | dK _=>simp only [gIx,a02,e1] at o;exact o.elim
   | dT _=>simp only [gIx,a02,e1] at o;exact o.elim
  | _=>exact o.elim
 | _=>exact o.elim
theorem bx (ha:ME X E a fa) (hb:ME X E b fb) (hp:a6y b):ME X E (.Subscript a b pos) (s2 gIx fa fb):=ame aiq aj8 ha hb hp
abbrev SO:=Sd→Hd→R (Option Int)
abbrev MO (X:Cx) (E:XD) (e:Option Expr) (f:SO):Prop:=PO X e (lift X.K E aom f)
def oN:SO:=fun _ h=>.ok none h
def oS (f:SE):SO:=fun τ h=>(f τ h).bind fun d h1=>match d with | .int i=>.ok (some i) h1 | _=>.no
theorem PO.weak {e:Option Expr} {t t':St→Hp→(Option Int→Hp→Prop)→Prop} (h:PO X e t) (i:∀ σ H Q,t' σ H Q→t σ H Q):PO X e t':=fun pins s σ H Q I q=>h pins s σ H Q I (i _ _ _ q)
theorem zf:MO X E none oN:=PO.weak afy fun σ H Q ⟨ι,τ,h,S,Rh,o⟩=>o ι H none (.refl _ _) rfl Rh
theorem zg (he:ME X E e fa):MO X E (some e) (oS fa):=by
 refine PO.weak (afz he) fun σ H Q ⟨ι,τ,h,S,Rh,o⟩=>?_
 refine ⟨ι,τ,h,S,Rh,dq o fun d h1 ι1 H1 v g1 r1 hr1 o1=>?_⟩
 cases r1 with
 | int i=>exact ⟨i,rfl,o1 ι1 H1 _ (.refl _ _) rfl hr1⟩
 | _=>exact o1.elim
def whole (n:Nat) (lo hi:Option Int):Prop:=HT.sIx n 0 lo=0∧HT.sIx n n hi=n
instance (n:Nat) (lo hi:Option Int):Decidable (whole n lo hi):=by unfold whole;exact inferInstance
def gSl (d:D) (lo hi:Option Int) (h:Hd):R D:=match d with
 | .str z=>if z.length≤LINE then .ok (.str ⟨(a2d z.cps.toList lo hi).toArray⟩) h else .no
 | .tup xs=>if ¬ whole xs.length lo hi then .ok (.tup (a2d xs lo hi)) h else .no
 | .rol xs=>.ok (.ref h.length) (h++[.lst (a2d xs lo hi)])
 | .scr xs=>.ok (.ref h.length) (h++[.lst (a2d xs lo hi)])
 | .ref i=>match h[i]? with | some (.lst xs)=>.ok (.ref h.length) (h++[.lst (a2d xs lo hi)]) | _=>.no
 | _=>.no
theorem a0v {ι:List Addr} {H:Hp} {vs:List V} {xs:List D} (r:Reps K ι H vs xs) (lo hi:Option Int):Reps K ι H (aeq vs lo hi) (a2d xs lo hi):=by
 unfold aeq a2d
 rw [r.len]
 exact (r.drop _).take _
theorem a89 {ι:List Addr} {H:Hp} {h:Hd} {x:V} {d:D} {lo hi:Option Int} {Q:VK} (rx:Rep K ι H x d) (hr:HRep K ι H h) (o:out K E (w6 K) ι H (gSl d lo hi h) Q):ama x lo hi H Q∨am6 K x lo hi H Q∨am8 K x lo hi H Q:=by
 cases rx with
 | str z =>
  by_cases hc:z.length≤LINE
  ·simp only [gSl,if_pos hc] at o;exact .inl ⟨z,rfl,ll hc,ans o (.str _) hr⟩
  ·simp only [gSl,if_neg hc] at o;exact o.elim
 | @tup p vs xs hp r =>
  by_cases hc:¬ whole xs.length lo hi
  ·simp only [gSl,if_pos hc] at o
   exact .inr (.inl ⟨p,vs,rfl,SqT.of hp,by rw [r.len];exact hc,a0j (a0v r lo hi) hr o⟩)
  ·simp only [gSl,if_neg hc] at o;exact o.elim
 | @rol p vs xs hp r=>exact .inr (.inr ⟨p,vs,rfl,hp.l,xn (a0v r lo hi) hr o⟩)
 | @scr p vs xs hp r=>exact .inr (.inr ⟨p,vs,rfl,hp.l,xn (a0v r lo hi) hr o⟩)
 | @ref p j hp =>
  obtain ⟨ob,e1,e2⟩:=hr.at hp
  cases ob with
  | lst xs =>
   simp only [gSl,e1] at o
   obtain ⟨vs,h3,h4⟩:=e2
   exact .inr (.inr ⟨p,vs,rfl,SqL.of h3,xn (a0v h4 lo hi) hr o⟩)
  | dK _=>simp only [gSl,e1] at o;exact o.elim
  | dT _=>simp only [gSl,e1] at o;exact o.elim
 | _=>exact o.elim
theorem aat {ι:List Addr} {H:Hp} {x:V} {d:D} (r:Rep K ι H x d) (f:a0l d=true):a0i x=true:=by cases r<;>first | rfl | cases f
theorem aj9 {ι:List Addr} {H:Hp} {x y:V} {d c:D} (r:Rep K ι H x d) (q:Rep K ι H y c):a0l d=true→a0l c=true→eqV x y=eqF d c:=fun f g=>by
 cases r<;>cases q<;>first | rfl | (cases f;done) | (cases g;done)
def inD (x:D) (xs:List D):Bool:=xs.any fun y=>eqF y x
theorem adg {ι:List Addr} {H:Hp} {vs:List V} {xs:List D} (r:Reps K ι H vs xs) (f:xs.all a0l=true):vs.all a0i=true:=by
 induction r using Reps.rec (motive_1:=fun _ _ _=>True) with
 | nil=>rfl
 | cons r rs _ ih =>
  rw [List.all_cons,Bool.and_eq_true] at f ⊢
  exact ⟨aat r f.1,ih f.2⟩
 | _=>trivial
theorem aja {ι:List Addr} {H:Hp} {x:V} {d:D} {vs:List V} {xs:List D} (rx:Rep K ι H x d) (fx:a0l d=true) (r:Reps K ι H vs xs) (f:xs.all a0l=true):inV x vs=inD d xs:=by
 unfold inV inD
 induction r using Reps.rec (motive_1:=fun _ _ _=>True) with
 | nil=>rfl
 | cons r rs _ ih =>
  rw [List.all_cons,Bool.and_eq_true] at f
  rw [List.any_cons,List.any_cons,ih f.2,aj9 r rx f.1 fx]
 | _=>trivial
def gIn (neg:Bool) (x y:D) (h:Hd):R D:=match y with
 | .str T=>(match x with
  | .str z=>(match z.cps.toList with | [c]=>.ok (.bl (if neg then !decide (c∈T.cps.toList) else decide (c∈T.cps.toList))) h | _=>.no)
  | _=>.no)
 | y=>match a02 y h with
  | some xs=>if a0l x=true∧xs.all a0l=true then .ok (.bl (if neg then !inD x xs else inD x xs)) h else .no
  | none=>.no
theorem one_sign {z:Str} {c:Nat} (h:z.cps.toList=[c]):z=⟨#[c]⟩:=by
 obtain ⟨cps⟩:=z
 congr
 exact Array.ext' (by simpa using h)
theorem ajb (neg:Bool) {r1:R2} (h1:∀ c T H (Q:VK),Q (.bl (if neg then !decide (c∈T.cps.toList) else decide (c∈T.cps.toList))) H→r1 (.str ⟨#[c]⟩) (.str T) H Q):a0c K (gIn neg) (fun x y H Q=>r1 x y H Q∨rIn K neg x y H Q):=by
 intro E ι H h x y dx dy Q rx ry hr o
 have go:∀ {p:Addr} {vs:List V} {xs:List D},(SqL K H p vs∨SqT K H p vs)→Reps K ι H vs xs→out K E (w6 K) ι H (if a0l dx=true∧xs.all a0l=true then .ok (.bl (if neg then !inD dx xs else inD dx xs)) h else .no) Q→rIn K neg x (.ref p) H Q:=fun {p vs xs} sq r o=>by
  split at o
  ·rename_i hc
   exact ⟨p,vs,rfl,sq,aat rx hc.1,adg r hc.2,by rw [aja rx hc.1 r hc.2];exact ans o (.bl _) hr⟩
  ·exact o.elim
 cases ry with
 | str T =>
  cases rx with
  | str z =>
   simp only [gIn] at o
   split at o
   ·rename_i c hz
    rw [one_sign hz]
    exact .inl (h1 c T H Q (ans o (.bl _) hr))
   ·exact o.elim
  | _=>exact o.elim
 | @tup p vs xs hp r=>simp only [gIn,a02] at o;exact .inr (go (.inr (SqT.of hp)) r o)
 | @rol p vs xs hp r=>simp only [gIn,a02] at o;exact .inr (go (.inl hp.l) r o)
 | @ref p j hp =>
  obtain ⟨ob,e1,e2⟩:=hr.at hp
  cases ob with
  | lst xs =>
   simp only [gIn,a02,e1] at o
   obtain ⟨vs,h3,h4⟩:=e2
   exact .inr (go (.inl (SqL.of h3)) h4 o)
  | dK _=>simp only [gIn,a02,e1] at o;exact o.elim
  | dT _=>simp only [gIn,a02,e1] at o;exact o.elim
 | _=>exact o.elim
theorem aau:a0c K (gIn true) (fun x y H Q=>(∃ c T,x = .str ⟨#[c]⟩∧y = .str T∧Q (.bl (!decide (c∈T.cps.toList))) H)∨rIn K true x y H Q):=ajb true fun c T H Q q=>⟨c,T,rfl,rfl,q⟩
def vg:List D→Hd→R D
 | [.str z],h=>if z.length≤LINE then .ok (.int z.length) h else .no
 | [x],h=>(match a02 x h with | some xs=>.ok (.int xs.length) h | none=>.no)
 | _,_=>.no
theorem jx:a7z K vg (fun xs H Q=>(∃ p ys,xs=[.ref p]∧(SqL K H p ys∨SqT K H p ys)∧Q (.int ys.length) H)∨∃ z,xs=[.str z]∧z.length≤sizeLine∧Q (.int z.length) H):=by
 intro E ι H h xs ds Q r hr o
 cases r with
 | nil=>exact o.elim
 | cons r rs =>
  cases rs with
  | cons _ _=>exact (show False by cases r<;>exact o).elim
  | nil =>
   cases r with
   | str z =>
    by_cases hc:z.length≤LINE
    ·simp only [vg,if_pos hc] at o;exact .inr ⟨z,rfl,ll hc,ans o (.int _) hr⟩
    ·simp only [vg,if_neg hc] at o;exact o.elim
   | @tup p vs xs hp r=>simp only [vg,a02] at o;exact .inl ⟨p,vs,rfl, .inr (SqT.of hp),by rw [r.len];exact ans o (.int _) hr⟩
   | @rol p vs xs hp r=>simp only [vg,a02] at o;exact .inl ⟨p,vs,rfl, .inl hp.l,by rw [r.len];exact ans o (.int _) hr⟩
   | @ref p j hp =>
    obtain ⟨ob,e1,e2⟩:=hr.at hp
    cases ob with
    | lst xs =>
     simp only [vg,a02,e1] at o
     obtain ⟨vs,h3,h4⟩:=e2
     exact .inl ⟨p,vs,rfl, .inl (SqL.of h3),by rw [h4.len];exact ans o (.int _) hr⟩
    | dK _=>simp only [vg,a02,e1] at o;exact o.elim
    | dT _=>simp only [vg,a02,e1] at o;exact o.elim
   | _=>exact o.elim
def al8:List D→Hd→R D
 | [.int i],h=>.ok (.int (if i<0 then -i else i)) h
 | _,_=>.no
theorem agd:a7z K al8 (fun xs H Q=>∃ i,xs=[.int i]∧Q (.int (if i<0 then -i else i)) H):=by
 intro E ι H h xs ds Q r hr o
 unfold al8 at o
 split at o
 ·cases r with | cons r rs=>cases r;cases rs;exact ⟨_,rfl,ans o (.int _) hr⟩
 ·exact o.elim
def a4z:List D→Hd→R D
 | [.int i, .int j],h=>.ok (.int (if j > i then j else i)) h
 | _,_=>.no
def a6f:List D→Hd→R D
 | [.int i, .int j],h=>.ok (.int (if j<i then j else i)) h
 | _,_=>.no
theorem a8a:a7z K a4z (fun xs H Q=>∃ i j,xs=[.int i, .int j]∧Q (.int (if j > i then j else i)) H):=by
 intro E ι H h xs ds Q r hr o
 unfold a4z at o
 split at o
 ·cases r with | cons r rs=>cases rs with | cons q rs=>cases r;cases q;cases rs;exact ⟨_,_,rfl,ans o (.int _) hr⟩
 ·exact o.elim
theorem adh:a7z K a6f (fun xs H Q=>∃ i j,xs=[.int i, .int j]∧Q (.int (if j<i then j else i)) H):=by
 intro E ι H h xs ds Q r hr o
 unfold a6f at o
 split at o
 ·cases r with | cons r rs=>cases rs with | cons q rs=>cases r;cases q;cases rs;exact ⟨_,_,rfl,ans o (.int _) hr⟩
 ·exact o.elim
def age:List D→Hd→R D
 | [.int i],h=>.ok (.int i) h
 | [.bl k],h=>.ok (.int (if k then 1 else 0)) h
 | _,_=>.no
theorem agf:a7z K age (fun xs H Q=>(∃ i,xs=[.int i]∧Q (.int i) H)∨∃ k,xs=[.bl k]∧Q (.int (if k then 1 else 0)) H):=by
 intro E ι H h xs ds Q r hr o
 unfold age at o
 split at o
 ·cases r with | cons r rs=>cases r;cases rs;exact .inl ⟨_,rfl,ans o (.int _) hr⟩
 ·cases r with | cons r rs=>cases r;cases rs;exact .inr ⟨_,rfl,ans o (.int _) hr⟩
 ·exact o.elim
def tyD (d:D) (h:Hd):Option String:=match d with
 | .non=>some "NoneType" | .bl _=>some "bool" | .int _=>some "int" | .str _=>some "str" | .tup _=>some "tuple" | .rol _=>some "list"
 | .ref i=>(match h[i]? with | some (.lst _)=>some "list" | some (.dK _)=>some "dict" | _=>none)
 | _=>none
def af5 (t T:String):Option Bool :=
 if t∈["NoneType", "bool", "int", "str", "tuple", "list", "dict"]∧T∈["bool", "int", "str", "tuple", "list", "dict"] then some (t == T || (t == "bool" && T == "int")) else none
theorem aav {t T:String} {b:Bool} (e:af5 t T=some b):PySem.W.kitOne K (.type t) (.type T)=some b:=by
 unfold af5 at e
 split at e
 ·rename_i h
  obtain ⟨h1,h2⟩:=h
  simp only [List.mem_cons,List.not_mem_nil,or_false] at h1 h2
  rcases h1 with rfl | rfl | rfl | rfl | rfl | rfl | rfl<;>rcases h2 with rfl | rfl | rfl | rfl | rfl | rfl<;>(cases e;rfl)
 ·cases e
def ahg:List D→Hd→R D
 | [x, .ty T],h=>(match tyD x h with | some t=>(match af5 t T with | some b=>.ok (.bl b) h | none=>.no) | none=>.no)
 | _,_=>.no
theorem ajc {ι:List Addr} {H:Hp} {h:Hd} {x:V} {d:D} {t:String} (r:Rep K ι H x d) (hr:HRep K ι H h) (e:tyD d h=some t):TyOf K H x (.type t):=by
 cases r with
 | non=>cases e;exact .non
 | bl b=>cases e;exact .bl b
 | int b=>cases e;exact .int b
 | str b=>cases e;exact .str b
 | ty _=>cases e
 | tup hp r=>cases e;exact .tup hp
 | rol hp r=>cases e;obtain ⟨o,hp⟩:=hp;exact .frz hp
 | scr _ _=>cases e
 | rod _ _ _=>cases e
 | rdT _ _ _=>cases e
 | exc _ _ _=>cases e
 | ref hp =>
  obtain ⟨ob,e1,e2⟩:=hr.at hp
  cases ob with
  | lst xs=>simp only [tyD,e1] at e;cases e;obtain ⟨vs,h3,h4⟩:=e2;exact .lst h3
  | dK _=>simp only [tyD,e1] at e;cases e;obtain ⟨vs,h3,h4⟩:=e2;exact .dK h3
  | dT _=>simp only [tyD,e1] at e;cases e
theorem agg:a7z K ahg (fun xs H Q=>∃ x T t b,xs=[x, .ty T]∧TyOf K H x t∧PySem.W.kitOne K t (.type T)=some b∧Q (.bl b) H):=by
 intro E ι H h xs ds Q r hr o
 unfold ahg at o
 split at o
 ·rename_i d T
  cases r with
  | cons r rs =>
   cases rs with
   | cons q rs =>
    cases q;cases rs
    cases ht:tyD d h with
    | none=>rw [ht] at o;exact o.elim
    | some t =>
     rw [ht] at o
     cases hb:af5 t T with
     | none=>simp only [hb] at o;exact o.elim
     | some b =>
      simp only [hb] at o
      exact ⟨_,T, .type t,b,rfl,ajc r hr ht,aav hb,ans o (.bl _) hr⟩
 ·exact o.elim
end
end MI
namespace MI
open PySem PySem.Spec L2
section
variable {X:Cx} {K:PySem.W.Frag} {E:XD} {a b e o:Expr} {es:List Expr} {fa fb fo:SE} {ka:SA} {pos apos cpos:Pos} {name:Str} {idn:String}
def amh (K:PySem.W.Frag) (g:D→List D→Hd→R D) (r:V→List V→Hp→VK→Prop):Prop:=∀ (E:XD) ι H h x dx xs ds Q,Rep K ι H x dx→Reps K ι H xs ds→HRep K ι H h→out K E (w6 K) ι H (g dx ds h) Q→r x xs H Q
def isL (d:D) (h:Hd):Bool:=match d with | .ref i=>(match h[i]? with | some (.lst _)=>true | _=>false) | .rol _=>true | _=>false
def sML (g:D→List D→Hd→R D) (f:SE) (k:SA):SE:=fun τ h=>(f τ h).bind fun d h1=>if isL d h1=true then (k τ h1).bind fun ds h2=>g d ds h2 else .no
theorem ajd {ι:List Addr} {H:Hp} {h:Hd} {x:V} {d:D} (r:Rep K ι H x d) (hr:HRep K ι H h) (e:isL d h=true):tyV K "list" x H:=by
 cases r with
 | rol hp _=>exact .inl ⟨rfl,_,hp.l⟩
 | ref hp =>
  obtain ⟨ob,e1,e2⟩:=hr.at hp
  cases ob with
  | lst xs=>obtain ⟨vs,h3,_⟩:=e2;exact .inl ⟨rfl,_,SqL.of h3⟩
  | dK _=>simp [isL,e1] at e
  | dT _=>simp [isL,e1] at e
 | _=>cases e
theorem a74 {r:V→List V→Hp→VK→Prop} {g:D→List D→Hd→R D} (slot:Slot "list" name idn) (hty:typeOf (.builtin idn)=pure (.type "method_descriptor")) (hm:MtR X idn r) (hs:amh X.K g r) (ho:ME X E o fo) (ha:MA X E (e::es) ka)
  (hbase:attributeBase o name X.env (eval o X.env)=eval o X.env:=by rfl)
  (hfew:((backTo cpos (starEach (e::es) X.env)).all (fun x => !x.1) && (backToKw cpos (keywordEach [] X.env)).all (fun x=>x.1.isSome)
   && decide ((e::es).length+([]:List Keyword).length+(if ([]:List Keyword).isEmpty then 0 else 1)<30))=true:=by rfl)
  (hline:(apos.endLine == cpos.line)=true:=by rfl) (hst:starEach (e::es) X.env=(false,eval e X.env)::starEach es X.env:=by rfl) (hplain:(backTo cpos (starEach es X.env)).any (·.1)=false:=by rfl) :
  ME X E (.Call (.Attribute o name apos) (e::es) [] cpos) (sML g fo ka):=by
 refine PE.weak (am9 PySem.F.plainAttrs_list slot hty hm ho ha hbase hfew hline hst hplain) fun σ H Q ⟨ι,τ,h,S,Rh,o⟩=>?_
 refine ⟨ι,τ,h,S,Rh,dq o fun d h1 ι1 H1 v g1 r1 hr1 o1=>?_⟩
 by_cases hc:isL d h1=true
 ·rw [if_pos hc] at o1
  refine ⟨ajd r1 hr1 hc,ι1,τ,h1,S.mono g1,hr1,dq o1 fun ds h2 ι2 H2 vs g2 r2 hr2 o2=>?_⟩
  exact hs E ι2 H2 h2 v d vs ds Q (r1.mono g2) r2 hr2 o2
 ·rw [if_neg hc] at o1;exact o1.elim
def a6w:D→List D→Hd→R D
 | .ref i,[y],h=>(match h[i]? with | some (.lst xs)=>if xs.length<LINE then .ok .non (h.set i (.lst (xs++[y]))) else .no | _=>.no)
 | _,_,_=>.no
theorem a1m:amh K a6w aac:=by
 intro E ι H h x dx xs ds Q rx r hr o
 unfold a6w at o
 split at o
 ·rename_i i y
  cases rx with
  | @ref p _ hp =>
   cases r with
   | cons r1 rs =>
    cases rs
    split at o
    ·rename_i xs hx
     obtain ⟨vs,h3,h4⟩:=hr.lst hp hx
     split at o
     ·rename_i hc
      exact ⟨p,vs,_,rfl,rfl,h3,by rw [h4.len,amb];exact hc,ag6 (h4.snoc r1) hr hp .non o⟩
     ·exact o.elim
    ·exact o.elim
 ·exact o.elim
def anc:D→List D→Hd→R D
 | .ref i,[.int j],h=>(match h[i]? with | some (.lst xs)=>(match ixN xs.length j with | some k=>(match xs[k]? with | some y=>if xs.length≤LINE then .ok y (h.set i (.lst (xs.eraseIdx k))) else .no | none=>.no) | none=>.no) | _=>.no)
 | _,_,_=>.no
def sMS (g:D→List D→Hd→R D) (f:SE) (k:SA):SE:=fun τ h=>(f τ h).bind fun d h1=>match d with | .str z=>(k τ h1).bind fun ds h2=>g (.str z) ds h2 | _=>.no
def agh:List D→Option (List Str)
 | []=>some []
 | .str z::r=>(agh r).map (z::·)
 | _::_=>none
theorem adi {ι:List Addr} {H:Hp}:∀ {vs:List V} {xs:List D} {zs:List Str},Reps K ι H vs xs→agh xs=some zs→vs=zs.map V.str
 | _,_,_, .nil,e=>by cases e;rfl
 | _,_,zs, .cons (d:=d) r rs,e=>by
  cases r with
  | str z =>
   simp only [agh,Option.map_eq_some_iff] at e
   obtain ⟨ws,h1,rfl⟩:=e
   rw [adi rs h1];rfl
  | _=>cases e
def aop:List D→Hd→R D
 | [.str z],h=>if z.length≤LINE then .ok (.ref h.length) (h++[.lst (zb z)]) else .no
 | [x],h=>(match a02 x h with | some xs=>.ok (.ref h.length) (h++[.lst xs]) | none=>.no)
 | _,_=>.no
theorem a98 {ι:List Addr} {H:Hp} (z:Str):Reps K ι H (a0s z) (zb z):=by
 unfold a0s zb
 induction z.cps.toList with
 | nil=>exact .nil
 | cons c cs ih=>exact .cons (.str _) ih
def sy:List D→Hd→R D
 | [.str z],h=>if z.length≤LINE then .ok (.tup (zb z)) h else .no
 | [x],h=>(match a02 x h with | some xs=>.ok (.tup xs) h | none=>.no)
 | _,_=>.no
theorem a0w:a7z K sy (fun xs H Q=>(∃ p ys,xs=[.ref p]∧((SqL K H p ys∧∀ l,H l=none→Q (.ref l) (upd H l (.tup ys)))∨(SqT K H p ys∧Q (.ref p) H)))∨∃ z,xs=[.str z]∧z.length≤sizeLine∧∀ l,H l=none→Q (.ref l) (upd H l (.tup (a0s z)))):=by
 intro E ι H h xs ds Q r hr o
 cases r with
 | nil=>exact o.elim
 | cons r rs =>
  cases rs with
  | cons _ _=>exact (show False by cases r<;>exact o).elim
  | nil =>
   cases r with
   | str z =>
    by_cases hc:z.length≤LINE
    ·simp only [sy,if_pos hc] at o;exact .inr ⟨z,rfl,ll hc,a0j (a98 z) hr o⟩
    ·simp only [sy,if_neg hc] at o;exact o.elim
   | @tup p vs xs hp r=>simp only [sy,a02] at o;exact .inl ⟨p,vs,rfl, .inr ⟨SqT.of hp,ans o (.tup hp r) hr⟩⟩
   | @rol p vs xs hp r=>simp only [sy,a02] at o;exact .inl ⟨p,vs,rfl, .inl ⟨hp.l,a0j r hr o⟩⟩
   | @ref p j hp =>
    obtain ⟨ob,e1,e2⟩:=hr.at hp
    cases ob with
    | lst xs =>
     simp only [sy,a02,e1] at o
     obtain ⟨vs,h3,h4⟩:=e2
     exact .inl ⟨p,vs,rfl, .inl ⟨SqL.of h3,a0j h4 hr o⟩⟩
    | dK _=>simp only [sy,a02,e1] at o;exact o.elim
    | dT _=>simp only [sy,a02,e1] at o;exact o.elim
   | _=>exact o.elim
def agi:List D→Option (List Bool)
 | []=>some []
 | .bl z::r=>(agi r).map (z::·)
 | _::_=>none
def a3g:List D→Option (List Int)
 | []=>some []
 | .int z::r=>(a3g r).map (z::·)
 | _::_=>none
theorem a75 {ι:List Addr} {H:Hp}:∀ {vs:List V} {xs:List D} {zs:List Bool},Reps K ι H vs xs→agi xs=some zs→vs=zs.map V.bl
 | _,_,_, .nil,e=>by cases e;rfl
 | _,_,zs, .cons (d:=d) r rs,e=>by
  cases r with
  | bl z =>
   simp only [agi,Option.map_eq_some_iff] at e
   obtain ⟨ws,h1,rfl⟩:=e
   rw [a75 rs h1];rfl
  | _=>cases e
theorem a0x {ι:List Addr} {H:Hp}:∀ {vs:List V} {xs:List D} {zs:List Int},Reps K ι H vs xs→a3g xs=some zs→vs=zs.map V.int
 | _,_,_, .nil,e=>by cases e;rfl
 | _,_,zs, .cons (d:=d) r rs,e=>by
  cases r with
  | int z =>
   simp only [a3g,Option.map_eq_some_iff] at e
   obtain ⟨ws,h1,rfl⟩:=e
   rw [a0x rs h1];rfl
  | _=>cases e
theorem adk (bs:List Bool):agi (bs.map D.bl)=some bs:=by
 induction bs with
 | nil=>rfl
 | cons b bs ih=>simp [agi,ih]
def aci:List D→Hd→R D
 | [.ref i],h=>(match h[i]? with | some (.lst xs)=>(match agi xs with | some bs=>.ok (.bl (bs.all id)) h | none=>.no) | _=>.no)
 | [.rol xs],h=>(match agi xs with | some bs=>.ok (.bl (bs.all id)) h | none=>.no)
 | _,_=>.no
theorem a5a:a7z K aci (fun xs H Q=>∃ (p:Addr) (bs:List Bool),xs=[.ref p]∧SqL K H p (bs.map V.bl)∧Q (.bl (bs.all id)) H):=by
 intro E ι H h xs ds Q r hr o
 unfold aci at o
 split at o
 ·cases r with
  | cons r rs =>
   cases rs
   cases r with
   | @ref p _ hp =>
    split at o
    ·rename_i xs hx
     obtain ⟨vs,h3,h4⟩:=hr.lst hp hx
     split at o
     ·rename_i bs hb
      exact ⟨p,bs,rfl,SqL.of (by rw [h3,a75 h4 hb]),ans o (.bl _) hr⟩
     ·exact o.elim
    ·exact o.elim
 ·cases r with
  | cons r rs =>
   cases rs
   cases r with
   | @rol p vs xs hp r =>
    split at o
    ·rename_i bs hb
     exact ⟨p,bs,rfl,by rw [← a75 r hb];exact hp.l,ans o (.bl _) hr⟩
    ·exact o.elim
 ·exact o.elim
def aje:List D→Hd→R D
 | [.ref i],h=>(match h[i]? with | some (.lst xs)=>(match a3g xs with | some bs=>.ok (.int bs.sum) h | none=>.no) | _=>.no)
 | [.rol xs],h=>(match a3g xs with | some bs=>.ok (.int bs.sum) h | none=>.no)
 | _,_=>.no
theorem agj:a7z K aje (fun xs H Q=>∃ (p:Addr) (ns:List Int),xs=[.ref p]∧SqL K H p (ns.map V.int)∧Q (.int ns.sum) H):=by
 intro E ι H h xs ds Q r hr o
 unfold aje at o
 split at o
 ·cases r with
  | cons r rs =>
   cases rs
   cases r with
   | @ref p _ hp =>
    split at o
    ·rename_i xs hx
     obtain ⟨vs,h3,h4⟩:=hr.lst hp hx
     split at o
     ·rename_i bs hb
      exact ⟨p,bs,rfl,SqL.of (by rw [h3,a0x h4 hb]),ans o (.int _) hr⟩
     ·exact o.elim
    ·exact o.elim
 ·cases r with
  | cons r rs =>
   cases rs
   cases r with
   | @rol p vs xs hp r =>
    split at o
    ·rename_i bs hb
     exact ⟨p,bs,rfl,by rw [← a0x r hb];exact hp.l,ans o (.int _) hr⟩
    ·exact o.elim
 ·exact o.elim
end
end MI
theorem L2.Room.u {k:Nat} {A:PySem.Around} (r:L2.Room k A):A.units+64<PySem.cLine:=r.units
namespace MI
open PySem PySem.Spec L2
mutual
def eqD:D→D→Bool
 | .non, .non=>true
 | .bl a, .bl b=>a == b
 | .bl a, .int b=>(if a then 1 else 0) == b
 | .int a, .bl b=>a == (if b then 1 else 0)
 | .int a, .int b=>a == b
 | .str a, .str b=>a == b
 | .tup xs, .tup ys=>a76 xs ys
 | _,_=>false
def a76:List D→List D→Bool
 | [],[]=>true
 | x::xs,y::ys=>eqD x y && a76 xs ys
 | _,_=>false
end
def pur:Nat→D→Bool
 | _, .non=>true
 | _, .bl _=>true
 | _, .int _=>true
 | _, .str _=>true
 | n+1, .tup xs=>xs.all (pur n)
 | _,_=>false
theorem ane {n:Nat}:∀ {m:Nat} {d:D},n≤m→pur n d=true→pur m d=true:=by
 induction n with
 | zero=>intro m d _ h;cases d<;>first | (cases m<;>rfl) | (cases h;done)
 | succ n ih =>
  intro m d hm h
  cases m with
  | zero=>omega
  | succ m =>
   cases d with
   | tup xs =>
    simp only [pur,List.all_eq_true] at h ⊢
    exact fun x hx=>ih (by omega) (h x hx)
   | _=>first | rfl | (cases h;done)
def pairE (xs ys:List D) (j:Nat):Bool:=match xs[j]?,ys[j]? with | some x,some y=>eqD x y | _,_=>false
theorem a0y:∀ xs ys:List D,((List.range (min xs.length ys.length)).all (pairE xs ys) && xs.length == ys.length)=a76 xs ys
 | [],[]=>by simp [a76]
 | [],_::_=>by simp [a76]
 | _::_,[]=>by simp [a76]
 | x::xs,y::ys=>by
  have ih:=a0y xs ys
  rw [show min (x::xs).length (y::ys).length=min xs.length ys.length+1 by simp only [List.length_cons];omega,List.range_succ_eq_map]
  rw [List.all_cons,List.all_map]
  have e:(pairE (x::xs) (y::ys) ∘ Nat.succ)=pairE xs ys:=by funext j;simp [pairE]
  rw [e]
  simp only [a76]
  rw [← ih]
  have e2:((x::xs).length == (y::ys).length)=(xs.length == ys.length):=by simp
  rw [e2,Bool.and_assoc]
  rfl
section
variable {K:PySem.W.Frag} {ι:List Addr} {H:Hp}
theorem adl:∀ (n:Nat) {v:V} {d e:D},Rep K ι H v d→Rep K ι H v e→pur n d=true→pur n e=true→eqD d e=true:=by
 intro n
 induction n with
 | zero=>intro v d e r q p1 p2;cases r<;>cases q<;>first | (simp [eqD];done) | (cases p1;done) | (cases p2;done)
 | succ n ih =>
  intro v d e r q p1 p2
  cases r with
  | @tup a vs xs h rs =>
   cases q with
   | @tup _ us ys h' qs =>
    rw [h] at h';cases h'
    simp only [eqD]
    simp only [pur,List.all_eq_true] at p1 p2
    clear h
    induction rs using Reps.rec (motive_1:=fun _ _ _=>True) generalizing ys with
    | nil=>cases qs;rfl
    | cons r rs _ ih2 =>
     cases qs with
     | cons q qs =>
      simp only [a76,Bool.and_eq_true]
      exact ⟨ih r q (p1 _ (List.mem_cons_self ..)) (p2 _ (List.mem_cons_self ..)),ih2 qs (fun x hx=>p1 x (List.mem_cons_of_mem _ hx)) (fun x hx=>p2 x (List.mem_cons_of_mem _ hx))⟩
    | _=>trivial
   | _=>cases p2
  | _=>cases q<;>first | (simp [eqD];done) | (cases p1;done) | (cases p2;done)
theorem a1y {n:Nat} {v:V} {d:D} (r:Rep K ι H v d) (p:pur n d=true):(∃ xs,d = .tup xs)∨(a0i v=true∧a0l d=true):=by
 cases r<;>first | exact .inr ⟨rfl,rfl⟩ | exact .inl ⟨_,rfl⟩ | (cases n<;>cases p)
theorem a5b {x y:V} {d e:D} (r:Rep K ι H x d) (q:Rep K ι H y e) (f:a0l d=true) (g:a0l e=true):eqV x y=eqD d e:=by
 cases r<;>cases q<;>first | rfl | (simp [eqV,eqD];done) | (cases f;done) | (cases g;done)
open SeqAt in
theorem af6 {P:Program} {w:World} {s:Shared} (hok:HOk P w H s.heap):∀ (n:Nat) (A:Around) {x y:V} {u v:Value} {d e:D},Rep K ι H x d→Rep K ι H y e→RelV x u→RelV y v→pur n d=true→pur n e=true→A.units+n<cLine→EqAt A s u v (eqD d e):=by
 intro n
 induction n with
 | zero =>
  intro A x y u v d e r q rx ry p1 p2 hu
  rcases a1y r p1 with ⟨xs,rfl⟩ | ⟨f1,f2⟩
  ·cases p1
  ·rcases a1y q p2 with ⟨xs,rfl⟩ | ⟨g1,g2⟩
   ·cases p2
   ·rw [← a5b r q f2 g2];exact aab rx ry f1 g1
 | succ n ih =>
  intro A x y u v d e r q rx ry p1 p2 hu
  rcases a1y r p1 with ⟨xs,rfl⟩ | ⟨f1,f2⟩
  ·cases r with
   | @tup a vs _ ha rs =>
    cases rx
    obtain ⟨_,its,r1,t1⟩:=(Rd.of ha).ok hok
    rcases a1y q p2 with ⟨ys,rfl⟩ | ⟨g1,g2⟩
    ·cases q with
     | @tup b us _ hb qs =>
      cases ry
      obtain ⟨_,its2,r2,t2⟩:=(Rd.of hb).ok hok
      by_cases hab:a=b
      ·subst hab
       rw [adl (n+1) (.tup ha rs) (.tup hb qs) p1 p2]
       exact EqAt.same _
      ·have l1:its.toArray.size=xs.length:=by rw [List.size_toArray,← r1.length,rs.len]
       have l2:its2.toArray.size=ys.length:=by rw [List.size_toArray,← r2.length,qs.len]
       have:=RcAt.tuples (A:=A) (s:=s) (e:=pairE xs ys) t1 t2 (by omega) (fun j h1 h2=>by
        have j1:j<xs.length:=by omega
        have j2:j<ys.length:=by omega
        obtain ⟨v1,e1,q1⟩:=rs.get (List.getElem?_eq_getElem j1)
        obtain ⟨v2,e2,q2⟩:=qs.get (List.getElem?_eq_getElem j2)
        obtain ⟨u1,e3,q3⟩:=r1.get e1
        obtain ⟨u2,e4,q4⟩:=r2.get e2
        have f1:its.toArray[j]=u1:=by simpa using (List.getElem?_eq_some_iff.mp e3).2
        have f2:its2.toArray[j]=u2:=by simpa using (List.getElem?_eq_some_iff.mp e4).2
        have pe:pairE xs ys j=eqD xs[j] ys[j]:=by simp [pairE,List.getElem?_eq_getElem j1,List.getElem?_eq_getElem j2]
        rw [f1,f2,pe]
        simp only [pur,List.all_eq_true] at p1 p2
        exact ih A.in1 q1 q2 q3 q4 (p1 _ (List.getElem_mem j1)) (p2 _ (List.getElem_mem j2)) (by rw [Around.in1_units];omega))
       rw [l1,l2,a0y] at this
       exact EqAt.of_refs hab this
    ·have e0:eqD (.tup xs) e=false:=by cases e<;>first | rfl | (cases g2;done)
     rw [e0]
     cases y with
     | non=>cases ry;exact EqAt.tuple_none t1 (by omega)
     | bl b=>cases ry;exact EqAt.tuple_bool b t1 (by omega)
     | int b=>obtain ⟨t,rfl⟩:=ry;exact EqAt.tuple_int b t t1 (by omega)
     | str b=>obtain ⟨t,rfl⟩:=ry;exact EqAt.tuple_str b t t1 (by omega)
     | _=>cases g1
  ·rcases a1y q p2 with ⟨ys,rfl⟩ | ⟨g1,g2⟩
   ·cases q with
    | @tup b us _ hb qs =>
     cases ry
     obtain ⟨_,its2,r2,t2⟩:=(Rd.of hb).ok hok
     have e0:eqD d (.tup ys)=false:=by cases d<;>first | rfl | (cases f2;done)
     rw [e0]
     cases x with
     | non=>cases rx;exact EqAt.none_tuple t2 (by omega)
     | bl b=>cases rx;exact EqAt.bool_tuple b t2 (by omega)
     | int b=>obtain ⟨t,rfl⟩:=rx;exact EqAt.int_tuple b t t2 (by omega)
     | str b=>obtain ⟨t,rfl⟩:=rx;exact EqAt.str_tuple b t t2 (by omega)
     | _=>cases f1
   ·rw [← a5b r q f2 g2];exact aab rx ry f1 g1
open SeqAt in
theorem ajf {A:Around} {s:Shared} {y x:V} {u v:Value} (ry:RelV y u) (rx:RelV x v) (fy:a0i y=true) (fx:a0i x=true):RcAt A s u v (eqV y x):=by
 cases y with
 | non =>
  cases ry
  cases x with
  | non=>cases rx;exact RcAt.none_none
  | bl b=>cases rx;exact RcAt.none_bool b
  | int b=>obtain ⟨t,rfl⟩:=rx;exact RcAt.none_int b t
  | str b=>obtain ⟨t,rfl⟩:=rx;exact RcAt.none_str b t
  | _=>cases fx
 | bl a =>
  cases ry
  cases x with
  | non=>cases rx;exact RcAt.bool_none a
  | bl b=>cases rx;exact RcAt.bool_bool a b
  | int b=>obtain ⟨t,rfl⟩:=rx;exact RcAt.bool_int a b t
  | str b=>obtain ⟨t,rfl⟩:=rx;exact RcAt.bool_str a b t
  | _=>cases fx
 | int a =>
  obtain ⟨t',rfl⟩:=ry
  cases x with
  | non=>cases rx;exact RcAt.int_none a t'
  | bl b=>cases rx;exact RcAt.int_bool a t' b
  | int b=>obtain ⟨t,rfl⟩:=rx;exact RcAt.int_int a t' b t
  | str b=>obtain ⟨t,rfl⟩:=rx;exact RcAt.int_str a t' b t
  | _=>cases fx
 | str a =>
  obtain ⟨t',rfl⟩:=ry
  cases x with
  | non=>cases rx;exact RcAt.str_none a t'
  | bl b=>cases rx;exact RcAt.str_bool a t' b
  | int b=>obtain ⟨t,rfl⟩:=rx;exact RcAt.str_int a t' b t
  | str b=>obtain ⟨t,rfl⟩:=rx;exact RcAt.str_str a t' b t
  | _=>cases fx
 | _=>cases fy
open SeqAt in
theorem adm {A:Around} {s:Shared} {y x:V} {u v:Value} (ry:RelV y u) (rx:RelV x v) (fy:a0i y=true) (fx:a0i x=true):RcNeAt A s u v (!eqV y x):=by
 cases y with
 | non =>
  cases ry
  cases x with
  | non=>cases rx;exact RcNeAt.none_none
  | bl b=>cases rx;exact RcNeAt.none_bool b
  | int b=>obtain ⟨t,rfl⟩:=rx;exact RcNeAt.none_int b t
  | str b=>obtain ⟨t,rfl⟩:=rx;exact RcNeAt.none_str b t
  | _=>cases fx
 | bl a =>
  cases ry
  cases x with
  | non=>cases rx;exact RcNeAt.bool_none a
  | bl b=>cases rx;exact RcNeAt.bool_bool a b
  | int b=>obtain ⟨t,rfl⟩:=rx;exact RcNeAt.bool_int a b t
  | str b=>obtain ⟨t,rfl⟩:=rx;exact RcNeAt.bool_str a b t
  | _=>cases fx
 | int a =>
  obtain ⟨t',rfl⟩:=ry
  cases x with
  | non=>cases rx;exact RcNeAt.int_none a t'
  | bl b=>cases rx;exact RcNeAt.int_bool a t' b
  | int b=>obtain ⟨t,rfl⟩:=rx;exact RcNeAt.int_int a t' b t
  | str b=>obtain ⟨t,rfl⟩:=rx;exact RcNeAt.int_str a t' b t
  | _=>cases fx
 | str a =>
  obtain ⟨t',rfl⟩:=ry
  cases x with
  | non=>cases rx;exact RcNeAt.str_none a t'
  | bl b=>cases rx;exact RcNeAt.str_bool a t' b
  | int b=>obtain ⟨t,rfl⟩:=rx;exact RcNeAt.str_int a t' b t
  | str b=>obtain ⟨t,rfl⟩:=rx;exact RcNeAt.str_str a t' b t
  | _=>cases fx
 | _=>cases fy
open SeqAt in
theorem tops {P:Program} {w:World} {s:Shared} {A:Around} (hok:HOk P w H s.heap) {x y:V} {u v:Value} {d e:D} (r:Rep K ι H x d) (q:Rep K ι H y e) (rx:RelV x u) (ry:RelV y v) (p1:pur 60 d=true) (p2:pur 60 e=true) (hu:A.units+64<cLine) :
  RcAt A s u v (eqD d e)∧RcNeAt A s u v (!eqD d e):=by
 rcases a1y r p1 with ⟨xs,rfl⟩ | ⟨f1,f2⟩
 ·cases r with
  | @tup a vs _ ha rs =>
   cases rx
   obtain ⟨_,its,r1,t1⟩:=(Rd.of ha).ok hok
   rcases a1y q p2 with ⟨ys,rfl⟩ | ⟨g1,g2⟩
   ·cases q with
    | @tup b us _ hb qs =>
     cases ry
     obtain ⟨_,its2,r2,t2⟩:=(Rd.of hb).ok hok
     have l1:its.toArray.size=xs.length:=by rw [List.size_toArray,← r1.length,rs.len]
     have l2:its2.toArray.size=ys.length:=by rw [List.size_toArray,← r2.length,qs.len]
     have step:∀ j (h1:j<its.toArray.size) (h2:j<its2.toArray.size),EqAt A.in1 s its.toArray[j] its2.toArray[j] (pairE xs ys j):=fun j h1 h2=>by
      have j1:j<xs.length:=by omega
      have j2:j<ys.length:=by omega
      obtain ⟨v1,e1,q1⟩:=rs.get (List.getElem?_eq_getElem j1)
      obtain ⟨v2,e2,q2⟩:=qs.get (List.getElem?_eq_getElem j2)
      obtain ⟨u1,e3,q3⟩:=r1.get e1
      obtain ⟨u2,e4,q4⟩:=r2.get e2
      have f1:its.toArray[j]=u1:=by simpa using (List.getElem?_eq_some_iff.mp e3).2
      have f2:its2.toArray[j]=u2:=by simpa using (List.getElem?_eq_some_iff.mp e4).2
      have pe:pairE xs ys j=eqD xs[j] ys[j]:=by simp [pairE,List.getElem?_eq_getElem j1,List.getElem?_eq_getElem j2]
      rw [f1,f2,pe]
      simp only [pur,List.all_eq_true] at p1 p2
      exact af6 hok 59 A.in1 q1 q2 q3 q4 (p1 _ (List.getElem_mem j1)) (p2 _ (List.getElem_mem j2)) (by rw [Around.in1_units];omega)
     have c1:=RcAt.tuples (A:=A) (s:=s) (e:=pairE xs ys) t1 t2 (by omega) step
     have c2:=RcNeAt.tuples (A:=A) (s:=s) (e:=pairE xs ys) t1 t2 (by omega) step
     rw [l1,l2,a0y] at c1 c2
     exact ⟨c1,c2⟩
   ·have e0:eqD (.tup xs) e=false:=by cases e<;>first | rfl | (cases g2;done)
    rw [e0]
    cases y with
    | non=>cases ry;exact ⟨RcAt.tuple_none t1 (by omega),RcNeAt.tuple_none t1 (by omega)⟩
    | bl b=>cases ry;exact ⟨RcAt.tuple_bool b t1 (by omega),RcNeAt.tuple_bool b t1 (by omega)⟩
    | int b=>obtain ⟨t,rfl⟩:=ry;exact ⟨RcAt.tuple_int b t t1 (by omega),RcNeAt.tuple_int b t t1 (by omega)⟩
    | str b=>obtain ⟨t,rfl⟩:=ry;exact ⟨RcAt.tuple_str b t t1 (by omega),RcNeAt.tuple_str b t t1 (by omega)⟩
    | _=>cases g1
 ·rcases a1y q p2 with ⟨ys,rfl⟩ | ⟨g1,g2⟩
  ·cases q with
   | @tup b us _ hb qs =>
    cases ry
    obtain ⟨_,its2,r2,t2⟩:=(Rd.of hb).ok hok
    have e0:eqD d (.tup ys)=false:=by cases d<;>first | rfl | (cases f2;done)
    rw [e0]
    cases x with
    | non=>cases rx;exact ⟨RcAt.none_tuple t2 (by omega),RcNeAt.none_tuple t2 (by omega)⟩
    | bl b=>cases rx;exact ⟨RcAt.bool_tuple b t2 (by omega),RcNeAt.bool_tuple b t2 (by omega)⟩
    | int b=>obtain ⟨t,rfl⟩:=rx;exact ⟨RcAt.int_tuple b t t2 (by omega),RcNeAt.int_tuple b t t2 (by omega)⟩
    | str b=>obtain ⟨t,rfl⟩:=rx;exact ⟨RcAt.str_tuple b t t2 (by omega),RcNeAt.str_tuple b t t2 (by omega)⟩
    | _=>cases f1
  ·rw [← a5b r q f2 g2];exact ⟨ajf rx ry f1 g1,adm rx ry f1 g1⟩
def anf (K:PySem.W.Frag):R2:=fun x y H Q=>∃ ι d e,Rep K ι H x d∧Rep K ι H y e∧pur 60 d=true∧pur 60 e=true∧Q (.bl (eqD d e)) H
def ang (K:PySem.W.Frag):R2:=fun x y H Q=>∃ ι d e,Rep K ι H x d∧Rep K ι H y e∧pur 60 d=true∧pur 60 e=true∧Q (.bl (!eqD d e)) H
theorem ud {X:Cx} (hu:X.A.units+64<cLine):OpR X (compareOp .Eq) (anf X.K):=by
 intro pins s σ H x y v u Q I rx ry h
 obtain ⟨ι,d,e,r,q,p1,p2,hq⟩:=h
 exact (tops (A:=X.A) I.hok r q rx ry p1 p2 hu).1 X.prog X.w X.xe _ ⟨.bl _,H,I,rfl,hq⟩
theorem aaw {X:Cx} (hu:X.A.units+64<cLine):OpR X (compareOp .NotEq) (ang X.K):=by
 intro pins s σ H x y v u Q I rx ry h
 obtain ⟨ι,d,e,r,q,p1,p2,hq⟩:=h
 exact (tops (A:=X.A) I.hok r q rx ry p1 p2 hu).2 X.prog X.w X.xe _ ⟨.bl _,H,I,rfl,hq⟩
def hEq (x y:D) (h:Hd):R D:=if pur 60 x=true∧pur 60 y=true then .ok (.bl (eqD x y)) h else .no
def hNe (x y:D) (h:Hd):R D:=if pur 60 x=true∧pur 60 y=true then .ok (.bl (!eqD x y)) h else .no
theorem m8:a0c K hEq (anf K):=by
 intro E ι H h x y dx dy Q rx ry hr o
 unfold hEq at o
 split at o
 ·rename_i hc;exact ⟨ι,dx,dy,rx,ry,hc.1,hc.2,ans o (.bl _) hr⟩
 ·exact o.elim
theorem a77:a0c K hNe (ang K):=by
 intro E ι H h x y dx dy Q rx ry hr o
 unfold hNe at o
 split at o
 ·rename_i hc;exact ⟨ι,dx,dy,rx,ry,hc.1,hc.2,ans o (.bl _) hr⟩
 ·exact o.elim
end
section
variable {X:Cx} {E:XD} {K:PySem.W.Frag}
def aax:SE:=fun _ h=>.ok (.ref h.length) (h++[.dK []])
theorem aay {pos:Pos}:ME X E (.Dict [] [] pos) aax:=by
 refine PE.weak ad6 fun σ H Q ⟨ι,τ,h,S,Rh,o⟩=>fun p hp=>?_
 exact o (ι++[p]) _ _ (a7x hp _) (.ref (by rw [List.getElem?_append_right (by rw [Rh.len];exact Nat.le_refl _),Rh.len];simp)) (Rh.add hp ⟨[],uf,rfl, .nil⟩)
def a3h:D→D→Hd→R D
 | .int i, .int j,h=>.ok (.int (i+j)) h
 | .str x, .str y,h=>if x.length+y.length≤LINE then .ok (.str (x++y)) h else .no
 | _,_,_=>.no
theorem a2j:a0c K a3h (fun x y H Q=>rI0 (fun i j=>.int (i+j)) x y H Q∨∃ i j,x = .str i∧y = .str j∧i.length+j.length≤sizeLine∧Q (.str (i++j)) H):=by
 intro E ι H h x y dx dy Q rx ry hr o
 cases rx with
 | int i =>
  cases ry with
  | int j=>exact .inl ⟨i,j,rfl,rfl,ans o (.int _) hr⟩
  | _=>exact o.elim
 | str i =>
  cases ry with
  | str j =>
   by_cases hc:i.length+j.length≤LINE
   ·simp only [a3h,if_pos hc] at o;exact .inr ⟨i,j,rfl,rfl,ll hc,ans o (.str _) hr⟩
   ·simp only [a3h,if_neg hc] at o;exact o.elim
  | _=>exact o.elim
 | _=>exact o.elim
theorem aaz:bootBuiltins "max" = some (.builtin "max"):=by first | exact PySem.boot_max | exact PyProof.Rows.boot_max
theorem ajg:bootBuiltins "min" = some (.builtin "min"):=by first | exact PySem.boot_min | exact PyProof.Rows.boot_min
theorem ab0:bootBuiltins "bool" = some (.type "bool"):=by first | exact PySem.boot_bool | exact PyProof.Rows.boot_bool
theorem ajh:bootBuiltins "sum" = some (.builtin "sum"):=by first | exact PySem.boot_sum | exact PyProof.Rows.boot_sum
theorem a0z {e:Expr} {es:List Expr} {g:SG} {ks:SGs} (h1:MG X E e g) (h2:MGs X E es ks) (hs:(assignEach (e::es) X.env).map (·.2)=assign e X.env::(assignEach es X.env).map (·.2):=by rfl):MGs X E (e::es) (a2e g ks) :=
 PGs.weak (acp h1 h2 hs) fun vs σ H Q q=>adc q
end
end MI
namespace ZP
open PySem PySem.Spec PySem.Builtin PySem.Builtin.SmallTypes
end ZP
namespace ZP
open PySem PySem.Spec PySem.Builtin PySem.Builtin.SmallTypes
end ZP
namespace ZP
open PySem PySem.Spec PySem.Builtin PySem.Builtin.SmallTypes L2
inductive Srk where
 | tup (a:Addr) | lst (a:Addr) | str (x:Str)
def Srk.v:Srk→V
 | .tup a=>.ref a
 | .lst a=>.ref a
 | .str x=>.str x
def its (H:Hp):Srk→Option (List V)
 | .tup a=>match H a with | some (.tup vs)=>some vs | _=>none
 | .lst a=>match H a with | some (.lst vs)=>some vs | some (.frz _ (.lst vs))=>some vs | _=>none
 | .str x=>some (a0s x)
def val (t:Tok):Srk→Value
 | .tup a=>.ref a
 | .lst a=>.ref a
 | .str x=>.str x t
end ZP
namespace ZP
open PySem PySem.Spec PySem.Builtin PySem.Builtin.SmallTypes L2
end ZP
namespace MI
open PySem PySem.Spec L2 ZP
def srcOf (d:D) (h:Hd):Option (List D × (Hd→Prop)):=match d with
 | .tup xs=>some (xs,fun _=>True)
 | .rol xs=>some (xs,fun _=>True)
 | .str x=>some (zb x,fun _=>True)
 | .ref i=>(match h[i]? with | some (.lst xs)=>some (xs,fun h=>h[i]? = some (.lst xs)) | _=>none)
 | _=>none
def ami (x y:D) (h:Hd):R Itm:=match srcOf x h,srcOf y h with
 | some (xs,c1),some (ys,c2)=>.ok ⟨(xs.zip ys).map fun p=>.tup [p.1,p.2],fun h=>c1 h∧c2 h⟩ h
 | _,_=>.no
def anh (f g:SE):SI:=fun τ h=>(f τ h).bind fun x h1=>(g τ h1).bind fun y h2=>ami x y h2
end MI
namespace MI
open PySem PySem.Spec L2
end MI
namespace MI
open PySem PySem.Spec L2
def FrzOf (L:List Addr) (H H2:Hp):Prop:=∀ a,(a ∉ L→H2 a=H a)∧(a∈L→∃ o u,H a=some u∧H2 a=some (.frz o u))
def a99 (H:Hp) (L:List Addr):Prop:=∀ a∈L,(∃ xs,H a=some (.lst xs))∨(∃ kvs,H a=some (.dK kvs))∨∃ kvs,H a=some (.dT kvs)
def still:HO→Prop
 | .lst _=>False | .dK _=>False | .dT _=>False
 | _=>True
theorem FrzOf.still {L:List Addr} {H H2:Hp} (f:FrzOf L H H2) (ab:a99 H L) {a:Addr} {u:HO} (e:H a=some u) (st:MI.still u):H2 a=some u:=by
 rw [(f a).1 fun z=>?_]
 ·exact e
 ·rcases ab a z with ⟨_,q⟩ | ⟨_,q⟩ | ⟨_,q⟩<;>(rw [e] at q;cases q;exact st)
theorem Inv.frz {X:Cx} {pins:List (Addr × Obj)} {σ:St} {H:Hp} {s:Shared} {L:List Addr} (I:Inv X pins σ H s) (ab:a99 H L):∃ H2,FrzOf L H H2∧Inv X pins σ H2 s:=by
 have obj:∀ a∈L,∀ u,H a=some u→∃ o,s.heap.get? a=some o:=fun a ha u e=>by
  rcases ab a ha with ⟨_,q⟩ | ⟨_,q⟩ | ⟨_,q⟩
  ·obtain ⟨_,_,_,_,z⟩:=I.hok a _ q;exact ⟨_,z⟩
  ·obtain ⟨_,_,_,_,z⟩:=I.hok a _ q
   obtain ⟨o,_,_,z,_⟩:=z
   exact ⟨o,z⟩
  ·obtain ⟨_,_,_,_,o,_,_,z,_⟩:=I.hok a _ q;exact ⟨o,z⟩
 let H2:Hp:=fun a=>if a∈L then (match s.heap.get? a,H a with | some o,some u=>some (.frz o u) | _,w=>w) else H a
 have f:FrzOf L H H2:=fun a=>⟨fun h=>by simp [H2,h],fun h=>by
  obtain ⟨u,e⟩:∃ u,H a=some u:=by
   rcases ab a h with ⟨_,q⟩ | ⟨_,q⟩ | ⟨_,q⟩<;>exact ⟨_,q⟩
  obtain ⟨o,eo⟩:=obj a h u e
  exact ⟨o,u,e,by simp [H2,h,e,eo]⟩⟩
 refine ⟨H2,f,?_⟩
 have mv:∀ a u,ObjOk X.prog X.w H s.heap a u→ObjOk X.prog X.w H2 s.heap a u:=fun a u x=>x.stay (fun b v _ q=>q) (fun c q=>f.still ab q True.intro) fun c xs q=>f.still ab q True.intro
 have ok:HOk X.prog X.w H2 s.heap:=fun a u e=>by
  by_cases hl:a∈L
  ·obtain ⟨u0,e0⟩:∃ u,H a=some u:=by
    rcases ab a hl with ⟨_,q⟩ | ⟨_,q⟩ | ⟨_,q⟩<;>exact ⟨_,q⟩
   obtain ⟨o,eo⟩:=obj a hl u0 e0
   have e':H2 a=some (.frz o u0):=by simp [H2,hl,e0,eo]
   rw [e'] at e
   cases e
   exact ⟨eo,mv a u0 (I.hok a u0 e0)⟩
  ·rw [(f a).1 hl] at e
   exact mv a u (I.hok a u e)
 have fn:∀ b,H b=none→H2 b=none:=fun b n=>by
  rw [(f b).1 fun z=>?_]
  ·exact n
  ·rcases ab b z with ⟨_,q⟩ | ⟨_,q⟩ | ⟨_,q⟩<;>(rw [n] at q;cases q)
 have un:Un X.fs [] H H2 s.heap s.heap:=⟨fun b o q _ _ _=>q,fun b o q _ _ _=>⟨o.slots,q⟩,fun b o _ n _=>fn b n,fun b o q _=>⟨o,q⟩,fun b xs q=>f.still ab q True.intro,fun b o u q=>f.still ab q True.intro,fun b ps q=>⟨#[],by rw [f.still ab q True.intro];simp⟩⟩
 exact I.un (t':=s.toks) un ok
theorem ab1 {X:Cx} {e:Expr} {t:TE} (h:PE X e t):PE X e (fun σ H Q=>t σ H fun v H1=>∃ L,a99 H1 L∧∀ H2,FrzOf L H1 H2→Q v H2):=fun pins s σ H Q I q =>
 thn (h pins s σ H _ I q) fun u s' ⟨v,H1,I1,r,L,ab,k⟩=>let ⟨H2,f,I2⟩:=Inv.frz I1 ab; ⟨v,H2,I2,r,k H2 f⟩
def zj {α β:Type} (f:α→Option β):List α→Option (List β)
 | []=>some []
 | x::xs=>match f x,zj f xs with | some y,some ys=>some (y::ys) | _,_=>none
open Classical in
noncomputable def a1n (n:Nat) (h:Hd):Nat→D→Option D
 | 0,_=>none
 | k+1,d=>if clo n d then some d else match d with
  | .tup xs=>(zj (a1n n h k) xs).map .tup
  | .rol xs=>(zj (a1n n h k) xs).map .rol
  | .scr xs=>(zj (a1n n h k) xs).map .scr
  | .rod ks xs=>(zj (a1n n h k) xs).map (.rod ks)
  | .rdT ks xs=>(zj (a1n n h k) xs).map (.rdT ks)
  | .ref i=>match h[i]? with
   | some (.lst xs)=>(zj (a1n n h k) xs).map .rol
   | some (.dK kvs)=>(zj (a1n n h k) (kvs.map (·.2))).map (.rod (kvs.map (·.1)))
   | some (.dT kvs)=>(zj (a1n n h k) (kvs.map (·.2))).map (.rdT (kvs.map (·.1)))
   | none=>none
  | _=>none
open Classical in
noncomputable def aji (n:Nat) (h:Hd) (k:Nat) (o:O):Option O:=if a1x n o then some o else match o with
 | .lst xs=>(zj (a1n n h k) xs).map .lst
 | .dK kvs=>(zj (a1n n h k) (kvs.map (·.2))).map fun ys=>.dK ((kvs.map (·.1)).zip ys)
 | .dT kvs=>(zj (a1n n h k) (kvs.map (·.2))).map fun ys=>.dT ((kvs.map (·.1)).zip ys)
abbrev FU:Nat:=20
noncomputable def a8b (n:Nat):R D→R D
 | .ok d h1=>match a1n n h1 FU d,zj (aji n h1 FU) (h1.take n) with | some d',some g=>.ok d' g | _,_=>.no
 | _=>.no
open Classical in
noncomputable def ahh (n:Nat):R D→R D
 | .ok (.ref i) h1=>(match h1[i]? with
   | some o=>if n≤i∧a1x n o∧∀ u∈h1.take n,a1x n u then .ok (.ref n) (h1.take n++[o]) else .no
   | none=>.no)
 | _=>.no
section
variable {K:PySem.W.Frag} {ι ι':List Addr} {H H' H2:Hp} {h1:Hd} {n:Nat} {L:List Addr}
theorem a8c (f:FrzOf L H' H2) (ab:a99 H' L) (κ:List Addr):Gw κ H' κ H2:=⟨⟨[],by simp⟩,fun a vs e=>f.still ab e True.intro,fun a o u e=>f.still ab e True.intro⟩
theorem jw {K:PySem.W.Frag} {ι κ:List Addr} {H H2:Hp} {f:D→Option D} (ih:∀ {v d d'},Rep K ι H v d→f d=some d'→Rep K κ H2 v d'):∀ {vs:List V} {ds ds':List D},Reps K ι H vs ds→zj f ds=some ds'→Reps K κ H2 vs ds'
 | _,_,_, .nil,e=>by cases e;exact .nil
 | _,x::xs,_, .cons r rs,e=>by
  unfold zj at e
  split at e
  ·rename_i y ys h1 h2
   cases e
   exact .cons (ih r h1) (jw ih rs h2)
  ·cases e
theorem a5c (hr:HRep K ι' H' h1) (hL:∀ (i:Nat) a,ι'[i]? = some a→n≤i→a∈L) (f:FrzOf L H' H2) (ab:a99 H' L):∀ (k:Nat) {v:V} {d d':D},Rep K ι' H' v d→a1n n h1 k d=some d'→Rep K (ι'.take n) H2 v d':=by
 intro k
 induction k with
 | zero=>intro v d d' r e;cases e
 | succ k ih =>
  intro v d d' r e
  unfold a1n at e
  split at e
  ·rename_i c
   cases e
   exact (r.cut c).monoW (a8c f ab _)
  ·rename_i c
   cases r with
   | tup h rs =>
    simp only [Option.map_eq_some_iff] at e
    obtain ⟨ys,e1,rfl⟩:=e
    exact .tup (f.still ab h True.intro) (jw (fun r e=>ih r e) rs e1)
   | rol h rs =>
    simp only [Option.map_eq_some_iff] at e
    obtain ⟨ys,e1,rfl⟩:=e
    exact .rol (h.monoW (a8c f ab ι')) (jw (fun r e=>ih r e) rs e1)
   | scr h rs =>
    simp only [Option.map_eq_some_iff] at e
    obtain ⟨ys,e1,rfl⟩:=e
    exact .scr (h.monoW (a8c f ab ι')) (jw (fun r e=>ih r e) rs e1)
   | rod h ek rs =>
    simp only [Option.map_eq_some_iff] at e
    obtain ⟨ys,e1,rfl⟩:=e
    exact .rod (f.still ab h True.intro) ek (jw (fun r e=>ih r e) rs e1)
   | rdT h ek rs =>
    simp only [Option.map_eq_some_iff] at e
    obtain ⟨ys,e1,rfl⟩:=e
    exact .rdT (f.still ab h True.intro) ek (jw (fun r e=>ih r e) rs e1)
   | @ref a i ha =>
    have hi:n≤i:=by
     simp only [clo] at c
     omega
    obtain ⟨o,u,e1,e2⟩:=(f a).2 (hL i a ha hi)
    obtain ⟨ob,h3,h4⟩:=hr.at ha
    simp only [h3] at e
    cases ob with
    | lst xs =>
     simp only [Option.map_eq_some_iff] at e
     obtain ⟨ys,e3,rfl⟩:=e
     obtain ⟨vs,h5,h6⟩:=h4
     rw [e1] at h5;cases h5
     exact .rol ⟨o,e2⟩ (jw (fun r e=>ih r e) h6 e3)
    | dK kvs =>
     simp only [Option.map_eq_some_iff] at e
     obtain ⟨ys,e3,rfl⟩:=e
     obtain ⟨us,h5,h6,h7⟩:=h4
     rw [e1] at h5;cases h5
     exact .rod e2 h6 (jw (fun r e=>ih r e) h7 e3)
    | dT kvs =>
     simp only [Option.map_eq_some_iff] at e
     obtain ⟨ys,e3,rfl⟩:=e
     obtain ⟨us,h5,h6,h7⟩:=h4
     rw [e1] at h5;cases h5
     exact .rdT e2 h6 (jw (fun r e=>ih r e) h7 e3)
   | non=>simp only [clo,not_true_eq_false] at c
   | exc _ _ _=>simp only [clo,not_true_eq_false] at c
   | bl b=>simp only [clo,not_true_eq_false] at c
   | int b=>simp only [clo,not_true_eq_false] at c
   | str b=>simp only [clo,not_true_eq_false] at c
   | ty b=>simp only [clo,not_true_eq_false] at c
theorem a8d {κ:Type} {H:Hp} {us:List (κ × V)} {ks:List κ} {ys:List D} (e:us.map (·.1)=ks) (r:Reps K ι H (us.map (·.2)) ys):KRep K ι H us (ks.zip ys):=by
 have l:ks.length=ys.length:=by rw [← e,List.length_map,← r.len,List.length_map]
 refine ⟨?_,?_⟩
 ·rw [List.map_fst_zip (by omega)];exact e
 ·rw [List.map_snd_zip (by omega)];exact r
theorem agk (hr:HRep K ι' H' h1) (hL:∀ (i:Nat) a,ι'[i]? = some a→n≤i→a∈L) (f:FrzOf L H' H2) (ab:a99 H' L) {k:Nat} {a:Addr} {o o':O} (na:a ∉ L) (r:ORep K ι' H' a o) (e:aji n h1 k o=some o'):ORep K (ι'.take n) H2 a o':=by
 have same:H2 a=H' a:=(f a).1 na
 unfold aji at e
 split at e
 ·rename_i c
  cases e
  exact (r.cut c).monoW (a8c f ab _) same
 ·cases o with
  | lst xs =>
   simp only [Option.map_eq_some_iff] at e
   obtain ⟨ys,e1,rfl⟩:=e
   obtain ⟨vs,h3,h4⟩:=r
   exact ⟨vs,by rw [same];exact h3,jw (fun r e=>a5c hr hL f ab k r e) h4 e1⟩
  | dK kvs =>
   simp only [Option.map_eq_some_iff] at e
   obtain ⟨ys,e1,rfl⟩:=e
   obtain ⟨us,h3,h4,h5⟩:=r
   exact ⟨us,by rw [same];exact h3,a8d h4 (jw (fun r e=>a5c hr hL f ab k r e) h5 e1)⟩
  | dT kvs =>
   simp only [Option.map_eq_some_iff] at e
   obtain ⟨ys,e1,rfl⟩:=e
   obtain ⟨us,h3,h4,h5⟩:=r
   exact ⟨us,by rw [same];exact h3,a8d h4 (jw (fun r e=>a5c hr hL f ab k r e) h5 e1)⟩
theorem a03 {α β:Type} {f:α→Option β}:∀ {xs:List α} {ys:List β},zj f xs=some ys→xs.length=ys.length∧∀ (i:Nat) y,ys[i]? = some y→∃ x,xs[i]? = some x∧f x=some y
 | [],_,e=>by cases e;exact ⟨rfl,fun i y e=>by simp at e⟩
 | x::xs,ys,e=>by
  unfold zj at e
  split at e
  ·rename_i y ys h1 h2
   cases e
   obtain ⟨l,g⟩:=a03 h2
   refine ⟨by simp [l],fun i z e=>?_⟩
   cases i with
   | zero=>simp at e;subst e;exact ⟨x,rfl,h1⟩
   | succ i=>simpa using g i z (by simpa using e)
  ·cases e
theorem ab2 (hr:HRep K ι' H' h1) (M:List Addr) (hM:∀ a∈M,a∈ι'):a99 H' M:=fun a ha=>by
 obtain ⟨i,hi⟩:=List.getElem?_of_mem (hM a ha)
 obtain ⟨o,_,q⟩:=hr.at hi
 cases o with
 | lst xs=>obtain ⟨vs,h,_⟩:=q;exact .inl ⟨_,h⟩
 | dK xs=>obtain ⟨vs,h,_⟩:=q;exact .inr (.inl ⟨_,h⟩)
 | dT xs=>obtain ⟨vs,h,_⟩:=q;exact .inr (.inr ⟨_,h⟩)
theorem a3i {α:Type} {l:List α} (nd:l.Nodup) {i j:Nat} {a:α} (h1:l[i]? = some a) (h2:l[j]? = some a):i=j:=by
 obtain ⟨l1,e1⟩:=List.getElem?_eq_some_iff.mp h1
 obtain ⟨l2,e2⟩:=List.getElem?_eq_some_iff.mp h2
 rcases Nat.lt_trichotomy i j with l | l | l
 ·exact absurd (e1.trans e2.symm) (List.pairwise_iff_getElem.mp nd i j l1 l2 l)
 ·exact l
 ·exact absurd (e2.trans e1.symm) (List.pairwise_iff_getElem.mp nd j i l2 l1 l)
theorem ajj (g:Gr ι H ι' H') (f:FrzOf L H' H2) (ab:a99 H' L) (hL:∀ a∈L,H a=none) {m:List Addr} (hm:∀ a∈m,H a=none):Gr ι H (ι++m) H2:=by
 refine ⟨⟨m,rfl,hm⟩,fun a vs e=>f.still ab (g.tup a vs e) True.intro,fun a o u e=>f.still ab (g.frz a o u e) True.intro,fun a u e hn=>?_,fun a u e=>?_⟩
 ·rw [(f a).1 fun z=>by rw [hL a z] at e;cases e]
  exact g.oth a u e hn
 ·obtain ⟨u',e'⟩:=g.kp a u e
  rw [(f a).1 fun z=>by rw [hL a z] at e;cases e]
  exact ⟨u',e'⟩
theorem ab3 {d d':D} {v:V} {g':Hd} (g:Gr ι H ι' H') (rb:Rep K ι' H' v d) (hr:HRep K ι' H' h1) (e:a8b ι.length (.ok d h1) = .ok d' g') :
  ∃ L,a99 H' L∧∀ H2,FrzOf L H' H2→Gr ι H ι H2∧Rep K ι H2 v d'∧HRep K ι H2 g':=by
 obtain ⟨m,rfl,hm⟩:=g.pre
 have tk:(ι++m).take ι.length=ι:=by simp
 have ab:a99 H' m:=ab2 hr m fun a ha=>List.mem_append_right _ ha
 have hL:∀ (i:Nat) a,(ι++m)[i]? = some a→ι.length≤i→a∈m:=fun i a e hi=>by
  rw [List.getElem?_append_right hi] at e
  exact List.mem_of_getElem? e
 refine ⟨m,ab,fun H2 f=>?_⟩
 unfold a8b at e
 simp only at e
 split at e
 ·rename_i dd gg e1 e2
  cases e
  refine ⟨by simpa using ajj g f ab hm (m:=[]) (by simp),by have:=a5c hr hL f ab FU rb e1;rwa [tk] at this,?_⟩
  obtain ⟨l,gt⟩:=a03 e2
  have hl:=hr.len
  have ln:ι.length≤h1.length:=by rw [← hl];simp
  refine ⟨(List.nodup_append.mp hr.nd).1,by rw [← l,List.length_take];omega,fun i a o q1 q2=>?_⟩
  obtain ⟨x,hx,fx⟩:=gt i o q2
  have hi:i<ι.length:=(List.getElem?_eq_some_iff.mp q1).1
  rw [List.getElem?_take,if_pos hi] at hx
  have q3:(ι++m)[i]? = some a:=by rw [List.getElem?_append_left hi];exact q1
  have na:a ∉ m:=fun z=>(List.nodup_append.mp hr.nd).2.2 a (List.mem_of_getElem? q1) a z rfl
  have:=agk hr hL f ab na (hr.obj i a x q3 hx) fx
  rwa [tk] at this
 ·cases e
theorem adn {d d':D} {v:V} {g':Hd} (g:Gr ι H ι' H') (rb:Rep K ι' H' v d) (hr:HRep K ι' H' h1) (e:ahh ι.length (.ok d h1) = .ok d' g') :
  ∃ b,H b=none∧Gr ι H (ι++[b]) H'∧Rep K (ι++[b]) H' v d'∧HRep K (ι++[b]) H' g':=by
 obtain ⟨m,rfl,hm⟩:=g.pre
 have tk:(ι++m).take ι.length=ι:=by simp
 have up:∀ b,Gw ι H' (ι++[b]) H':=fun b=>⟨⟨[b],rfl⟩,fun _ _ h=>h,fun _ _ _ h=>h⟩
 cases rb with
 | @ref b i hb =>
  unfold ahh at e
  simp only at e
  split at e
  ·rename_i ob ho
   split at e
   ·rename_i hc
    obtain ⟨hi,c1,c2⟩:=hc
    cases e
    have hb':=hb
    rw [List.getElem?_append_right hi] at hb'
    have bm:b∈m:=List.mem_of_getElem? hb'
    obtain ⟨nd1,nd2,nd3⟩:=List.nodup_append.mp hr.nd
    have hl:=hr.len
    have ln:ι.length≤h1.length:=by rw [← hl];simp
    have lt:(h1.take ι.length).length=ι.length:=by rw [List.length_take];omega
    refine ⟨b,hm b bm,⟨⟨[b],rfl,by simpa using hm b bm⟩,g.tup,g.frz,g.oth,g.kp⟩, .ref (by simp),?_⟩
    refine ⟨List.nodup_append.mpr ⟨nd1,by simp,fun a ha c hc z=>nd3 a ha c (by rw [List.mem_singleton.mp hc];exact bm) z⟩,by simp [lt],fun j a o q1 q2=>?_⟩
    by_cases hj:j<ι.length
    ·rw [List.getElem?_append_left hj] at q1
     rw [List.getElem?_append_left (by omega)] at q2
     have q2':=q2
     rw [List.getElem?_take,if_pos hj] at q2'
     have:=(hr.obj j a o (by rw [List.getElem?_append_left hj];exact q1) q2').cut (c2 o (List.mem_of_getElem? q2))
     rw [tk] at this
     exact this.monoW (up b) rfl
    ·have hj2:j<(ι++[b]).length:=(List.getElem?_eq_some_iff.mp q1).1
     have:j=ι.length:=by simp at hj2;omega
     subst this
     rw [List.getElem?_append_right (Nat.le_refl _)] at q1
     rw [List.getElem?_append_right (by omega),lt] at q2
     simp at q1 q2
     subst q1 q2
     have:=(hr.obj i b ob hb ho).cut c1
     rw [tk] at this
     exact this.monoW (up b) rfl
   ·cases e
  ·cases e
 | _=>cases e
end
noncomputable def sZ (f:SE):SE:=fun τ h=>a8b h.length (f τ h)
abbrev aoq (Q:VK):VK:=fun v H1=>∃ L,a99 H1 L∧∀ H2,FrzOf L H1 H2→Q v H2
theorem amj {K:PySem.W.Frag} {E:XD} {fa:SE} {σ:St} {H:Hp} {Q:VK} (q:lift K E (w6 K) (sZ fa) σ H Q):lift K E (w6 K) fa σ H (aoq Q):=by
 obtain ⟨ι,τ,h,S,Rh,o⟩:=q
 refine ⟨ι,τ,h,S,Rh,?_⟩
 unfold sZ at o
 rw [← Rh.len] at o
 cases hf:fa τ h with
 | ok d h1 =>
  rw [hf] at o
  intro ι' H' v g r hr
  cases hz:a8b ι.length (.ok d h1) with
  | ok d' g' =>
   rw [hz] at o
   obtain ⟨L,ab,k⟩:=ab3 g r hr hz
   refine ⟨L,ab,fun H2 f=>?_⟩
   obtain ⟨k1,k2,k3⟩:=k H2 f
   exact o ι H2 v k1 k2 k3
  | ex c hx=>unfold a8b at hz;simp only at hz;split at hz<;>cases hz
  | no=>rw [hz] at o;exact o.elim
 | ex c h1=>rw [hf] at o;exact o.elim
 | no=>rw [hf] at o;exact o.elim
theorem a5p {X:Cx} {E:XD} {e:Expr} {fa:SE} (ha:ME X E e fa):ME X E e (sZ fa):=PE.weak (ab1 ha) fun σ H Q q=>amj q
def refOf:D→Option Nat
 | .ref i=>some i
 | _=>none
def a0m (ds:List D):List Nat:=ds.filterMap refOf
def zp:Nat→List D→List D
 | _,[]=>[]
 | k,d::ds=>match d with
  | .ref _=>.ref k::zp (k+1) ds
  | d=>d::zp k ds
def qe:Hd→List Nat→List O→Hd
 | h,i::is,o::os=>qe (h.set i o) is os
 | h,_,_=>h
def isRef (d:D):Prop:=∃ i,d = .ref i
open Classical in
noncomputable def ajk (m:Bool) (F:SF) (ds:List D) (h:Hd):R D:=match zj (fun i=>h[i]?) (a0m ds) with
 | none=>.no
 | some os=>if (a0m ds).Nodup∧(∀ d∈ds,clo 0 d∨isRef d)∧(∀ o∈os,a1x 0 o) then
   (match (if m then ahh os.length (F (zp 0 ds) os) else a8b os.length (F (zp 0 ds) os)) with
   | .ok d h1=>if ∀ o∈h1,a1x 0 o then
     (if m then .ok (.ref h.length) (qe h (a0m ds) h1++h1.drop os.length)
      else if clo 0 d then .ok d (qe h (a0m ds) h1) else .no) else .no
   | _=>.no)
  else .no
noncomputable def jj (m:Bool) (n:Nat) (F:SF):SF:=fun ds h=>if ds.length=n then ajk m F ds h else .no
section
variable {K:PySem.W.Frag} {ι ι':List Addr} {H H' H2:Hp} {h h1:Hd} {n:Nat}
theorem af7 (κ:List Addr):Gw [] H κ H:=⟨⟨κ,rfl⟩,fun _ _ h=>h,fun _ _ _ h=>h⟩
theorem Rep.any {v:V} {d:D} (r:Rep K ι H v d) (c:MI.clo 0 d) (κ:List Addr):Rep K κ H v d:=by
 have:=r.cut c
 rw [List.take_zero] at this
 exact this.monoW (af7 κ)
theorem ORep.any {a:Addr} {o:O} (r:ORep K ι H a o) (c:a1x 0 o) (κ:List Addr):ORep K κ H a o:=by
 have:=r.cut c
 rw [List.take_zero] at this
 exact this.monoW (af7 κ) rfl
theorem a6g {α:Type} (l:List α):∀ {is:List Nat},(∀ i∈is,i<l.length)→∃ ys,zj (fun i=>l[i]?) is=some ys
 | [],_=>⟨[],rfl⟩
 | i::is,hi=>by
  obtain ⟨ys,e⟩:=a6g l (is:=is) fun j hj=>hi j (List.mem_cons_of_mem _ hj)
  have:=hi i List.mem_cons_self
  exact ⟨l[i]::ys,by unfold zj;rw [e,List.getElem?_eq_getElem this]⟩
theorem a1o:∀ {ds:List D} {vs:List V} {pre κ:List Addr},Reps K ι H vs ds→(∀ d∈ds,clo 0 d∨isRef d)→zj (fun i=>ι[i]?) (a0m ds)=some κ→Reps K (pre++κ) H vs (zp pre.length ds)
 | [],_,_,_, .nil,_,_=>.nil
 | d::ds,_,pre,κ, .cons r rs,hc,e=>by
  have hc':∀ d∈ds,clo 0 d∨isRef d:=fun x hx=>hc x (List.mem_cons_of_mem _ hx)
  by_cases hd:isRef d
  ·obtain ⟨i,rfl⟩:=hd
   have e':zj (fun i=>ι[i]?) (i::a0m ds)=some κ:=e
   unfold zj at e'
   split at e'
   ·rename_i a κ' h1 h2
    cases e'
    cases r with
    | ref ha =>
     rw [ha] at h1;cases h1
     have:=a1o (pre:=pre++[a]) rs hc' h2
     simp only [List.append_assoc,List.singleton_append,List.length_append,List.length_singleton] at this
     refine .cons (.ref ?_) this
     rw [List.getElem?_append_right (Nat.le_refl _)]
     simp
   ·cases e'
  ·have c:=(hc d List.mem_cons_self).resolve_right hd
   have e1:a0m (d::ds)=a0m ds:=by
    unfold a0m
    cases d<;>first | rfl | exact absurd ⟨_,rfl⟩ hd
   have e2:zp pre.length (d::ds)=d::zp pre.length ds:=by
    cases d<;>first | rfl | exact absurd ⟨_,rfl⟩ hd
   rw [e1] at e
   rw [e2]
   exact .cons (r.any c _) (a1o rs hc' e)
theorem wk:∀ {is:List Nat} {os:List O} {h:Hd},(qe h is os).length=h.length
 | [],_,_=>by simp [qe]
 | _::_,[],_=>by simp [qe]
 | i::is,o::os,h=>by rw [qe,wk,List.length_set]
theorem a1p {i:Nat}:∀ {is:List Nat} {os:List O} {h:Hd},i ∉ is→(qe h is os)[i]? = h[i]?
 | [],_,_,_=>by simp [qe]
 | _::_,[],_,_=>by simp [qe]
 | j::is,o::os,h,n=>by
  rw [qe,a1p fun z=>n (List.mem_cons_of_mem _ z),List.getElem?_set_ne fun z=>n (by rw [z];exact List.mem_cons_self)]
theorem a6h {i:Nat} {o:O}:∀ {is:List Nat} {os:List O} {h:Hd} {j:Nat},is.Nodup→is[j]? = some i→os[j]? = some o→i<h.length→(qe h is os)[i]? = some o
 | [],_,_,_,_,e,_,_=>by simp at e
 | _::_,[],_,_,_,_,e,_=>by simp at e
 | k::is,o'::os,h,j,nd,e1,e2,hl=>by
  cases j with
  | zero =>
   simp at e1 e2
   subst e1 e2
   rw [qe,a1p (List.nodup_cons.mp nd).1,List.getElem?_set_self hl]
  | succ j =>
   rw [qe]
   exact a6h (j:=j) (List.nodup_cons.mp nd).2 (by simpa using e1) (by simpa using e2) (by simpa using hl)
theorem a6i {α:Type} {l:List α} (nl:l.Nodup) {is:List Nat} {ys:List α} (e:zj (fun i=>l[i]?) is=some ys) (ni:is.Nodup):ys.Nodup:=by
 obtain ⟨le,g⟩:=a03 e
 refine List.pairwise_iff_getElem.mpr fun i j hi hj lt z=>?_
 obtain ⟨x,h1,h2⟩:=g i _ (List.getElem?_eq_getElem hi)
 obtain ⟨y,h3,h4⟩:=g j _ (List.getElem?_eq_getElem hj)
 rw [← z] at h4
 have:=a3i nl h2 h4
 subst this
 have:=a3i ni h1 h3
 omega
theorem a8e {is:List Nat} {κ m:List Addr} {g:Hd} (hr:HRep K ι H h) (e1:zj (fun i=>ι[i]?) is=some κ) (nd:is.Nodup) (gr:Gr κ H (κ++m) H2) (hg:HRep K (κ++m) H2 g) (cg:∀ o∈g,a1x 0 o) (hm:m.length≤1) :
  Gr ι H (ι++m) H2∧HRep K (ι++m) H2 (qe h is g++g.drop κ.length):=by
 obtain ⟨l1,g1⟩:=a03 e1
 have mn:∀ a∈m,H a=none:=by
  obtain ⟨m',e,hm'⟩:=gr.pre
  rw [List.append_cancel_left e];exact hm'
 have sub:∀ a∈κ,a∈ι:=fun a ha=>by
  obtain ⟨j,hj⟩:=List.getElem?_of_mem ha
  obtain ⟨i,_,q⟩:=g1 j a hj
  exact List.mem_of_getElem? q
 have some_of:∀ a∈ι,∃ u,H a=some u:=fun a ha=>by
  obtain ⟨i,hi⟩:=List.getElem?_of_mem ha
  obtain ⟨o,_,q⟩:=hr.at hi
  obtain ⟨u,q,_⟩:=q.some
  exact ⟨u,q⟩
 have G:Gr ι H (ι++m) H2:=⟨⟨m,rfl,mn⟩,gr.tup,gr.frz,fun a u e n=>gr.oth a u e fun z=>n (sub a z),gr.kp⟩
 have lg:=hg.len
 rw [List.length_append] at lg
 refine ⟨G,?_,?_,fun j a o q1 q2=>?_⟩
 ·refine List.nodup_append.mpr ⟨hr.nd,(List.nodup_append.mp hg.nd).2.1,fun a ha b hb z=>?_⟩
  obtain ⟨u,q⟩:=some_of a ha
  rw [z,mn b hb] at q;cases q
 ·rw [List.length_append,List.length_append,wk,List.length_drop,hr.len];omega
 ·by_cases hj:j<ι.length
  ·rw [List.getElem?_append_left hj] at q1
   rw [List.getElem?_append_left (by rw [wk,← hr.len];exact hj)] at q2
   by_cases hp:j∈is
   ·obtain ⟨k,hk⟩:=List.getElem?_of_mem hp
    have hkl:k<κ.length:=by rw [← l1];exact (List.getElem?_eq_some_iff.mp hk).1
    obtain ⟨i,h3,h4⟩:=g1 k _ (List.getElem?_eq_getElem hkl)
    rw [hk] at h3;cases h3
    rw [q1] at h4
    have hkg:k<g.length:=by omega
    have e5:=a6h (h:=h) nd hk (List.getElem?_eq_getElem hkg) (by rw [← hr.len];exact hj)
    rw [e5] at q2
    cases q2
    have ea:(κ++m)[k]? = some a:=by rw [List.getElem?_append_left hkl,List.getElem?_eq_getElem hkl];exact h4.symm
    exact (hg.obj k a _ ea (List.getElem?_eq_getElem hkg)).any (cg _ (List.getElem_mem hkg)) _
   ·rw [a1p hp] at q2
    have r:=hr.obj j a o q1 q2
    obtain ⟨u,hu,_⟩:=r.some
    have na:a ∉ κ:=fun z=>by
     obtain ⟨k,hk⟩:=List.getElem?_of_mem z
     obtain ⟨i,h3,h4⟩:=g1 k a hk
     have:=a3i hr.nd q1 h4
     subst this
     exact hp (List.mem_of_getElem? h3)
    exact r.mono G (by rw [hu];exact gr.oth a u hu na)
  ·have q1':=q1
   rw [List.getElem?_append_right (by omega)] at q1
   rw [List.getElem?_append_right (by rw [wk,← hr.len];omega),wk,← hr.len,List.getElem?_drop] at q2
   have ea:(κ++m)[κ.length+(j - ι.length)]? = some a:=by rw [List.getElem?_append_right (by omega)];simpa using q1
   exact (hg.obj _ a o ea q2).any (cg o (List.mem_of_getElem? q2)) _
theorem ab4 {m:Bool} {F:SF} {vs:List V} {ds:List D} {Q:VK} (r:Reps K ι H vs ds) (hr:HRep K ι H h) (o:out K X0 (w6 K) ι H (jj m n F ds h) Q) (E:XK) :
  qj K n F vs H (fun v H1=>∃ L,a99 H1 L∧∀ H2,FrzOf L H1 H2→Q v H2) E:=by
 unfold jj at o
 split at o
 ·rename_i hl
  refine ⟨by rw [r.len];exact hl,?_⟩
  unfold ajk at o
  split at o
  ·exact o.elim
  ·rename_i os hos
   split at o
   ·rename_i hc
    obtain ⟨nd,hd,hcl⟩:=hc
    obtain ⟨l0,g0⟩:=a03 hos
    obtain ⟨κ,e1⟩:=a6g ι (is:=a0m ds) fun i hi=>by
     obtain ⟨j,hj⟩:=List.getElem?_of_mem hi
     have hjl:j<os.length:=by rw [← l0];exact (List.getElem?_eq_some_iff.mp hj).1
     obtain ⟨x,h3,h4⟩:=g0 j _ (List.getElem?_eq_getElem hjl)
     rw [hj] at h3;cases h3
     rw [hr.len]
     exact (List.getElem?_eq_some_iff.mp h4).1
    obtain ⟨l1,g1⟩:=a03 e1
    have lk:κ.length=os.length:=by omega
    have R0:Reps K κ H vs (zp 0 ds):=by simpa using a1o (pre:=[]) r hd e1
    have H0:HRep K κ H os:=by
     refine ⟨a6i hr.nd e1 nd,lk,fun j a ob q1 q2=>?_⟩
     obtain ⟨i,h3,h4⟩:=g1 j a q1
     obtain ⟨i',h5,h6⟩:=g0 j ob q2
     rw [h3] at h5;cases h5
     exact (hr.obj i a ob h4 h6).any (hcl ob (List.mem_of_getElem? q2)) _
    refine ⟨κ,zp 0 ds,os,R0,H0,?_⟩
    cases hF:F (zp 0 ds) os with
    | no=>rw [hF] at o;cases m<;>exact o.elim
    | ex c hx=>rw [hF] at o;cases m<;>exact o.elim
    | ok d h1 =>
     rw [hF] at o
     intro ι' H' v g rb hr1
     rw [← lk] at o
     cases m with
     | false =>
      simp only [Bool.false_eq_true,if_false] at o
      cases hz:a8b κ.length (.ok d h1) with
      | ok d' g' =>
       rw [hz] at o
       simp only at o
       obtain ⟨L,ab,k⟩:=ab3 g rb hr1 hz
       refine ⟨L,ab,fun H2 f=>?_⟩
       obtain ⟨k1,k2,k3⟩:=k H2 f
       split at o
       ·rename_i cg
        split at o
        ·rename_i cd
         have q:=a8e (m:=[]) hr e1 nd (by simpa using k1) (by simpa using k3) cg (by simp)
         have lg:=k3.len
         have dr:g'.drop κ.length=[]:=List.drop_eq_nil_of_le (by omega)
         rw [dr,List.append_nil,List.append_nil] at q
         exact o ι H2 v q.1 (k2.any cd _) q.2
        ·exact o.elim
       ·exact o.elim
      | ex c hx=>rw [hz] at o;exact o.elim
      | no=>rw [hz] at o;exact o.elim
     | true =>
      simp only [if_true] at o
      cases hz:ahh κ.length (.ok d h1) with
      | ok d' g' =>
       rw [hz] at o
       simp only at o
       obtain ⟨b,hb,k1,k2,k3⟩:=adn g rb hr1 hz
       refine ⟨[],fun a ha=>(by simp at ha),fun H2 f=>?_⟩
       have e2:H2=H':=by funext a;exact (f a).1 (by simp)
       subst e2
       split at o
       ·rename_i cg
        have q:=a8e (m:=[b]) hr e1 nd k1 k3 cg (by simp)
        refine o (ι++[b]) H2 v q.1 ?_ q.2
        have hd':d' = .ref κ.length:=by
         unfold ahh at hz
         split at hz
         ·rename_i i h2 hh
          injection hh with z1 z2
          split at hz
          ·split at hz
           ·injection hz with z3 z4;exact z3.symm
           ·cases hz
          ·cases hz
         ·cases hz
        subst hd'
        cases k2 with
        | ref hk =>
         rw [List.getElem?_append_right (Nat.le_refl _)] at hk
         simp at hk
         subst hk
         exact .ref (by rw [← hr.len];simp)
       ·exact o.elim
      | ex c hx=>rw [hz] at o;exact o.elim
      | no=>rw [hz] at o;exact o.elim
   ·exact o.elim
 ·exact o.elim
end
theorem d7 (m:Bool) {X:Cx} {k n:Nat} {f:Addr} {fd:FuncData} {ps:List Str} {x:Str} {F:SF} {ka:SA} {e:Expr} {es:List Expr} {p pos:Pos} (G:Dn X.prog X.w X.K X.mg X.base k x ps (qj X.K n F) f fd) (hr:Room k X.A) (hg:Gl X x) (ha:MA X X0 (e::es) ka)
  (hdb:(x == ("__debug__" : Str))=false:=by decide) (he:starEach (e::es) X.env=(false,eval e X.env)::starEach es X.env:=by rfl) (hpl:(backTo pos (starEach es X.env)).any (·.1)=false:=by rfl):ME X X0 (.Call (.Name x p) (e::es) [] pos) (sA (jj m n F) ka):=by
 refine PE.weak (ab1 (afv G.ok hr hg G.m G.kp G.b .nil ait ha hdb he hpl)) fun σ H Q ⟨ι,τ,h,S,Rh,o⟩=>?_
 refine ⟨ι,τ,h,S,Rh,dq o fun ds h1 ι1 H1 vs g1 r1 hr1 o1=>?_⟩
 rw [List.append_nil]
 exact ab4 r1 hr1 o1 _
theorem ab5 (m:Bool) {X:Cx} {k n:Nat} {f:Addr} {fd:FuncData} {ps:List Str} {x:Str} {F:SF} {p pos:Pos} (G:Dn X.prog X.w X.K X.mg X.base k x ps (qj X.K n F) f fd) (hr:Room k X.A) (hg:Gl X x) (hdb:(x == ("__debug__" : Str))=false:=by decide) :
  ME X X0 (.Call (.Name x p) [] [] pos) (sA (jj m n F) dm):=by
 refine PE.weak (ab1 (acz G.ok hr hg G.m G.kp G.b .nil ait hdb)) fun σ H Q ⟨ι,τ,h,S,Rh,o⟩=>?_
 exact ab4 (vs:=[]) .nil Rh o E0
end MI
namespace MI
open PySem PySem.Spec L2
def ahi:SS:=fun _ _=>.no
section
variable {X:Cx} {E:XD}
theorem aor {st:Stmt}:MS X E st ahi:=fun _ _ _ _ _ _ ⟨_,_,_,_,_,o⟩=>o.elim
theorem a8f {st:List Stmt}:MSs X E st ahi:=fun _ _ _ _ _ _ ⟨_,_,_,_,_,o⟩=>o.elim
end
theorem af8 {X:Cx} {st:Stmt} {t:TS} (h:PS X st t):PS X st (fun D σ H=>t { D with nx:=fun σ' H1=>∃ L,a99 H1 L∧∀ H2,FrzOf L H1 H2→D.nx σ' H2 } σ H):=fun pins s σ H D I q =>
 thn (h pins s σ H _ I q) fun f s' k=>by
  cases f with
  | next =>
   obtain ⟨σ',H1,I1,L,ab,k⟩:=k
   obtain ⟨H2,f,I2⟩:=Inv.frz I1 ab
   exact ⟨σ',H2,I2,k H2 f⟩
  | brk=>exact k
  | cont=>exact k
  | ret u=>exact k
theorem ab6 {K:PySem.W.Frag} {E:XD} {f:SE} {i:Nat} {N:Ends} {σ:St} {H:Hp} (q:a4v K E (jy i f) N σ H):lift K E (w6 K) f σ H (fun v H1=>N.nx (σ.set i (some v)) H1):=by
 obtain ⟨ι,τ,h,S,Rh,o⟩:=q
 exact ⟨ι,τ,h,S,Rh,pq o fun d h1 ι1 H1 v g1 r1 hr1 o1=>o1 ι1 H1 _ (.refl _ _) ((S.mono g1).set r1 i) hr1⟩
theorem ab7 {K:PySem.W.Frag} {E:XD} {fi:SI} {t:D→Option Sd} {fe:SE} {ix:List Nat} {n:Nat} {g:TG} {σ:St} {H:Hp} {Q:VK} (ht:acg K n g t) (q:lift K E (w6 K) (jn fi t fe ix) σ H Q):ad7 (lift K E (amf K) fi) (mj n ix) g (lift K E (w6 K) fe) σ H Q:=by
 obtain ⟨ι,τ,h,Sr,Rh,o⟩:=q
 refine ⟨ι,τ,h,Sr,Rh,dq o fun it h1 ι1 H1 J g1 r1 hr1 o1=>?_⟩
 by_cases hl:it.xs.length≤LINE
 ·rw [if_pos hl] at o1
  exact a85 r1 ht (a2i (Sr.mono g1) ix) hr1 hl o1
 ·rw [if_neg hl] at o1;exact o1.elim
theorem ado {K:PySem.W.Frag} {E:XD} {fi:SI} {t:D→Option Sd} {fc:ST} {fe:SE} {ix:List Nat} {n:Nat} {g:TG} {σ:St} {H:Hp} {Q:VK} (ht:acg K n g t) (q:lift K E (w6 K) (v6 fi t fc fe ix) σ H Q):a4t (lift K E (amf K) fi) (mj n ix) g (lift K E aeu fc) (lift K E (w6 K) fe) σ H Q:=by
 obtain ⟨ι,τ,h,Sr,Rh,o⟩:=q
 refine ⟨ι,τ,h,Sr,Rh,dq o fun it h1 ι1 H1 J g1 r1 hr1 o1=>?_⟩
 by_cases hl:it.xs.length≤LINE
 ·rw [if_pos hl] at o1
  exact a6c r1 ht (a2i (Sr.mono g1) ix) hr1 hl o1
 ·rw [if_neg hl] at o1;exact o1.elim
section
variable {X:Cx} {E:XD} {elt tg iter cnd:Expr} {scope:Scope} {pos spos pos':Pos} {cl:List (Str × Addr)} {ts fr:List Str} {ix:List Nat} {fi:SI} {g:TG} {t:D→Option Sd} {fe:SE} {fc:ST} {i:Nat} {x:Str}
theorem ab8 (hN:X.N.Nodup) (hi':X.N[i]? = some x) (hx:Loc X.env.scope x) (hc:X.calm=true) (S:CSc X scope cl ts fr ix) (hi:MI X E tg iter fi) (hg:∀ C fp s H,PG (cxC X (ts++fr) scope cl C fp s H) tg g) (ht:acg X.K ts.length g t) (he:∀ C fp s H,ME (cxC X (ts++fr) scope cl C fp s H) E elt fe)
  (hs:∀ x,foldedSetIterable iter X.env x=pure x:=by intro _;rfl) (hsw:swapsWith (.ListComp elt [⟨tg,iter,[],0⟩] scope pos) (some (.Name x pos')) spos.line X.env=pure true:=by rfl) (hf:X.fn x=true∨X.env.scope.names.lookup x=some .local:=by first | exact .inl rfl | exact .inr rfl | assumption) :
  MS X E (.Assign [.Name x pos'] (.ListComp elt [⟨tg,iter,[],0⟩] scope pos) spos) (jy i (jn fi t fe ix)) :=
 PS.weak (a7v (te:=lift X.K E (w6 X.K) fe) hN hi' hx hc S hi hg he hs hsw hf) fun N σ H q=>ab7 ht (ab6 q)
theorem a2k (hN:X.N.Nodup) (hi':X.N[i]? = some x) (hx:Loc X.env.scope x) (hc:X.calm=true) (S:CSc X scope cl ts fr ix) (hi:MI X E tg iter fi) (hg:∀ C fp s H,PG (cxC X (ts++fr) scope cl C fp s H) tg g) (ht:acg X.K ts.length g t) (he:∀ C fp s H,ME (cxC X (ts++fr) scope cl C fp s H) E elt fe)
  (hs:∀ x,foldedSetIterable iter X.env x=pure x:=by intro _;rfl) (hsw:swapsWith (.ListComp elt [⟨tg,iter,[],0⟩] scope pos) (some (.Name x pos')) spos.line X.env=pure true:=by rfl) (hf:X.fn x=true∨X.env.scope.names.lookup x=some .local:=by first | exact .inl rfl | exact .inr rfl | assumption) :
  MS X E (.Assign [.Name x pos'] (.ListComp elt [⟨tg,iter,[],0⟩] scope pos) spos) (jy i (sZ (jn fi t fe ix))) :=
 PS.weak (af8 (a7v (te:=lift X.K E (w6 X.K) fe) hN hi' hx hc S hi hg he hs hsw hf)) fun N σ H q=>ab7 ht (amj (ab6 q))
theorem adp (hN:X.N.Nodup) (hi':X.N[i]? = some x) (hx:Loc X.env.scope x) (hc:X.calm=true) (S:CSc X scope cl ts fr ix) (hi:MI X E tg iter fi) (hg:∀ C fp s H,PG (cxC X (ts++fr) scope cl C fp s H) tg g) (ht:acg X.K ts.length g t) (he:∀ C fp s H,ME (cxC X (ts++fr) scope cl C fp s H) E elt fe)
  (hq:∀ C fp s H,MT (cxC X (ts++fr) scope cl C fp s H) E cnd fc)
  (hs:∀ x,foldedSetIterable iter X.env x=pure x:=by intro _;rfl) (hsw:swapsWith (.ListComp elt [⟨tg,iter,[cnd],0⟩] scope pos) (some (.Name x pos')) spos.line X.env=pure true:=by rfl) (hf:X.fn x=true∨X.env.scope.names.lookup x=some .local:=by first | exact .inl rfl | exact .inr rfl | assumption) :
  MS X E (.Assign [.Name x pos'] (.ListComp elt [⟨tg,iter,[cnd],0⟩] scope pos) spos) (jy i (sZ (v6 fi t fc fe ix))) :=
 PS.weak (af8 (a92 (te:=lift X.K E (w6 X.K) fe) (tc:=lift X.K E aeu fc) hN hi' hx hc S hi hg he hq hs hsw hf)) fun N σ H q=>ado ht (amj (ab6 q))
end
theorem m7 {P:Program} {w:World} {K:PySem.W.Frag} {mg:Str→Option Value} {base:Heap} {x qual:Str} {st:Stmt} {f:Addr} {fd:FuncData} {N ps:List Str} {k:Nat} {b:SS} (Fu:Fun K x qual st f fd) (S:FnScope N ps (az st))
  (hb:∀ (cdv:Value) (A:Around) (outer:List Env) (s:Shared) (H:Hp) (E:XK),Room k (A.deeper (PyProof.Rows.envOfC qual (az st) s.heap.objs.size f cdv))→MSs (a0r CX0 P w K mg base N qual (az st) f cdv A outer s H E).nox X0 (iw st) b) :
  FnOk P w K mg base CX0 (k+1) f fd ps (qj K ps.length (p8 b N.length)):=aj6 Fu S hb fun ds h _ _ _=>Rf.same rfl
end MI
namespace MI
open PySem PySem.Spec L2 HT
theorem a9a {prog:Program} {w:World} {A:Around} {E:Value→Shared→Prop} {s:Shared} {t sl:Addr} {items:Array Value} {vl vu:Value} {lo hi:Option Int} {Q:Value→Shared→Prop} (ht:PyProof.Rows.IsTup s.heap t items) (hs:s.heap.IsSliceOf sl vl vu .none) (pl:IsPart vl lo) (pu:IsPart vu hi)
  (hw:HT.sIx items.size 0 lo=0∧HT.sIx items.size items.size hi=items.size) (h:Q (.ref t) s):wpAny (model prog w) A (getItem (.ref t) (.ref sl)) Q E s:=by
 obtain ⟨os,f1,f2,f3⟩:=id hs
 have ty:s.TypeIs (.ref sl) "slice":=⟨os,f1,f2⟩
 have tt:s.TypeIs (.ref t) "tuple":=ht.typeIs
 rw [getItem]
 try apply wpAny_holding
 first | (apply wpAny_bind;apply wpAny_pure) | skip
 apply wpAny_bind;apply wpAny_sequenceKey tt (by decide)
 apply wpAny_bind
 apply wpAny_callSpecial?_slot (name:=Str.ofString "__getitem__") tt PyProof.Rows.slot_tuple_getitem
 apply wpAny_call_entry PyProof.Rows.slot_tuple_getitem tt PyProof.Rows.entry_tuple_getitem _ (PyProof.Rows.args_tuple_getitem _ _)
 change wpAny (model prog w) A.in1 (Builtin.Tuple.tupleItemsOf (.ref t)>>=_) _ _ s
 apply wpAny_bind;apply PyProof.Rows.tupleItemsOf_ ht
 apply wpAny_bind;apply wpAny_typeOf ty
 rw [if_pos (by decide)]
 apply wpAny_bind;apply HT.yu hs pl pu
 rw [hw.1,hw.2]
 dsimp only
 rw [if_pos (by simp)]
 apply wpAny_bind
 rw [Builtin.Tuple.tupleIsExact]
 apply wpAny_bind;apply wpAny_typeOf tt
 apply wpAny_pure
 rw [if_pos (by decide)]
 apply wpAny_bind;apply wpAny_rule
 apply wpAny_pure
 exact ⟨_,rfl,wpAny_pure h⟩
def ani (K:PySem.W.Frag):V→Option Int→Option Int→Hp→VK→Prop:=fun x lo hi H Q=>∃ a xs,x = .ref a∧SqT K H a xs∧whole xs.length lo hi∧Q (.ref a) H
theorem adq {X:Cx}:SlR X (ani X.K):=by
 intro pins s σ H x v vl vu lo hi sl Q I rx hs pl pu h
 obtain ⟨a,xs,rfl,hx,hw,q⟩:=h
 cases rx
 obtain ⟨its,r,ht,hz⟩:=I.tuple hx
 have hlen:its.toArray.size=xs.length:=by rw [List.size_toArray];exact r.length.symm
 exact ⟨"tuple",_,PyProof.Rows.slot_tuple_getitem.lookup,ht.typeIs,a9a ht hs pl pu (by rw [hlen];exact hw) ⟨.ref a,H,I,rfl,q⟩⟩
def a9b (d:D) (lo hi:Option Int) (h:Hd):R D:=match d with
 | .tup xs=>if whole xs.length lo hi then .ok (.tup xs) h else .ok (.tup (a2d xs lo hi)) h
 | d=>gSl d lo hi h
def a6j (f:SE) (l u:SO):SE:=fun τ h=>(f τ h).bind fun d h1=>(l τ h1).bind fun lo h2=>(u τ h2).bind fun hi h3=>a9b d lo hi h3
theorem agl {K:PySem.W.Frag} {E:XD} {ι:List Addr} {H:Hp} {h:Hd} {x:V} {d:D} {lo hi:Option Int} {Q:VK} (rx:Rep K ι H x d) (hr:HRep K ι H h) (o:out K E (w6 K) ι H (a9b d lo hi h) Q):(ama x lo hi H Q∨am6 K x lo hi H Q∨am8 K x lo hi H Q)∨ani K x lo hi H Q:=by
 cases rx with
 | @tup p vs xs hp r =>
  by_cases hc:whole xs.length lo hi
  ·simp only [a9b,if_pos hc] at o
   exact .inr ⟨p,vs,rfl,SqT.of hp,by rw [r.len];exact hc,ans o (.tup hp r) hr⟩
  ·simp only [a9b,if_neg hc] at o
   exact .inl (.inr (.inl ⟨p,vs,rfl,SqT.of hp,by rw [r.len];exact hc,a0j (a0v r lo hi) hr o⟩))
 | non=>exact o.elim
 | bl _=>exact o.elim
 | int _=>exact o.elim
 | ty _=>exact o.elim
 | str z=>exact .inl (a89 (.str z) hr o)
 | rol a b=>exact .inl (a89 (.rol a b) hr o)
 | scr a b=>exact .inl (a89 (.scr a b) hr o)
 | rod a b c=>exact o.elim
 | rdT a b c=>exact o.elim
 | exc a b c=>exact o.elim
 | ref a=>exact .inl (a89 (.ref a) hr o)
theorem tu {X:Cx} {E:XD} {e:Expr} {fa:SE} {lo hi:Option Expr} {l u:SO} {p2 pos:Pos} (he:ME X E e fa) (hl:MO X E lo l) (hu:MO X E hi u):ME X E (.Subscript e (.Slice lo hi none p2) pos) (a6j fa l u):=by
 refine PE.weak (ad2 ((aix.or (ain.or ag2)).or adq) he hl hu) fun σ H Q ⟨ι,τ,h,S,Rh,o⟩=>?_
 refine ⟨ι,τ,h,S,Rh,dq o fun d h1 ι1 H1 v g1 r1 hr1 o1=>?_⟩
 refine ⟨ι1,τ,h1,S.mono g1,hr1,dq o1 fun lo h2 ι2 H2 lv g2 r2 hr2 o2=>?_⟩
 refine ⟨ι2,τ,h2,(S.mono g1).mono g2,hr2,dq o2 fun hi h3 ι3 H3 hv g3 r3 hr3 o3=>?_⟩
 cases r2;cases r3
 exact agl ((r1.mono g2).mono g3) hr3 o3
end MI
namespace TPM
open PySem PySem.Spec PySem.W L2 HT MI
end TPM
namespace MI
open PySem PySem.Spec L2 TPM
end MI
namespace L2
open PySem PySem.Spec PyProof.Rows
theorem adt {X:Cx}:amy X (al5 X.K):=by
 intro pins s σ H o i ov iv Q I ro ri h
 obtain ⟨p,xs,k,z,rfl,rfl,hq,he,q⟩:=h
 cases ro
 obtain ⟨t,rfl⟩:=ri
 obtain ⟨its,r,pl,hz⟩:=I.list hq
 obtain ⟨j,h1,h2,h3,h4,h5⟩:=a4o he
 obtain ⟨w,ew,rw'⟩:=r.get h2
 have len:=r.length
 have l63:=a1u
 have done:EP X pins σ Q w s:=⟨z,H,I,rw',q⟩
 by_cases neg:k<0
 ·have ej:(k+(its.toArray.size:Int)).toNat=j:=by
   rw [seqIndex_neg neg h4] at h1
   rw [List.size_toArray,← len]
   exact Option.some.inj h1
  exact wpAny_getItem_list_neg pl.isList neg (by rw [List.size_toArray];omega) (by omega) (by rw [ej];simpa using ew) done
 ·have ej:k.toNat=j:=by
   rw [seqIndex_of (by omega) h5] at h1
   exact Option.some.inj h1
  exact wpAny_getItem_list pl.isList (by omega) (by omega) (by rw [ej];simpa using ew) done
end L2
namespace MI
open PySem PySem.Spec L2
def agm (x y:D) (h:Hd):R D:=match x,y with
 | .ref p, .int i=>(match h[p]? with | some (.lst xs)=>(match atI xs i with | some d=>.ok d h | none=>.no) | _=>.no)
 | _,_=>.no
theorem agn {K:PySem.W.Frag}:a0c K agm (al5 K):=by
 intro E ι H h x y dx dy Q rx ry hr o
 cases rx with
 | @ref p i hp =>
  cases ry with
  | int k =>
   simp only [agm] at o
   split at o
   ·rename_i xs hx
    obtain ⟨vs,h3,h4⟩:=hr.lst hp hx
    split at o
    ·rename_i d he
     obtain ⟨v,h1,h2⟩:=a88 h4 he
     exact ⟨p,vs,k,v,rfl,rfl,SqL.of h3,h1,ans o h2 hr⟩
    ·exact o.elim
   ·exact o.elim
  | _=>exact o.elim
 | _=>exact o.elim
def a6k (g:D→D→Hd→R D) (fo fi fe:SE):SS:=fun τ h=>(fo τ h).fl fun o h1=>(fi τ h1).fl fun i h2=>(agm o i h2).fl fun x h3=>(fe τ h3).fl fun y h4=>(g x y h4).fl fun z h5=>match put o i z h5 with | some h6=>.nx τ h6 | none=>.no
section
variable {X:Cx} {E:XD} {e o i:Expr} {fa fb fc:SE} {pos:Pos}
theorem a78 {op:Operator} {r:R2} {gg:D→D→Hd→R D} {tpos:Pos} (ho:ME X E o fa) (hi:ME X E i fb) (he:ME X E e fc) (hp:OpR X (inplaceOp op) r) (hs:a0c X.K gg r)
  (ha:∀ ov iv new,augStore i ov iv new=(do holding [new,ov,iv] (setItem ov iv new);release [new,ov,iv] [];pure .next):=by intros;rfl):MS X E (.AugAssign (.Subscript o i tpos) op e pos) (a6k gg fa fb fc):=by
 refine PS.weak (afo ho hi adt he hp set_list ha) fun N σ H ⟨ι,τ,h,S,Rh,oo⟩=>?_
 refine ⟨ι,τ,h,S,Rh,pq oo fun d h1 ι1 H1 v g1 r1 hr1 o1=>?_⟩
 refine ⟨ι1,τ,h1,S.mono g1,hr1,pq o1 fun d2 h2 ι2 H2 u g2 r2 hr2 o2=>?_⟩
 refine agn E ι2 H2 h2 v u d d2 _ (r1.mono g2) r2 hr2 (pq o2 fun d3 h3 ι3 H3 w g3 r3 hr3 o3=>?_)
 have S3:=((S.mono g1).mono g2).mono g3
 refine ⟨ι3,τ,h3,S3,hr3,pq o3 fun d4 h4 ι4 H4 y g4 r4 hr4 o4=>?_⟩
 refine hs E ι4 H4 h4 w y d3 d4 _ (r3.mono g4) r4 hr4 (pq o4 fun d5 h5 ι5 H5 z g5 r5 hr5 o5=>?_)
 cases hq:put d d2 d5 h5 with
 | none=>rw [hq] at o5;exact o5.elim
 | some h6 =>
  rw [hq] at o5
  exact aal ((((r1.mono g2).mono g3).mono g4).mono g5) (((r2.mono g3).mono g4).mono g5) r5 hr5 hq fun H' g6 hr6=>o5 ι5 H' σ g6 (((S3.mono g4).mono g5).mono g6) hr6
end
end MI
namespace TPM
open PySem PySem.Spec PySem.W L2 HT MI
theorem a9c (t b:Addr) (items2:Array Value) (n n2:Nat) (dd dd2:Option Addr) (sl sl2:Array (Option Value)) :
  Meets (Builtin.«tuple.__add__» ⟨[.ref t, .ref b],[]⟩) (fun _ R s=>s.heap.get? t=some { cls:=.type "tuple",dict:=dd,data:=.seq #[] n,slots:=sl }∧s.heap.get? b=some { cls:=.type "tuple",dict:=dd2,data:=.seq items2 n2,slots:=sl2 }∧R (.ok (.ret (.ref b))) s):=by
 refine .of_wp fun prog w A R s h=>?_
 obtain ⟨hp,g,d,tk,os⟩:=s
 obtain ⟨hl,hb,h⟩:=h
 wp_walk
 refine wpAny_of_eq sub_tuple_self ?_
 wp_walk
 exact ⟨_,rfl,h⟩
def ajl (K:PySem.W.Frag):R2:=fun x y H Q=>∃ a b ys,x = .ref a∧y = .ref b∧SqT K H a []∧SqT K H b ys∧Q (.ref b) H
theorem ago {X:Cx}:OpR X (binaryOp .Add) (ajl X.K):=by
 intro pins s σ H x y v u Q I rx ry h
 obtain ⟨a,b,ys,rfl,rfl,ha,hb,q⟩:=h
 cases rx
 cases ry
 obtain ⟨its,r1,p1,_⟩:=I.tuple ha
 obtain ⟨its2,r2,p2,_⟩:=I.tuple hb
 cases r1
 obtain ⟨⟨cls,dd,data,sl⟩,ho,hc,n,hd⟩:=id p1
 obtain ⟨⟨cls2,dd2,data2,sl2⟩,ho2,hc2,n2,hd2⟩:=id p2
 simp only at hc hd hc2 hd2
 subst hc hd hc2 hd2
 exact concat_meets ⟨_,ho,rfl⟩ ⟨_,ho2,rfl⟩ noFill_tuple_add seq_tuple_add F.slot_tuple_add F.entry_tuple_add (F.args_tuple_add_2 _ _) (a9c a b its2.toArray n n2 dd dd2 sl sl2) ⟨ho,ho2,⟨.ref b,H,I,rfl,q⟩⟩
end TPM
namespace MI
open PySem PySem.Spec L2 TPM
end MI
namespace TPM
open PySem PySem.Spec PySem.W L2 HT MI PyProof.Rows
end TPM
namespace MI
open PySem PySem.Spec L2 TPM
end MI
namespace L2
open PySem PySem.Spec PyProof.Rows
section
variable {X:Cx}
theorem Inv.lstR {pins:List (Addr × Obj)} {σ:St} {H:Hp} {s:Shared} {l:Addr} {xs:List V} (I:Inv X pins σ H s) (hH:Rd H l (.lst xs)):xs.length≤sizeLine∧∃ (its:List Value) (n:Nat),Vals xs its∧xs.length=its.length∧s.heap.get? l=some { cls:=.type "list",data:=.seq its.toArray n }:=by
 obtain ⟨z,its,n,r,e⟩:=hH.ok I.hok
 exact ⟨z,its,n,r,r.length,e⟩
def agp:R2:=fun x y H Q=>∃ l b xs zs,x = .ref l∧y = .ref b∧Rd H l (.lst xs)∧Rd H b (.lst zs)∧xs.length+zs.length≤sizeLine∧∀ p,H p=none→Q (.ref p) (upd H p (.lst (xs++zs)))
theorem agq:OpR X (binaryOp .Add) agp:=fun pins s σ H x y v u Q I rx ry ⟨l,b,xs,zs,ex,ey,h1,h2,hz,q⟩=>by
 subst ex ey
 cases rx
 cases ry
 obtain ⟨_,as,_,va,la,ea⟩:=I.lstR h1
 obtain ⟨_,bs,_,vb,lb,eb⟩:=I.lstR h2
 have app:as.toArray++bs.toArray=(as++bs).toArray:=by simp
 refine PySem.P.add_list ea eb ?_ (by simp;omega)
 rw [app]
 exact ⟨.ref _,_,I.lnew (t':=s.toks) (va.append vb) (by simpa using hz),rfl,q _ I.fresh⟩
def ajm:R2:=fun x y H Q=>∃ l k xs,x = .ref l∧y = .int k∧Rd H l (.lst xs) ∧ -(2 ^ 63)≤k∧k<2 ^ 63∧xs.length*k.toNat≤sizeLine∧∀ p,H p=none→Q (.ref p) (upd H p (.lst (List.replicate k.toNat xs).flatten))
theorem agr (its:List Value) (k:Nat):List.foldl (fun x1 x2=>x1++x2) #[] (List.replicate (if its.toArray.isEmpty=true then 0 else k) its.toArray)=(List.replicate k its).flatten.toArray:=by
 have g:∀ m:Nat,List.foldl (fun x1 x2=>x1++x2) #[] (List.replicate m its.toArray)=(List.replicate m its).flatten.toArray:=fun m=>by simpa using foldl_rep its m []
 cases its with
 | nil=>simp
 | cons a r=>rw [if_neg (by simp),g]
theorem ags:OpR X (binaryOp .Mult) ajm:=fun pins s σ H x y v u Q I rx ry ⟨l,k,xs,ex,ey,h1,k1,k2,hz,q⟩=>by
 subst ex ey
 cases rx
 obtain ⟨t,rfl⟩:=ry
 obtain ⟨_,as,n,va,la,ea⟩:=I.lstR h1
 have few:as.toArray.size*k.toNat≤sizeLine:=by rw [List.size_toArray,← la];exact hz
 have top:(sizeLine:Nat)≤(2 ^ 63 - 1) / 8:=by decide
 refine wpAny_binaryOp_repeat_ref (T := "list") (U := "int") (by decide) ⟨_,ea,rfl⟩ (fun s'=>typeIs_int s' k t) noFill_list_mul F.fills_int_mul F.slot_int_rmul repeat_list F.slot_int_index.lookup
  (call_meets F.slot_int_rmul (typeIs_int s k t) F.entry_int_rmul (F.args_int_rmul_2 _ _) (int___rmul___int_list k t l as.toArray n)
   ⟨ea,rfl,⟨_,ea,rfl⟩,call_meets F.slot_list_mul ⟨_,ea,rfl⟩ F.entry_list_mul (F.args_list_mul_2 _ _)
    (AutoListH.list___mul___list_int_3 l as.toArray n k t (by rw [fitsIndex_both k1 k2];exact Bool.false_ne_true) (by omega) (by rw [ad3 few];exact Bool.false_ne_true)) ⟨ea,?_⟩⟩)
 rw [agr]
 exact ⟨.ref _,_,I.lnew (t':=s.toks) (va.rep k.toNat) (by rw [len_rep,Nat.mul_comm];exact hz),rfl,q _ I.fresh⟩
end
end L2
namespace MI
open PySem PySem.Spec L2 TPM
def xr (d:D) (h:Hd):Option (List D):=match d with
 | .rol xs=>some xs
 | .ref i=>(match h[i]? with | some (.lst xs)=>some xs | _=>none)
 | _=>none
section
variable {K:PySem.W.Frag} {ι:List Addr} {H:Hp} {h:Hd}
theorem a1a {x:V} {d:D} {xs:List D} (r:Rep K ι H x d) (hr:HRep K ι H h) (e:xr d h=some xs):∃ a vs,x = .ref a∧Rd H a (.lst vs)∧Reps K ι H vs xs:=by
 cases r with
 | @rol a vs ys hp rs=>cases e;exact ⟨a,vs,rfl, .inr hp,rs⟩
 | @ref a i hp =>
  obtain ⟨ob,e1,e2⟩:=hr.at hp
  simp only [xr,e1] at e
  cases ob with
  | lst ys=>cases e;obtain ⟨vs,h3,h4⟩:=e2;exact ⟨a,vs,rfl, .inl h3,h4⟩
  | _=>cases e
 | _=>cases e
def jf:D→D→Hd→R D
 | .int i, .int j,h=>.ok (.int (i+j)) h
 | .str x, .str y,h=>if x.length+y.length≤LINE then .ok (.str (x++y)) h else .no
 | .tup [], .tup ys,h=>.ok (.tup ys) h
 | .tup (x::xs), .tup ys,h=>if (x::xs).length+ys.length≤LINE then .ok (.tup (x::xs++ys)) h else .no
 | x,y,h=>match xr x h,xr y h with
  | some xs,some ys=>if xs.length+ys.length≤LINE then .ok (.ref h.length) (h++[.lst (xs++ys)]) else .no
  | _,_=>.no
theorem ab9 {x y:D} {xs ys:List D} (e1:xr x h=some xs) (e2:xr y h=some ys):jf x y h=if xs.length+ys.length≤LINE then .ok (.ref h.length) (h++[.lst (xs++ys)]) else .no:=by
 cases x<;>first | (cases e1;done) | (cases y<;>first | (cases e2;done) | (simp only [jf,e1,e2]))
theorem adu:a0c K jf (fun x y H Q=>(rI0 (fun i j=>.int (i+j)) x y H Q∨(∃ i j,x = .str i∧y = .str j∧i.length+j.length≤sizeLine∧Q (.str (i++j)) H)∨aio K x y H Q∨agp x y H Q)∨ajl K x y H Q):=by
 intro E ι H h x y dx dy Q rx ry hr o
 have lists:∀ xs ys,xr dx h=some xs→xr dy h=some ys→agp x y H Q:=fun xs ys e1 e2=>by
  rw [ab9 e1 e2] at o
  obtain ⟨a,vs,rfl,h1,h2⟩:=a1a rx hr e1
  obtain ⟨b,us,rfl,h3,h4⟩:=a1a ry hr e2
  split at o
  ·rename_i hc
   exact ⟨a,b,vs,us,rfl,rfl,h1,h3,ll (by rw [h2.len,h4.len];exact hc),xn (h2.app h4) hr o⟩
  ·exact o.elim
 cases hx:xr dx h with
 | some xs =>
  cases hy:xr dy h with
  | some ys=>exact .inl (.inr (.inr (.inr (lists xs ys hx hy))))
  | none =>
   exfalso
   cases rx<;>first | (cases hx;done) | (cases ry<;>first | (simp only [jf,hx,hy] at o;exact o) | (simp only [jf] at o;exact o))
 | none =>
  cases rx with
  | int i =>
   cases ry with
   | int j=>exact .inl (.inl ⟨i,j,rfl,rfl,ans o (.int _) hr⟩)
   | _=>exact o.elim
  | str i =>
   cases ry with
   | str j =>
    simp only [jf] at o
    split at o
    ·rename_i hc;exact .inl (.inr (.inl ⟨i,j,rfl,rfl,ll hc,ans o (.str _) hr⟩))
    ·exact o.elim
   | _=>exact o.elim
  | @tup a vs xs ha r1 =>
   cases ry with
   | @tup b us ys hb r2 =>
    cases xs with
    | nil=>cases r1;exact .inr ⟨a,b,us,rfl,rfl,SqT.of ha,SqT.of hb,ans o (.tup hb r2) hr⟩
    | cons z xs =>
     simp only [jf] at o
     split at o
     ·rename_i hc
      refine .inl (.inr (.inr (.inl ⟨a,b,vs,us,rfl,rfl,SqT.of ha,SqT.of hb,fun z=>(by subst z;cases r1),ll (by rw [r1.len,r2.len];exact hc),fun z=>?_,fun _=>?_⟩)))
      ·subst z;cases r2
       rw [List.append_nil] at o
       exact ans o (.tup ha r1) hr
      ·exact a0j (r1.app r2) hr o
     ·exact o.elim
   | _=>cases xs<;>exact o.elim
  | rol _ _=>cases hx
  | ref _=>cases ry<;>(simp only [jf,hx] at o;exact o.elim)
  | _=>cases ry<;>exact o.elim
theorem j9 {X:Cx} {E:XD} {a b:Expr} {fa fb:SE} {pos:Pos} (ha:ME X E a fa) (hb:ME X E b fb):ME X E (.BinOp a .Add b pos) (s2 jf fa fb) :=
 a96 (OpR.or (aic.or (a8u.or (ag0.or agq))) ago) adu ha hb
open Classical in
noncomputable def a1b:D→D→Hd→R D
 | .int i, .int j,h=>if CMul i j then .ok (.int (i*j)) h else .no
 | x, .int k,h=>match xr x h with
  | some xs=>if (-(2 ^ 63)≤k∧k<2 ^ 63)∧xs.length*k.toNat≤LINE then .ok (.ref h.length) (h++[.lst (List.replicate k.toNat xs).flatten]) else .no
  | none=>.no
 | _,_,_=>.no
theorem adv:a0c K a1b (fun x y H Q=>rI CMul (fun i j=>.int (i*j)) x y H Q∨ajm x y H Q):=by
 intro E ι H h x y dx dy Q rx ry hr o
 cases ry with
 | int k =>
  cases hx:xr dx h with
  | some xs =>
   obtain ⟨a,vs,rfl,h1,h2⟩:=a1a rx hr hx
   have o':out K E (w6 K) ι H (if (-(2 ^ 63)≤k∧k<2 ^ 63)∧xs.length*k.toNat≤LINE then .ok (.ref h.length) (h++[.lst (List.replicate k.toNat xs).flatten]) else .no) Q:=by
    cases dx<;>first | (cases hx;done) | (simp only [a1b,hx] at o;exact o)
   split at o'
   ·rename_i hc
    exact .inr ⟨a,k,vs,rfl,rfl,h1,hc.1.1,hc.1.2,ll (by rw [h2.len];exact hc.2),xn (h2.flat _) hr o'⟩
   ·exact o'.elim
  | none =>
   cases rx with
   | int i =>
    by_cases hc:CMul i k
    ·simp only [a1b,if_pos hc] at o;exact .inl ⟨i,k,rfl,rfl,hc,ans o (.int _) hr⟩
    ·simp only [a1b,if_neg hc] at o;exact o.elim
   | _=>simp only [a1b,hx] at o;exact o.elim
 | _=>cases rx<;>exact o.elim
theorem a3j {X:Cx} {E:XD} {a b:Expr} {fa fb:SE} {pos:Pos} (ha:ME X E a fa) (hb:ME X E b fb):ME X E (.BinOp a .Mult b pos) (s2 a1b fa fb):=a96 (aie.or ags) adv ha hb
end
end MI
namespace MI
open PySem PySem.Spec L2
def a1z (d:D) (h:Hd):Option (List Int):=match d with
 | .ref i=>(match h[i]? with | some (.lst xs)=>a3g xs | _=>none)
 | .rol xs=>a3g xs
 | _=>none
theorem a3k {K:PySem.W.Frag} {ι:List Addr} {H:Hp} {h:Hd} {v:V} {d:D} {ns:List Int} (r:Rep K ι H v d) (hr:HRep K ι H h) (e:a1z d h=some ns):∃ p,v = .ref p∧SqL K H p (ns.map V.int):=by
 unfold a1z at e
 split at e
 ·cases r with
  | @ref p _ hp =>
   split at e
   ·rename_i xs hx
    obtain ⟨vs,h3,h4⟩:=hr.lst hp hx
    exact ⟨p,rfl,SqL.of (by rw [h3,a0x h4 e])⟩
   ·cases e
 ·cases r with
  | @rol p vs xs hp r=>exact ⟨p,rfl,by rw [← a0x r e];exact hp.l⟩
 ·cases e
def aba:List D→Hd→R D
 | [d],h=>(match a1z d h with | some (n::ns)=>.ok (.int (mxI (n::ns))) h | _=>.no)
 | _,_=>.no
theorem adw {K:PySem.W.Frag}:a7z K aba (fun xs H Q=>∃ (p:Addr) (ns:List Int),xs=[.ref p]∧SqL K H p (ns.map V.int)∧ns≠[]∧Q (.int (mxI ns)) H):=by
 intro E ι H h xs ds Q r hr o
 unfold aba at o
 split at o
 ·cases r with
  | cons r rs =>
   cases rs
   split at o
   ·rename_i n ns e
    obtain ⟨p,rfl,q⟩:=a3k r hr e
    exact ⟨p,n::ns,rfl,q,by simp,ans o (.int _) hr⟩
   ·exact o.elim
 ·exact o.elim
theorem ajn {xs:List Int} {h:Hd} (ne:xs≠[]):aba [.rol (xs.map D.int)] h = .ok (.int (mxI xs)) h:=by
 have e:∀ l:List Int,a3g (l.map D.int)=some l:=fun l=>by
  induction l with
  | nil=>rfl
  | cons a l ih=>rw [List.map_cons];simp only [a3g,ih,Option.map_some]
 unfold aba a1z
 simp only [e]
 cases xs with
 | nil=>exact absurd rfl ne
 | cons n ns=>rfl
end MI
namespace L2
open PySem PySem.Spec PyProof.Rows
section
variable {X:Cx}
theorem a5d:CallR X (.builtin "sorted") (fun xs H Q=>∃ (p:Addr) (ns:List Int),xs=[.ref p]∧SqL X.K H p (ns.map V.int)∧ns.length<64∧∀ l,H l=none→Q (.ref l) (upd H l (.lst ((PySem.W.sortI ns).map V.int)))):=by
 intro pins s σ H xs us Q I r ⟨p,ns,e,hq,h64,q⟩
 subst e
 obtain ⟨u,rfl,ru⟩:=vals1 r
 cases ru
 obtain ⟨its,r',pl,hz⟩:=I.list hq
 have hI:IntsAre its ns:=intsAre_of r'
 have hl:its.length=ns.length:=by have:=r'.length;simp at this;omega
 refine sorted_ints pl.isList hI (by omega) fun out ns' a1 a2 a3=>?_
 obtain ⟨e,he⟩:=sortedAll_at s.heap its out
 have e2:ns'=PySem.W.sortI ns:=PySem.W.eq_sortI a2 a3
 subst e2
 have ln:(PySem.W.sortI ns).length=ns.length:=(PySem.W.sortI_perm ns).length_eq
 refine ⟨.ref (s.heap.objs.size+1),_,I.laid (t':=s.toks) (fun _ _=>sortedAll_old) (Nat.le_succ _) (show ObjOk X.prog X.w _ _ _ (.lst ((PySem.W.sortI ns).map V.int)) from ⟨by rw [List.length_map,ln];have:=sizeLine_eq;omega,out.toList,e,a2z a1,by simpa [seqObj] using he⟩),rfl,q _ (I.hok.fresh (Nat.le_succ _))⟩
end
end L2
namespace MI
open PySem PySem.Spec L2
def a0n:List D→Hd→R D
 | [d],h=>(match a1z d h with | some ns=>if ns.length<64 then .ok (.ref h.length) (h++[.lst ((PySem.W.sortI ns).map D.int)]) else .no | none=>.no)
 | _,_=>.no
theorem a4e {K:PySem.W.Frag} {ι:List Addr} {H:Hp}:∀ ns:List Int,Reps K ι H (ns.map V.int) (ns.map D.int)
 | []=>.nil
 | n::ns=>.cons (.int n) (a4e ns)
theorem a9d {K:PySem.W.Frag}:a7z K a0n (fun xs H Q=>∃ (p:Addr) (ns:List Int),xs=[.ref p]∧SqL K H p (ns.map V.int)∧ns.length<64∧∀ l,H l=none→Q (.ref l) (upd H l (.lst ((PySem.W.sortI ns).map V.int)))):=by
 intro E ι H h xs ds Q r hr o
 unfold a0n at o
 split at o
 ·cases r with
  | cons r rs =>
   cases rs
   split at o
   ·rename_i ns e
    split at o
    ·rename_i hl
     obtain ⟨p,rfl,q⟩:=a3k r hr e
     exact ⟨p,ns,rfl,q,hl,xn (a4e _) hr o⟩
    ·exact o.elim
   ·exact o.elim
 ·exact o.elim
end MI
namespace L2
open PySem PySem.Spec PyProof.Rows
def ixI (n:Int):List Int→Option Nat
 | []=>none
 | a::l=>if a=n then some 0 else (ixI n l).map (·+1)
theorem abb {n:Int}:∀ {l:List Int} {j:Nat},ixI n l=some j→l[j]? = some n∧∀ i,i<j→l[i]?≠some n
 | [],_,h=>by cases h
 | a::l,j,h=>by
  unfold ixI at h
  split at h
  ·rename_i e
   cases h
   exact ⟨by rw [e];rfl,fun i hi=>absurd hi (Nat.not_lt_zero i)⟩
  ·rename_i e
   obtain ⟨k,hk,rfl⟩:=Option.map_eq_some_iff.mp h
   obtain ⟨h1,h2⟩:=abb hk
   refine ⟨h1,fun i hi=>?_⟩
   cases i with
   | zero=>intro z;exact e (Option.some.inj z)
   | succ i=>exact h2 i (Nat.lt_of_succ_lt_succ hi)
theorem a8g {n:Int}:∀ {l:List Int},n∈l→∃ j,ixI n l=some j
 | [],h=>by cases h
 | a::l,h=>by
  unfold ixI
  split
  ·exact ⟨0,rfl⟩
  ·rename_i e
   rcases List.mem_cons.mp h with h | h
   ·exact absurd h.symm e
   ·obtain ⟨j,hj⟩:=a8g h
    exact ⟨j+1,by rw [hj];rfl⟩
def eqI (n:Int):Value→Bool
 | .int a _=>a == n
 | _=>false
def abd (K:PySem.W.Frag):V→List V→Hp→VK→Prop:=fun x vs H Q=>∃ (l:Addr) (ns:List Int) (n:Int) (j:Nat),x = .ref l∧vs=[.int n]∧SqL K H l (ns.map V.int)∧ixI n ns=some j∧Q (.int (j:Nat)) H
theorem abe {X:Cx}:MtR X "list.index" (abd X.K):=by
 intro pins s σ H x vs v us Q I rx rv h
 obtain ⟨l,ns,n,j,rfl,rfl,hq,hj,q⟩:=h
 cases rx
 obtain ⟨u,rfl,ru⟩:=rv.one
 obtain ⟨t,rfl⟩:=ru
 obtain ⟨its,r,⟨⟨cls,dict,data,slots⟩,m,e1,e2,e3,e4⟩,hz⟩:=I.list hq
 have e2:cls = .type "list":=e2
 have e3:dict=none:=e3
 have e4:data = .seq its.toArray m:=e4
 subst e2 e3 e4
 have hl:its.length=ns.length:=by have:=r.length;simp at this;omega
 have each:∀ i (h:i<its.length),∃ a t,its[i] = .int a t∧ns[i]? = some a:=fun i h=>by
  obtain ⟨y,h1,h2⟩:=r.get (show (ns.map V.int)[i]? = some (V.int (ns[i]'(by omega))) by rw [List.getElem?_map,List.getElem?_eq_getElem (by omega)];rfl)
  obtain ⟨t,rfl⟩:=h2
  exact ⟨_,t,(List.getElem?_eq_some_iff.mp h1).2,List.getElem?_eq_getElem _⟩
 obtain ⟨p1,p2⟩:=abb hj
 have jl:j<ns.length:=(List.getElem?_eq_some_iff.mp p1).1
 rw [List.length_map] at hz
 rw [sizeLine_eq] at hz
 refine call_meets F.slot_list_index ⟨_,e1,rfl⟩ F.entry_list_index (F.args_list_index_2 _ _)
  (SeqAt.list_indexAt l its.toArray m none slots (.int n t) (eqI n) j (by simp;omega) (by omega) ?_ ?_) ⟨e1,fun y hy=>?_, .int (j:Nat),H,I.tok _,⟨_,rfl⟩,q⟩
 ·obtain ⟨a,t,h1,h2⟩:=each j (by omega)
  rw [p1] at h2;cases h2
  rw [List.getElem_toArray,h1]
  exact beq_self_eq_true _
 ·intro i hi hij
  obtain ⟨a,t,h1,h2⟩:=each i (by simpa using hi)
  rw [List.getElem_toArray,h1]
  exact beq_eq_false_iff_ne.mpr fun z=>p2 i hij (by rw [h2,z])
 ·obtain ⟨i,hi,rfl⟩:=List.getElem_of_mem (List.mem_toArray.mp hy)
  obtain ⟨a,t',h1,_⟩:=each i hi
  rw [h1]
  exact SeqAt.EqAt.int_int a t' n t
end L2
namespace MI
open PySem PySem.Spec L2
def a3l (d:D) (ds:List D) (h:Hd):R D:=match a1z d h,ds with
 | some ns,[.int n]=>(match ixI n ns with | some j=>.ok (.int (j:Nat)) h | none=>.no)
 | _,_=>.no
theorem a9e {K:PySem.W.Frag}:amh K a3l (abd K):=by
 intro E ι H h x dx xs ds Q rx r hr o
 unfold a3l at o
 split at o
 ·rename_i ns n e
  cases r with
  | cons r rs =>
   cases r;cases rs
   split at o
   ·rename_i j hj
    obtain ⟨p,rfl,q⟩:=a3k rx hr e
    exact ⟨p,ns,n,j,rfl,rfl,q,hj,ans o (.int _) hr⟩
   ·exact o.elim
 ·exact o.elim
end MI
namespace MI
open PySem PySem.Spec L2
def anj:D→Option Key
 | .int i=>some (.inl i)
 | .str x=>some (.inr x)
 | _=>none
def aos:D→Option (List Key)
 | .tup xs=>zj anj xs
 | _=>none
def putD {κ:Type} [DecidableEq κ] (kvs:List (κ × D)) (k:κ) (d:D):List (κ × D):=if (kvs.any fun kv=>decide (kv.1=k))=true then kvs.map fun kv=>if kv.1=k then (kv.1,d) else kv else kvs++[(k,d)]
section
variable {K:PySem.W.Frag} {ι:List Addr} {H:Hp} {h:Hd}
variable {X:Cx} {E:XD} {a b e o i:Expr} {fa fb fc:SE} {pos:Pos}
def aot (o k v:D) (h:Hd):Option Hd:=match o with
 | .ref i=>(match h[i]? with
  | some (.dK kvs)=>(match anj k with | some kk=>if kvs.length<LINE then some (h.set i (.dK (putD kvs kk v))) else none | none=>none)
  | some (.dT kvs)=>(match aos k with | some kk=>if kvs.length<LINE then some (h.set i (.dT (putD kvs kk v))) else none | none=>none)
  | _=>none)
 | _=>none
def adx (fe fo fi:SE):SS:=fun τ h=>(fe τ h).fl fun v h1=>(fo τ h1).fl fun o h2=>(fi τ h2).fl fun k h3=>match aot o k v h3 with | some h4=>.nx τ h4 | none=>.no
end
end MI
namespace ZP
open PySem PySem.Spec PySem.Builtin PySem.Builtin.SmallTypes L2
end ZP
namespace MI
open PySem PySem.Spec L2 ZP
def agt (x:D) (h:Hd):R Itm:=match srcOf x h with
 | some (xs,c)=>.ok ⟨((List.range xs.length).zip xs).map fun p=>.tup [.int (p.1:Nat),p.2],c⟩ h
 | none=>.no
def ajo (f:SE):SI:=fun τ h=>(f τ h).bind agt
end MI
namespace L2
open PySem PySem.Spec PyProof.Rows
end L2
namespace MI
open PySem PySem.Spec L2
end MI
namespace L2
open PySem PySem.Spec PyProof.Rows
end L2
namespace MI
open PySem PySem.Spec L2
def aou (lo:Int) (n:Nat):List D:=(List.range n).map fun i=>D.int (lo - (i:Nat))
def ajp (ds:List D) (h:Hd):R Itm:=match ds with
 | [.int i, .int j, .int k]=>if k = -1∧B62 i∧B62 j then .ok ⟨aou i (i - j).toNat,fun _=>True⟩ h else .no
 | _=>.no
end MI
namespace MI
open PySem PySem.Spec L2
theorem abf:bootBuiltins "sorted" = some (.builtin "sorted"):=by decide +kernel
end MI
namespace MI
open PySem PySem.Spec L2
theorem dg {α β:Type} (a:α) (h:Hd) (k:α→Hd→R β):(R.ok a h).bind k=k a h:=rfl
theorem a2f {α:Type} (a:α) (h:Hd) (k:α→Hd→Fl):(R.ok a h).fl k=k a h:=rfl
def thn (r:Fl) (g:SS):Fl:=match r with | .nx τ h=>g τ h | r=>r
theorem qm (f g:SS) (τ:Sd) (h:Hd):j7 f g τ h=thn (f τ h) g:=by unfold j7 thn;cases f τ h<;>rfl
theorem zq (τ:Sd) (h:Hd) (g:SS):thn (.nx τ h) g=g τ h:=rfl
theorem a8h (d:D) (h:Hd) (g:SS):thn (.rt d h) g = .rt d h:=rfl
def toR (r:Fl):R D:=match r with | .rt d h1=>.ok d h1 | .nx _ h1=>.ok .non h1 | .ex c h1=>.ex c h1 | _=>.no
theorem iz (b:SS) (n:Nat) (ds:List D) (h:Hd):p8 b n ds h=toR (b (a0u n ds) h):=by unfold p8 toR;cases b (a0u n ds) h<;>rfl
theorem a6l (d:D) (h:Hd):toR (.rt d h) = .ok d h:=rfl
theorem a8i (τ:Sd) (h:Hd):toR (.nx τ h) = .ok .non h:=rfl
theorem xu {n:Nat}:∀ {xs:List D},clos n xs↔∀ x∈xs,clo n x
 | []=>by simp [clos]
 | x::xs=>by simp [clos,xu (xs:=xs)]
theorem du {n:Nat} (i:Int):clo n (.int i):=by simp [clo]
theorem a1q {n:Nat} (i:Str):clo n (.str i):=by simp [clo]
theorem jr {n:Nat} (i:Bool):clo n (.bl i):=by simp [clo]
theorem a79 {n:Nat}:clo n .non:=by simp [clo]
theorem qp {n:Nat}:clos n []:=by simp [clos]
theorem ji {n:Nat} {x:D} {xs:List D} (a:clo n x) (b:clos n xs):clos n (x::xs):=by simp only [clos];exact ⟨a,b⟩
theorem a0o {n:Nat} {xs:List D} (h:clos n xs):clo n (.tup xs):=by simpa [clo] using h
theorem ql {n:Nat} {xs:List D} (h:clos n xs):clo n (.rol xs):=by simpa [clo] using h
theorem gw {α:Type} {n:Nat} {f:α→D} {l:List α} (h:∀ a∈l,clo n (f a)):clos n (l.map f):=by
 rw [xu]
 intro x hx
 obtain ⟨a,ha,rfl⟩:=List.mem_map.mp hx
 exact h a ha
mutual
theorem a6m {n m:Nat} (hm:n≤m):∀ {d:D},clo n d→clo m d
 | .non,_=>by simp [clo]
 | .bl _,_=>by simp [clo]
 | .int _,_=>by simp [clo]
 | .str _,_=>by simp [clo]
 | .ty _,_=>by simp [clo]
 | .tup xs,h=>by simp only [clo] at h ⊢;exact xx hm h
 | .rol xs,h=>by simp only [clo] at h ⊢;exact xx hm h
 | .scr xs,h=>by simp only [clo] at h ⊢;exact xx hm h
 | .rod _ xs,h=>by simp only [clo] at h ⊢;exact xx hm h
 | .rdT _ xs,h=>by simp only [clo] at h ⊢;exact xx hm h
 | .exc _,_=>by simp [clo]
 | .ref i,h=>by simp only [clo] at h ⊢;omega
theorem xx {n m:Nat} (hm:n≤m):∀ {xs:List D},clos n xs→clos m xs
 | [],_=>by simp [clos]
 | x::xs,h=>by simp only [clos] at h ⊢;exact ⟨a6m hm h.1,xx hm h.2⟩
end
theorem ur {n m:Nat} (hm:n≤m) {o:O} (h:a1x n o):a1x m o:=by
 cases o with
 | lst xs=>exact xx hm h
 | dK kvs=>exact xx hm h
 | dT kvs=>exact xx hm h
theorem a7a {α:Type} {f:α→Option α}:∀ {xs:List α},(∀ x∈xs,f x=some x)→zj f xs=some xs
 | [],_=>rfl
 | x::xs,h=>by
  unfold zj
  rw [h x List.mem_cons_self,a7a fun y hy=>h y (List.mem_cons_of_mem _ hy)]
theorem a8j {n k:Nat} {h:Hd} {d:D} (c:clo n d):a1n n h (k+1) d=some d:=by unfold a1n;rw [if_pos c]
theorem ady {n k:Nat} {h:Hd} {o:O} (c:a1x n o):aji n h k o=some o:=by unfold aji;rw [if_pos c]
theorem a5e {n k i:Nat} {h:Hd} {xs:List D} (hi:n≤i) (e:h[i]? = some (.lst xs)) (c:clos n xs):a1n n h (k+2) (.ref i)=some (.rol xs):=by
 unfold a1n
 rw [if_neg (by simp only [clo];omega)]
 simp only [e]
 rw [a7a fun x hx=>a8j (xu.mp c x hx)]
 rfl
theorem adz {n k:Nat} {h:Hd} {xs ys:List D} (e:zj (a1n n h k) xs=some ys) (nc:¬ clos n xs):a1n n h (k+1) (.tup xs)=some (.tup ys):=by
 unfold a1n
 rw [if_neg (by simpa only [clo] using nc)]
 simp only [e,Option.map_some]
theorem a5f {n:Nat} {d d':D} {h1:Hd} (e:a1n n h1 FU d=some d') (c:∀ o∈h1.take n,a1x n o):a8b n (.ok d h1) = .ok d' (h1.take n):=by
 unfold a8b
 simp only [e]
 rw [a7a fun o ho=>ady (c o ho)]
theorem jk {n:Nat} {d:D} {h1:Hd} (e:clo n d) (c:∀ o∈h1.take n,a1x n o):a8b n (.ok d h1) = .ok d (h1.take n):=a5f (a8j e) c
theorem yc {n i:Nat} {h1:Hd} {xs:List D} (hi:n≤i) (e:h1[i]? = some (.lst xs)) (cx:clos n xs) (c:∀ o∈h1.take n,a1x n o):a8b n (.ok (.ref i) h1) = .ok (.rol xs) (h1.take n):=a5f (a5e hi e cx) c
theorem zu {f:SE} {τ:Sd} {h:Hd} {xs:List D} (e:f τ h = .ok (.ref h.length) (h++[.lst xs])) (cx:clos h.length xs) (c:∀ o∈h,a1x h.length o):sZ f τ h = .ok (.rol xs) h:=by
 unfold sZ
 rw [e,yc (Nat.le_refl _) (by simp) cx (by simpa using c)]
 simp
def Pu (F:SF) (n:Nat) (ds:List D) (d:D):Prop:=∀ h,jj false n F ds h = .ok d h
def Dr (F:SF) (n:Nat) (ds:List D) (o:O) (d:D) (o':O):Prop:=∀ p h,h[p]? = some o→jj false n F (.ref p::ds) h = .ok d (h.set p o')
theorem a2l:∀ {ds:List D},(∀ d∈ds,clo 0 d)→a0m ds=[]∧zp 0 ds=ds∧∀ k,zp k ds=ds
 | [],_=>⟨rfl,rfl,fun _=>rfl⟩
 | d::ds,h=>by
  obtain ⟨a,b,c⟩:=a2l (ds:=ds) fun x hx=>h x (List.mem_cons_of_mem _ hx)
  have hd:=h d List.mem_cons_self
  have nr:refOf d=none:=by cases d<;>first | rfl | (simp only [clo] at hd;omega)
  refine ⟨?_,?_,fun k=>?_⟩
  ·simpa [a0m,nr] using a
  ·cases d<;>first | (simp only [clo] at hd;omega) | (simp only [zp,b])
  ·cases d<;>first | (simp only [clo] at hd;omega) | (simp only [zp,c])
theorem Pu.of {F:SF} {n:Nat} {ds:List D} {r:R D} {d:D} (hn:ds.length=n) (cd:∀ x∈ds,clo 0 x) (e:F ds []=r) (z:a8b 0 r = .ok d []) (c:clo 0 d):Pu F n ds d:=fun h=>by
 obtain ⟨p1,p2,_⟩:=a2l cd
 unfold jj
 rw [if_pos hn]
 unfold ajk
 rw [p1]
 simp only [zj,List.length_nil,Bool.false_eq_true,if_false]
 rw [if_pos ⟨List.nodup_nil,fun x hx=>.inl (cd x hx),fun o ho=>by simp at ho⟩,p2,e,z]
 simp [c,qe]
theorem Dr.of {F:SF} {n:Nat} {ds:List D} {o o':O} {r:R D} {d:D} (hn:ds.length+1=n) (cd:∀ x∈ds,clo 0 x) (co:a1x 0 o) (e:F (.ref 0::ds) [o]=r) (z:a8b 1 r = .ok d [o']) (c:clo 0 d) (co':a1x 0 o'):Dr F n ds o d o':=fun p h hp=>by
 obtain ⟨p1,_,p3⟩:=a2l cd
 have e1:a0m (.ref p::ds)=[p]:=by
  have:a0m (.ref p::ds)=p::a0m ds:=rfl
  rw [this,p1]
 have e2:zp 0 (.ref p::ds) = .ref 0::ds:=by
  have:zp 0 (.ref p::ds) = .ref 0::zp 1 ds:=rfl
  rw [this,p3]
 unfold jj
 rw [if_pos (by simpa using hn)]
 unfold ajk
 rw [e1]
 simp only [zj,hp,List.length_singleton,Bool.false_eq_true,if_false]
 have all:∀ x∈(D.ref p::ds),clo 0 x∨isRef x:=fun x hx=>by
  rcases List.mem_cons.mp hx with rfl | hx
  ·exact .inr ⟨p,rfl⟩
  ·exact .inl (cd x hx)
 rw [if_pos ⟨by simp,all,fun u hu=>by rw [List.mem_singleton.mp hu];exact co⟩,e2,e,z]
 simp [c,co',qe]
theorem ajq {F:SF} {n i:Nat} {ds:List D} {o:O} {h1:Hd} (hn:ds.length=n) (cd:∀ x∈ds,clo 0 x) (e:F ds [] = .ok (.ref i) h1) (ho:h1[i]? = some o) (co:a1x 0 o) (h:Hd):jj true n F ds h = .ok (.ref h.length) (h++[o]):=by
 obtain ⟨p1,p2,_⟩:=a2l cd
 unfold jj
 rw [if_pos hn]
 unfold ajk
 rw [p1]
 simp only [zj,List.length_nil,if_true]
 rw [if_pos ⟨List.nodup_nil,fun x hx=>.inl (cd x hx),fun o ho=>by simp at ho⟩,p2,e]
 unfold ahh
 simp only [ho]
 rw [if_pos ⟨Nat.zero_le _,co,by simp⟩]
 simp [co,qe]
theorem ae0 (g:SG) (b:SS) (τ:Sd) (h:Hd):forL (fun _=>True) g b [] τ h = .nx τ h:=by rw [forL,if_pos True.intro]
def trn (r:Fl) (k:Sd→Hd→Fl):Fl:=match r with | .nx τ h=>k τ h | .ct τ h=>k τ h | .bk τ h=>.nx τ h | r=>r
theorem abg (g:SG) (b:SS) (x:D) (xs:List D) (τ τ1:Sd) (h h1:Hd) (e:g x τ h = .nx τ1 h1):forL (fun _=>True) g b (x::xs) τ h=trn (b τ1 h1) (forL (fun _=>True) g b xs):=by
 rw [forL,if_pos True.intro,e]
 dsimp only
 unfold trn
 cases b τ1 h1<;>rfl
theorem ajr (τ:Sd) (h:Hd) (k:Sd→Hd→Fl):trn (.nx τ h) k=k τ h:=rfl
theorem ajs (d:D) (h:Hd) (k:Sd→Hd→Fl):trn (.rt d h) k = .rt d h:=rfl
theorem a1c {g:SG} {b:SS} {α:Type} (f:α→D) (I:List α→Sd→Hd→Prop) (Rt:D→Hd→Prop):∀ (xs pre:List α) (τ:Sd) (h:Hd),
  (∀ pre' x post τ h,pre++xs=pre'++x::post→I pre' τ h→∃ τ1 h1,g (f x) τ h = .nx τ1 h1∧((∃ τ2 h2,b τ1 h1 = .nx τ2 h2∧I (pre'++[x]) τ2 h2)∨∃ d h2,b τ1 h1 = .rt d h2∧Rt d h2))→I pre τ h →
  (∃ τ' h',forL (fun _=>True) g b (xs.map f) τ h = .nx τ' h'∧I (pre++xs) τ' h')∨∃ d h',forL (fun _=>True) g b (xs.map f) τ h = .rt d h'∧Rt d h'
 | [],pre,τ,h,_,i0=>.inl ⟨τ,h,ae0 ..,by simpa using i0⟩
 | x::xs,pre,τ,h,st,i0=>by
  obtain ⟨τ1,h1,e1,q⟩:=st pre x xs τ h rfl i0
  rw [List.map_cons,abg _ _ _ _ _ _ _ _ e1]
  rcases q with ⟨τ2,h2,e2,i2⟩ | ⟨d,h2,e2,r⟩
  ·rw [e2,ajr]
   have:=a1c f I Rt xs (pre++[x]) τ2 h2 (fun pre' y post τ h e=>st pre' y post τ h (by simpa using e)) i2
   simpa using this
  ·rw [e2,ajs]
   exact .inr ⟨d,h2,rfl,r⟩
theorem jm {g:SG} {b:SS} {α:Type} (f:α→D) (I:List α→Sd→Hd→Prop) (xs:List α) (τ:Sd) (h:Hd)
  (st:∀ pre x post τ h,xs=pre++x::post→I pre τ h→∃ τ1 h1,g (f x) τ h = .nx τ1 h1∧∃ τ2 h2,b τ1 h1 = .nx τ2 h2∧I (pre++[x]) τ2 h2) (i0:I [] τ h) :
  ∃ τ' h',forL (fun _=>True) g b (xs.map f) τ h = .nx τ' h'∧I xs τ' h':=by
 rcases a1c f I (fun _ _=>False) xs [] τ h (fun pre' x post τ h e i=>let ⟨τ1,h1,a,b⟩:=st pre' x post τ h e i; ⟨τ1,h1,a, .inl b⟩) i0 with ⟨τ',h',a,b⟩ | ⟨_,_,_,z⟩
 ·exact ⟨τ',h',a,b⟩
 ·exact z.elim
theorem a8k {f:D→Hd→R D} {α:Type} (g:α→D) (I:List α→List D→Hd→Prop):∀ (xs pre:List α) (ys:List D) (h:Hd),
  (∀ pre' x post ys h,pre++xs=pre'++x::post→I pre' ys h→∃ y h',f (g x) h = .ok y h'∧I (pre'++[x]) (ys++[y]) h')→I pre ys h→∃ zs h',mapR (fun _=>True) f (xs.map g) h = .ok zs h'∧I (pre++xs) (ys++zs) h'
 | [],pre,ys,h,_,i0=>⟨[],h,by rw [List.map_nil,mapR,if_pos True.intro],by simpa using i0⟩
 | x::xs,pre,ys,h,st,i0=>by
  obtain ⟨y,h1,e1,i1⟩:=st pre x xs ys h rfl i0
  obtain ⟨zs,h',e2,i2⟩:=a8k g I xs (pre++[x]) (ys++[y]) h1 (fun pre' z post ys h e=>st pre' z post ys h (by simpa using e)) i1
  refine ⟨y::zs,h',?_,by simpa using i2⟩
  rw [List.map_cons,mapR,if_pos True.intro,e1]
  show (mapR _ f (xs.map g) h1).bind _=_
  rw [e2];rfl
theorem a6n {f:D→Hd→R D} {α:Type} (g F:α→D) {h:Hd}:∀ {xs:List α},(∀ x∈xs,f (g x) h = .ok (F x) h)→mapR (fun _=>True) f (xs.map g) h = .ok (xs.map F) h
 | [],_=>by rw [List.map_nil,mapR,if_pos True.intro];rfl
 | x::xs,st=>by
  rw [List.map_cons,mapR,if_pos True.intro,st x List.mem_cons_self]
  show (mapR _ f (xs.map g) h).bind _=_
  rw [a6n g F fun y hy=>st y (List.mem_cons_of_mem _ hy)];rfl
theorem a6o {f:D→Hd→R (Option D)} {α:Type} (g:α→D) (F:α→Option D) {h:Hd}:∀ {xs:List α},(∀ x∈xs,f (g x) h = .ok (F x) h)→acf (fun _=>True) f (xs.map g) h = .ok (xs.filterMap F) h
 | [],_=>by rw [List.map_nil,acf,if_pos True.intro];rfl
 | x::xs,st=>by
  rw [List.map_cons,acf,if_pos True.intro,st x List.mem_cons_self]
  show (acf _ f (xs.map g) h).bind _=_
  rw [a6o g F fun y hy=>st y (List.mem_cons_of_mem _ hy)]
  show R.ok ((F x).toList++xs.filterMap F) h=_
  cases e:F x<;>simp [List.filterMap_cons,e]
theorem amk {c:ST} {f:SS} (I:Nat→Sd→Hd→Prop) (N:Sd→Hd→Prop) (Rt:D→Hd→Prop)
  (st:∀ m τ h,I m τ h→(∃ h1,c τ h = .ok false h1∧N τ h1)∨∃ h1,c τ h = .ok true h1∧((∃ τ2 h2 m',f τ h1 = .nx τ2 h2∧m'<m∧I m' τ2 h2)∨∃ d h2,f τ h1 = .rt d h2∧Rt d h2)) :
  ∀ (m n:Nat) (τ:Sd) (h:Hd),m<n→I m τ h→(∃ τ' h',sWh c f n τ h = .nx τ' h'∧N τ' h')∨∃ d h',sWh c f n τ h = .rt d h'∧Rt d h':=by
 intro m
 induction m using Nat.strongRecOn with
 | ind m ih =>
  intro n τ h hn i0
  cases n with
  | zero=>omega
  | succ n =>
   rcases st m τ h i0 with ⟨h1,e1,q⟩ | ⟨h1,e1,q⟩
   ·exact .inl ⟨τ,h1,by rw [sWh,e1];rfl,q⟩
   ·rcases q with ⟨τ2,h2,m',e2,lt,i2⟩ | ⟨d,h2,e2,r⟩
    ·have e3:sWh c f (n+1) τ h=sWh c f n τ2 h2:=by
      rw [sWh,e1,a2f,if_pos rfl,e2]
     rw [e3]
     exact ih m' lt n τ2 h2 (by omega) i2
    ·refine .inr ⟨d,h2,?_,r⟩
     rw [sWh,e1,a2f,if_pos rfl,e2]
end MI
namespace MI
open PySem PySem.Spec L2
structure KD (P:Program) (w:World) (K:PySem.W.Frag) (a:Addr) (kvs:List (Str × Str)):Prop where
 sys:(a == sysModules)=false
 ex:∃ (o:Obj) (vs:List (Key × Value)),K.lookup a=some o∧KV (kvs.map fun p=>((.inr p.1:Key),V.str p.2)) vs∧∀ h:Heap,h.get? a=some o→h.DictOf (a2u P w) a vs
section
variable {X:Cx} {E:XD} {e:Expr} {fa:SE} {pos p:Pos} {a:Addr} {kvs:List (Str × Str)} {x:Str}
theorem KD.at (kd:KD X.prog X.w X.K a kvs) {pins:List (Addr × Obj)} {σ:L2.St} {H:Hp} {s:Shared} (I:Inv X pins σ H s):∃ vs,KV (kvs.map fun p=>((.inr p.1:Key),V.str p.2)) vs∧s.heap.DictOf (a2u X.prog X.w) a vs:=by
 obtain ⟨o,vs,l,r,d⟩:=kd.ex
 exact ⟨vs,r,d _ (I.bk _ _ (I.mod.kin _ _ l))⟩
end
end MI
namespace MI
open PySem PySem.Spec L2
mutual
def toPy:D→Option PyData
 | .non=>some .none
 | .bl b=>some (.bool b)
 | .int i=>some (.int i)
 | .str x=>some (.str x)
 | .tup xs=>(agu xs).map .tuple
 | .rol xs=>(agu xs).map .list
 | .rod [] []=>some (.dict [])
 | _=>none
def agu:List D→Option (List PyData)
 | []=>some []
 | x::xs=>match toPy x,agu xs with | some p,some ps=>some (p::ps) | _,_=>none
end
mutual
def noL:D→Bool
 | .rol _=>false
 | .tup xs=>ank xs
 | _=>true
def ank:List D→Bool
 | []=>true
 | x::xs=>noL x && ank xs
end
def okR (d:D) (p:PyData):Prop:=(p.hasDict=true→noL d=true)∧p.showable=true∧p.depth≤60∧p.shown.length≤sizeLine
open Classical in
noncomputable def aov:List D→Hd→R D
 | [x],h=>(match toPy x with | some p=>if okR x p then .ok (.str p.shown) h else .no | none=>.no)
 | _,_=>.no
theorem o6 {X:Cx}:CallR X (.builtin "isinstance") (fun xs H Q=>∃ a o us T b,xs=[.ref a, .ty T]∧H a=some (.frz o (.dK us))∧PySem.W.kitOne X.K (.type "dict") (.type T)=some b∧Q (.bl b) H):=by
 intro pins s σ H xs us Q I r h
 obtain ⟨a,o,kv,T,b,rfl,ea,e,q⟩:=h
 obtain ⟨u,w',rfl,rx,rt⟩:=vals2 r
 cases rt
 obtain rfl:u=Value.ref a:=rx
 obtain ⟨_,_,_,vs,_,p⟩:=(show ObjOk X.prog X.w H s.heap a (.frz o (.dK kv)) from I.hok a _ ea)
 obtain ⟨o',es,ep,h1,h2,_⟩:=p
 exact PySem.W.kia_one PySem.W.kitx_dict I.kIn ⟨o',h1,h2.1⟩ e (fun z=>nomatch z) fun tk=>⟨.bl b,H,I.tok tk,rfl,q⟩
def ye:List D→Hd→R D
 | [.rod ks xs, .ty T],h=>(match af5 "dict" T with | some b=>.ok (.bl b) h | none=>.no)
 | ds,h=>ahg ds h
theorem a04 {K:PySem.W.Frag}:a7z K ye (fun xs H Q=>(∃ x T t b,xs=[x, .ty T]∧TyOf K H x t∧PySem.W.kitOne K t (.type T)=some b∧Q (.bl b) H)∨∃ a o us T b,xs=[.ref a, .ty T]∧H a=some (.frz o (.dK us))∧PySem.W.kitOne K (.type "dict") (.type T)=some b∧Q (.bl b) H):=by
 intro E ι H h xs ds Q r hr o
 unfold ye at o
 split at o
 ·split at o
  ·rename_i b hb
   cases r with
   | cons r1 rs =>
    cases rs with
    | cons r2 rs2 =>
     cases rs2
     cases r2
     cases r1 with
     | rod hp ek rr=>exact .inr ⟨_,_,_,_,b,rfl,hp,aav hb,ans o (.bl _) hr⟩
  ·exact o.elim
 ·exact .inl (agg E ι H h xs _ Q r hr o)
end MI
namespace TPM
open PySem PySem.Spec PySem.W L2 HT MI PyProof.Rows
end TPM
namespace MI
open PySem PySem.Spec L2 TPM
end MI
namespace SRC
open PySem PySem.Spec L2 MI
noncomputable def ut:SE :=
 (s2 jf (s2 a1b (sC (.int 2)) (sA al8 (ak (sV 0) dm))) (sA age (ak (s2 gLt (sV 0) (sC (.int 0))) dm)))
noncomputable def v7:SS :=
 (j7 (jy 1 (sZ (jn (sIt (sZ (a6j (sV 0) oN (oS (sC (.int 63)))))) t1 ut [])))
 (u5 (sA a3e (ak (sV 1) (ak (sC (.int 0)) (ak (sC (.int 0)) (ak (sC (.int 0)) (ak (s2 a6u (sA aje (ak (sV 1) dm)) (sC (.int 2147483647))) dm))))))))
noncomputable def a1r:SS :=
 (j7 (a6k a3h (sV 0) (sC (.int 3)) (sC (.int 1)))
 (j7 (sIf (a1k (sT (s2 hEq (s2 gIx (sV 0) (sC (.int 2))) (sC (.int 0)))) (sT (s2 gLt (s2 gIx (sV 0) (sC (.int 1))) (sA vg (ak (s2 gIx (sV 0) (sC (.int 0))) dm)))))
 (j7 (jy 2 (s2 gIx (s2 gIx (sV 0) (sC (.int 0))) (s2 gIx (sV 0) (sC (.int 1)))))
 (j7 (a6k a3h (sV 0) (sC (.int 1)) (sC (.int 1)))
 (sIf (sT (s2 gGe (sV 2) (s2 a6v (sC (.int 10)) (sC (.int 18)))))
 (aam (sV 2) (sV 0) (sC (.int 2)))
 (aam (s2 a6u (s2 jf (s2 a1b (s2 gIx (sV 0) (sC (.int 4))) (sC (.int 31))) (sV 2)) (sC (.int 2147483647))) (sV 0) (sC (.int 4))))))
 sNx)
 (j7 (sIf (sT (s2 gGt (s2 gIx (sV 0) (sC (.int 2))) (sC (.int 0))))
 (j7 (jy 3 (s2 a6u (s2 gIx (sV 0) (sC (.int 2))) (sV 1)))
 (j7 (a6k ach (sV 0) (sC (.int 2)) (sV 1))
 (u5 (sV 3))))
 sNx)
 (j7 (jy 3 (s2 a6u (s2 a6v (s2 jf (s2 jf (s2 gIx (sV 0) (sC (.int 4))) (sC (.int 1))) (s2 a1b (s2 gIx (sV 0) (sC (.int 3))) (sC (.int 7919)))) (sC (.int 3))) (sC (.int 2147483647))))
 (u5 (s2 a6u (s2 ach (s2 a6u (s2 a6v (s2 jf (s2 a1b (sV 3) (sC (.int 48271))) (s2 gIx (sV 0) (sC (.int 3)))) (sC (.int 2))) (sC (.int 2147483629))) (sC (.int 64))) (sV 1)))))))
noncomputable def uv:SS :=
 (j7 (jy 0 (sC (.str " !\"#$&'()*+,-./0123456789:;<=>?@ABCDEFGHIJKLMNOPQRSTUVWXYZ[\\]^_`")))
 (u5 (s2 jf (sV 0) (sC (.str "abcdefghijklmnopqrstuvwxyz{|}~\n")))))
noncomputable def o9 (aj:SF) (jb:SF):SS :=
 (j7 (jy 4 (sA (jj false 2 aj) (ak (sV 0) (ak (sA vg (ak (sV 1) dm)) dm))))
 (j7 (ace 2 a3h (s2 gIx (sV 1) (sV 4)))
 (jy 1 (s2 jf (a6j (sV 1) oN (oS (sV 4))) (a6j (sV 1) (oS (s2 jf (sV 4) (sC (.int 1)))) oN)))))
noncomputable def zx (aj:SF) (jb:SF):SS :=
 (j7 (jy 1 (sA (jj false 0 jb) dm))
 (j7 (jy 2 (sC (.str "")))
 (j7 (a1w (sRg v4 (ak (s2 jf (sC (.int 1)) (sA (jj false 2 aj) (ak (sV 0) (ak (sC (.int 6)) dm)))) dm)) (kN 3) (o9 aj jb))
 (u5 (sV 2)))))
noncomputable def qt (aj:SF):SS :=
 (a0k (sML a6w (sV 3) (ak (a6a (sT (s2 gLt (sA (jj false 2 aj) (ak (sV 0) (ak (sC (.int 5)) dm))) (sC (.int 2)))) (sA (jj false 2 aj) (ak (sV 0) (ak (sC (.int 6)) dm))) (s1 a0a (sC (.int 1)))) dm)))
noncomputable def qu (aj:SF):SE :=
 (sA (jj false 2 aj) (ak (sV 1) (ak (sV 2) dm)))
noncomputable def a0h (aj:SF):SE :=
 (a6a (a1k (sT (s2 gLt (s2 gIx (sV 2) (sV 0)) (sC (.int 0)))) (sT (s2 gLe (sV 0) (sV 3)))) (s2 a6t (sV 1) (sC (.int 1))) (sV 0))
noncomputable def vh (aj:SF):SE :=
 (sV 1)
noncomputable def qw (aj:SF):SS :=
 (j7 (jy 7 (sZ (jn (sIt (sV 1)) t1 (qu aj) [0,2])))
 (j7 (sIf (sT (s2 gGt (sV 5) (sC (.int 0))))
 (jy 7 (sZ (jn (sIt (sV 7)) t1 (a0h aj) [2,3,4])))
 sNx)
 (j7 (sIf (a1k (sT (s2 hEq (sV 5) (sC (.int 1)))) (sT (s2 hEq (sV 4) (s2 a6t (sV 2) (sC (.int 1))))))
 (jy 7 (sZ (jn (sIt (sV 7)) t1 (vh aj) [4])))
 sNx)
 (a0k (sML a6w (sV 6) (ak (sV 7) dm))))))
noncomputable def yf (aj:SF):SS :=
 (j7 (jy 3 (sA a3e (ak (s1 a0a (sC (.int 1))) dm)))
 (j7 (a1w (sRg a4x (ak (sC (.int 1)) (ak (sV 2) dm))) (kN 4) (qt aj))
 (j7 (jy 5 (sA (jj false 2 aj) (ak (sV 0) (ak (sC (.int 3)) dm))))
 (j7 (jy 6 (sA a3e dm))
 (j7 (a1w (sRg v4 (ak (sV 2) dm)) (kN 4) (qw aj))
 (u5 (sA a0q (ak (sV 6) (ak (sV 3) dm)))))))))
noncomputable def qx (aj:SF) (dw:SF) (di:SF):SS :=
 (sIf (sT (s2 (gIn true) (sV 8) (sV 6)))
 (a0k (sML a6w (sV 6) (ak (sV 8) dm)))
 sNx)
noncomputable def vm (aj:SF) (dw:SF) (di:SF):ST :=
 (sT (s2 gLt (sV 7) (sA vg (ak (sV 6) dm))))
noncomputable def qy (aj:SF) (dw:SF) (di:SF):SS :=
 (j7 (a1w (sIt (s2 gIx (sV 4) (s2 gIx (sV 6) (sV 7)))) (kN 8) (qx aj dw di))
 (ace 7 a3h (sC (.int 1))))
noncomputable def vo (aj:SF) (dw:SF) (di:SF):SE :=
 (sML a3l (sV 1) (ak (sV 0) dm))
noncomputable def qz (aj:SF) (dw:SF) (di:SF):SE :=
 (sA sy (ak (sZ (jn (sIt (s2 gIx (sV 1) (sV 0))) t1 (vo aj dw di) [2])) dm))
noncomputable def rm (aj:SF) (dw:SF) (di:SF):SE :=
 (s2 gIx (sV 1) (sV 0))
noncomputable def yg (aj:SF) (dw:SF) (di:SF):SS :=
 (j7 (jy 2 (sA (jj false 1 di) (ak (sV 0) dm)))
 (j7 (jy 3 (s2 jf (sC (.int 2)) (sA (jj false 2 aj) (ak (sV 0) (ak (sC (.int 7)) dm)))))
 (j7 (sIf (sT (s2 hEq (sA (jj false 2 aj) (ak (sV 0) (ak (sC (.int 6)) dm))) (sC (.int 0))))
 (jy 3 (s2 jf (sC (.int 1)) (sA (jj false 2 aj) (ak (sV 0) (ak (sV 1) dm)))))
 sNx)
 (j7 (ade (sA (jj false 3 dw) (ak (sV 0) (ak (sV 2) (ak (sA a6f (ak (sV 3) (ak (sV 1) dm))) dm)))) (aex 2 (a2e (kN 4) (a2e (kN 5) ag8))))
 (j7 (jy 6 (sA a3e (ak (sC (.int 0)) dm)))
 (j7 (jy 7 (sC (.int 0)))
 (j7 (sWh (vm aj dw di) (qy aj dw di) 100000)
 (j7 (jy 6 (sA a0n (ak (sV 6) dm)))
 (j7 (jy 9 (sA sy (ak (sZ (jn (sIt (sV 6)) t1 (qz aj dw di) [4,6])) dm)))
 (u5 (sA a0q (ak (sV 2) (ak (sV 9) (ak (sA sy (ak (sZ (jn (sIt (sV 6)) t1 (rm aj dw di) [5])) dm)) dm))))))))))))))
noncomputable def u6:SS :=
 (sIf (sOr (a1h (yz (sA ye (ak (sV 2) (ak (sC (.ty "int")) dm))))) (yz (sA ye (ak (sV 2) (ak (sC (.ty "bool")) dm)))))
 (u5 (sC (.bl false)))
 sNx)
noncomputable def uh:SS :=
 (j7 (sIf (sOr (a1h (yz (sA ye (ak (sV 0) (ak (sC (.ty "tuple")) dm))))) (sT (s2 hNe (sA vg (ak (sV 0) dm)) (sV 1))))
 (u5 (sC (.bl false)))
 sNx)
 (j7 (a1w (sIt (sV 0)) (kN 2) u6)
 (u5 (sC (.bl true)))))
end SRC
namespace L2
open PySem PySem.Spec PySem.W PyProof.Rows
structure Air (stack:List Env) (H:Hp) (h0 B:Heap) (a C:Addr) (t:Value) (h:Heap):Prop where
 fly:Heap.FlyingW B stack a (.ref C) t h
 bk:∀ b o,h.get? b=some o→b ∉ frs stack→(H b≠none∨∃ o0,h0.get? b=some o0)→B.get? b=some o
def CXE (P:Program) (w:World):CXT:=fun outer H s E e s' =>
 ∃ a C t B H',e = .ref a∧s'.os=s.os∧AllBare s'.gens∧Un (frs outer) [] H H' s.heap s'.heap∧HOk P w H' s'.heap∧Air outer H' s.heap B a C t s'.heap∧E (.ref C) none H'
end L2
namespace L2
open PySem PySem.Spec PySem.W PyProof.Rows Builtin Builtin.ObjectAttr Builtin.Getset_descriptor
section
variable {prog:Program} {w:World} {A:Around} {E:Value→Shared→Prop} {s:Shared} {K:Frag} {x D:Addr} {ox:Obj} {odo:Option Obj}
structure XKit (K:Frag) (D:Addr):Prop where
 ga:findIn K (.ref D) "__getattribute__" = some (some (.builtin "BaseException.__getattribute__"))
 gn:findIn K (.ref D) "__getattr__" = some none
 cl:(clsIn K D).isSome=true
 ca:findIn K (.ref D) "__class__" = some (some (.builtin "object.__class__"))
 sp:specialIn K (.builtin "object.__class__") "__get__" = some (some (.builtin "getset_descriptor.__get__"))
 tk:takesIn K (.builtin "object.__class__")=some true
 ob:mroIn K D (.type "object")=some true
 be:subIn K (.ref D) (.type "BaseException")=some true
 kc:kitCls K (.ref D) (.ref D)=some true
abbrev ExAt (x D:Addr) (h:Heap):Prop:=∃ o,h.get? x=some o∧o.cls = .ref D
theorem ExAt.ty {M:Model} {h:Heap} (I:ExAt x D h):Looks M h (typeOf (.ref x)) (.ref D):=by
 obtain ⟨o,q,c⟩:=I
 exact c ▸ (Looks.ld q).andThen .now
theorem XKit.at (Z:XKit K D):∃ c o cd sl,K.lookup D=some ⟨c,o, .cls cd,sl⟩:=by
 have:=Z.cl
 unfold clsIn at this
 split at this
 ·exact ⟨_,_,_,_, ‹_›⟩
 ·cases this
theorem XKit.no (Z:XKit K D) {h:Heap} {tp:Addr} {dd:Option Addr} {its:List Value} {n:Nat} {sl:Array (Option Value)} (X:K.In h) (q:h.get? tp=some ⟨.type "tuple",dd, .seq its.toArray n,sl⟩):(Value.ref D == .ref tp)=false :=
 beq_eq_false_iff_ne.mpr fun e=>by
  obtain ⟨_,_,_,_,lo⟩:=Z.at
  rw [Value.ref.inj e] at lo
  have:=X _ _ lo
  rw [q] at this
  cases this
end
end L2
namespace L2
open PySem PySem.Spec PySem.W PyProof.Rows
def XP (X:Cx) (pins:List (Addr × Obj)) (σ:St) (E:XK) (e:Value) (s':Shared):Prop:=∃ s1 H1,Inv X pins σ H1 s1∧CXE X.prog X.w X.stack H1 s1 E e s'
end L2
namespace MI
open PySem PySem.Spec L2
end MI
namespace MI
open PySem PySem.Spec L2
end MI
namespace ZP
open PySem PySem.Spec PySem.Builtin PySem.Builtin.SmallTypes L2
end ZP
namespace MI
open PySem PySem.Spec L2 ZP
end MI
namespace AT
open L2
theorem ae1 {α:Type} (x0:α) (xs:List α):atI (x0::xs) 0=some x0:=qg (j:=0) rfl
theorem ae2 {α:Type} (x0 x1:α) (xs:List α):atI (x0::x1::xs) 1=some x1:=qg (j:=1) rfl
theorem ae3 {α:Type} (x0 x1 x2:α) (xs:List α):atI (x0::x1::x2::xs) 2=some x2:=qg (j:=2) rfl
theorem ae4 {α:Type} (x0 x1 x2 x3:α) (xs:List α):atI (x0::x1::x2::x3::xs) 3=some x3:=qg (j:=3) rfl
theorem ae5 {α:Type} (x0 x1 x2 x3 x4:α) (xs:List α):atI (x0::x1::x2::x3::x4::xs) 4=some x4:=qg (j:=4) rfl
theorem ae6 {α:Type} (x0 x1 x2 x3 x4 x5:α) (xs:List α):atI (x0::x1::x2::x3::x4::x5::xs) 5=some x5:=qg (j:=5) rfl
theorem ae7 {α:Type} (x0 x1 x2 x3 x4 x5 x6:α) (xs:List α):atI (x0::x1::x2::x3::x4::x5::x6::xs) 6=some x6:=qg (j:=6) rfl
theorem ae8 {α:Type} (x0 x1 x2 x3 x4 x5 x6 x7:α) (xs:List α):atI (x0::x1::x2::x3::x4::x5::x6::x7::xs) 7=some x7:=qg (j:=7) rfl
theorem x10:ixN 1 0=some 0:=rfl
theorem x20:ixN 2 0=some 0:=rfl
theorem x21:ixN 2 1=some 1:=rfl
theorem x30:ixN 3 0=some 0:=rfl
theorem x31:ixN 3 1=some 1:=rfl
theorem x32:ixN 3 2=some 2:=rfl
theorem x40:ixN 4 0=some 0:=rfl
theorem x41:ixN 4 1=some 1:=rfl
theorem x42:ixN 4 2=some 2:=rfl
theorem x43:ixN 4 3=some 3:=rfl
theorem x50:ixN 5 0=some 0:=rfl
theorem x51:ixN 5 1=some 1:=rfl
theorem x52:ixN 5 2=some 2:=rfl
theorem x53:ixN 5 3=some 3:=rfl
theorem x54:ixN 5 4=some 4:=rfl
theorem x60:ixN 6 0=some 0:=rfl
theorem x61:ixN 6 1=some 1:=rfl
theorem x62:ixN 6 2=some 2:=rfl
theorem x63:ixN 6 3=some 3:=rfl
theorem x64:ixN 6 4=some 4:=rfl
theorem x65:ixN 6 5=some 5:=rfl
theorem x70:ixN 7 0=some 0:=rfl
theorem x71:ixN 7 1=some 1:=rfl
theorem x72:ixN 7 2=some 2:=rfl
theorem x73:ixN 7 3=some 3:=rfl
theorem x74:ixN 7 4=some 4:=rfl
theorem x75:ixN 7 5=some 5:=rfl
theorem x76:ixN 7 6=some 6:=rfl
def anl (x:Int):Int:=if x<0 then -x else x
theorem abh (x:Int) (h:MI.Hd):MI.al8 [.int x] h = .ok (.int (anl x)) h:=rfl
theorem p18 (h:MI.Hd):MI.a6v (.int 10) (.int 18) h = .ok (.int 1000000000000000000) h:=by rw [MI.a6v,if_pos (by decide)];rfl
theorem agv {i j:Int} {h:MI.Hd} (c:0≤j∧j≤1000000∧i.natAbs<2 ^ 64):MI.a6v (.int i) (.int j) h = .ok (.int (i ^ j.toNat)) h:=by rw [MI.a6v,if_pos c]
end AT
namespace MI
open PySem PySem.Spec L2 SeqAt
def anm (neg:Bool) (K:PySem.W.Frag):R2:=fun x y H Q=>∃ (ι:List Addr) (p q:Addr) (vs us:List V) (xs ys:List D),x = .ref p∧y = .ref q∧Rd H p (.lst vs)∧Rd H q (.lst us)∧Reps K ι H vs xs∧Reps K ι H us ys∧xs.all (pur 59)=true∧ys.all (pur 59)=true∧Q (.bl (if neg then !a76 xs ys else a76 xs ys)) H
theorem ae9 {X:Cx} {pins:List (Addr × Obj)} {s:Shared} {σ:St} {H:Hp} (I:Inv X pins σ H s) (hu:X.A.units+64<cLine) {ι:List Addr} {p q:Addr} {vs us:List V} {xs ys:List D} (h1:Rd H p (.lst vs)) (h2:Rd H q (.lst us)) (rs:Reps X.K ι H vs xs) (qs:Reps X.K ι H us ys) (p1:xs.all (pur 59)=true) (p2:ys.all (pur 59)=true) :
  RcAt X.A s (.ref p) (.ref q) (a76 xs ys)∧RcNeAt X.A s (.ref p) (.ref q) (!a76 xs ys):=by
 obtain ⟨its,r1,pl1,z1⟩:=I.list (.inl h1)
 obtain ⟨its2,r2,pl2,z2⟩:=I.list (.inl h2)
 have l1:its.toArray.size=xs.length:=by rw [List.size_toArray,← r1.length,rs.len]
 have l2:its2.toArray.size=ys.length:=by rw [List.size_toArray,← r2.length,qs.len]
 by_cases hl:xs.length=ys.length
 ·have step:∀ j (h1:j<its.toArray.size) (h2:j<its2.toArray.size),EqAt X.A.in1 s its.toArray[j] its2.toArray[j] (pairE xs ys j):=fun j h1 h2=>by
   have j1:j<xs.length:=by omega
   have j2:j<ys.length:=by omega
   obtain ⟨v1,e1,q1⟩:=rs.get (List.getElem?_eq_getElem j1)
   obtain ⟨v2,e2,q2⟩:=qs.get (List.getElem?_eq_getElem j2)
   obtain ⟨u1,e3,q3⟩:=r1.get e1
   obtain ⟨u2,e4,q4⟩:=r2.get e2
   have f1:its.toArray[j]=u1:=by simpa using (List.getElem?_eq_some_iff.mp e3).2
   have f2:its2.toArray[j]=u2:=by simpa using (List.getElem?_eq_some_iff.mp e4).2
   have pe:pairE xs ys j=eqD xs[j] ys[j]:=by simp [pairE,List.getElem?_eq_getElem j1,List.getElem?_eq_getElem j2]
   rw [f1,f2,pe]
   rw [List.all_eq_true] at p1 p2
   exact af6 I.hok 59 X.A.in1 q1 q2 q3 q4 (p1 _ (List.getElem_mem j1)) (p2 _ (List.getElem_mem j2)) (by rw [Around.in1_units];omega)
  have c1:=RcAt.lists (A:=X.A) (s:=s) (e:=pairE xs ys) pl1.isList pl2.isList (by omega) (by omega) step
  have c2:=RcNeAt.lists (A:=X.A) (s:=s) (e:=pairE xs ys) pl1.isList pl2.isList (by omega) (by omega) step
  have ea:=a0y xs ys
  rw [hl,Nat.min_self,beq_self_eq_true,Bool.and_true,← hl] at ea
  rw [l1,ea] at c1 c2
  exact ⟨c1,c2⟩
 ·have ne:(its.toArray.size != its2.toArray.size)=true:=by rw [l1,l2];simpa using hl
  have ea:=a0y xs ys
  rw [beq_eq_false_iff_ne.mpr hl,Bool.and_false] at ea
  rw [← ea]
  exact ⟨RcAt.lists_lengths pl1.isList pl2.isList ne (by omega),RcNeAt.lists_lengths pl1.isList pl2.isList ne (by omega)⟩
theorem ajt {X:Cx} (hu:X.A.units+64<cLine):OpR X (compareOp .NotEq) (anm true X.K):=by
 intro pins s σ H x y v u Q I rx ry h
 obtain ⟨ι,p,q,vs,us,xs,ys,rfl,rfl,h1,h2,r1,r2,p1,p2,hq⟩:=h
 cases rx;cases ry
 exact (ae9 I hu h1 h2 r1 r2 p1 p2).2 X.prog X.w X.xe _ ⟨.bl _,H,I,rfl,hq⟩
def ahj (neg:Bool) (x y:D) (h:Hd):R D:=match xr x h,xr y h with
 | some xs,some ys=>if xs.all (pur 59)=true∧ys.all (pur 59)=true then .ok (.bl (if neg then !a76 xs ys else a76 xs ys)) h else .no
 | _,_=>.no
theorem agw (neg:Bool) {K:PySem.W.Frag}:a0c K (ahj neg) (anm neg K):=by
 intro E ι H h x y dx dy Q rx ry hr o
 unfold ahj at o
 split at o
 ·rename_i xs ys e1 e2
  split at o
  ·rename_i hc
   obtain ⟨a,vs,rfl,h1,r1⟩:=a1a rx hr e1
   obtain ⟨b,us,rfl,h2,r2⟩:=a1a ry hr e2
   exact ⟨ι,a,b,vs,us,xs,ys,rfl,rfl,h1,h2,r1,r2,hc.1,hc.2,ans o (.bl _) hr⟩
  ·exact o.elim
 ·exact o.elim
end MI
namespace K40
open PySem PySem.Spec L2 MI
noncomputable def yh:SS :=
 (u5 (a0t (sA ye (ak (sV 0) (ak (sC (.ty "int")) dm))) (a4w (sA ye (ak (sV 0) (ak (sC (.ty "bool")) dm))))))
noncomputable def a2m:SS :=
 (u5 (a0t (sA ye (ak (sV 0) (ak (sC (.ty "tuple")) dm))) (sCh gLe gLe (sV 1) (sA vg (ak (sV 0) dm)) (sV 2))))
noncomputable def lw (gj:SF) (j5:SF) (kj:SF):SE :=
 (a0t (sA (jj false 1 j5) (ak (sV 0) dm)) (s2 gGe (sV 0) (s1 a0a (sC (.int 2)))))
noncomputable def wu (gj:SF) (j5:SF) (kj:SF):SE :=
 (sA (jj false 4 gj) (ak (sV 1) (ak (sV 2) (ak (sV 3) (ak (sV 0) dm)))))
noncomputable def rz (gj:SF) (j5:SF) (kj:SF):SS :=
 (j7 (jy 3 (sA vg (ak (s2 gIx (sV 0) (sC (.int 1))) dm)))
 (j7 (sIf (sOr (a1h (yz (sA (jj false 3 kj) (ak (sV 2) (ak (sV 3) (ak (sV 3) dm)))))) (a1h (yz (sA aci (ak (sZ (jn (sIt (sV 2)) t1 (lw gj j5 kj) [])) dm)))))
 (u5 (sC (.bl false)))
 sNx)
 (u5 (sA aci (ak (sZ (jn (sRg v4 (ak (sV 3) dm)) t1 (wu gj j5 kj) [0,1,2])) dm)))))
noncomputable def ww (jq:SF):SE :=
 (a0t (s2 hEq (s2 gIx (sV 2) (sV 0)) (s1 a0a (sC (.int 1)))) (s2 hEq (s2 gIx (sV 1) (sV 0)) (s1 a0a (sC (.int 1)))))
noncomputable def wy (jq:SF):SE :=
 (sA (jj false 3 jq) (ak (sV 3) (ak (s2 gIx (sV 2) (sV 0)) (ak (s2 gIx (sV 1) (sV 0)) dm))))
noncomputable def sr (jq:SF):SS :=
 (j7 (ade (sV 0) (aex 3 (a2e (kN 4) (a2e (kN 5) (a2e (kN 6) ag8)))))
 (j7 (jy 7 (s2 gIx (sV 2) (sV 3)))
 (j7 (sIf (a1k (sT (s2 hNe (s2 gIx (sV 6) (sV 3)) (s1 a0a (sC (.int 1))))) (a1h (sT (sCh gLe gLe (sC (.int 0)) (sV 7) (sV 1)))))
 (u5 (sC (.bl false)))
 sNx)
 (j7 (sIf (sT (s2 hEq (sV 7) (s1 a0a (sC (.int 2)))))
 (u5 (sC (.bl true)))
 sNx)
 (j7 (sIf (sT (s2 hEq (sV 7) (s1 a0a (sC (.int 1)))))
 (u5 (sA aci (ak (sZ (jn (sIt (s2 gIx (sV 5) (sV 3))) t1 (ww jq) [2,6])) dm)))
 sNx)
 (u5 (sA aci (ak (sZ (jn (sIt (s2 gIx (sV 5) (sV 3))) t1 (wy jq) [2,6,7])) dm))))))))
noncomputable def a05:SS :=
 (j7 (sIf (sT (s2 hEq (sV 2) (s1 a0a (sC (.int 2)))))
 (u5 (sC (.bl false)))
 sNx)
 (u5 (a6a (sT (s2 hNe (sV 1) (s1 a0a (sC (.int 1))))) (s2 gGe (sV 0) (sC (.int 1))) (s2 gGt (sV 0) (sV 2)))))
noncomputable def a06:SS :=
 (j7 (sIf (yz (sV 1))
 (u5 (s2 gIs (sV 0) (sC (.bl true))))
 sNx)
 (u5 (s2 gIs (sV 0) (sC (.bl false)))))
noncomputable def yj:SE :=
 (sC (.bl false))
noncomputable def ym:SS :=
 (sIf (sOr (sT (s2 gGe (s2 gIx (s2 gIx (sV 0) (sC (.int 2))) (sV 4)) (sC (.int 0)))) (yz (s2 gIx (sV 1) (sV 4))))
 (aam (sC (.bl true)) (sV 1) (sV 3))
 sNx)
noncomputable def ul:SS :=
 (a1w (sIt (s2 gIx (s2 gIx (sV 0) (sC (.int 1))) (sV 3))) (kN 4) ym)
noncomputable def um:SS :=
 (a1w (sRg v4 (ak (sA vg (ak (sV 1) dm)) dm)) (kN 3) ul)
noncomputable def a07:SS :=
 (j7 (jy 1 (jn (sIt (s2 gIx (sV 0) (sC (.int 1)))) t1 yj []))
 (j7 (a1w (sRg v4 (ak (sA vg (ak (sV 1) dm)) dm)) (kN 2) um)
 (u5 (sV 1))))
noncomputable def yo:SS :=
 (sIf (sT (s2 (gIn true) (sV 4) (sV 2)))
 (a0k (sML a6w (sV 2) (ak (sV 4) dm)))
 sNx)
noncomputable def yp:SS :=
 (a1w (sIt (s2 gIx (s2 gIx (sV 0) (sC (.int 1))) (sV 3))) (kN 4) yo)
noncomputable def a08:SS :=
 (j7 (jy 2 (sA a3e dm))
 (j7 (a1w (sIt (sV 1)) (kN 3) yp)
 (u5 (sV 2))))
noncomputable def vp (bc:SF) (dh:SF):SE :=
 (sV 0)
noncomputable def mq (bc:SF) (dh:SF):ST :=
 (sT (s2 gGe (s2 gIx (s2 gIx (sV 1) (sC (.int 2))) (sV 0)) (sC (.int 0))))
noncomputable def vq (bc:SF) (dh:SF):SE :=
 (sV 0)
noncomputable def my (bc:SF) (dh:SF):ST :=
 (a1k (sT (s2 gLt (s2 gIx (s2 gIx (sV 1) (sC (.int 2))) (sV 0)) (sC (.int 0)))) (yz (s2 gIx (sV 2) (sV 0))))
noncomputable def vy (bc:SF) (dh:SF):SS :=
 (j7 (jy 1 (sA (jj false 2 dh) (ak (sV 0) (ak (sV 1) dm))))
 (j7 (sIf (sT (s2 (ahj true) (sZ (v6 (sIt (sV 1)) t1 (mq bc dh) (vp bc dh) [0])) (sZ (sA a3e dm))))
 (jy 3 (sV 4))
 sNx)
 (jy 1 (sZ (v6 (sIt (sV 1)) t1 (my bc dh) (vq bc dh) [0,2])))))
noncomputable def yq (bc:SF) (dh:SF):SS :=
 (j7 (jy 2 (sA (jj false 1 bc) (ak (sV 0) dm)))
 (j7 (jy 3 (sC (.int 0)))
 (j7 (a1w (sRg a4x (ak (sC (.int 1)) (ak (s2 jf (s2 a1b (sC (.int 2)) (sA vg (ak (sV 2) dm))) (sC (.int 2))) dm))) (kN 4) (vy bc dh))
 (u5 (a6a (sT (s2 gLe (sV 3) (sA vg (ak (sV 2) dm)))) (sV 3) (sC .non))))))
noncomputable def uw (bc:SF):SE :=
 (s2 gGe (sV 0) (sC (.int 0)))
noncomputable def ux (bc:SF):SS :=
 (sIf (a1k (yz (s2 gIx (sV 2) (sV 4))) (yz (s2 gIx (sV 1) (sV 5))))
 (aam (sC (.bl true)) (sV 2) (sV 5))
 sNx)
noncomputable def oh (bc:SF):SS :=
 (a1w (sIt (s2 gIx (s2 gIx (sV 0) (sC (.int 1))) (sV 4))) (kN 5) (ux bc))
noncomputable def ou (bc:SF):SS :=
 (a1w (sRg v4 (ak (sA vg (ak (sV 2) dm)) dm)) (kN 4) (oh bc))
noncomputable def v8 (bc:SF):SS :=
 (j7 (jy 1 (sA (jj false 1 bc) (ak (sV 0) dm)))
 (j7 (jy 2 (jn (sIt (s2 gIx (sV 0) (sC (.int 2)))) t1 (uw bc) []))
 (j7 (a1w (sRg v4 (ak (sA vg (ak (sV 2) dm)) dm)) (kN 3) (ou bc))
 (u5 (sV 2)))))
noncomputable def u9 (jd:SF) (bc:SF) (jh:SF):SS :=
 (sIf (yz (s2 gIx (sV 2) (sV 4)))
 (a0k (sML a6w (sV 3) (ak (sA (jj false 2 jh) (ak (sV 0) (ak (sZ (sA a3e (ak (sV 4) dm))) dm))) dm)))
 (a0k (sML a6w (sV 3) (ak (a6a (yz (s2 gIx (sV 1) (sV 4))) (s1 a0a (sC (.int 2))) (s1 a0a (sC (.int 1)))) dm))))
noncomputable def uo (jd:SF) (bc:SF) (jh:SF):SS :=
 (j7 (jy 1 (sA (jj false 1 bc) (ak (sV 0) dm)))
 (j7 (jy 2 (sA (jj false 1 jd) (ak (sV 0) dm)))
 (j7 (jy 3 (sA a3e dm))
 (j7 (a1w (sRg v4 (ak (sA vg (ak (sV 2) dm)) dm)) (kN 4) (u9 jd bc jh))
 (u5 (sV 3))))))
noncomputable def n8:SS :=
 (j7 (sIf (a1k (sT (s2 hEq (s2 gIx (sV 2) (sV 3)) (s1 a0a (sC (.int 1))))) (a1h (a1k (sT (s2 gLt (s2 gIx (s2 gIx (sV 0) (sC (.int 2))) (sV 4)) (sC (.int 0)))) (sT (s2 hEq (s2 gIx (sV 2) (sV 4)) (s1 a0a (sC (.int 1))))))))
 (u5 (sC (.bl false)))
 sNx)
 (j7 (jy 5 (sC (.int 0)))
 (j7 (sIf (sT (s2 gGe (s2 gIx (s2 gIx (sV 0) (sC (.int 2))) (sV 4)) (sC (.int 0))))
 (jy 5 (sC (.int 1)))
 (sIf (sT (s2 gGe (s2 gIx (sV 2) (sV 4)) (sC (.int 0))))
 (jy 5 (s2 jf (s2 gIx (sV 2) (sV 4)) (sC (.int 1))))
 sNx))
 (sIf (a1k (sT (s2 gGe (s2 gIx (sV 2) (sV 3)) (sC (.int 0)))) (sOr (sT (s2 hEq (s2 gIx (sV 2) (sV 4)) (s1 a0a (sC (.int 2))))) (sT (s2 gLt (s2 gIx (sV 2) (sV 3)) (sV 5)))))
 (u5 (sC (.bl false)))
 sNx))))
noncomputable def n6:SS :=
 (j7 (sIf (sOr (sT (s2 gLt (s2 gIx (sV 2) (sV 3)) (s1 a0a (sC (.int 2))))) (a1k (sT (s2 gGe (s2 gIx (s2 gIx (sV 0) (sC (.int 2))) (sV 3)) (sC (.int 0)))) (sOr (sT (s2 gLt (s2 gIx (sV 2) (sV 3)) (sC (.int 0)))) (sT (s2 gGt (s2 gIx (sV 2) (sV 3)) (sV 1))))))
 (u5 (sC (.bl false)))
 sNx)
 (j7 (a1w (sIt (s2 gIx (s2 gIx (sV 0) (sC (.int 1))) (sV 3))) (kN 4) n8)
 (u5 (sC (.bl true)))))
noncomputable def vz (j4:SF) (gh:SF):SS :=
 (sIf (a1h (yz (sA (jj false 4 gh) (ak (sV 0) (ak (sV 1) (ak (sV 2) (ak (sV 3) dm)))))))
 (u5 (sC (.bl false)))
 sNx)
noncomputable def yr (j4:SF) (gh:SF):SS :=
 (j7 (sIf (a1h (yz (sA (jj false 2 j4) (ak (sV 2) (ak (sA vg (ak (s2 gIx (sV 0) (sC (.int 1))) dm)) dm)))))
 (u5 (sC (.bl false)))
 sNx)
 (j7 (a1w (sRg v4 (ak (sA vg (ak (sV 2) dm)) dm)) (kN 3) (vz j4 gh))
 (u5 (sC (.bl true)))))
noncomputable def a2a (aj:SF):SE :=
 (sV 0)
noncomputable def mz (aj:SF):SS :=
 (j7 (jy 2 (sA (jj false 2 aj) (ak (sV 0) (ak (sC (.int 11)) dm))))
 (j7 (sIf (sT (s2 hEq (sV 2) (sC (.int 0))))
 (u5 (s2 jf (sV 1) (sA a0q (ak (s1 a0a (sC (.int 1))) dm))))
 sNx)
 (j7 (sIf (sT (s2 hEq (sV 2) (sC (.int 1))))
 (u5 (a6j (sV 1) oN (oS (s1 a0a (sC (.int 1))))))
 sNx)
 (j7 (sIf (sT (s2 hEq (sV 2) (sC (.int 2))))
 (u5 (jn (sIt (sV 1)) t1 (a2a aj) []))
 sNx)
 (j7 (sIf (sT (s2 hEq (sV 2) (sC (.int 3))))
 (u5 (s2 gIx (sA a0q (ak (sC .non) (ak (sZ aax) (ak (sC (.str "")) dm)))) (sA (jj false 2 aj) (ak (sV 0) (ak (sC (.int 3)) dm)))))
 sNx)
 (j7 (jy 3 (sA (jj false 2 aj) (ak (sV 0) (ak (sA vg (ak (sV 1) dm)) dm))))
 (u5 (s2 jf (s2 jf (a6j (sV 1) oN (oS (sV 3))) (sA a0q (ak (s2 gIx (sA a0q (ak (sC (.bl true)) (ak (sC .non) (ak (sC (.str "1")) (ak (sA a0q (ak (sC (.int 1)) dm)) (ak (sZ (sA a3e (ak (sC (.int 1)) dm))) (ak (sZ aax) (ak (sC (.bl false)) dm)))))))) (s2 a6t (sV 2) (sC (.int 4)))) dm))) (a6j (sV 1) (oS (s2 jf (sV 3) (sC (.int 1)))) oN)))))))))
noncomputable def a5g (aj:SF) (bh:SF) (bw:SF) (dj:SF) (cz:SF) (bz:SF) (cu:SF) (au:SF):SE :=
 (a6a (sT (s2 gIs (sV 0) (sC .non))) (sC (.int 3)) (sV 0))
noncomputable def a1d (aj:SF) (bh:SF) (bw:SF) (dj:SF) (cz:SF) (bz:SF) (cu:SF) (au:SF):SE :=
 (s2 gIx (sV 2) (sV 0))
noncomputable def a1e (aj:SF) (bh:SF) (bw:SF) (dj:SF) (cz:SF) (bz:SF) (cu:SF) (au:SF):ST :=
 (sT (s2 gGe (s2 gIx (s2 gIx (sV 1) (sC (.int 2))) (sV 0)) (sC (.int 0))))
noncomputable def a2n (aj:SF) (bh:SF) (bw:SF) (dj:SF) (cz:SF) (bz:SF) (cu:SF) (au:SF):SS :=
 (j7 (jy 9 (s2 jf (s2 jf (a6j (sV 5) oN (oS (sV 8))) (sA a0q (ak (s2 jf (s2 gIx (sV 5) (sV 8)) (sV 2)) dm))) (a6j (sV 5) (oS (s2 jf (sV 8) (sC (.int 1)))) oN)))
 (sIf (a1h (yz (sA (jj false 2 cz) (ak (sA (jj false 3 au) (ak (sV 4) (ak (sV 7) (ak (sV 9) dm)))) (ak (sA (jj false 3 bw) (ak (sV 4) (ak (sV 7) (ak (sV 9) dm)))) dm)))))
 ahi
 sNx))
noncomputable def a2o (aj:SF) (bh:SF) (bw:SF) (dj:SF) (cz:SF) (bz:SF) (cu:SF) (au:SF):SS :=
 (j7 (sIf (a1h (yz (sA (jj false 2 cz) (ak (sA (jj false 3 au) (ak (sV 4) (ak (sV 7) (ak (sV 5) dm)))) (ak (sA (jj false 3 bw) (ak (sV 4) (ak (sV 7) (ak (sV 5) dm)))) dm)))))
 ahi
 sNx)
 (j7 (a1w (sRg v4 (ak (sA vg (ak (sV 5) dm)) dm)) (kN 8) (a2n aj bh bw dj cz bz cu au))
 (j7 (jy 10 (sA (jj false 2 dj) (ak (sV 1) (ak (sV 5) dm))))
 (sIf (a1h (yz (sA (jj false 2 cz) (ak (sA (jj false 3 au) (ak (sV 4) (ak (sV 7) (ak (sV 10) dm)))) (ak (sA (jj false 3 bw) (ak (sV 4) (ak (sV 7) (ak (sV 10) dm)))) dm)))))
 ahi
 sNx))))
noncomputable def aea (aj:SF) (bh:SF) (bw:SF) (dj:SF) (cz:SF) (bz:SF) (cu:SF) (au:SF):SS :=
 (j7 (jy 1 (sA (jj true 1 bz) (ak (sV 0) dm)))
 (j7 (jy 2 (s2 gIx (sA a0q (ak (sC (.int 1)) (ak (s1 a0a (sC (.int 1))) (ak (sC (.int 2)) (ak (s1 a0a (sC (.int 2))) dm))))) (sA (jj false 2 aj) (ak (sV 1) (ak (sC (.int 4)) dm)))))
 (j7 (jy 3 (s2 a6t (sA (jj false 2 aj) (ak (sV 1) (ak (sC (.int 4)) dm))) (sC (.int 1))))
 (j7 (jy 4 (sA (jj false 2 cu) (ak (sV 1) (ak (sC (.int 16)) dm))))
 (j7 (jy 5 (sA sy (ak (sZ (jn (sIt (sA (jj false 1 bh) (ak (sV 4) dm))) t1 (a5g aj bh bw dj cz bz cu au) [])) dm)))
 (j7 (jy 6 (sA aba (ak (sZ (s2 jf (sZ (sA a3e (ak (sC (.int 0)) dm))) (sZ (v6 (sRg v4 (ak (sA vg (ak (sV 5) dm)) dm)) t1 (a1e aj bh bw dj cz bz cu au) (a1d aj bh bw dj cz bz cu au) [4,5])))) dm)))
 (j7 (a1w (sIt (sA a0q (ak (sV 6) (ak (sA a4z (ak (sC (.int 0)) (ak (s2 jf (sV 6) (sV 3)) dm))) (ak (sA a4z (ak (sC (.int 0)) (ak (s2 a6t (sV 6) (sC (.int 1))) dm))) dm))))) (kN 7) (a2o aj bh bw dj cz bz cu au))
 (j7 (sIf (a1h (yz (sA (jj false 2 cz) (ak (sA (jj false 3 au) (ak (sV 4) (ak (s2 jf (sV 6) (s2 a6v (sC (.int 10)) (sC (.int 20)))) (ak (sV 5) dm)))) (ak (sA (jj false 3 bw) (ak (sV 4) (ak (s2 jf (sV 6) (s2 a6v (sC (.int 10)) (sC (.int 20)))) (ak (sV 5) dm)))) dm)))))
 ahi
 sNx)
 (u5 (sA (jj false 2 cz) (ak (sA (jj false 3 au) (ak (sV 4) (ak (sV 6) (ak (sV 5) dm)))) (ak (sA (jj false 3 bw) (ak (sV 4) (ak (sV 6) (ak (sV 5) dm)))) dm))))))))))))
end K40
namespace K40
open PySem PySem.Spec L2 MI
def top (i:Nat):Stmt:=PySem.Challenge.pw_nearreach_k40_heights_looked_at.main.body.getD i (.Pass ⟨0,0,0,0⟩)
structure Nm (mg:Str→Option Value):Prop where
 abs:mg "abs" = none
 all:mg "all" = none
 bool:mg "bool" = none
 int:mg "int" = none
 isinstance:mg "isinstance" = none
 len:mg "len" = none
 max:mg "max" = none
 min:mg "min" = none
 range:mg "range" = none
 sorted:mg "sorted" = none
 sum:mg "sum" = none
 tuple:mg "tuple" = none
section
variable {P:Program} {w:World} {K:PySem.W.Frag} {mg:Str→Option Value} {base:Heap} {f:Addr}
theorem ano:FnScope ["thing"] ["thing"] (az (top 1)):=⟨rfl,rfl,rfl,by decide +kernel,rfl,by decide +kernel,by decide +kernel⟩
theorem m_0 {k:Nat} (M:Nm mg) (cdv:Value) (A:Around) (outer:List Env) (s:Shared) (H:Hp) (E:XK) (hr:Room k (A.deeper (PyProof.Rows.envOfC "is_number" (az (top 1)) s.heap.objs.size f cdv))):MSs (a0r CX0 P w K mg base ["thing"] "is_number" (az (top 1)) f cdv A outer s H E).nox X0 (iw (top 1)) (yh) :=
 have SC:=ano
 (bu (iy (a81 (km (L2.CallR.or qi o6) a04 rfl M.isinstance lu (aa (bj 0) (aa (a95 rfl M.int aai) bf))) (a80 (aj2 (km (L2.CallR.or qi o6) a04 rfl M.isinstance lu (aa (bj 0) (aa (a95 rfl M.bool ab0) bf))))))))
theorem anp:FnScope ["thing", "low", "high"] ["thing", "low", "high"] (az (top 2)):=⟨rfl,rfl,rfl,by decide +kernel,rfl,by decide +kernel,by decide +kernel⟩
theorem m_1 {k:Nat} (M:Nm mg) (cdv:Value) (A:Around) (outer:List Env) (s:Shared) (H:Hp) (E:XK) (hr:Room k (A.deeper (PyProof.Rows.envOfC "is_row" (az (top 2)) s.heap.objs.size f cdv))):MSs (a0r CX0 P w K mg base ["thing", "low", "high"] "is_row" (az (top 2)) f cdv A outer s H E).nox X0 (iw (top 2)) (a2m) :=
 have SC:=anp
 (bu (iy (a81 (km (L2.CallR.or qi o6) a04 rfl M.isinstance lu (aa (bj 0) (aa (a95 rfl M.tuple a01) bf))) (a80 (ad9 (a8s.or wj) (a8s.or wj) a4d a4d (bj 1) (km (L2.CallR.or fu g8) jx rfl M.len ph (aa (bj 0) bf)) (bj 2))))))
theorem anq:FnScope ["table", "number", "rows", "rooms"] ["table", "number", "rows"] (az (top 4)):=⟨rfl,rfl,rfl,by decide +kernel,rfl,by decide +kernel,by decide +kernel⟩
theorem m_2 {k:Nat} (M:Nm mg) {a_3:Addr} {d_3:FuncData} {k_3:Nat} {F_3:SF} (D_3:Dn P w K mg base k_3 "height_holds" ["table", "number", "rows", "room"] (qj K 4 F_3) a_3 d_3) (h_3:k_3≤k) {a_0:Addr} {d_0:FuncData} {k_0:Nat} {F_0:SF} (D_0:Dn P w K mg base k_0 "is_number" ["thing"] (qj K 1 F_0) a_0 d_0) (h_0:k_0≤k) {a_1:Addr} {d_1:FuncData} {k_1:Nat} {F_1:SF} (D_1:Dn P w K mg base k_1 "is_row" ["thing", "low", "high"] (qj K 3 F_1) a_1 d_1) (h_1:k_1≤k) (cdv:Value) (A:Around) (outer:List Env) (s:Shared) (H:Hp) (E:XK) (hr:Room k (A.deeper (PyProof.Rows.envOfC "heights_hold" (az (top 4)) s.heap.objs.size f cdv))):MSs (a0r CX0 P w K mg base ["table", "number", "rows", "rooms"] "heights_hold" (az (top 4)) f cdv A outer s H E).nox X0 (iw (top 4)) (rz F_3 F_0 F_1) :=
 have SC:=anq
 (ao (iu (i:=3) SC.nd rfl (Or.inl rfl) (km (L2.CallR.or fu g8) jx rfl M.len ph (aa (bx (bj 0) aq (fun _ _=>rfl)) bf)))
 (ao (lq (PW.pt (a72 (yw (qb (d7 false D_1 (hr.mono h_1) rfl (aa (bj 2) (aa (bj 3) (aa (bj 3) bf)))))) (a3d (yw (qb (km (xj rfl) a5a rfl M.all a7w (aa (a5p (xq rfl (CSc.noFree (ts:=["high"]) rfl (by decide +kernel) (by decide +kernel) (by decide +kernel)) (jz (bj 2)) (fun _ _ _ _=>(ju (i:=0) (show (["high"]:List Str).Nodup by decide +kernel) rfl (Or.inl rfl) (.inr rfl))) qd (fun _ _ _ _=>(a81 (d7 false D_0 (hr.mono h_0) rfl (aa (bj 0) bf)) (a80 (xm a2v zc (bj 0) (nq aq) (gk _))))))) bf)))))))
 (bu (iy v9))
 ik)
 (bu (iy (km (xj rfl) a5a rfl M.all a7w (aa (a5p (xq rfl (CSc.of (ts:=["room"]) (fr:=["table", "number", "rows"]) (ix:=[0,1,2]) rfl rfl rfl rfl (by intro p hp;simp only [List.mem_cons,List.not_mem_nil,or_false] at hp;rcases hp with rfl | rfl | rfl<;>rfl) rfl rfl rfl rfl) (uq rfl M.range (aa (bj 3) bf)) (fun _ _ _ _=>(ju (i:=0) (show (["room", "table", "number", "rows"]:List Str).Nodup by decide +kernel) rfl (Or.inl rfl) (.inr rfl))) qd (fun _ _ _ _=>(d7 false D_3 (hr.mono h_3) rfl (aa (bj 1) (aa (bj 2) (aa (bj 3) (aa (bj 0) bf)))))))) bf))))))
theorem anr:FnScope ["table", "number", "rows", "room", "tongue", "goes", "kinds", "high"] ["table", "number", "rows", "room"] (az (top 5)):=⟨rfl,rfl,rfl,by decide +kernel,rfl,by decide +kernel,by decide +kernel⟩
theorem m_3 {k:Nat} (M:Nm mg) {a_4:Addr} {d_4:FuncData} {k_4:Nat} {F_4:SF} (D_4:Dn P w K mg base k_4 "may_lead" ["high", "kind", "to"] (qj K 3 F_4) a_4 d_4) (h_4:k_4≤k) (cdv:Value) (A:Around) (outer:List Env) (s:Shared) (H:Hp) (E:XK) (hr:Room k (A.deeper (PyProof.Rows.envOfC "height_holds" (az (top 5)) s.heap.objs.size f cdv))):MSs (a0r CX0 P w K mg base ["table", "number", "rows", "room", "tongue", "goes", "kinds", "high"] "height_holds" (az (top 5)) f cdv A outer s H E).nox X0 (iw (top 5)) (sr F_4) :=
 have SC:=anr
 (ao (aez (bj 0) (aey rfl (a0z (jc (i:=4) SC.nd rfl (Or.inl rfl)) (a0z (jc (i:=5) SC.nd rfl (Or.inl rfl)) (a0z (jc (i:=6) SC.nd rfl (Or.inr rfl)) aao)))))
 (ao (iu (i:=7) SC.nd rfl (Or.inr rfl) (bx (bj 2) (bj 3) (fun _ _=>rfl)))
 (ao (lq (PW.pt (a0d (fj (aaw hr.u) a77 (bx (bj 6) (bj 3) (fun _ _=>rfl)) (nq aq) (gk _)) (vf (yw (ada (a8s.or wj) (a8s.or wj) a4d a4d aq (bj 7) (bj 1))))))
 (bu (iy v9))
 ik)
 (ao (lq (fj (ud hr.u) m8 (bj 7) (nq aq) (gk _))
 (bu (iy v9))
 ik)
 (ao (lq (fj (ud hr.u) m8 (bj 7) (nq aq) (gk _))
 (bu (iy (km (xj rfl) a5a rfl M.all a7w (aa (a5p (xq rfl (CSc.of (ts:=["to"]) (fr:=["rows", "kinds"]) (ix:=[2,6]) rfl rfl rfl rfl (by intro p hp;simp only [List.mem_cons,List.not_mem_nil,or_false] at hp;rcases hp with rfl | rfl<;>rfl) rfl rfl rfl rfl) (jz (bx (bj 5) (bj 3) (fun _ _=>rfl))) (fun _ _ _ _=>(ju (i:=0) (show (["to", "rows", "kinds"]:List Str).Nodup by decide +kernel) rfl (Or.inl rfl) (.inr rfl))) qd (fun _ _ _ _=>(a81 (xm (ud hr.u) m8 (bx (bj 2) (bj 0) (fun _ _=>rfl)) (nq aq) (gk _)) (a80 (xm (ud hr.u) m8 (bx (bj 1) (bj 0) (fun _ _=>rfl)) (nq aq) (gk _))))))) bf))))
 ik)
 (bu (iy (km (xj rfl) a5a rfl M.all a7w (aa (a5p (xq rfl (CSc.of (ts:=["to"]) (fr:=["rows", "kinds", "high"]) (ix:=[2,6,7]) rfl rfl rfl rfl (by intro p hp;simp only [List.mem_cons,List.not_mem_nil,or_false] at hp;rcases hp with rfl | rfl | rfl<;>rfl) rfl rfl rfl rfl) (jz (bx (bj 5) (bj 3) (fun _ _=>rfl))) (fun _ _ _ _=>(ju (i:=0) (show (["to", "rows", "kinds", "high"]:List Str).Nodup by decide +kernel) rfl (Or.inl rfl) (.inr rfl))) qd (fun _ _ _ _=>(d7 false D_4 (hr.mono h_4) rfl (aa (bj 3) (aa (bx (bj 2) (bj 0) (fun _ _=>rfl)) (aa (bx (bj 1) (bj 0) (fun _ _=>rfl)) bf))))))) bf)))))))))
theorem ant:FnScope ["high", "kind", "to"] ["high", "kind", "to"] (az (top 6)):=⟨rfl,rfl,rfl,by decide +kernel,rfl,by decide +kernel,by decide +kernel⟩
theorem m_4 {k:Nat} (cdv:Value) (A:Around) (outer:List Env) (s:Shared) (H:Hp) (E:XK) (hr:Room k (A.deeper (PyProof.Rows.envOfC "may_lead" (az (top 6)) s.heap.objs.size f cdv))):MSs (a0r CX0 P w K mg base ["high", "kind", "to"] "may_lead" (az (top 6)) f cdv A outer s H E).nox X0 (iw (top 6)) (a05) :=
 have SC:=ant
 (ao (lq (fj (ud hr.u) m8 (bj 2) (nq aq) (gk _))
 (bu (iy v9))
 ik)
 (bu (iy (a4b (fj (aaw hr.u) a77 (bj 1) (nq aq) (gk _)) (xm a2v zc (bj 0) aq (gk _)) (xm acu a87 (bj 0) (bj 2) (gk _))))))
theorem anu:FnScope ["_law_found", "_law_wanted"] ["_law_found", "_law_wanted"] (az (top 8)):=⟨rfl,rfl,rfl,by decide +kernel,rfl,by decide +kernel,by decide +kernel⟩
theorem m_5 {k:Nat} (cdv:Value) (A:Around) (outer:List Env) (s:Shared) (H:Hp) (E:XK) (hr:Room k (A.deeper (PyProof.Rows.envOfC "_law_said" (az (top 8)) s.heap.objs.size f cdv))):MSs (a0r CX0 P w K mg base ["_law_found", "_law_wanted"] "_law_said" (az (top 8)) f cdv A outer s H E).nox X0 (iw (top 8)) (a06) :=
 have SC:=anu
 (ao (lq (qb (bj 1))
 (bu (iy (xm (a9z.or a4r) aas (bj 0) v9 (gk _))))
 ik)
 (bu (iy (xm (a9z.or a4r) aas (bj 0) v9 (gk _)))))
theorem anv:FnScope ["_law_script", "_law_cells"] ["_law_script"] (az (top 9)):=⟨rfl,rfl,rfl,by decide +kernel,rfl,by decide +kernel,by decide +kernel⟩
theorem m_6 {k:Nat} (M:Nm mg) (cdv:Value) (A:Around) (outer:List Env) (s:Shared) (H:Hp) (E:XK) (hr:Room k (A.deeper (PyProof.Rows.envOfC "_law_source" (az (top 9)) s.heap.objs.size f cdv))):MSs (a0r CX0 P w K mg base ["_law_script", "_law_cells"] "_law_source" (az (top 9)) f cdv A outer s H E).nox X0 (iw (top 9)) (SRC.v7) :=
 have SC:=anv
 (ao (a2k (i:=1) SC.nd rfl (Or.inl rfl) rfl (CSc.noFree (ts:=["_law_cell"]) rfl (by decide +kernel) (by decide +kernel) (by decide +kernel)) (jz (a5p (tu (bj 0) zf (zg aq)))) (fun _ _ _ _=>(ju (i:=0) (show (["_law_cell"]:List Str).Nodup by decide +kernel) rfl (Or.inl rfl) (.inr rfl))) qd (fun _ _ _ _=>(j9 (a3j aq (km acy agd rfl M.abs aiz (aa (bj 0) bf))) (a3f aa2 agf rfl M.int aai (aa (xm (a3s.or m9) a0g (bj 0) aq (gk _)) bf)))))
 (bu (iy (a0f (aa (bj 1) (aa aq (aa aq (aa aq (aa (a4c (km (a93 rfl) agj rfl M.sum ajh (aa (bj 1) bf)) aq) bf)))))))))
theorem anw:FnScope ["_law_left", "_law_many", "_law_cell", "_law_told"] ["_law_left", "_law_many"] (az (top 10)):=⟨rfl,rfl,rfl,by decide +kernel,rfl,by decide +kernel,by decide +kernel⟩
theorem m_7 {k:Nat} (M:Nm mg) (cdv:Value) (A:Around) (outer:List Env) (s:Shared) (H:Hp) (E:XK) (hr:Room k (A.deeper (PyProof.Rows.envOfC "_law_draw" (az (top 10)) s.heap.objs.size f cdv))):MSs (a0r CX0 P w K mg base ["_law_left", "_law_many", "_law_cell", "_law_told"] "_law_draw" (az (top 10)) f cdv A outer s H E).nox X0 (iw (top 10)) (SRC.a1r) :=
 have SC:=anw
 (ao (a78 (bj 0) aq aq (a4n.or xg) a2j)
 (ao (lq (PW.pt (a0d (fj (ud hr.u) m8 (bx (bj 0) aq (fun _ _=>rfl)) aq (gk _)) (vf (fj (a3s.or m9) a0g (bx (bj 0) aq (fun _ _=>rfl)) (km (L2.CallR.or fu g8) jx rfl M.len ph (aa (bx (bj 0) aq (fun _ _=>rfl)) bf)) (gk _)))))
 (ao (iu (i:=2) SC.nd rfl (Or.inl rfl) (bx (bx (bj 0) aq (fun _ _=>rfl)) (bx (bj 0) aq (fun _ _=>rfl)) (fun _ _=>rfl)))
 (ao (a78 (bj 0) aq aq (a4n.or xg) a2j)
 (bu (lq (fj a2v zc (bj 2) (a6e aq aq) (gk _))
 (bu (a82 (bj 2) (bj 0) aq))
 (bu (a82 (a4c (j9 (a3j (bx (bj 0) aq (fun _ _=>rfl)) aq) (bj 2)) aq) (bj 0) aq))))))
 ik)
 (ao (lq (fj acu a87 (bx (bj 0) aq (fun _ _=>rfl)) aq (gk _))
 (ao (iu (i:=3) SC.nd rfl (Or.inl rfl) (a4c (bx (bj 0) aq (fun _ _=>rfl)) (bj 1)))
 (ao (a78 (bj 0) aq (bj 1) acs aar)
 (bu (iy (bj 3)))))
 ik)
 (ao (iu (i:=3) SC.nd rfl (Or.inl rfl) (a4c (a6e (j9 (j9 (bx (bj 0) aq (fun _ _=>rfl)) aq) (a3j (bx (bj 0) aq (fun _ _=>rfl)) aq)) aq) aq))
 (bu (iy (a4c (aj7 (a4c (a6e (j9 (a3j (bj 3) aq) (bx (bj 0) aq (fun _ _=>rfl))) aq) aq) aq) (bj 1))))))))
theorem anx:FnScope ["_law_some"] [] (az (top 11)):=⟨rfl,rfl,rfl,by decide +kernel,rfl,by decide +kernel,by decide +kernel⟩
theorem m_8 {k:Nat} (cdv:Value) (A:Around) (outer:List Env) (s:Shared) (H:Hp) (E:XK) (hr:Room k (A.deeper (PyProof.Rows.envOfC "_law_signs" (az (top 11)) s.heap.objs.size f cdv))):MSs (a0r CX0 P w K mg base ["_law_some"] "_law_signs" (az (top 11)) f cdv A outer s H E).nox X0 (iw (top 11)) (SRC.uv) :=
 have SC:=anx
 (ao (iu (i:=0) SC.nd rfl (Or.inl rfl) a69)
 (bu (iy (j9 (bj 0) a69))))
theorem anz:FnScope ["_law_left", "_law_rest", "_law_told", "_law_k", "_law_at"] ["_law_left"] (az (top 12)):=⟨rfl,rfl,rfl,by decide +kernel,rfl,by decide +kernel,by decide +kernel⟩
theorem m_9 {k:Nat} (M:Nm mg) {a_7:Addr} {d_7:FuncData} {k_7:Nat} {F_7:SF} (D_7:Dn P w K mg base k_7 "_law_draw" ["_law_left", "_law_many"] (qj K 2 F_7) a_7 d_7) (h_7:k_7≤k) {a_8:Addr} {d_8:FuncData} {k_8:Nat} {F_8:SF} (D_8:Dn P w K mg base k_8 "_law_signs" [] (qj K 0 F_8) a_8 d_8) (h_8:k_8≤k) (cdv:Value) (A:Around) (outer:List Env) (s:Shared) (H:Hp) (E:XK) (hr:Room k (A.deeper (PyProof.Rows.envOfC "_law_tongue" (az (top 12)) s.heap.objs.size f cdv))):MSs (a0r CX0 P w K mg base ["_law_left", "_law_rest", "_law_told", "_law_k", "_law_at"] "_law_tongue" (az (top 12)) f cdv A outer s H E).nox X0 (iw (top 12)) (SRC.zx F_7 F_8) :=
 have SC:=anz
 (ao (iu (i:=1) SC.nd rfl (Or.inl rfl) (ab5 false D_8 (hr.mono h_8) rfl))
 (ao (iu (i:=2) SC.nd rfl (Or.inl rfl) a69)
 (ao (o8 PassesOwn.never rfl (uq rfl M.range (aa (j9 aq (d7 false D_7 (hr.mono h_7) rfl (aa (bj 0) (aa aq bf)))) bf)) (jc (i:=3) SC.nd rfl (Or.inl rfl)) (ao (iu (i:=4) SC.nd rfl (Or.inl rfl) (d7 false D_7 (hr.mono h_7) rfl (aa (bj 0) (aa (km (L2.CallR.or fu g8) jx rfl M.len ph (aa (bj 1) bf)) bf))))
 (ao (aew (i:=2) SC.nd rfl (Or.inl rfl) (a4n.or xg) a2j (bx (bj 1) (bj 4) (fun _ _=>rfl)))
 (bu (iu (i:=1) SC.nd rfl (Or.inl rfl) (j9 (tu (bj 1) zf (zg (bj 4))) (tu (bj 1) (zg (j9 (bj 4) aq)) zf)))))))
 (bu (iy (bj 2))))))
theorem aju:FnScope ["_law_left", "_law_tongue_here", "_law_many", "_law_kinds", "_law_room", "_law_manner", "_law_goes", "_law_row"] ["_law_left", "_law_tongue_here", "_law_many"] (az (top 13)):=⟨rfl,rfl,rfl,by decide +kernel,rfl,by decide +kernel,by decide +kernel⟩
theorem aow {k:Nat} (M:Nm mg) {a_7:Addr} {d_7:FuncData} {k_7:Nat} {F_7:SF} (D_7:Dn P w K mg base k_7 "_law_draw" ["_law_left", "_law_many"] (qj K 2 F_7) a_7 d_7) (h_7:k_7≤k) (cdv:Value) (A:Around) (outer:List Env) (s:Shared) (H:Hp) (E:XK) (hr:Room k (A.deeper (PyProof.Rows.envOfC "_law_rooms" (az (top 13)) s.heap.objs.size f cdv))):MSs (a0r CX0 P w K mg base ["_law_left", "_law_tongue_here", "_law_many", "_law_kinds", "_law_room", "_law_manner", "_law_goes", "_law_row"] "_law_rooms" (az (top 13)) f cdv A outer s H E).nox X0 (iw (top 13)) (SRC.yf F_7) :=
 have SC:=aju
 (ao (iu (i:=3) SC.nd rfl (Or.inr rfl) (a0f (aa (nq aq) bf)))
 (ao (o8 PassesOwn.never rfl (aap rfl M.range (aa aq (aa (bj 2) bf))) (jc (i:=4) SC.nd rfl (Or.inr rfl)) (bu (a1l (a74 PySem.F.slot_list_append PySem.F.type_list_append wg a1m (bj 3) (aa (a4b (fj (a3s.or m9) a0g (d7 false D_7 (hr.mono h_7) rfl (aa (bj 0) (aa aq bf))) aq (gk _)) (d7 false D_7 (hr.mono h_7) rfl (aa (bj 0) (aa aq bf))) (nq aq)) bf)))))
 (ao (iu (i:=5) SC.nd rfl (Or.inl rfl) (d7 false D_7 (hr.mono h_7) rfl (aa (bj 0) (aa aq bf))))
 (ao (iu (i:=6) SC.nd rfl (Or.inl rfl) (a0f bf))
 (ao (o8 PassesOwn.never rfl (uq rfl M.range (aa (bj 2) bf)) (jc (i:=4) SC.nd rfl (Or.inr rfl)) (ao (a2k (i:=7) SC.nd rfl (Or.inl rfl) rfl (CSc.of (ts:=["_law_sign"]) (fr:=["_law_left", "_law_many"]) (ix:=[0,2]) rfl rfl rfl rfl (by intro p hp;simp only [List.mem_cons,List.not_mem_nil,or_false] at hp;rcases hp with rfl | rfl<;>rfl) rfl rfl rfl rfl) (jz (bj 1)) (fun _ _ _ _=>(ju (i:=0) (show (["_law_sign", "_law_left", "_law_many"]:List Str).Nodup by decide +kernel) rfl (Or.inl rfl) (.inr rfl))) qd (fun _ _ _ _=>(d7 false D_7 (hr.mono h_7) rfl (aa (bj 1) (aa (bj 2) bf)))))
 (ao (lq (fj acu a87 (bj 5) aq (gk _))
 (bu (a2k (i:=7) SC.nd rfl (Or.inl rfl) rfl (CSc.of (ts:=["_law_to"]) (fr:=["_law_many", "_law_kinds", "_law_room"]) (ix:=[2,3,4]) rfl rfl rfl rfl (by intro p hp;simp only [List.mem_cons,List.not_mem_nil,or_false] at hp;rcases hp with rfl | rfl | rfl<;>rfl) rfl rfl rfl rfl) (jz (bj 7)) (fun _ _ _ _=>(ju (i:=0) (show (["_law_to", "_law_many", "_law_kinds", "_law_room"]:List Str).Nodup by decide +kernel) rfl (Or.inl rfl) (.inr rfl))) qd (fun _ _ _ _=>(a4b (PW.pt (a0d (fj (a3s.or m9) a0g (bx (bj 2) (bj 0) (fun _ _=>rfl)) aq (gk _)) (vf (fj (a8s.or wj) a4d (bj 0) (bj 3) (gk _))))) (a6d (bj 1) aq) (bj 0)))))
 ik)
 (ao (lq (PW.pt (a0d (fj (ud hr.u) m8 (bj 5) aq (gk _)) (vf (fj (ud hr.u) m8 (bj 4) (a6d (bj 2) aq) (gk _)))))
 (bu (a2k (i:=7) SC.nd rfl (Or.inl rfl) rfl (CSc.of (ts:=["_law_to"]) (fr:=["_law_room"]) (ix:=[4]) rfl rfl rfl rfl (by intro p hp;cases List.mem_singleton.mp hp;rfl) rfl rfl rfl rfl) (jz (bj 7)) (fun _ _ _ _=>(ju (i:=0) (show (["_law_to", "_law_room"]:List Str).Nodup by decide +kernel) rfl (Or.inl rfl) (.inr rfl))) qd (fun _ _ _ _=>(bj 1))))
 ik)
 (bu (a1l (a74 PySem.F.slot_list_append PySem.F.type_list_append wg a1m (bj 6) (aa (bj 7) bf))))))))
 (bu (iy (a0e (aa (bj 6) (aa (bj 3) bf))))))))))
theorem ajv:FnScope ["_law_left", "_law_most", "_law_tongue_here", "_law_many", "_law_goes", "_law_kinds", "_law_met", "_law_at", "_law_to", "_law_rows"] ["_law_left", "_law_most"] (az (top 14)):=⟨rfl,rfl,rfl,by decide +kernel,rfl,by decide +kernel,by decide +kernel⟩
theorem aox {k:Nat} (M:Nm mg) {a_7:Addr} {d_7:FuncData} {k_7:Nat} {F_7:SF} (D_7:Dn P w K mg base k_7 "_law_draw" ["_law_left", "_law_many"] (qj K 2 F_7) a_7 d_7) (h_7:k_7≤k) {a_10:Addr} {d_10:FuncData} {k_10:Nat} {F_10:SF} (D_10:Dn P w K mg base k_10 "_law_rooms" ["_law_left", "_law_tongue_here", "_law_many"] (qj K 3 F_10) a_10 d_10) (h_10:k_10≤k) {a_9:Addr} {d_9:FuncData} {k_9:Nat} {F_9:SF} (D_9:Dn P w K mg base k_9 "_law_tongue" ["_law_left"] (qj K 1 F_9) a_9 d_9) (h_9:k_9≤k) (cdv:Value) (A:Around) (outer:List Env) (s:Shared) (H:Hp) (E:XK) (hr:Room k (A.deeper (PyProof.Rows.envOfC "_law_table" (az (top 14)) s.heap.objs.size f cdv))):MSs (a0r CX0 P w K mg base ["_law_left", "_law_most", "_law_tongue_here", "_law_many", "_law_goes", "_law_kinds", "_law_met", "_law_at", "_law_to", "_law_rows"] "_law_table" (az (top 14)) f cdv A outer s H E).nox X0 (iw (top 14)) (SRC.yg F_7 F_10 F_9) :=
 have SC:=ajv
 (ao (iu (i:=2) SC.nd rfl (Or.inl rfl) (d7 false D_9 (hr.mono h_9) rfl (aa (bj 0) bf)))
 (ao (iu (i:=3) SC.nd rfl (Or.inl rfl) (j9 aq (d7 false D_7 (hr.mono h_7) rfl (aa (bj 0) (aa aq bf)))))
 (ao (lq (fj (ud hr.u) m8 (d7 false D_7 (hr.mono h_7) rfl (aa (bj 0) (aa aq bf))) aq (gk _))
 (bu (iu (i:=3) SC.nd rfl (Or.inl rfl) (j9 aq (d7 false D_7 (hr.mono h_7) rfl (aa (bj 0) (aa (bj 1) bf))))))
 ik)
 (ao (aez (d7 false D_10 (hr.mono h_10) rfl (aa (bj 0) (aa (bj 2) (aa (km (aa1 rfl) adh rfl M.min ajg (aa (bj 3) (aa (bj 1) bf))) bf)))) (aey rfl (a0z (jc (i:=4) SC.nd rfl (Or.inr rfl)) (a0z (jc (i:=5) SC.nd rfl (Or.inr rfl)) aao))))
 (ao (iu (i:=6) SC.nd rfl (Or.inr rfl) (a0f (aa aq bf)))
 (ao (iu (i:=7) SC.nd rfl (Or.inl rfl) aq)
 (ao (adb 100000 PassesOwn.never (fj (a3s.or m9) a0g (bj 7) (km (L2.CallR.or fu g8) jx rfl M.len ph (aa (bj 6) bf)) (gk _)) (ao (o8 PassesOwn.never rfl (jz (bx (bj 4) (bx (bj 6) (bj 7) (fun _ _=>rfl)) (fun _ _=>rfl))) (jc (i:=8) SC.nd rfl (Or.inl rfl)) (bu (lq (fj (a3z.or a1v) aau (bj 8) (bj 6) (by with_unfolding_all rfl))
 (bu (a1l (a74 PySem.F.slot_list_append PySem.F.type_list_append wg a1m (bj 6) (aa (bj 8) bf))))
 ik)))
 (bu (aew (i:=7) SC.nd rfl (Or.inl rfl) (a4n.or xg) a2j aq))))
 (ao (iu (i:=6) SC.nd rfl (Or.inr rfl) (km a5d a9d rfl M.sorted abf (aa (bj 6) bf)))
 (ao (iu (i:=9) SC.nd rfl (Or.inl rfl) (a3f (L2.CallR.or ug (v5 rfl)) a0w rfl M.tuple a01 (aa (a5p (xq rfl (CSc.of (ts:=["_law_room"]) (fr:=["_law_goes", "_law_met"]) (ix:=[4,6]) rfl rfl rfl rfl (by intro p hp;simp only [List.mem_cons,List.not_mem_nil,or_false] at hp;rcases hp with rfl | rfl<;>rfl) rfl rfl rfl rfl) (jz (bj 6)) (fun _ _ _ _=>(ju (i:=0) (show (["_law_room", "_law_goes", "_law_met"]:List Str).Nodup by decide +kernel) rfl (Or.inl rfl) (.inr rfl))) qd (fun _ _ _ _=>(a3f (L2.CallR.or ug (v5 rfl)) a0w rfl M.tuple a01 (aa (a5p (xq rfl (CSc.of (ts:=["_law_to"]) (fr:=["_law_met"]) (ix:=[2]) rfl rfl rfl rfl (by intro p hp;cases List.mem_singleton.mp hp;rfl) rfl rfl rfl rfl) (jz (bx (bj 1) (bj 0) (fun _ _=>rfl))) (fun _ _ _ _=>(ju (i:=0) (show (["_law_to", "_law_met"]:List Str).Nodup by decide +kernel) rfl (Or.inl rfl) (.inr rfl))) qd (fun _ _ _ _=>(a74 PySem.F.slot_list_index PySem.F.type_list_index abe a9e (bj 1) (aa (bj 0) bf))))) bf))))) bf)))
 (bu (iy (a0e (aa (bj 2) (aa (bj 9) (aa (a3f (L2.CallR.or ug (v5 rfl)) a0w rfl M.tuple a01 (aa (a5p (xq rfl (CSc.of (ts:=["_law_room"]) (fr:=["_law_kinds"]) (ix:=[5]) rfl rfl rfl rfl (by intro p hp;cases List.mem_singleton.mp hp;rfl) rfl rfl rfl rfl) (jz (bj 6)) (fun _ _ _ _=>(ju (i:=0) (show (["_law_room", "_law_kinds"]:List Str).Nodup by decide +kernel) rfl (Or.inl rfl) (.inr rfl))) qd (fun _ _ _ _=>(bx (bj 1) (bj 0) (fun _ _=>rfl))))) bf)) bf)))))))))))))))
theorem ajw:FnScope ["_law_table_here", "_law_hope_here", "_law_k", "_law_room", "_law_to"] ["_law_table_here"] (az (top 15)):=⟨rfl,rfl,rfl,by decide +kernel,rfl,by decide +kernel,by decide +kernel⟩
theorem aoy {k:Nat} (M:Nm mg) (cdv:Value) (A:Around) (outer:List Env) (s:Shared) (H:Hp) (E:XK) (hr:Room k (A.deeper (PyProof.Rows.envOfC "_law_hope" (az (top 15)) s.heap.objs.size f cdv))):MSs (a0r CX0 P w K mg base ["_law_table_here", "_law_hope_here", "_law_k", "_law_room", "_law_to"] "_law_hope" (az (top 15)) f cdv A outer s H E).nox X0 (iw (top 15)) (a07) :=
 have SC:=ajw
 (ao (ab8 (i:=1) SC.nd rfl (Or.inl rfl) rfl (CSc.noFree (ts:=["_law_row"]) rfl (by decide +kernel) (by decide +kernel) (by decide +kernel)) (jz (bx (bj 0) aq (fun _ _=>rfl))) (fun _ _ _ _=>(ju (i:=0) (show (["_law_row"]:List Str).Nodup by decide +kernel) rfl (Or.inl rfl) (.inr rfl))) qd (fun _ _ _ _=>v9))
 (ao (o8 PassesOwn.never rfl (uq rfl M.range (aa (km (L2.CallR.or fu g8) jx rfl M.len ph (aa (bj 1) bf)) bf)) (jc (i:=2) SC.nd rfl (Or.inl rfl)) (bu (o8 PassesOwn.never rfl (uq rfl M.range (aa (km (L2.CallR.or fu g8) jx rfl M.len ph (aa (bj 1) bf)) bf)) (jc (i:=3) SC.nd rfl (Or.inl rfl)) (bu (o8 PassesOwn.never rfl (jz (bx (bx (bj 0) aq (fun _ _=>rfl)) (bj 3) (fun _ _=>rfl))) (jc (i:=4) SC.nd rfl (Or.inl rfl)) (bu (lq (PW.pt (a72 (fj a2v zc (bx (bx (bj 0) aq (fun _ _=>rfl)) (bj 4) (fun _ _=>rfl)) aq (gk _)) (a3d (qb (bx (bj 1) (bj 4) (fun _ _=>rfl))))))
 (bu (a82 v9 (bj 1) (bj 3)))
 ik)))))))
 (bu (iy (bj 1)))))
theorem ajx:FnScope ["_law_table_here", "_law_rooms_here", "_law_told", "_law_room", "_law_to"] ["_law_table_here", "_law_rooms_here"] (az (top 16)):=⟨rfl,rfl,rfl,by decide +kernel,rfl,by decide +kernel,by decide +kernel⟩
theorem aoz {k:Nat} (cdv:Value) (A:Around) (outer:List Env) (s:Shared) (H:Hp) (E:XK) (hr:Room k (A.deeper (PyProof.Rows.envOfC "_law_next" (az (top 16)) s.heap.objs.size f cdv))):MSs (a0r CX0 P w K mg base ["_law_table_here", "_law_rooms_here", "_law_told", "_law_room", "_law_to"] "_law_next" (az (top 16)) f cdv A outer s H E).nox X0 (iw (top 16)) (a08) :=
 have SC:=ajx
 (ao (iu (i:=2) SC.nd rfl (Or.inl rfl) (a0f bf))
 (ao (o8 PassesOwn.never rfl (jz (bj 1)) (jc (i:=3) SC.nd rfl (Or.inl rfl)) (bu (o8 PassesOwn.never rfl (jz (bx (bx (bj 0) aq (fun _ _=>rfl)) (bj 3) (fun _ _=>rfl))) (jc (i:=4) SC.nd rfl (Or.inl rfl)) (bu (lq (fj (a3z.or a1v) aau (bj 4) (bj 2) (by with_unfolding_all rfl))
 (bu (a1l (a74 PySem.F.slot_list_append PySem.F.type_list_append wg a1m (bj 2) (aa (bj 4) bf))))
 ik)))))
 (bu (iy (bj 2)))))
theorem ajy:FnScope ["_law_table_here", "_law_rooms_here", "_law_hope_here", "_law_due", "_law_many"] ["_law_table_here", "_law_rooms_here"] (az (top 17)):=⟨rfl,rfl,rfl,by decide +kernel,rfl,by decide +kernel,by decide +kernel⟩
theorem ap0 {k:Nat} (M:Nm mg) {a_12:Addr} {d_12:FuncData} {k_12:Nat} {F_12:SF} (D_12:Dn P w K mg base k_12 "_law_hope" ["_law_table_here"] (qj K 1 F_12) a_12 d_12) (h_12:k_12≤k) {a_13:Addr} {d_13:FuncData} {k_13:Nat} {F_13:SF} (D_13:Dn P w K mg base k_13 "_law_next" ["_law_table_here", "_law_rooms_here"] (qj K 2 F_13) a_13 d_13) (h_13:k_13≤k) (cdv:Value) (A:Around) (outer:List Env) (s:Shared) (H:Hp) (E:XK) (hr:Room k (A.deeper (PyProof.Rows.envOfC "_law_reach" (az (top 17)) s.heap.objs.size f cdv))):MSs (a0r CX0 P w K mg base ["_law_table_here", "_law_rooms_here", "_law_hope_here", "_law_due", "_law_many"] "_law_reach" (az (top 17)) f cdv A outer s H E).nox X0 (iw (top 17)) (yq F_12 F_13) :=
 have SC:=ajy
 (ao (iu (i:=2) SC.nd rfl (Or.inr rfl) (d7 false D_12 (hr.mono h_12) rfl (aa (bj 0) bf)))
 (ao (iu (i:=3) SC.nd rfl (Or.inl rfl) aq)
 (ao (o8 PassesOwn.never rfl (aap rfl M.range (aa aq (aa (j9 (a3j aq (km (L2.CallR.or fu g8) jx rfl M.len ph (aa (bj 2) bf))) aq) bf))) (jc (i:=4) SC.nd rfl (Or.inl rfl)) (ao (iu (i:=1) SC.nd rfl (Or.inl rfl) (d7 false D_13 (hr.mono h_13) rfl (aa (bj 0) (aa (bj 1) bf))))
 (ao (lq (fj (ajt hr.u) (agw true) (a5p (a86 rfl (CSc.of (ts:=["_law_room"]) (fr:=["_law_table_here"]) (ix:=[0]) rfl rfl rfl rfl (by intro p hp;cases List.mem_singleton.mp hp;rfl) rfl rfl rfl rfl) (jz (bj 1)) (fun _ _ _ _=>(ju (i:=0) (show (["_law_room", "_law_table_here"]:List Str).Nodup by decide +kernel) rfl (Or.inl rfl) (.inr rfl))) qd (fun _ _ _ _=>(bj 0)) (fun _ _ _ _=>(fj a2v zc (bx (bx (bj 1) aq (fun _ _=>rfl)) (bj 0) (fun _ _=>rfl)) aq (gk _))))) (a5p (a0f bf)) (gk _))
 (bu (iu (i:=3) SC.nd rfl (Or.inl rfl) (bj 4)))
 ik)
 (bu (adp (i:=1) SC.nd rfl (Or.inl rfl) rfl (CSc.of (ts:=["_law_room"]) (fr:=["_law_table_here", "_law_hope_here"]) (ix:=[0,2]) rfl rfl rfl rfl (by intro p hp;simp only [List.mem_cons,List.not_mem_nil,or_false] at hp;rcases hp with rfl | rfl<;>rfl) rfl rfl rfl rfl) (jz (bj 1)) (fun _ _ _ _=>(ju (i:=0) (show (["_law_room", "_law_table_here", "_law_hope_here"]:List Str).Nodup by decide +kernel) rfl (Or.inl rfl) (.inr rfl))) qd (fun _ _ _ _=>(bj 0)) (fun _ _ _ _=>(PW.pt (a0d (fj (a3s.or m9) a0g (bx (bx (bj 1) aq (fun _ _=>rfl)) (bj 0) (fun _ _=>rfl)) aq (gk _)) (vf (qb (bx (bj 2) (bj 0) (fun _ _=>rfl))))))))))))
 (bu (iy (a4b (fj (a8s.or wj) a4d (bj 3) (km (L2.CallR.or fu g8) jx rfl M.len ph (aa (bj 2) bf)) (gk _)) (bj 3) a7y))))))
theorem ajz:FnScope ["_law_table_here", "_law_hope_here", "_law_marks", "_law_k", "_law_room", "_law_to"] ["_law_table_here"] (az (top 18)):=⟨rfl,rfl,rfl,by decide +kernel,rfl,by decide +kernel,by decide +kernel⟩
theorem ap1 {k:Nat} (M:Nm mg) {a_12:Addr} {d_12:FuncData} {k_12:Nat} {F_12:SF} (D_12:Dn P w K mg base k_12 "_law_hope" ["_law_table_here"] (qj K 1 F_12) a_12 d_12) (h_12:k_12≤k) (cdv:Value) (A:Around) (outer:List Env) (s:Shared) (H:Hp) (E:XK) (hr:Room k (A.deeper (PyProof.Rows.envOfC "_law_behind" (az (top 18)) s.heap.objs.size f cdv))):MSs (a0r CX0 P w K mg base ["_law_table_here", "_law_hope_here", "_law_marks", "_law_k", "_law_room", "_law_to"] "_law_behind" (az (top 18)) f cdv A outer s H E).nox X0 (iw (top 18)) (v8 F_12) :=
 have SC:=ajz
 (ao (iu (i:=1) SC.nd rfl (Or.inl rfl) (d7 false D_12 (hr.mono h_12) rfl (aa (bj 0) bf)))
 (ao (ab8 (i:=2) SC.nd rfl (Or.inl rfl) rfl (CSc.noFree (ts:=["_law_kind"]) rfl (by decide +kernel) (by decide +kernel) (by decide +kernel)) (jz (bx (bj 0) aq (fun _ _=>rfl))) (fun _ _ _ _=>(ju (i:=0) (show (["_law_kind"]:List Str).Nodup by decide +kernel) rfl (Or.inl rfl) (.inr rfl))) qd (fun _ _ _ _=>(xm a2v zc (bj 0) aq (gk _))))
 (ao (o8 PassesOwn.never rfl (uq rfl M.range (aa (km (L2.CallR.or fu g8) jx rfl M.len ph (aa (bj 2) bf)) bf)) (jc (i:=3) SC.nd rfl (Or.inl rfl)) (bu (o8 PassesOwn.never rfl (uq rfl M.range (aa (km (L2.CallR.or fu g8) jx rfl M.len ph (aa (bj 2) bf)) bf)) (jc (i:=4) SC.nd rfl (Or.inl rfl)) (bu (o8 PassesOwn.never rfl (jz (bx (bx (bj 0) aq (fun _ _=>rfl)) (bj 4) (fun _ _=>rfl))) (jc (i:=5) SC.nd rfl (Or.inl rfl)) (bu (lq (PW.pt (a0d (qb (bx (bj 2) (bj 4) (fun _ _=>rfl))) (vf (qb (bx (bj 1) (bj 5) (fun _ _=>rfl))))))
 (bu (a82 v9 (bj 2) (bj 5)))
 ik)))))))
 (bu (iy (bj 2))))))
theorem ak0:FnScope ["_law_table_here", "_law_hope_here", "_law_marks", "_law_told", "_law_room"] ["_law_table_here"] (az (top 19)):=⟨rfl,rfl,rfl,by decide +kernel,rfl,by decide +kernel,by decide +kernel⟩
theorem ap2 {k:Nat} (M:Nm mg) {a_15:Addr} {d_15:FuncData} {k_15:Nat} {F_15:SF} (D_15:Dn P w K mg base k_15 "_law_behind" ["_law_table_here"] (qj K 1 F_15) a_15 d_15) (h_15:k_15≤k) {a_12:Addr} {d_12:FuncData} {k_12:Nat} {F_12:SF} (D_12:Dn P w K mg base k_12 "_law_hope" ["_law_table_here"] (qj K 1 F_12) a_12 d_12) (h_12:k_12≤k) {a_14:Addr} {d_14:FuncData} {k_14:Nat} {F_14:SF} (D_14:Dn P w K mg base k_14 "_law_reach" ["_law_table_here", "_law_rooms_here"] (qj K 2 F_14) a_14 d_14) (h_14:k_14≤k) (cdv:Value) (A:Around) (outer:List Env) (s:Shared) (H:Hp) (E:XK) (hr:Room k (A.deeper (PyProof.Rows.envOfC "_law_heights" (az (top 19)) s.heap.objs.size f cdv))):MSs (a0r CX0 P w K mg base ["_law_table_here", "_law_hope_here", "_law_marks", "_law_told", "_law_room"] "_law_heights" (az (top 19)) f cdv A outer s H E).nox X0 (iw (top 19)) (uo F_15 F_12 F_14) :=
 have SC:=ak0
 (ao (iu (i:=1) SC.nd rfl (Or.inl rfl) (d7 false D_12 (hr.mono h_12) rfl (aa (bj 0) bf)))
 (ao (iu (i:=2) SC.nd rfl (Or.inl rfl) (d7 false D_15 (hr.mono h_15) rfl (aa (bj 0) bf)))
 (ao (iu (i:=3) SC.nd rfl (Or.inl rfl) (a0f bf))
 (ao (o8 PassesOwn.never rfl (uq rfl M.range (aa (km (L2.CallR.or fu g8) jx rfl M.len ph (aa (bj 2) bf)) bf)) (jc (i:=4) SC.nd rfl (Or.inl rfl)) (bu (lq (qb (bx (bj 2) (bj 4) (fun _ _=>rfl)))
 (bu (a1l (a74 PySem.F.slot_list_append PySem.F.type_list_append wg a1m (bj 3) (aa (d7 false D_14 (hr.mono h_14) rfl (aa (bj 0) (aa (a5p (a0f (aa (bj 4) bf))) bf))) bf))))
 (bu (a1l (a74 PySem.F.slot_list_append PySem.F.type_list_append wg a1m (bj 3) (aa (a4b (qb (bx (bj 1) (bj 4) (fun _ _=>rfl))) (nq aq) (nq aq)) bf)))))))
 (bu (iy (bj 3)))))))
theorem ak1:FnScope ["_law_found", "_law_many", "_law_one"] ["_law_found", "_law_many"] (az (top 20)):=⟨rfl,rfl,rfl,by decide +kernel,rfl,by decide +kernel,by decide +kernel⟩
theorem ap3 {k:Nat} (M:Nm mg) (cdv:Value) (A:Around) (outer:List Env) (s:Shared) (H:Hp) (E:XK) (hr:Room k (A.deeper (PyProof.Rows.envOfC "_law_numbers" (az (top 20)) s.heap.objs.size f cdv))):MSs (a0r CX0 P w K mg base ["_law_found", "_law_many", "_law_one"] "_law_numbers" (az (top 20)) f cdv A outer s H E).nox X0 (iw (top 20)) (SRC.uh) :=
 have SC:=ak1
 (ao (lq (PW.pt (a72 (yw (qb (km (L2.CallR.or qi o6) a04 rfl M.isinstance lu (aa (bj 0) (aa (a95 rfl M.tuple a01) bf))))) (a3d (fj (aaw hr.u) a77 (km (L2.CallR.or fu g8) jx rfl M.len ph (aa (bj 0) bf)) (bj 1) (gk _)))))
 (bu (iy v9))
 ik)
 (ao (o8 PassesOwn.never rfl (jz (bj 0)) (jc (i:=2) SC.nd rfl (Or.inl rfl)) (bu (lq (PW.pt (a72 (yw (qb (km (L2.CallR.or qi o6) a04 rfl M.isinstance lu (aa (bj 2) (aa (a95 rfl M.int aai) bf))))) (a3d (qb (km (L2.CallR.or qi o6) a04 rfl M.isinstance lu (aa (bj 2) (aa (a95 rfl M.bool ab0) bf)))))))
 (bu (iy v9))
 ik)))
 (bu (iy v9))))
theorem ak2:FnScope ["_law_table_here", "_law_number", "_law_rows", "_law_room", "_law_to", "_law_least"] ["_law_table_here", "_law_number", "_law_rows", "_law_room"] (az (top 21)):=⟨rfl,rfl,rfl,by decide +kernel,rfl,by decide +kernel,by decide +kernel⟩
theorem ap4 {k:Nat} (cdv:Value) (A:Around) (outer:List Env) (s:Shared) (H:Hp) (E:XK) (hr:Room k (A.deeper (PyProof.Rows.envOfC "_law_room_holds" (az (top 21)) s.heap.objs.size f cdv))):MSs (a0r CX0 P w K mg base ["_law_table_here", "_law_number", "_law_rows", "_law_room", "_law_to", "_law_least"] "_law_room_holds" (az (top 21)) f cdv A outer s H E).nox X0 (iw (top 21)) (n6) :=
 have SC:=ak2
 (ao (lq (PW.pt (a72 (fj (a3s.or m9) a0g (bx (bj 2) (bj 3) (fun _ _=>rfl)) (nq aq) (gk _)) (a3d (PW.pt (a0d (fj a2v zc (bx (bx (bj 0) aq (fun _ _=>rfl)) (bj 3) (fun _ _=>rfl)) aq (gk _)) (vf (PW.pt (a72 (fj (a3s.or m9) a0g (bx (bj 2) (bj 3) (fun _ _=>rfl)) aq (gk _)) (a3d (fj acu a87 (bx (bj 2) (bj 3) (fun _ _=>rfl)) (bj 1) (gk _)))))))))))
 (bu (iy v9))
 ik)
 (ao (o8 PassesOwn.never rfl (jz (bx (bx (bj 0) aq (fun _ _=>rfl)) (bj 3) (fun _ _=>rfl))) (jc (i:=4) SC.nd rfl (Or.inl rfl)) (ao (lq (PW.pt (a0d (fj (ud hr.u) m8 (bx (bj 2) (bj 3) (fun _ _=>rfl)) (nq aq) (gk _)) (vf (yw (PW.pt (a0d (fj (a3s.or m9) a0g (bx (bx (bj 0) aq (fun _ _=>rfl)) (bj 4) (fun _ _=>rfl)) aq (gk _)) (vf (fj (ud hr.u) m8 (bx (bj 2) (bj 4) (fun _ _=>rfl)) (nq aq) (gk _)))))))))
 (bu (iy v9))
 ik)
 (ao (iu (i:=5) SC.nd rfl (Or.inl rfl) aq)
 (ao (lq (fj a2v zc (bx (bx (bj 0) aq (fun _ _=>rfl)) (bj 4) (fun _ _=>rfl)) aq (gk _))
 (bu (iu (i:=5) SC.nd rfl (Or.inl rfl) aq))
 (bu (lq (fj a2v zc (bx (bj 2) (bj 4) (fun _ _=>rfl)) aq (gk _))
 (bu (iu (i:=5) SC.nd rfl (Or.inl rfl) (j9 (bx (bj 2) (bj 4) (fun _ _=>rfl)) aq)))
 ik)))
 (bu (lq (PW.pt (a0d (fj a2v zc (bx (bj 2) (bj 3) (fun _ _=>rfl)) aq (gk _)) (vf (PW.pt (a72 (fj (ud hr.u) m8 (bx (bj 2) (bj 4) (fun _ _=>rfl)) (nq aq) (gk _)) (a3d (fj (a3s.or m9) a0g (bx (bj 2) (bj 3) (fun _ _=>rfl)) (bj 5) (gk _))))))))
 (bu (iy v9))
 ik))))))
 (bu (iy v9))))
theorem ak3:FnScope ["_law_table_here", "_law_number", "_law_rows", "_law_room"] ["_law_table_here", "_law_number", "_law_rows"] (az (top 22)):=⟨rfl,rfl,rfl,by decide +kernel,rfl,by decide +kernel,by decide +kernel⟩
theorem ap5 {k:Nat} (M:Nm mg) {a_17:Addr} {d_17:FuncData} {k_17:Nat} {F_17:SF} (D_17:Dn P w K mg base k_17 "_law_numbers" ["_law_found", "_law_many"] (qj K 2 F_17) a_17 d_17) (h_17:k_17≤k) {a_18:Addr} {d_18:FuncData} {k_18:Nat} {F_18:SF} (D_18:Dn P w K mg base k_18 "_law_room_holds" ["_law_table_here", "_law_number", "_law_rows", "_law_room"] (qj K 4 F_18) a_18 d_18) (h_18:k_18≤k) (cdv:Value) (A:Around) (outer:List Env) (s:Shared) (H:Hp) (E:XK) (hr:Room k (A.deeper (PyProof.Rows.envOfC "_law_holds" (az (top 22)) s.heap.objs.size f cdv))):MSs (a0r CX0 P w K mg base ["_law_table_here", "_law_number", "_law_rows", "_law_room"] "_law_holds" (az (top 22)) f cdv A outer s H E).nox X0 (iw (top 22)) (yr F_17 F_18) :=
 have SC:=ak3
 (ao (lq (yw (qb (d7 false D_17 (hr.mono h_17) rfl (aa (bj 2) (aa (km (L2.CallR.or fu g8) jx rfl M.len ph (aa (bx (bj 0) aq (fun _ _=>rfl)) bf)) bf)))))
 (bu (iy v9))
 ik)
 (ao (o8 PassesOwn.never rfl (uq rfl M.range (aa (km (L2.CallR.or fu g8) jx rfl M.len ph (aa (bj 2) bf)) bf)) (jc (i:=3) SC.nd rfl (Or.inl rfl)) (bu (lq (yw (qb (d7 false D_18 (hr.mono h_18) rfl (aa (bj 0) (aa (bj 1) (aa (bj 2) (aa (bj 3) bf)))))))
 (bu (iy v9))
 ik)))
 (bu (iy v9))))
theorem ak4:FnScope ["_law_left", "_law_due", "_law_which", "_law_at"] ["_law_left", "_law_due"] (az (top 23)):=⟨rfl,rfl,rfl,by decide +kernel,rfl,by decide +kernel,by decide +kernel⟩
theorem ap6 {k:Nat} (M:Nm mg) {a_7:Addr} {d_7:FuncData} {k_7:Nat} {F_7:SF} (D_7:Dn P w K mg base k_7 "_law_draw" ["_law_left", "_law_many"] (qj K 2 F_7) a_7 d_7) (h_7:k_7≤k) (cdv:Value) (A:Around) (outer:List Env) (s:Shared) (H:Hp) (E:XK) (hr:Room k (A.deeper (PyProof.Rows.envOfC "_law_odd" (az (top 23)) s.heap.objs.size f cdv))):MSs (a0r CX0 P w K mg base ["_law_left", "_law_due", "_law_which", "_law_at"] "_law_odd" (az (top 23)) f cdv A outer s H E).nox X0 (iw (top 23)) (mz F_7) :=
 have SC:=ak4
 (ao (iu (i:=2) SC.nd rfl (Or.inl rfl) (d7 false D_7 (hr.mono h_7) rfl (aa (bj 0) (aa aq bf))))
 (ao (lq (fj (ud hr.u) m8 (bj 2) aq (gk _))
 (bu (iy (j9 (bj 1) (a0e (aa (nq aq) bf)))))
 ik)
 (ao (lq (fj (ud hr.u) m8 (bj 2) aq (gk _))
 (bu (iy (tu (bj 1) zf (zg (nq aq)))))
 ik)
 (ao (lq (fj (ud hr.u) m8 (bj 2) aq (gk _))
 (bu (iy (xq rfl (CSc.noFree (ts:=["_law_one"]) rfl (by decide +kernel) (by decide +kernel) (by decide +kernel)) (jz (bj 1)) (fun _ _ _ _=>(ju (i:=0) (show (["_law_one"]:List Str).Nodup by decide +kernel) rfl (Or.inl rfl) (.inr rfl))) qd (fun _ _ _ _=>(bj 0)))))
 ik)
 (ao (lq (fj (ud hr.u) m8 (bj 2) aq (gk _))
 (bu (iy (bx (a0e (aa a7y (aa (a5p aay) (aa a69 bf)))) (d7 false D_7 (hr.mono h_7) rfl (aa (bj 0) (aa aq bf))) (fun _ _=>rfl))))
 ik)
 (ao (iu (i:=3) SC.nd rfl (Or.inl rfl) (d7 false D_7 (hr.mono h_7) rfl (aa (bj 0) (aa (km (L2.CallR.or fu g8) jx rfl M.len ph (aa (bj 1) bf)) bf))))
 (bu (iy (j9 (j9 (tu (bj 1) zf (zg (bj 3))) (a0e (aa (bx (a0e (aa v9 (aa a7y (aa a69 (aa (a0e (aa aq bf)) (aa (a5p (a0f (aa aq bf))) (aa (a5p aay) (aa v9 bf)))))))) (a6d (bj 2) aq) (fun _ _=>rfl)) bf))) (tu (bj 1) (zg (j9 (bj 3) aq)) zf))))))))))
theorem ak5:FnScope ["_law_script", "_law_left", "_law_step", "_law_more", "_law_table_here", "_law_due", "_law_most", "_law_number", "_law_at", "_law_rows", "_law_odd_here"] ["_law_script"] (az (top 24)):=⟨rfl,rfl,rfl,by decide +kernel,rfl,by decide +kernel,by decide +kernel⟩
theorem ap7 {k:Nat} (M:Nm mg) {a_7:Addr} {d_7:FuncData} {k_7:Nat} {F_7:SF} (D_7:Dn P w K mg base k_7 "_law_draw" ["_law_left", "_law_many"] (qj K 2 F_7) a_7 d_7) (h_7:k_7≤k) {a_16:Addr} {d_16:FuncData} {k_16:Nat} {F_16:SF} (D_16:Dn P w K mg base k_16 "_law_heights" ["_law_table_here"] (qj K 1 F_16) a_16 d_16) (h_16:k_16≤k) {a_19:Addr} {d_19:FuncData} {k_19:Nat} {F_19:SF} (D_19:Dn P w K mg base k_19 "_law_holds" ["_law_table_here", "_law_number", "_law_rows"] (qj K 3 F_19) a_19 d_19) (h_19:k_19≤k) {a_20:Addr} {d_20:FuncData} {k_20:Nat} {F_20:SF} (D_20:Dn P w K mg base k_20 "_law_odd" ["_law_left", "_law_due"] (qj K 2 F_20) a_20 d_20) (h_20:k_20≤k) {a_5:Addr} {d_5:FuncData} {k_5:Nat} {F_5:SF} (D_5:Dn P w K mg base k_5 "_law_said" ["_law_found", "_law_wanted"] (qj K 2 F_5) a_5 d_5) (h_5:k_5≤k) {a_6:Addr} {d_6:FuncData} {k_6:Nat} {F_6:SF} (D_6:Dn P w K mg base k_6 "_law_source" ["_law_script"] (qj K 1 F_6) a_6 d_6) (h_6:k_6≤k) {a_11:Addr} {d_11:FuncData} {k_11:Nat} {F_11:SF} (D_11:Dn P w K mg base k_11 "_law_table" ["_law_left", "_law_most"] (qj K 2 F_11) a_11 d_11) (h_11:k_11≤k) {a_2:Addr} {d_2:FuncData} {k_2:Nat} {F_2:SF} (D_2:Dn P w K mg base k_2 "heights_hold" ["table", "number", "rows"] (qj K 3 F_2) a_2 d_2) (h_2:k_2≤k) (cdv:Value) (A:Around) (outer:List Env) (s:Shared) (H:Hp) (E:XK) (hr:Room k (A.deeper (PyProof.Rows.envOfC "law" (az (top 24)) s.heap.objs.size f cdv))):MSs (a0r CX0 P w K mg base ["_law_script", "_law_left", "_law_step", "_law_more", "_law_table_here", "_law_due", "_law_most", "_law_number", "_law_at", "_law_rows", "_law_odd_here"] "law" (az (top 24)) f cdv A outer s H E).nox X0 (iw (top 24)) (aea F_7 F_16 F_19 F_20 F_5 F_6 F_11 F_2) :=
 have SC:=ak5
 (ao (iu (i:=1) SC.nd rfl (Or.inl rfl) (d7 true D_6 (hr.mono h_6) rfl (aa (bj 0) bf)))
 (ao (iu (i:=2) SC.nd rfl (Or.inl rfl) (bx (a0e (aa aq (aa (nq aq) (aa aq (aa (nq aq) bf))))) (d7 false D_7 (hr.mono h_7) rfl (aa (bj 1) (aa aq bf))) (fun _ _=>rfl)))
 (ao (iu (i:=3) SC.nd rfl (Or.inl rfl) (a6d (d7 false D_7 (hr.mono h_7) rfl (aa (bj 1) (aa aq bf))) aq))
 (ao (iu (i:=4) SC.nd rfl (Or.inr rfl) (d7 false D_11 (hr.mono h_11) rfl (aa (bj 1) (aa aq bf))))
 (ao (iu (i:=5) SC.nd rfl (Or.inr rfl) (a3f (L2.CallR.or ug (v5 rfl)) a0w rfl M.tuple a01 (aa (a5p (xq rfl (CSc.noFree (ts:=["_law_one"]) rfl (by decide +kernel) (by decide +kernel) (by decide +kernel)) (jz (d7 false D_16 (hr.mono h_16) rfl (aa (bj 4) bf))) (fun _ _ _ _=>(ju (i:=0) (show (["_law_one"]:List Str).Nodup by decide +kernel) rfl (Or.inl rfl) (.inr rfl))) qd (fun _ _ _ _=>(a4b (fj (a9z.or a4r) aas (bj 0) a7y (gk _)) aq (bj 0))))) bf)))
 (ao (iu (i:=6) SC.nd rfl (Or.inl rfl) (km (a94 rfl) adw rfl M.max aaz (aa (a5p (j9 (a5p (a0f (aa aq bf))) (a5p (a86 rfl (CSc.of (ts:=["_law_room"]) (fr:=["_law_table_here", "_law_due"]) (ix:=[4,5]) rfl rfl rfl rfl (by intro p hp;simp only [List.mem_cons,List.not_mem_nil,or_false] at hp;rcases hp with rfl | rfl<;>rfl) rfl rfl rfl rfl) (uq rfl M.range (aa (km (L2.CallR.or fu g8) jx rfl M.len ph (aa (bj 5) bf)) bf)) (fun _ _ _ _=>(ju (i:=0) (show (["_law_room", "_law_table_here", "_law_due"]:List Str).Nodup by decide +kernel) rfl (Or.inl rfl) (.inr rfl))) qd (fun _ _ _ _=>(bx (bj 2) (bj 0) (fun _ _=>rfl))) (fun _ _ _ _=>(fj a2v zc (bx (bx (bj 1) aq (fun _ _=>rfl)) (bj 0) (fun _ _=>rfl)) aq (gk _))))))) bf)))
 (ao (o8 PassesOwn.never rfl (jz (a0e (aa (bj 6) (aa (km (a5u rfl) a8a rfl M.max aaz (aa aq (aa (j9 (bj 6) (bj 3)) bf))) (aa (km (a5u rfl) a8a rfl M.max aaz (aa aq (aa (a6d (bj 6) aq) bf))) bf))))) (jc (i:=7) SC.nd rfl (Or.inl rfl)) (ao (lq (yw (qb (d7 false D_5 (hr.mono h_5) rfl (aa (d7 false D_2 (hr.mono h_2) rfl (aa (bj 4) (aa (bj 7) (aa (bj 5) bf)))) (aa (d7 false D_19 (hr.mono h_19) rfl (aa (bj 4) (aa (bj 7) (aa (bj 5) bf)))) bf)))))
 a8f
 ik)
 (ao (o8 PassesOwn.never rfl (uq rfl M.range (aa (km (L2.CallR.or fu g8) jx rfl M.len ph (aa (bj 5) bf)) bf)) (jc (i:=8) SC.nd rfl (Or.inl rfl)) (ao (iu (i:=9) SC.nd rfl (Or.inl rfl) (j9 (j9 (tu (bj 5) zf (zg (bj 8))) (a0e (aa (j9 (bx (bj 5) (bj 8) (fun _ _=>rfl)) (bj 2)) bf))) (tu (bj 5) (zg (j9 (bj 8) aq)) zf)))
 (bu (lq (yw (qb (d7 false D_5 (hr.mono h_5) rfl (aa (d7 false D_2 (hr.mono h_2) rfl (aa (bj 4) (aa (bj 7) (aa (bj 9) bf)))) (aa (d7 false D_19 (hr.mono h_19) rfl (aa (bj 4) (aa (bj 7) (aa (bj 9) bf)))) bf)))))
 a8f
 ik))))
 (ao (iu (i:=10) SC.nd rfl (Or.inl rfl) (d7 false D_20 (hr.mono h_20) rfl (aa (bj 1) (aa (bj 5) bf))))
 (bu (lq (yw (qb (d7 false D_5 (hr.mono h_5) rfl (aa (d7 false D_2 (hr.mono h_2) rfl (aa (bj 4) (aa (bj 7) (aa (bj 10) bf)))) (aa (d7 false D_19 (hr.mono h_19) rfl (aa (bj 4) (aa (bj 7) (aa (bj 10) bf)))) bf)))))
 a8f
 ik))))))
 (ao (lq (yw (qb (d7 false D_5 (hr.mono h_5) rfl (aa (d7 false D_2 (hr.mono h_2) rfl (aa (bj 4) (aa (j9 (bj 6) (a6e aq aq)) (aa (bj 5) bf)))) (aa (d7 false D_19 (hr.mono h_19) rfl (aa (bj 4) (aa (j9 (bj 6) (a6e aq aq)) (aa (bj 5) bf)))) bf)))))
 a8f
 ik)
 (bu (iy (d7 false D_5 (hr.mono h_5) rfl (aa (d7 false D_2 (hr.mono h_2) rfl (aa (bj 4) (aa (bj 6) (aa (bj 5) bf)))) (aa (d7 false D_19 (hr.mono h_19) rfl (aa (bj 4) (aa (bj 6) (aa (bj 5) bf)))) bf)))))))))))))
end
end K40
namespace HND
open PySem PySem.Spec L2 MI
noncomputable def uv:SS :=
 (j7 (jy 0 (sC (.str " !\"#$&'()*+,-./0123456789:;<=>?@ABCDEFGHIJKLMNOPQRSTUVWXYZ[\\]^_`")))
 (u5 (s2 jf (sV 0) (sC (.str "abcdefghijklmnopqrstuvwxyz{|}~\n")))))
end HND
namespace MI
open PySem PySem.Spec L2
abbrev S (l:List Nat):Str:=⟨l.toArray⟩
theorem aeb (l:List Nat):(S l).cps.toList=l:=by simp
theorem abi (l:List Nat):(S l).length=l.length:=by simp [Str.length]
theorem agx (x:Str):S x.cps.toList=x:=by cases x;simp
theorem aml (a b:List Nat):S a++S b=S (a++b):=by rw [← agx (S a++S b),amc]
section
variable {h:Hd} {a b l:List Nat} {i:Nat} {c:Nat}
theorem ap8 (hl:l.length≤LINE) (e:l[i]? = some c):gIx (.str (S l)) (.int (i:Nat)) h = .ok (.str (S [c])) h:=by
 unfold gIx
 simp only [abi,if_pos hl,aeb,qg e]
theorem agy (hl:a.length+b.length≤LINE):jf (.str (S a)) (.str (S b)) h = .ok (.str (S (a++b))) h:=by
 unfold jf
 simp only [abi,if_pos hl,aml]
theorem amm (hl:l.length≤LINE):vg [.str (S l)] h = .ok (.int l.length) h:=by
 unfold vg
 simp only [abi,if_pos hl]
theorem ap9 (k:Nat) (hl:l.length≤LINE):a9b (.str (S l)) none (some (k:Int)) h = .ok (.str (S (l.take k))) h:=by
 show gSl (.str (S l)) none (some (k:Int)) h=_
 unfold gSl
 simp only [abi,if_pos hl,aeb,a71]
theorem ak6 (k:Nat) (hl:l.length≤LINE):a9b (.str (S l)) (some (k:Int)) none h = .ok (.str (S (l.drop k))) h:=by
 show gSl (.str (S l)) (some (k:Int)) none h=_
 unfold gSl
 simp only [abi,if_pos hl,aeb,a68]
end
section
variable {h:Hd} {i j:Int} {xs ys:List D}
theorem a2x:gIx (.tup xs) (.int i) h=(match atI xs i with | some d=>.ok d h | none=>.no):=rfl
theorem a6p:gIx (.rol xs) (.int i) h=(match atI xs i with | some d=>.ok d h | none=>.no):=rfl
theorem a6q {k:Nat}:gIx (.ref k) (.int i) h=(match a02 (.ref k) h with | some xs=>(match atI xs i with | some d=>.ok d h | none=>.no) | none=>.no):=rfl
theorem uc:vg [.tup xs] h = .ok (.int xs.length) h:=rfl
theorem a1s:vg [.rol xs] h = .ok (.int xs.length) h:=rfl
theorem a3m {k:Nat}:vg [.ref k] h=(match a02 (.ref k) h with | some xs=>.ok (.int xs.length) h | none=>.no):=rfl
theorem ue:jf (.int i) (.int j) h = .ok (.int (i+j)) h:=rfl
theorem a3n:a3h (.int i) (.int j) h = .ok (.int (i+j)) h:=rfl
open Classical in
theorem a4f:a1b (.int i) (.int j) h=if CMul i j then .ok (.int (i*j)) h else .no:=by unfold a1b;rfl
theorem kh (b:Bool):tru (.bl b) h = .ok b h:=rfl
theorem a5h:tru (.int i) h = .ok (i != 0) h:=rfl
theorem a5i:tru (.rol xs) h = .ok (!xs.isEmpty) h:=rfl
theorem a5j:tru (.tup xs) h = .ok (!xs.isEmpty) h:=rfl
theorem a5k:tru .non h = .ok false h:=rfl
theorem a9f:hEq (.int i) (.int j) h = .ok (.bl (i == j)) h:=rfl
theorem a9g:hNe (.int i) (.int j) h = .ok (.bl (!(i == j))) h:=rfl
theorem aec (a b:Bool):hEq (.bl a) (.bl b) h = .ok (.bl (a == b)) h:=rfl
theorem aed (a b:Bool):hNe (.bl a) (.bl b) h = .ok (.bl (!(a == b))) h:=rfl
theorem a8l (x:D):gIs x .non h = .ok (.bl (a3t x)) h:=by cases x<;>rfl
theorem a1f (x:D):af4 x .non h = .ok (.bl (!a3t x)) h:=by cases x<;>rfl
theorem aee (a b:Bool):gIs (.bl a) (.bl b) h = .ok (.bl (a == b)) h:=rfl
theorem a2p (a b:Bool):af4 (.bl a) (.bl b) h = .ok (.bl (a != b)) h:=rfl
theorem al9:a3t (.int i)=false:=rfl
theorem ala (x:Str):a3t (.str x)=false:=rfl
theorem alb:a3t .non=true:=rfl
theorem alc:a3t (.tup xs)=false:=rfl
end
end MI
namespace HND
open PySem PySem.Spec L2 MI AT
local macro_rules | `(tactic| walk_at "ev") => `(tactic| simp only [qm,zq,a8h,a6l,a8i,jy,ace,a6k,sIf,u5,a0k,aam,put,adx,ade,aex,a2e,ag8,kN,sV,sC,s2,s1,sA,ak,dm,sNx,sT,asB,yz,kh,a5h,a5i,a5j,a5k,a1k,sOr,a1h,a0t,al7,a4w,sCh,a6a,dg,a2f,MI.a2x,MI.a6p,MI.a6q,agm,a02,gLt,gGt,gGe,gLe,a9f,a9g,aec,aed,a8l,a1f,aee,a2p,al9,ala,alb,alc,ue,MI.a6t,a6u,ach,a4f,AT.abh,AT.p18,uc,a1s,a3m,age,a3n,a0a,a6f,a4z,MI.a0q,MI.a3e,sML,isL,a6w,oN,oS,a6j,xr,sIt,af0,sRg,List.length_map,List.length_cons,List.length_nil,List.length_append,List.getElem?_cons_zero,List.getElem?_cons_succ,List.set_cons_zero,List.set_cons_succ,List.nil_append,List.cons_append,AT.ae1,AT.ae2,AT.ae3,AT.ae4,AT.ae5,AT.ae6,AT.ae7,AT.ae8,AT.x10,AT.x20,AT.x21,AT.x30,AT.x31,AT.x32,AT.x40,AT.x41,AT.x42,AT.x43,AT.x50,AT.x51,AT.x52,AT.x53,AT.x54,AT.x60,AT.x61,AT.x62,AT.x63,AT.x64,AT.x65,AT.x70,AT.x71,AT.x72,AT.x73,AT.x74,AT.x75,AT.x76,decide_true,decide_false,reduceIte,Bool.true_and,Bool.and_self,Bool.not_true,Bool.not_false,and_self,true_and,and_true,beq_self_eq_true,Nat.reduceAdd,Nat.reduceLeDiff,Nat.reduceLT,Nat.reducePow,Int.reduceLT,Int.reduceLE,Int.reduceNeg,Int.reduceEq,Int.reduceBEq,Bool.false_eq_true,Bool.true_eq_false,ite_true,ite_false,if_true,if_false, *])
end HND
namespace HND
open PySem PySem.Spec L2 MI AT
local macro_rules | `(tactic| walk_at "ev") => `(tactic| simp only [qm,zq,a8h,a6l,a8i,jy,ace,a6k,sIf,u5,a0k,aam,put,adx,ade,aex,a2e,ag8,kN,sV,sC,s2,s1,sA,ak,dm,sNx,sT,asB,yz,kh,a5h,a5i,a5j,a5k,a1k,sOr,a1h,a0t,al7,a4w,sCh,a6a,dg,a2f,MI.a2x,MI.a6p,MI.a6q,agm,a02,gLt,gGt,gGe,gLe,a9f,a9g,aec,aed,a8l,a1f,aee,a2p,al9,ala,alb,alc,ue,MI.a6t,a6u,ach,a4f,AT.abh,AT.p18,uc,a1s,a3m,age,a3n,a0a,a6f,a4z,MI.a0q,MI.a3e,sML,isL,a6w,oN,oS,a6j,xr,sIt,af0,sRg,a1w,v4,a4x,ajp,ajo,agt,anh,ami,srcOf,  List.length_map,List.length_cons,List.length_nil,List.length_append,List.getElem?_cons_zero,List.getElem?_cons_succ,List.set_cons_zero,List.set_cons_succ,List.nil_append,List.cons_append,AT.ae1,AT.ae2,AT.ae3,AT.ae4,AT.ae5,AT.ae6,AT.ae7,AT.ae8,AT.x10,AT.x20,AT.x21,AT.x30,AT.x31,AT.x32,AT.x40,AT.x41,AT.x42,AT.x43,AT.x50,AT.x51,AT.x52,AT.x53,AT.x54,AT.x60,AT.x61,AT.x62,AT.x63,AT.x64,AT.x65,AT.x70,AT.x71,AT.x72,AT.x73,AT.x74,AT.x75,AT.x76,decide_true,decide_false,reduceIte,Bool.true_and,Bool.and_self,Bool.not_true,Bool.not_false,and_self,true_and,and_true,beq_self_eq_true,Nat.reduceAdd,Nat.reduceLeDiff,Nat.reduceLT,Nat.reducePow,Int.reduceLT,Int.reduceLE,Int.reduceNeg,Int.reduceEq,Int.reduceBEq,Bool.false_eq_true,Bool.true_eq_false,ite_true,ite_false,if_true,if_false, *])
def ald:Str := " !\"#$&'()*+,-./0123456789:;<=>?@ABCDEFGHIJKLMNOPQRSTUVWXYZ[\\]^_`"
def ale:Str := "abcdefghijklmnopqrstuvwxyz{|}~\n"
def sig:List Nat:=ald.cps.toList++ale.cps.toList
theorem agz:sig.length=95:=by decide +kernel
theorem ak7:sig.Nodup:=by decide +kernel
noncomputable def jb:SF:=p8 uv 1
theorem lits {h:Hd}:jf (.str ald) (.str ale) h = .ok (.str (S sig)) h:=by
 rw [← agx ald,← agx ale,agy (by decide +kernel)]
 rfl
theorem a5l:Pu jb 0 [] (.str (S sig)):=by
 refine Pu.of rfl (by simp) (r:=.ok (.str (S sig)) []) ?_ (by rw [jk (a1q _) (by simp)];rfl) (a1q _)
 unfold jb
 rw [iz]
 unfold uv
 have e:=@lits []
 unfold ald ale at e
 show toR (j7 (jy 0 _) _ [none] [])=_
 simp only [qm,jy,sC,a2f,zq,u5,s2,sV,List.set_cons_zero,List.getElem?_cons_zero,dg,e,a6l]
structure Tongue (l:List Nat):Prop where
 lo:1≤l.length
 hi:l.length≤6
 nd:l.Nodup
 sub:∀ c∈l,c∈sig
theorem abj (a r:List Nat) (i:Nat) (c:Nat) (e:r[i]? = some c):List.Perm (a++r) ((a++[c])++(r.take i++r.drop (i+1))):=by
 obtain ⟨hi,e⟩:=List.getElem?_eq_some_iff.mp e
 have:r=r.take i++c::r.drop (i+1):=by rw [← e];simp
 rw [List.append_assoc]
 refine List.Perm.append_left a ?_
 rw [List.singleton_append]
 conv=>lhs;rw [this]
 exact List.perm_middle
end HND
namespace SRC
open PySem PySem.Spec L2 MI AT
local macro_rules | `(tactic| walk_at "ev") => `(tactic| simp only [qm,zq,a8h,a6l,a8i,jy,ace,a6k,sIf,u5,a0k,aam,put,adx,ade,aex,a2e,ag8,kN,sV,sC,s2,s1,sA,ak,dm,sNx,sT,asB,yz,kh,a5h,a5i,a5j,a5k,a1k,sOr,a1h,a0t,al7,a4w,sCh,a6a,dg,a2f,MI.a2x,MI.a6p,MI.a6q,agm,a02,gLt,gGt,gGe,gLe,a9f,a9g,aec,aed,a8l,a1f,aee,a2p,al9,ala,alb,alc,ue,MI.a6t,a6u,ach,a4f,AT.abh,AT.p18,uc,a1s,a3m,age,a3n,a0a,a6f,a4z,MI.a0q,MI.a3e,sML,isL,a6w,oN,oS,a6j,xr,sIt,af0,sRg,List.length_map,List.length_cons,List.length_nil,List.length_append,List.getElem?_cons_zero,List.getElem?_cons_succ,List.set_cons_zero,List.set_cons_succ,List.nil_append,List.cons_append,AT.ae1,AT.ae2,AT.ae3,AT.ae4,AT.ae5,AT.ae6,AT.ae7,AT.ae8,AT.x10,AT.x20,AT.x21,AT.x30,AT.x31,AT.x32,AT.x40,AT.x41,AT.x42,AT.x43,AT.x50,AT.x51,AT.x52,AT.x53,AT.x54,AT.x60,AT.x61,AT.x62,AT.x63,AT.x64,AT.x65,AT.x70,AT.x71,AT.x72,AT.x73,AT.x74,AT.x75,AT.x76,decide_true,decide_false,reduceIte,Bool.true_and,Bool.and_self,Bool.not_true,Bool.not_false,and_self,true_and,and_true,beq_self_eq_true,Nat.reduceAdd,Nat.reduceLeDiff,Nat.reduceLT,Nat.reducePow,Int.reduceLT,Int.reduceLE,Int.reduceNeg,Int.reduceEq,Int.reduceBEq,Bool.false_eq_true,Bool.true_eq_false,ite_true,ite_false,if_true,if_false, *])
structure Src (o:O) (N:Nat):Prop where
 ex:∃ (cells:List Int) (a l c s:Int),o = .lst [.rol (cells.map D.int), .int a, .int l, .int c, .int s]∧0≤a∧0≤l∧0≤s∧s<2147483647∧0≤c∧c≤N
theorem Src.clo {o:O} {N:Nat} (P:Src o N):a1x 0 o:=by
 obtain ⟨cells,a,l,c,s,rfl,_⟩:=P.ex
 exact ji (ql (gw fun x _=>du x)) (ji (du _) (ji (du _) (ji (du _) (ji (du _) qp))))
theorem Src.up {o:O} {N M:Nat} (P:Src o N) (h:N≤M):Src o M:=by
 obtain ⟨cells,a,l,c,s,e,h1,h2,h3,h4,h5,h6⟩:=P.ex
 exact ⟨cells,a,l,c,s,e,h1,h2,h3,h4,h5,by omega⟩
noncomputable def aj:SF:=p8 a1r 4
theorem abk {o:O} {N:Nat} {m:Int} (P:Src o N) (hN:N≤1000000000) (m0:0<m) (m1:m<1073741824):∃ r o',aj [.ref 0, .int m] [o] = .ok (.int r) [o']∧0≤r∧r<m∧Src o' (N+1):=by
 obtain ⟨cells,a,l,c,s,rfl,a0,l0,s0,s1,c0,c1⟩:=P.ex
 unfold aj
 rw [iz]
 unfold a1r a0u
 simp only [List.map_cons,List.map_nil,List.length_cons,List.length_nil,Nat.reduceSub,Nat.reduceAdd,List.replicate,List.cons_append,List.nil_append]
 have k3:(0<m∧m<1073741824)=True:=by simp [m0,m1]
 have k3':(0<m)=True:=by simp [m0]
 have last:∀ s':Int,0≤s'→s'<2147483647→∃ r q,0≤r∧r<m∧(s'+1+(c+1)*7919) ^ (3:Int).toNat % 2147483647=q∧(q*48271+(c+1)) ^ (2:Int).toNat % 2147483629 / 64 % m=r∧CMul (c+1) 7919∧CMul q 48271 ∧
   (∀ h,a6v (.int (s'+1+(c+1)*7919)) (.int 3) h = .ok (.int ((s'+1+(c+1)*7919) ^ (3:Int).toNat)) h)∧∀ h,a6v (.int (q*48271+(c+1))) (.int 2) h = .ok (.int ((q*48271+(c+1)) ^ (2:Int).toNat)) h:=fun s' h0 h1=>by
  have q0:0≤(s'+1+(c+1)*7919) ^ (3:Int).toNat % 2147483647:=Int.emod_nonneg _ (by decide)
  have q1:(s'+1+(c+1)*7919) ^ (3:Int).toNat % 2147483647<2147483647:=Int.emod_lt_of_pos _ (by decide)
  refine ⟨_,_,Int.emod_nonneg _ (by omega),Int.emod_lt_of_pos _ m0,rfl,rfl, .inr ⟨by decide,by decide⟩, .inr ⟨by decide,by decide⟩,fun h=>agv ⟨by decide,by decide,by omega⟩,fun h=>agv ⟨by decide,by decide,?_⟩⟩
  generalize (s'+1+(c+1)*7919) ^ (3:Int).toNat % 2147483647=q at q0 q1
  omega
 by_cases hA:l=0∧a<(cells.length:Int)
 ·obtain ⟨rfl,ha⟩:=hA
  obtain ⟨j,rfl⟩:=Int.eq_ofNat_of_zero_le a0
  have hj:j<cells.length:=by omega
  have hat:atI (cells.map D.int) (j:Int)=some (.int cells[j]):=qg (by simp [hj])
  have ka:decide ((j:Int)<(cells.length:Int))=true:=decide_eq_true ha
  have cm:CMul s 31:=.inr ⟨by decide,by decide⟩
  have s2:0≤(s*31+cells[j]) % 2147483647:=Int.emod_nonneg _ (by decide)
  have s3:(s*31+cells[j]) % 2147483647<2147483647:=Int.emod_lt_of_pos _ (by decide)
  generalize hs':(s*31+cells[j]) % 2147483647=s' at s2 s3
  generalize hx:cells[j]=x at *
  by_cases hB:(1000000000000000000:Int)≤x
  ·have kb:decide ((1000000000000000000:Int)≤x)=true:=decide_eq_true hB
   have kc:decide (0<x)=true:=decide_eq_true (by omega)
   refine ⟨x % m,_,?_,Int.emod_nonneg _ (by omega),Int.emod_lt_of_pos _ m0,⟨cells,(j:Int)+1,x / m,c+1,s,rfl,by omega,Int.ediv_nonneg (by omega) (by omega),s0,s1,by omega,by omega⟩⟩
   walk_at "ev"
  ·have kb:decide ((1000000000000000000:Int)≤x)=false:=decide_eq_false hB
   obtain ⟨r,q,r0,r1,eq,er,d1,d2,d3,d4⟩:=last s' s2 s3
   refine ⟨r,_,?_,r0,r1,⟨cells,(j:Int)+1,0,c+1,s',rfl,by omega,by omega,s2,s3,by omega,by omega⟩⟩
   walk_at "ev"
 ·by_cases hC:0<l
  ·have kc:decide (0<l)=true:=decide_eq_true hC
   have kd:(l == 0)=false:=by simp;omega
   refine ⟨l % m,_,?_,Int.emod_nonneg _ (by omega),Int.emod_lt_of_pos _ m0,⟨cells,a,l / m,c+1,s,rfl,a0,Int.ediv_nonneg (by omega) (by omega),s0,s1,by omega,by omega⟩⟩
   walk_at "ev"
  ·have:l=0:=by omega
   subst this
   have ka:decide (a<(cells.length:Int))=false:=decide_eq_false fun z=>hA ⟨rfl,z⟩
   obtain ⟨r,q,r0,r1,eq,er,d1,d2,d3,d4⟩:=last s s0 s1
   refine ⟨r,_,?_,r0,r1,⟨cells,a,0,c+1,s,rfl,a0,by omega,s0,s1,by omega,by omega⟩⟩
   walk_at "ev"
theorem p6 {o:O} {N:Nat} {m:Int} (P:Src o N) (hN:N≤1000000000) (m0:0<m) (m1:m<1073741824):∃ r o',Dr aj 2 [.int m] o (.int r) o'∧0≤r∧r<m∧Src o' (N+1):=by
 obtain ⟨r,o',e,r0,r1,P'⟩:=abk P hN m0 m1
 refine ⟨r,o',Dr.of rfl (by simp [du]) P.clo e (jk (du _) ?_) (du _) P'.clo,r0,r1,P'⟩
 intro u hu
 simp at hu
 subst hu
 exact ur (by omega) P'.clo
end SRC
namespace MI
open PySem PySem.Spec L2
theorem amn (n:Nat):rng 0 n=(List.range n).map fun i:Nat=>D.int (i:Nat):=by
 unfold rng
 exact List.map_congr_left fun i _=>by rw [Int.zero_add]
theorem amo (a:Int) (n:Nat):rng a n=(List.range n).map fun i:Nat=>D.int (a+(i:Nat)):=rfl
theorem a7b {n:Nat} (h:n≤LINE):B62 (n:Int):=by
 have:n≤16777216:=h
 unfold B62;omega
theorem ak8 {n:Nat} (h:Hd) (z:n≤LINE):v4 [.int (n:Nat)] h = .ok ⟨(List.range n).map fun i:Nat=>D.int (i:Nat),fun _=>True⟩ h:=by
 unfold v4
 simp only [a7b z,if_true,Int.toNat_natCast,amn]
theorem ak9 {a n:Nat} (h:Hd) (za:a≤LINE) (z:n≤LINE):a4x [.int (a:Nat), .int (n:Nat)] h = .ok ⟨(List.range (n - a)).map fun i:Nat=>D.int ((a+i:Nat)),fun _=>True⟩ h:=by
 unfold a4x
 simp only [a7b z,a7b za,and_self,if_true,amo]
 rw [show ((n:Int) - (a:Int)).toNat=n - a by omega]
 congr 2
theorem amq {f:SE} {τ:Sd} {h:Hd} {d:D} (e:f τ h = .ok d h):ak f dm τ h = .ok [d] h:=by unfold ak dm;rw [e];rfl
theorem a7c {f g:SE} {τ:Sd} {h:Hd} {c d:D} (e:f τ h = .ok c h) (e':g τ h = .ok d h):ak f (ak g dm) τ h = .ok [c,d] h:=by unfold ak;rw [e,dg,e',dg];rfl
theorem zy {f:SE} {τ:Sd} {h:Hd} {n:Nat} (e:f τ h = .ok (.int (n:Nat)) h) (z:n≤LINE):sRg v4 (ak f dm) τ h = .ok ⟨(List.range n).map fun i:Nat=>D.int (i:Nat),fun _=>True⟩ h:=by
 unfold sRg
 rw [amq e,dg]
 exact ak8 h z
theorem abl {f g:SE} {τ:Sd} {h:Hd} {a n:Nat} (e':g τ h = .ok (.int (a:Nat)) h) (e:f τ h = .ok (.int (n:Nat)) h) (za:a≤LINE) (z:n≤LINE):sRg a4x (ak g (ak f dm)) τ h = .ok ⟨(List.range (n - a)).map fun i:Nat=>D.int ((a+i:Nat)),fun _=>True⟩ h:=by
 unfold sRg
 rw [a7c e' e,dg]
 exact ak9 h za z
theorem cj {i:Nat} {τ:Sd} {h:Hd} {d:D} (e:τ[i]? = some (some d)):sV i τ h = .ok d h:=by unfold sV;rw [e]
theorem p7 {fi:SI} {t:D→Option Sd} {fe:SE} {ix:List Nat} {τ:Sd} {h:Hd} {α:Type} (g F:α→D) (xs:List α) (e:fi τ h = .ok ⟨xs.map g,fun _=>True⟩ h) (z:xs.length≤LINE)
  (st:∀ x∈xs,a4y t fe (frs' ix τ) (g x) h = .ok (F x) h):jn fi t fe ix τ h = .ok (.ref h.length) (h++[.lst (xs.map F)]):=by
 unfold jn
 rw [e,dg]
 dsimp only
 rw [if_pos (by rw [List.length_map];exact z),a6n g F st]
 rfl
theorem a3o {fi:SI} {t:D→Option Sd} {c:ST} {fe:SE} {ix:List Nat} {τ:Sd} {h:Hd} {α:Type} (g:α→D) (F:α→Option D) (xs:List α) (e:fi τ h = .ok ⟨xs.map g,fun _=>True⟩ h) (z:xs.length≤LINE)
  (st:∀ x∈xs,a73 t c fe (frs' ix τ) (g x) h = .ok (F x) h):v6 fi t c fe ix τ h = .ok (.ref h.length) (h++[.lst (xs.filterMap F)]):=by
 unfold v6
 rw [e,dg]
 dsimp only
 rw [if_pos (by rw [List.length_map];exact z),a6o g F st]
 rfl
theorem uy (fe:SE) (r:Sd) (x:D) (h:Hd):a4y t1 fe r x h=fe (some x::r) h:=rfl
theorem a7d (c:ST) (fe:SE) (r:Sd) (x:D) (h:Hd):a73 t1 c fe r x h=(c (some x::r) h).bind fun b h1=>if b=true then (fe (some x::r) h1).bind fun y h2=>.ok (some y) h2 else .ok none h1:=rfl
theorem a1g (i:Nat) (ix:List Nat) (τ:Sd):frs' (i::ix) τ=(τ[i]?).join::frs' ix τ:=rfl
theorem a7e (τ:Sd):frs' [] τ=[]:=rfl
end MI
namespace MI
open PySem PySem.Spec L2
section
variable {f k f1 f2 f3:SE} {c c1 c2:ST} {g p q:SS} {τ τ1:Sd} {h h1 h2 h3 h4:Hd} {a b d v:D} {i:Nat} {t u:Bool}
theorem gf (d:D) (τ:Sd) (h:Hd):sC d τ h = .ok d h:=rfl
theorem wz {G:List D→Hd→R D} (e1:f τ h = .ok a h1) (e3:G [a] h1 = .ok v h2):sA G (ak f dm) τ h = .ok v h2:=by
 have:ak f dm τ h = .ok [a] h1:=by unfold ak;rw [e1];rfl
 unfold sA
 rw [this,dg,e3]
theorem yt {G:List D→Hd→R D} (e1:f τ h = .ok a h1) (e2:k τ h1 = .ok b h2) (e3:G [a,b] h2 = .ok v h3):sA G (ak f (ak k dm)) τ h = .ok v h3:=by
 have:ak f (ak k dm) τ h = .ok [a,b] h2:=by unfold ak;rw [e1,dg,e2];rfl
 unfold sA
 rw [this,dg,e3]
theorem acj {G:List D→Hd→R D} (e0:f1 τ h = .ok d h1) (e1:f τ h1 = .ok a h2) (e2:k τ h2 = .ok b h3) (e3:G [d,a,b] h3 = .ok v h4):sA G (ak f1 (ak f (ak k dm))) τ h = .ok v h4:=by
 have:ak f1 (ak f (ak k dm)) τ h = .ok [d,a,b] h3:=by unfold ak;rw [e0,dg,e1,dg,e2];rfl
 unfold sA
 rw [this,dg,e3]
theorem jo (e:f τ h = .ok d h1):j7 (jy i f) g τ h=g (τ.set i (some d)) h1:=by
 rw [qm]
 unfold jy
 rw [e]
 rfl
theorem ah0 (e:f τ h = .ok d h1):jy i f τ h = .nx (τ.set i (some d)) h1:=by
 unfold jy
 rw [e]
 rfl
theorem a3u (e:p τ h = .nx τ1 h1):j7 p g τ h=g τ1 h1:=by rw [qm,e];rfl
theorem a0b (e:p τ h = .rt d h1):j7 p g τ h = .rt d h1:=by rw [qm,e];rfl
theorem ifT (e:c τ h = .ok true h1):sIf c p q τ h=p τ h1:=by unfold sIf;rw [e];rfl
theorem ifF (e:c τ h = .ok false h1):sIf c p q τ h=q τ h1:=by unfold sIf;rw [e];rfl
theorem ifN (e:c τ h = .ok false h1):j7 (sIf c p sNx) g τ h=g τ h1:=by rw [qm,ifF e];rfl
theorem tof (e:f τ h = .ok (.bl t) h1):sT f τ h = .ok t h1:=by unfold sT;rw [e];rfl
theorem xf (e:f τ h = .ok d h1) (e':tru d h1 = .ok t h2):yz f τ h = .ok t h2:=by unfold yz;rw [e,dg,e']
theorem aka (e:c1 τ h = .ok true h1) (e':c2 τ h1 = .ok t h2):a1k c1 c2 τ h = .ok t h2:=by unfold a1k;rw [e,dg,if_pos rfl,e']
theorem amr (e:c1 τ h = .ok false h1):a1k c1 c2 τ h = .ok false h1:=by unfold a1k;rw [e,dg,if_neg (by simp)]
theorem orT (e:c1 τ h = .ok true h1):sOr c1 c2 τ h = .ok true h1:=by unfold sOr;rw [e,dg,if_pos rfl]
theorem orF (e:c1 τ h = .ok false h1) (e':c2 τ h1 = .ok t h2):sOr c1 c2 τ h = .ok t h2:=by unfold sOr;rw [e,dg,if_neg (by simp),e']
theorem a5m (e:c τ h = .ok t h1):a1h c τ h = .ok (!t) h1:=by unfold a1h;rw [e];rfl
theorem akb (e:c τ h = .ok true h1):a1h c τ h = .ok false h1:=a5m e
theorem apa (e:c τ h = .ok false h1):a1h c τ h = .ok true h1:=a5m e
theorem lz (e:f τ h = .ok d h1):u5 f τ h = .rt d h1:=by unfold u5;rw [e];rfl
theorem akc (e:f τ h = .ok (.bl true) h1) (e':k τ h1 = .ok d h2):a0t f k τ h = .ok d h2:=by unfold a0t;rw [e,dg];exact e'
theorem a2b {G:D→List D→Hd→R D} {A:SA} {ds:List D} (e1:f τ h = .ok d h1) (l:isL d h1=true) (e2:A τ h1 = .ok ds h2) (e3:G d ds h2 = .ok v h3):a0k (sML G f A) τ h = .nx τ h3:=by
 unfold a0k sML
 rw [e1,dg,if_pos l,e2,dg,e3]
 rfl
theorem ams {G:D→List D→Hd→R D} {A:SA} {ds:List D} (e1:f τ h = .ok d h1) (l:isL d h1=true) (e2:A τ h1 = .ok ds h2) (e3:G d ds h2 = .ok v h3):sML G f A τ h = .ok v h3:=by
 unfold sML
 rw [e1,dg,if_pos l,e2,dg,e3]
theorem arg1 (e:f τ h = .ok d h1):ak f dm τ h = .ok [d] h1:=by unfold ak dm;rw [e];rfl
theorem gq {G:D→D→Hd→R D} (e1:f τ h = .ok a h1) (e2:k τ h1 = .ok b h2) (e3:G a b h2 = .ok v h3):s2 G f k τ h = .ok v h3:=by
 unfold s2
 rw [e1,dg,e2,dg,e3]
theorem a3p {G:D→Hd→R D} (e1:f τ h = .ok a h1) (e3:G a h1 = .ok v h2):s1 G f τ h = .ok v h2:=by
 unfold s1
 rw [e1,dg,e3]
theorem amt {G:D→D→Hd→R D} (ht:τ[i]? = some (some a)) (e:f τ h = .ok b h1) (e2:G a b h1 = .ok d h2):ace i G f τ h = .nx (τ.set i (some d)) h2:=by
 unfold ace
 rw [ht]
 dsimp only
 rw [e,a2f,e2]
 rfl
theorem akd {G:SG} (e:f τ h = .ok d h1) (e2:G d τ h1 = .nx τ1 h2):ade f G τ h = .nx τ1 h2:=by
 unfold ade
 rw [e,a2f,e2]
theorem ake (e1:f1 τ h = .ok v h1) (e2:f2 τ h1 = .ok a h2) (e3:f3 τ h2 = .ok b h3) (e4:put a b v h3=some h4):aam f1 f2 f3 τ h = .nx τ h4:=by
 unfold aam
 rw [e1,a2f,e2,a2f,e3,a2f,e4]
theorem a1t {fi:SI} {G:SG} {b:SS} {xs:List D} {ck:Hd→Prop} (e:fi τ h = .ok ⟨xs,ck⟩ h1):j7 (a1w fi G b) g τ h=thn (forL ck G b xs τ h1) g:=by
 rw [qm]
 unfold a1w
 rw [e]
 rfl
theorem a4g {xs:List D} {ck:Hd→Prop} (e:f τ h = .ok d h1) (e2:af0 d h1 = .ok ⟨xs,ck⟩ h1):sIt f τ h = .ok ⟨xs,ck⟩ h1:=by
 unfold sIt
 rw [e,dg,e2]
theorem a2c {xs:List D} (e:h[i]? = some (.lst xs)) (z:xs.length<LINE):a6w (.ref i) [a] h = .ok .non (h.set i (.lst (xs++[a]))):=by
 unfold a6w
 simp only [e,if_pos z]
theorem akf {xs:List D} {j:Nat} (e:h[i]? = some (.lst xs)) (hj:j<xs.length):put (.ref i) (.int (j:Nat)) v h=some (h.set i (.lst (xs.set j v))):=by
 have:ixN xs.length (j:Int)=some j:=by unfold ixN;rw [if_pos (by omega),if_pos (by omega)];simp
 unfold put
 simp only [e,this]
theorem a8m {xs:List D} {j:Nat} {y:D} (e:h[i]? = some (.lst xs)) (hj:xs[j]? = some y):gIx (.ref i) (.int (j:Nat)) h = .ok y h:=by
 rw [a6q]
 unfold a02
 simp only [e,qg hj]
theorem ah1 {xs:List D} {j:Nat} {y:D} (hj:xs[j]? = some y):gIx (.rol xs) (.int (j:Nat)) h = .ok y h:=by
 rw [a6p]
 simp only [qg hj]
theorem abm {xs:List D} {j:Nat} {y:D} (hj:xs[j]? = some y):gIx (.tup xs) (.int (j:Nat)) h = .ok y h:=by
 rw [a2x]
 simp only [qg hj]
theorem a7f {xs:List D} (e:h[i]? = some (.lst xs)):vg [.ref i] h = .ok (.int (xs.length:Nat)) h:=by
 rw [a3m]
 unfold a02
 simp only [e]
theorem akg {x y:Int} (c:0<y):a6u (.int x) (.int y) h = .ok (.int (x % y)) h:=by unfold a6u;exact if_pos c
theorem apb {x y:Int} (c:y<x):gGt (.int x) (.int y) h = .ok (.bl true) h:=by unfold gGt;simp only [c,decide_true]
theorem apc {x y:Int} (c:¬ y<x):gGt (.int x) (.int y) h = .ok (.bl false) h:=by unfold gGt;simp only [c,decide_false]
theorem alf {x y:Int} (c:x<y):gLt (.int x) (.int y) h = .ok (.bl true) h:=by unfold gLt;simp only [c,decide_true]
theorem amu {x y:Int} (c:¬ x<y):gLt (.int x) (.int y) h = .ok (.bl false) h:=by unfold gLt;simp only [c,decide_false]
theorem a2g {x y:Int} (c:x=y):hEq (.int x) (.int y) h = .ok (.bl true) h:=by rw [a9f,c,beq_self_eq_true]
theorem zz {x y:Int} (c:¬ x=y):hEq (.int x) (.int y) h = .ok (.bl false) h:=by rw [a9f,beq_eq_false_iff_ne.mpr c]
theorem akh {x y:Int} (c:x=y):hNe (.int x) (.int y) h = .ok (.bl false) h:=by rw [a9g,c,beq_self_eq_true];rfl
theorem aki {x y:Int} (c:¬ x=y):hNe (.int x) (.int y) h = .ok (.bl true) h:=by rw [a9g,beq_eq_false_iff_ne.mpr c];rfl
theorem uz (x:Int):a0a (.int x) h = .ok (.int (-x)) h:=rfl
theorem a4h (x y:Int):MI.a6t (.int x) (.int y) h = .ok (.int (x - y)) h:=rfl
theorem j8 {n:Nat} (h:n≤1000000):n≤LINE:=by show n≤16777216;omega
theorem a4i {n:Nat} (h:n≤1000000):n<LINE:=by show n<16777216;omega
theorem apd:MI.a0q [a,b] h = .ok (.tup [a,b]) h:=by unfold MI.a0q;rw [if_pos (j8 (by simp))]
theorem amv:MI.a0q [a,b,v] h = .ok (.tup [a,b,v]) h:=by unfold MI.a0q;rw [if_pos (j8 (by simp))]
end
end MI
namespace EVX
open PySem PySem.Spec L2 MI
section
variable {i:Nat} {cs:Str→Bool} {fb fs p g:SS} {τ τ1 τ2:Sd} {h h1 h2:Hd} {c:Str} {f:SE} {ka:SA} {ds:List D} {F:SF} {n:Nat}
theorem ape (e:ka τ h = .ok ds h1):sA F ka τ h=F ds h1:=by unfold sA;rw [e];rfl
theorem akj {b:Bool} (e:f τ h = .ok (.bl b) h1):a4w f τ h = .ok (.bl (!b)) h1:=by unfold a4w;rw [e];rfl
theorem yx {d:D} (e:f τ h = .ok d h1) (e2:ka τ h1 = .ok ds h2):ak f ka τ h = .ok (d::ds) h2:=by
 unfold ak
 rw [e,dg,e2]
 rfl
theorem alg {a:D}:MI.a0q [a] h = .ok (.tup [a]) h:=by unfold MI.a0q;rw [if_pos (j8 (by simp))]
theorem amw {G:List D→Hd→R D} {f1 f2 f3 f4:SE} {h3 h4 h5:Hd} {a b c d v:D} (e1:f1 τ h = .ok a h1) (e2:f2 τ h1 = .ok b h2) (e3:f3 τ h2 = .ok c h3) (e4:f4 τ h3 = .ok d h4) (e5:G [a,b,c,d] h4 = .ok v h5):sA G (ak f1 (ak f2 (ak f3 (ak f4 dm)))) τ h = .ok v h5:=by
 have:ak f1 (ak f2 (ak f3 (ak f4 dm))) τ h = .ok [a,b,c,d] h4:=by unfold ak;rw [e1,dg,e2,dg,e3,dg,e4];rfl
 unfold sA
 rw [this,dg,e5]
end
end EVX
namespace SRC
open PySem PySem.Spec L2 MI AT HND EVX
local macro_rules | `(tactic| walk_at "ev") => `(tactic| simp only [qm,zq,a8h,a6l,a8i,jy,ace,a6k,sIf,u5,a0k,aam,put,adx,ade,aex,a2e,ag8,kN,sV,sC,s2,s1,sA,ak,dm,sNx,sT,asB,yz,kh,a5h,a5i,a5j,a5k,a1k,sOr,a1h,a0t,al7,a4w,sCh,a6a,dg,a2f,MI.a2x,MI.a6p,MI.a6q,agm,a02,gLt,gGt,gGe,gLe,a9f,a9g,aec,aed,a8l,a1f,aee,a2p,al9,ala,alb,alc,ue,MI.a6t,a6u,ach,a4f,AT.abh,AT.p18,uc,a1s,a3m,age,a3n,a0a,a6f,a4z,MI.a0q,MI.a3e,sML,isL,a6w,oN,oS,a6j,xr,sIt,af0,sRg,a1w,v4,a4x,ajp,ajo,agt,anh,ami,srcOf,  List.length_map,List.length_cons,List.length_nil,List.length_append,List.getElem?_cons_zero,List.getElem?_cons_succ,List.set_cons_zero,List.set_cons_succ,List.nil_append,List.cons_append,AT.ae1,AT.ae2,AT.ae3,AT.ae4,AT.ae5,AT.ae6,AT.ae7,AT.ae8,AT.x10,AT.x20,AT.x21,AT.x30,AT.x31,AT.x32,AT.x40,AT.x41,AT.x42,AT.x43,AT.x50,AT.x51,AT.x52,AT.x53,AT.x54,AT.x60,AT.x61,AT.x62,AT.x63,AT.x64,AT.x65,AT.x70,AT.x71,AT.x72,AT.x73,AT.x74,AT.x75,AT.x76,decide_true,decide_false,reduceIte,Bool.true_and,Bool.and_self,Bool.not_true,Bool.not_false,and_self,true_and,and_true,beq_self_eq_true,Nat.reduceAdd,Nat.reduceLeDiff,Nat.reduceLT,Nat.reducePow,Int.reduceLT,Int.reduceLE,Int.reduceNeg,Int.reduceEq,Int.reduceBEq,Bool.false_eq_true,Bool.true_eq_false,ite_true,ite_false,if_true,if_false, *])
noncomputable def bz:SF:=p8 v7 2
theorem ints_map:∀ l:List Int,a3g (l.map D.int)=some l
 | []=>rfl
 | a::l=>by rw [List.map_cons];simp only [a3g,ints_map l,Option.map_some]
theorem apf {g:List D→Hd→R D} {k:SA} {τ:Sd} {h h1 h2:Hd} {ds:List D} {d:D} (e:k τ h = .ok ds h1) (eg:g ds h1 = .ok d h2):sA g k τ h = .ok d h2:=by
 unfold sA
 rw [e,dg,eg]
def cell (x:Int):Int:=2*anl x+(if decide (x<0)=true then 1 else 0)
theorem abn (ns:List Int) (h:Hd):∃ o,Src o 0∧jj true 1 bz [.scr (ns.map D.int)] h = .ok (.ref h.length) (h++[o]):=by
 have cl:clos 0 ((ns.take 63).map D.int):=gw fun x _=>du x
 have z1:sZ (a6j (sV 0) oN (oS (sC (.int 63)))) [some (.scr (ns.map D.int)),none] [] = .ok (.rol ((ns.take 63).map D.int)) []:=by
  refine zu (by
   show gSl (.scr (ns.map D.int)) none (some ((63:Nat):Int)) []=_
   unfold gSl
   simp only [a71,List.map_take]) cl (by simp)
 have z2:sZ (jn (sIt (sZ (a6j (sV 0) oN (oS (sC (.int 63)))))) t1 ut []) [some (.scr (ns.map D.int)),none] [] = .ok (.rol ((ns.take 63).map fun x=>D.int (cell x))) []:=by
  refine zu (p7 D.int (fun x=>D.int (cell x)) (ns.take 63) (a4g z1 rfl) (j8 (by simp;omega)) fun x _=>?_) (gw fun x _=>du _) (by simp)
  rw [uy]
  unfold ut
  exact gq (gq (gf _ _ _) (wz (cj rfl) (abh _ _)) (a4f.trans (if_pos (.inl ⟨by decide,by decide⟩)))) (wz (gq (cj rfl) (gf _ _ _) rfl) rfl) ue
 have em:((ns.take 63).map fun x=>D.int (cell x))=((ns.take 63).map cell).map D.int:=by rw [List.map_map];rfl
 rw [em] at z2
 generalize (ns.take 63).map cell=cs at z2
 have e:bz [.scr (ns.map D.int)] [] = .ok (.ref 0) [.lst [.rol (cs.map D.int), .int 0, .int 0, .int 0, .int (cs.sum % 2147483647)]]:=by
  unfold bz
  rw [iz]
  show toR (v7 [some (.scr (ns.map D.int)),none] [])=_
  unfold v7
  refine Eq.trans (congrArg toR (jo z2)) ?_
  have su:aje [.rol (cs.map D.int)] [] = .ok (.int cs.sum) []:=by unfold aje;simp only [ints_map]
  exact congrArg toR (lz (apf (yx (cj rfl) (yx (gf _ _ _) (yx (gf _ _ _) (yx (gf _ _ _) (yx (gq (wz (cj rfl) su) (gf _ _ _) (akg (by decide))) rfl))))) rfl))
 have P:Src (.lst [.rol (cs.map D.int), .int 0, .int 0, .int 0, .int (cs.sum % 2147483647)]) 0:=⟨cs,0,0,0,_,rfl,by decide,by decide,Int.emod_nonneg _ (by decide),Int.emod_lt_of_pos _ (by decide),by decide,by decide⟩
 exact ⟨_,P,ajq rfl (by simpa [MI.clo] using (gw fun x _=>du x:clos 0 (ns.map D.int))) e rfl P.clo h⟩
noncomputable def jb:SF:=p8 uv 1
theorem a5l:Pu jb 0 [] (.str (S sig)):=HND.a5l
noncomputable def di:SF:=p8 (zx aj jb) 5
theorem akk {a b:List Nat} {h:Hd} (l:a.length+b.length≤LINE):a3h (.str (S a)) (.str (S b)) h = .ok (.str (S (a++b))) h:=by
 have:=agy (h:=h) l
 simpa [a3h,jf,aoo] using this
theorem abo {o:O} {N:Nat} (P:Src o N) (hN:N≤999999000):∃ l o',Tongue l∧Dr di 1 [] o (.str (S l)) o'∧Src o' (N+7):=by
 obtain ⟨r0,o1,e1,r0a,r0b,P1⟩:=p6 (m:=6) P (by omega) (by decide) (by decide)
 have lo:=jm (g:=kN 3) (b:=o9 aj jb) (fun i:Nat=>D.int (0+(i:Nat)))
  (fun pre τ h=>∃ (rest told:List Nat) (u:O) (t3 t4:Option D),τ=[some (.ref 0),some (.str (S rest)),some (.str (S told)),t3,t4]∧h=[u]∧Src u (N+1+pre.length)∧told.length=pre.length∧(told++rest).length=95∧(told++rest).Nodup∧∀ c∈told++rest,c∈sig)
  (List.range (1+r0).toNat) [some (.ref 0),some (.str (S sig)),some (.str (S [])),none,none] [o1] ?_
  ⟨sig,[],o1,none,none,rfl,rfl,P1,rfl,by simp [agz],by simpa using ak7,by simp⟩
 ·obtain ⟨τ',h',e2,rest,told,u,t3,t4,rfl,rfl,P2,l1,l2,nd,sb⟩:=lo
  rw [List.length_range] at P2 l1
  have T:Tongue told:=⟨by omega,by omega,(List.nodup_append.mp nd).1,fun c hc=>sb c (List.mem_append_left _ hc)⟩
  refine ⟨told,u,T,Dr.of rfl (by simp) P.clo (r:=.ok (.str (S told)) [u]) ?_ (jk (a1q _) (by simpa using ur (by omega) P2.clo)) (a1q _) P2.clo,P2.up (by omega)⟩
  unfold di
  rw [iz]
  unfold zx a0u
  simp only [List.map_cons,List.map_nil,List.length_cons,List.length_nil,Nat.reduceSub,Nat.reduceAdd,List.replicate,List.cons_append,List.nil_append]
  have c1:=a5l [o]
  have c2:=e1 0 [o] rfl
  have em:("" : Str)=S []:=rfl
  have bd:B62 (1+r0):=by unfold B62;omega
  have e2:forL (fun _=>True) (kN 3) (o9 aj jb) (rng 0 (1+r0).toNat) [some (D.ref 0),some (D.str (S sig)),some (D.str (S [])),none,none] [o1]=_:=e2
  walk_at "ev"
 ·rintro pre i post τ h all ⟨rest,told,u,t3,t4,rfl,rfl,P2,l1,l2,nd,sb⟩
  have hlen:pre.length<(1+r0).toNat:=by
   have:=congrArg List.length all
   simp at this;omega
  rw [List.length_append] at l2
  obtain ⟨r,u',e2,ra,rb,P3⟩:=p6 (m:=(rest.length:Nat)) P2 (by omega) (by omega) (by omega)
  obtain ⟨j,rfl⟩:=Int.eq_ofNat_of_zero_le ra
  have hj:j<rest.length:=by omega
  have gx:rest[j]? = some rest[j]:=List.getElem?_eq_getElem hj
  have pp:=abj told rest j rest[j] gx
  refine ⟨_,_,rfl,_,_,?_,rest.take j++rest.drop (j+1),told++[rest[j]],u',some (.int (0+(i:Nat))),some (.int (j:Nat)),rfl,rfl,by simpa [Nat.add_assoc] using P3,by simp [l1],?_,pp.nodup_iff.mp nd,fun c hc=>sb c (pp.mem_iff.mpr hc)⟩
  ·unfold o9
   have L:∀ n:Nat,n≤95→n≤LINE:=fun n hn=>by show n≤16777216;omega
   have c2:=e2 0 [u] rfl
   have x1:∀ h,gIx (.str (S rest)) (.int (j:Nat)) h = .ok (.str (S [rest[j]])) h:=fun h=>ap8 (L _ (by omega)) gx
   have x2:∀ h,vg [.str (S rest)] h = .ok (.int rest.length) h:=fun h=>amm (L _ (by omega))
   have x3:∀ h,a3h (.str (S told)) (.str (S [rest[j]])) h = .ok (.str (S (told++[rest[j]]))) h:=fun h=>akk (L _ (by simp;omega))
   have x4:∀ h,a9b (.str (S rest)) none (some (j:Int)) h = .ok (.str (S (rest.take j))) h:=fun h=>ap9 j (L _ (by omega))
   have x5:∀ h,a9b (.str (S rest)) (some ((j:Int)+1)) none h = .ok (.str (S (rest.drop (j+1)))) h:=fun h=>ak6 (j+1) (L _ (by omega))
   have x6:∀ h,jf (.str (S (rest.take j))) (.str (S (rest.drop (j+1)))) h = .ok (.str (S (rest.take j++rest.drop (j+1)))) h:=fun h=>agy (L _ (by simp;omega))
   clear all hlen
   walk_at "ev"
  ·rw [← pp.length_eq];simpa using l2
end SRC
namespace HND
open PySem PySem.Spec L2 MI AT
end HND
namespace HND
open PySem PySem.Spec L2 MI AT
theorem a3q {k i:Nat} {pre post:List Nat} (h:List.range k=pre++i::post):i=pre.length∧i<k:=by
 have h1:=congrArg (fun l=>l[pre.length]?) h
 have h2:=congrArg List.length h
 simp at h1 h2
 have:pre.length<k:=by omega
 rw [List.getElem?_range this] at h1
 simp at h1
 omega
end HND
namespace HND
open PySem PySem.Spec L2 MI AT
end HND
namespace HND
open PySem PySem.Spec L2 MI AT
end HND
namespace HND
open PySem PySem.Spec L2 MI AT
abbrev KOk (k:Int):Prop := -1≤k∧k≤5
end HND
namespace HND
open PySem PySem.Spec L2 MI AT
abbrev d8 (i:Nat):D:=.int (i:Nat)
theorem jg {k:Nat} (l:List Nat):clos k (l.map d8):=gw fun x _=>du _
end HND
namespace HND
open PySem PySem.Spec L2 MI AT
abbrev a9p (r:List Nat):D:=.tup (r.map d8)
abbrev abp (s n:Nat) (r:List Nat):Prop:=r.length=s∧∀ x∈r,x<n
structure Table where
 tg:List Nat
 go:List (List Nat)
 ks:List Int
def Table.d (T:Table):D:=.tup [.str (S T.tg), .tup (T.go.map a9p), .tup (T.ks.map D.int)]
structure Table.Ok (T:Table):Prop where
 tong:Tongue T.tg
 n1:1≤T.go.length
 n32:T.go.length≤32
 row:∀ r∈T.go,abp T.tg.length T.go.length r
 kl:T.ks.length=T.go.length
 k0:T.ks[0]? = some (-1)
 kk:∀ k∈T.ks,KOk k
theorem Table.clo {T:Table}:clo 0 T.d:=a0o (ji (a1q _) (ji (a0o (gw fun x _=>a0o (jg _))) (ji (a0o (gw fun x _=>du x)) qp)))
end HND
namespace MI
open PySem PySem.Spec L2
end MI
namespace PAP
open PySem PySem.Spec L2 MI AT HND
theorem apg (l:List Nat) (h:Hd):af0 (.str (S l)) h = .ok ⟨l.map fun c=>.str (S [c]),fun _=>True⟩ h:=by
 show R.ok (⟨zb (S l),fun _=>True⟩:Itm) _=_
 unfold zb
 rw [aeb]
theorem amx (xs:List D) (lo hi:Option Int) (h:Hd):a9b (.tup xs) lo hi h = .ok (.tup (a2d xs lo hi)) h:=by
 unfold a9b
 dsimp only
 split
 ·rename_i w
  obtain ⟨a,b⟩:=w
  congr 2
  unfold a2d
  rw [a,b,List.drop_zero,List.take_of_length_le (by omega)]
 ·rfl
theorem ao0 (xs:List D) (k:Nat) (h:Hd):a9b (.tup xs) none (some (k:Int)) h = .ok (.tup (xs.take k)) h:=by rw [amx,a71]
theorem af9 (xs:List D) (k:Nat) (h:Hd):a9b (.tup xs) (some (k:Int)) none h = .ok (.tup (xs.drop k)) h:=by rw [amx,a68]
theorem abq {xs ys:List D} {h:Hd} (z:xs.length+ys.length≤1000000):jf (.tup xs) (.tup ys) h = .ok (.tup (xs++ys)) h:=by
 cases xs with
 | nil=>rfl
 | cons x xs =>
  show (if (x::xs).length+ys.length≤LINE then R.ok (D.tup (x::xs++ys)) h else .no)=_
  rw [if_pos (j8 z)]
theorem akl {f:SE} {τ:Sd} {h h':Hd} {xs:List D} (hl:h'.length=h.length) (e:f τ h = .ok (.ref h'.length) (h'++[.lst xs])) (cx:clos h.length xs) (c:∀ o∈h',a1x h.length o):sZ f τ h = .ok (.rol xs) h':=by
 unfold sZ
 rw [e,yc (by omega) (by simp) cx (by rw [← hl];simpa [hl] using c)]
 rw [← hl]
 simp
end PAP
namespace SRC
open PySem PySem.Spec L2 MI AT HND EVX
theorem alh {x y:Int} {h:Hd} (c:x≤y):gLe (.int x) (.int y) h = .ok (.bl true) h:=by
 show R.ok (D.bl (decide (x≤y))) h=_
 rw [decide_eq_true c]
theorem ali {x y:Int} {h:Hd} (c:¬ x≤y):gLe (.int x) (.int y) h = .ok (.bl false) h:=by
 show R.ok (D.bl (decide (x≤y))) h=_
 rw [decide_eq_false c]
theorem ahk {c:ST} {f g:SE} {τ:Sd} {h h1:Hd} {r:R D} (e1:c τ h = .ok true h1) (e2:f τ h1=r):a6a c f g τ h=r:=by unfold a6a;rw [e1,dg,if_pos rfl];exact e2
theorem ah2 {c:ST} {f g:SE} {τ:Sd} {h h1:Hd} {r:R D} (e1:c τ h = .ok false h1) (e2:g τ h1=r):a6a c f g τ h=r:=by unfold a6a;rw [e1,dg,if_neg (by simp)];exact e2
noncomputable def dw:SF:=p8 (yf aj) 8
abbrev a3v (r:List Nat):D:=.rol (r.map d8)
theorem a9h {o:O} {N:Nat} {ks:List Int} {t n:D} {x y:Option D} (P:Src o N) (hN:N≤999999000) (l:ks.length≤100) :
  ∃ (u:O) (k:Int),qt aj [some (.ref 0),some t,some n,some (.ref 1),x,y,none,none] [o, .lst (ks.map D.int)] = .nx [some (.ref 0),some t,some n,some (.ref 1),x,y,none,none] [u, .lst ((ks++[k]).map D.int)]∧Src u (N+2)∧KOk k:=by
 obtain ⟨a,o1,e1,a0,a1,P1⟩:=p6 (m:=5) P (by omega) (by omega) (by omega)
 obtain ⟨b,o2,e2,b0,b1,P2⟩:=p6 (m:=6) P1 (by omega) (by omega) (by omega)
 have c1:jj false 2 aj [.ref 0, .int 5] [o, .lst (ks.map D.int)] = .ok (.int a) [o1, .lst (ks.map D.int)]:=e1 0 _ rfl
 have c2:jj false 2 aj [.ref 0, .int 6] [o1, .lst (ks.map D.int)] = .ok (.int b) [o2, .lst (ks.map D.int)]:=e2 0 _ rfl
 unfold qt
 by_cases ha:a<2
 ·refine ⟨o2,b,?_,P2,by omega⟩
  rw [List.map_append]
  exact a2b (cj rfl) rfl (arg1 (ahk (tof (gq (yt (cj rfl) (gf _ _ _) c1) (gf _ _ _) (alf ha))) (yt (cj rfl) (gf _ _ _) c2))) (a2c (xs:=ks.map D.int) rfl (by rw [List.length_map];exact a4i (by omega)))
 ·refine ⟨o1, -1,?_,P1.up (by omega),by decide⟩
  rw [List.map_append]
  exact a2b (cj rfl) rfl (arg1 (ah2 (tof (gq (yt (cj rfl) (gf _ _ _) c1) (gf _ _ _) (amu ha))) (a3p (gf _ _ _) (uz _)))) (a2c (xs:=ks.map D.int) rfl (by rw [List.length_map];exact a4i (by omega)))
abbrev HR (u:O) (ks:List Int) (rows:List (List Nat)):Hd:=[u, .lst (ks.map D.int), .lst (rows.map a3v)]
abbrev τR (tg:List Nat) (n:Nat) (i m:Option D) (r:Option D):Sd:=[some (.ref 0),some (.str (S tg)),some (d8 n),some (.ref 1),i,m,some (.ref 2),r]
theorem afa {u:O} {N:Nat} {ks:List Int} {rows:List (List Nat)} (P:Src u N) (k:Nat):∀ o∈HR u ks rows,a1x k o:=by
 intro o ho
 simp only [List.mem_cons,List.not_mem_nil,or_false] at ho
 rcases ho with rfl | rfl | rfl
 ·exact ur (Nat.zero_le _) P.clo
 ·exact ur (Nat.zero_le _) (gw fun x _=>du x)
 ·exact ur (Nat.zero_le _) (gw fun x _=>ql (jg _))
theorem abr {u:O} {N n:Nat} {tg:List Nat} {ks:List Int} {rows:List (List Nat)} {i m r:Option D} (P:Src u N) (hN:N≤999999000) (t6:tg.length≤6) (n1:1≤n) (n32:n≤32) :
  ∃ (u':O) (row:List Nat),abp tg.length n row∧Src u' (N+6)∧sZ (jn (sIt (sV 1)) t1 (qu aj) [0,2]) (τR tg n i m r) (HR u ks rows) = .ok (a3v row) (HR u' ks rows):=by
 have mp:=a8k (f:=a4y t1 (qu aj) (frs' [0,2] (τR tg n i m r))) (fun c:Nat=>D.str (S [c]))
  (fun pre ys h=>∃ (u':O) (row:List Nat),h=HR u' ks rows∧Src u' (N+pre.length)∧ys=row.map d8∧row.length=pre.length∧∀ x∈row,x<n)
  tg [] [] (HR u ks rows) ?_ ⟨u,[],rfl,P,rfl,rfl,by simp⟩
 ·obtain ⟨zs,h',em,u',row,rfl,P',ez,rl,rx⟩:=mp
  rw [List.nil_append] at ez rl P'
  subst ez
  refine ⟨u',row,⟨rl,rx⟩,P'.up (by omega),?_⟩
  refine PAP.akl rfl ?_ (jg _) (afa P' _)
  unfold jn
  rw [a4g (cj rfl) (PAP.apg tg _),dg]
  dsimp only
  rw [if_pos (by rw [List.length_map];exact j8 (by omega)),em]
  rfl
 ·rintro pre c post ys h all ⟨u',row,rfl,P',rfl,rl,rx⟩
  rw [List.nil_append] at all
  have pl:pre.length<tg.length:=by rw [all];simp
  obtain ⟨x,u2,e,x0,x1,P2⟩:=p6 (m:=(n:Nat)) P' (by omega) (by omega) (by omega)
  obtain ⟨j,rfl⟩:=Int.eq_ofNat_of_zero_le x0
  have c1:jj false 2 aj [.ref 0,d8 n] (HR u' ks rows) = .ok (d8 j) (HR u2 ks rows):=e 0 _ rfl
  refine ⟨d8 j,HR u2 ks rows,?_,u2,row++[j],rfl,P2.up (by rw [List.length_append,List.length_singleton];omega),by rw [List.map_append];rfl,by rw [List.length_append,List.length_append,List.length_singleton,List.length_singleton,rl],fun y hy=>?_⟩
  ·rw [uy]
   unfold qu
   exact yt (cj rfl) (cj rfl) c1
  ·rcases List.mem_append.mp hy with z | z
   ·exact rx y z
   ·rw [List.mem_singleton] at z;subst z;omega
theorem abt {u:O} {N n:Nat} {tg:List Nat} {ks:List Int} {rows:List (List Nat)} {i m:Option D} {row:List Nat} {fe:SE} {ix:List Nat} {f:Nat→Nat} (P:Src u N) (rl:row.length≤100) (fx:∀ x,x∈row→fe (some (d8 x)::frs' ix (τR tg n i m (some (a3v row)))) (HR u ks rows) = .ok (d8 (f x)) (HR u ks rows)) :
  sZ (jn (sIt (sV 7)) t1 fe ix) (τR tg n i m (some (a3v row))) (HR u ks rows) = .ok (a3v (row.map f)) (HR u ks rows):=by
 unfold a3v
 rw [List.map_map]
 refine zu (p7 d8 (d8 ∘ f) row (a4g (cj rfl) rfl) (j8 (by omega)) fun x hx=>?_) (gw fun y _=>du _) (afa P _)
 rw [uy]
 exact fx x hx
theorem a9i {u:O} {N n i:Nat} {tg:List Nat} {ks:List Int} {rows:List (List Nat)} {m:Int} {r:Option D} (P:Src u N) (hN:N≤999999000) (t6:tg.length≤6) (n1:1≤n) (n32:n≤32) (lk:ks.length=n) (hi:i<n) (lr:rows.length≤100) :
  ∃ (u':O) (row:List Nat) (r':Option D),abp tg.length n row∧Src u' (N+6)∧qw aj (τR tg n (some (d8 i)) (some (.int m)) r) (HR u ks rows) = .nx (τR tg n (some (d8 i)) (some (.int m)) r') (HR u' ks (rows++[row])):=by
 obtain ⟨u',row,⟨l1,x1⟩,P',e1⟩:=abr (i:=some (d8 i)) (m:=some (.int m)) (r:=r) (ks:=ks) (rows:=rows) P hN t6 n1 n32
 have fin:∀ row:List Nat,a0k (sML a6w (sV 6) (ak (sV 7) dm)) (τR tg n (some (d8 i)) (some (.int m)) (some (a3v row))) (HR u' ks rows) = .nx (τR tg n (some (d8 i)) (some (.int m)) (some (a3v row))) (HR u' ks (rows++[row])):=fun row=>by
  unfold HR
  rw [List.map_append]
  exact a2b (cj rfl) rfl (arg1 (cj rfl)) (a2c (xs:=rows.map a3v) rfl (by rw [List.length_map];exact a4i (by omega)))
 have third:∀ row:List Nat,abp tg.length n row→∃ row',abp tg.length n row'∧j7 (sIf (a1k (sT (s2 hEq (sV 5) (sC (.int 1)))) (sT (s2 hEq (sV 4) (s2 a6t (sV 2) (sC (.int 1))))))
   (jy 7 (sZ (jn (sIt (sV 7)) t1 (vh aj) [4]))) sNx) (a0k (sML a6w (sV 6) (ak (sV 7) dm))) (τR tg n (some (d8 i)) (some (.int m)) (some (a3v row))) (HR u' ks rows) = .nx (τR tg n (some (d8 i)) (some (.int m)) (some (a3v row'))) (HR u' ks (rows++[row'])):=fun row ⟨l2,x2⟩=>by
  by_cases h1:m=1
  ·by_cases h2:(i:Int)=(n:Int) - 1
   ·refine ⟨row.map fun _=>i,⟨by rw [List.length_map,l2],fun x hx=>by obtain ⟨_,_,rfl⟩:=List.mem_map.mp hx;exact hi⟩,?_⟩
    refine Eq.trans (a3u (Eq.trans (ifT (aka (tof (gq (cj rfl) (gf _ _ _) (a2g h1))) (tof (gq (cj rfl) (gq (cj rfl) (gf _ _ _) (a4h _ _)) (a2g h2))))) (ah0 (abt (f:=fun _=>i) P' (by omega) fun x _=>by unfold vh;exact cj rfl)))) ?_
    exact fin _
   ·refine ⟨row,⟨l2,x2⟩,?_⟩
    refine Eq.trans (ifN (aka (tof (gq (cj rfl) (gf _ _ _) (a2g h1))) (tof (gq (cj rfl) (gq (cj rfl) (gf _ _ _) (a4h _ _)) (zz h2))))) ?_
    exact fin _
  ·refine ⟨row,⟨l2,x2⟩,?_⟩
   refine Eq.trans (ifN (amr (tof (gq (cj rfl) (gf _ _ _) (zz h1))))) ?_
   exact fin _
 unfold qw
 by_cases h0:0<m
 ·let g:Nat→Nat:=fun x=>if (ks[x]?).getD 0<0∧x≤i then n - 1 else x
  have gl:abp tg.length n (row.map g):=⟨by rw [List.length_map,l1],fun x hx=>by
   obtain ⟨y,hy,rfl⟩:=List.mem_map.mp hx
   have:=x1 y hy
   show (if _ then n - 1 else y)<n
   split
   ·exact Nat.sub_lt (by omega) (by decide)
   ·exact this⟩
  obtain ⟨row',q,e3⟩:=third _ gl
  refine ⟨u',row',some (a3v row'),q,P',?_⟩
  refine Eq.trans (jo e1) ?_
  refine Eq.trans (a3u (Eq.trans (ifT (tof (gq (cj rfl) (gf _ _ _) (apb h0)))) (ah0 (abt (f:=g) P' (by omega) fun x hx=>?_)))) ?_
  ·unfold a0h
   have hx':=x1 x hx
   have kx:ks[x]? = some ((ks[x]?).getD 0):=by rw [List.getElem?_eq_getElem (by omega)];rfl
   have ki:∀ h:Hd,h[1]? = some (.lst (ks.map D.int))→gIx (.ref 1) (d8 x) h = .ok (.int ((ks[x]?).getD 0)) h:=fun h hh=>a8m hh (by rw [List.getElem?_map,kx];rfl)
   have sb:s2 a6t (sV 1) (sC (.int 1)) (some (d8 x)::frs' [2,3,4] (τR tg n (some (d8 i)) (some (.int m)) (some (a3v row)))) (HR u' ks rows) = .ok (d8 (n - 1)) (HR u' ks rows) :=
    (gq (cj rfl) (gf _ _ _) (a4h _ _)).trans (by show R.ok (D.int ((n:Int) - 1)) _=R.ok (D.int ((n - 1:Nat):Int)) _;congr 2;omega)
   by_cases hk:(ks[x]?).getD 0<0
   ·by_cases hx:x≤i
    ·show _=R.ok (d8 (if _ then n - 1 else x)) _
     rw [if_pos ⟨hk,hx⟩]
     exact ahk (aka (tof (gq (gq (cj rfl) (cj rfl) (ki _ rfl)) (gf _ _ _) (alf hk))) (tof (gq (cj rfl) (cj rfl) (alh (by omega))))) sb
    ·show _=R.ok (d8 (if _ then n - 1 else x)) _
     rw [if_neg fun z=>hx z.2]
     exact ah2 (aka (tof (gq (gq (cj rfl) (cj rfl) (ki _ rfl)) (gf _ _ _) (alf hk))) (tof (gq (cj rfl) (cj rfl) (ali (by omega))))) (cj rfl)
   ·show _=R.ok (d8 (if _ then n - 1 else x)) _
    rw [if_neg fun z=>hk z.1]
    exact ah2 (amr (tof (gq (gq (cj rfl) (cj rfl) (ki _ rfl)) (gf _ _ _) (amu hk)))) (cj rfl)
  ·exact e3
 ·obtain ⟨row',q,e3⟩:=third _ ⟨l1,x1⟩
  refine ⟨u',row',some (a3v row'),q,P',?_⟩
  refine Eq.trans (jo e1) ?_
  refine Eq.trans (ifN (tof (gq (cj rfl) (gf _ _ _) (apc h0)))) ?_
  exact e3
theorem abu {u:O} {ks:List Int} {rows:List (List Nat)}:a1n 1 (HR u ks rows) FU (.tup [.ref 2, .ref 1])=some (.tup [.rol (rows.map a3v), .rol (ks.map D.int)]):=by
 have oc:∀ {k:Nat} {d d':D} {ds ds':List D},a1n 1 (HR u ks rows) k d=some d'→zj (a1n 1 (HR u ks rows) k) ds=some ds'→zj (a1n 1 (HR u ks rows) k) (d::ds)=some (d'::ds'):=fun e1 e2=>by unfold zj;rw [e1,e2]
 refine adz (k:=19) (oc (a5e (k:=17) (by omega) rfl (gw fun x _=>ql (jg _))) (oc (a5e (k:=17) (by omega) rfl (gw fun x _=>du x)) rfl)) ?_
 intro z
 have:=xu.mp z (.ref 2) List.mem_cons_self
 simp only [MI.clo] at this
 omega
theorem aef {o:O} {N n:Nat} {tg:List Nat} (P:Src o N) (hN:N≤999990000) (t6:tg.length≤6) (n1:1≤n) (n32:n≤32) :
  ∃ (ks:List Int) (rows:List (List Nat)) (o':O),ks.length=n∧ks[0]? = some (-1)∧(∀ k∈ks,KOk k)∧rows.length=n∧(∀ r∈rows,abp tg.length n r) ∧
   Dr dw 3 [.str (S tg),d8 n] o (.tup [.rol (rows.map a3v), .rol (ks.map D.int)]) o'∧Src o' (N+300):=by
 have lo:=jm (g:=kN 4) (b:=qt aj) (fun i:Nat=>D.int ((1+i:Nat)))
  (fun pre τ h=>∃ (u:O) (ks:List Int) (t4:Option D),τ=[some (.ref 0),some (.str (S tg)),some (d8 n),some (.ref 1),t4,none,none,none]∧h=[u, .lst (ks.map D.int)]∧Src u (N+2*pre.length)∧ks.length=1+pre.length∧ks[0]? = some (-1)∧∀ k∈ks,KOk k)
  (List.range (n - 1)) [some (.ref 0),some (.str (S tg)),some (d8 n),some (.ref 1),none,none,none,none] [o, .lst ([-1].map D.int)] ?_
  ⟨o,[-1],none,rfl,rfl,P,rfl,rfl,by intro k hk;rw [List.mem_singleton] at hk;subst hk;decide⟩
 ·obtain ⟨τ',h',e1,u,ks,t4,rfl,rfl,P1,l1,k0,kk⟩:=lo
  rw [List.length_range] at P1 l1
  obtain ⟨m,u1,e2,m0,m1,P2⟩:=p6 (m:=3) P1 (by omega) (by omega) (by omega)
  have c2:jj false 2 aj [.ref 0, .int 3] [u, .lst (ks.map D.int)] = .ok (.int m) [u1, .lst (ks.map D.int)]:=e2 0 _ rfl
  have lp:=jm (g:=kN 4) (b:=qw aj) (fun i:Nat=>D.int (i:Nat))
   (fun pre τ h=>∃ (u':O) (rows:List (List Nat)) (i r:Option D),τ=τR tg n i (some (.int m)) r∧h=HR u' ks rows∧Src u' (N+100+6*pre.length)∧rows.length=pre.length∧∀ r∈rows,abp tg.length n r)
   (List.range n) (τR tg n t4 (some (.int m)) none) (HR u1 ks []) ?_ ⟨u1,[],_,_,rfl,rfl,P2.up (by omega),rfl,by simp⟩
  ·obtain ⟨τ',h',e3,u',rows,i,r,rfl,rfl,P3,lr,rr⟩:=lp
   rw [List.length_range] at P3 lr
   have ca:MI.clo 0 (.tup [.rol (rows.map a3v), .rol (ks.map D.int)]):=a0o (ji (ql (gw fun x _=>ql (jg _))) (ji (ql (gw fun y _=>du y)) qp))
   refine ⟨ks,rows,u',by omega,k0,kk,lr,rr,Dr.of rfl ?_ P.clo (r:=.ok (.tup [.ref 2, .ref 1]) (HR u' ks rows)) ?_ (a5f abu (by intro x hx;rw [show List.take 1 (HR u' ks rows)=[u'] from rfl,List.mem_singleton] at hx;subst hx;exact ur (by omega) P3.clo)) ca P3.clo,P3.up (by omega)⟩
   ·intro x hx
    simp only [List.mem_cons,List.not_mem_nil,or_false] at hx
    rcases hx with rfl | rfl
    ·exact a1q _
    ·exact du _
   ·unfold dw
    rw [iz]
    show toR (yf aj [some (.ref 0),some (.str (S tg)),some (d8 n),none,none,none,none,none] [o])=_
    unfold yf
    refine Eq.trans (congrArg toR (jo (d:=.ref 1) (h1:=[o, .lst ([-1].map D.int)]) rfl)) ?_
    refine Eq.trans (congrArg toR (a1t (abl (a:=1) (n:=n) (gf _ _ _) (cj rfl) (j8 (by omega)) (j8 (by omega))))) ?_
    refine Eq.trans (congrArg (fun z=>toR (MI.thn z _)) e1) ?_
    rw [zq]
    refine Eq.trans (congrArg toR (jo (yt (cj rfl) (gf _ _ _) c2))) ?_
    refine Eq.trans (congrArg toR (jo (d:=.ref 2) (h1:=HR u1 ks []) rfl)) ?_
    refine Eq.trans (congrArg toR (a1t (zy (n:=n) (cj rfl) (j8 (by omega))))) ?_
    refine Eq.trans (congrArg (fun z=>toR (MI.thn z _)) e3) ?_
    rw [zq]
    exact congrArg toR (lz (yt (cj rfl) (cj rfl) apd))
  ·rintro pre i post τ h all ⟨u',rows,i',r,rfl,rfl,P3,lr,rr⟩
   obtain ⟨hi,hk⟩:=a3q all
   obtain ⟨u2,row,r',q,P4,e4⟩:=a9i (i:=i) (m:=m) (r:=r) (ks:=ks) (rows:=rows) P3 (by omega) t6 n1 n32 (by omega) hk (by omega)
   refine ⟨_,_,rfl,_,_,e4,u2,rows++[row],_,_,rfl,rfl,P4.up (by rw [List.length_append,List.length_singleton];omega),by rw [List.length_append,List.length_append,List.length_singleton,List.length_singleton,lr],fun x hx=>?_⟩
   rcases List.mem_append.mp hx with z | z
   ·exact rr x z
   ·rw [List.mem_singleton] at z;subst z;exact q
 ·rintro pre i post τ h all ⟨u,ks,t4,rfl,rfl,P2,l1,k0,kk⟩
  obtain ⟨hi,hk⟩:=a3q all
  obtain ⟨u',k,e3,P3,hk3⟩:=a9h (ks:=ks) (t:=.str (S tg)) (n:=d8 n) (x:=some (.int ((1+i:Nat):Int))) (y:=none) P2 (by omega) (by omega)
  refine ⟨_,_,rfl,_,_,e3,u',ks++[k],_,rfl,rfl,P3.up (by rw [List.length_append,List.length_singleton];omega),by rw [List.length_append,List.length_append,List.length_singleton,List.length_singleton];omega,?_,fun q hq=>?_⟩
  ·rw [List.getElem?_append_left (by omega)];exact k0
  ·rcases List.mem_append.mp hq with h | h
   ·exact kk q h
   ·rw [List.mem_singleton] at h;subst h;exact hk3
end SRC
namespace BF
def walk (step:Nat→Nat→Nat) (r:Nat):List Nat→Nat
 | []=>r
 | c::p=>step (walk step r p) c
def Ok (s:Nat) (w:List Nat):Prop:=∀ c∈w,c<s
theorem Ok.nil {s:Nat}:Ok s []:=fun _ h=>by simp at h
theorem Ok.cons {s c:Nat} {p:List Nat} (hc:c<s) (h:Ok s p):Ok s (c::p):=fun d hd=>by
 rcases List.mem_cons.mp hd with rfl | hd
 ·exact hc
 ·exact h d hd
section
variable (s:Nat) (step:Nat→Nat→Nat) (K:Nat→Bool)
def fl:Nat→Nat→Bool
 | 0,r=>K r
 | k+1,r=>(List.range s).any fun c=>fl k (step r c)
def fst (k r:Nat):Nat:=((List.range s).find? fun c=>fl s step K k (step r c)).getD 0
def gre:Nat→Nat→List Nat
 | 0,_=>[]
 | k+1,r=>fst s step K k r::gre k (step r (fst s step K k r))
variable {s step K}
end
theorem a2q:∀ (n:Nat) (l:List Nat),l.Nodup→(∀ x∈l,x<n)→l.length≤n
 | 0,l,_,h=>by
  cases l with
  | nil=>exact Nat.le_refl _
  | cons x l=>exact absurd (h x List.mem_cons_self) (by omega)
 | n+1,l,nd,h=>by
  have:=a2q n (l.erase n) (nd.erase n) fun x hx=>by
   have h1:=h x (List.mem_of_mem_erase hx)
   have h2:x≠n:=fun z=>by subst z;exact (List.Nodup.not_mem_erase nd) hx
   omega
  have:=List.length_erase (a:=n) (l:=l)
  split at this<;>omega
end BF
namespace SRC
open PySem PySem.Spec L2 MI AT HND EVX
theorem ao1 {ck:Hd→Prop} {f:D→Hd→R D} {α:Type} (g F:α→D) {h:Hd} (c:ck h):∀ {xs:List α},(∀ x∈xs,f (g x) h = .ok (F x) h)→mapR ck f (xs.map g) h = .ok (xs.map F) h
 | [],_=>by rw [List.map_nil,mapR,if_pos c];rfl
 | x::xs,st=>by
  rw [List.map_cons,mapR,if_pos c,st x List.mem_cons_self]
  show (mapR _ f (xs.map g) h).bind _=_
  rw [ao1 g F c fun y hy=>st y (List.mem_cons_of_mem _ hy)];rfl
theorem akm {fi:SI} {t:D→Option Sd} {fe:SE} {ix:List Nat} {τ:Sd} {h:Hd} {α:Type} {ck:Hd→Prop} (g F:α→D) (xs:List α) (c:ck h) (e:fi τ h = .ok ⟨xs.map g,ck⟩ h) (z:xs.length≤LINE)
  (st:∀ x∈xs,a4y t fe (frs' ix τ) (g x) h = .ok (F x) h):jn fi t fe ix τ h = .ok (.ref h.length) (h++[.lst (xs.map F)]):=by
 unfold jn
 rw [e,dg]
 dsimp only
 rw [if_pos (by rw [List.length_map];exact z),ao1 g F c st]
 rfl
theorem ah3 {x:Nat} {l:List Nat}:inD (d8 x) (l.map d8)=decide (x∈l):=by
 unfold inD
 rw [List.any_map]
 by_cases h:x∈l
 ·rw [decide_eq_true h,List.any_eq_true]
  exact ⟨x,h,by show ((x:Int) == (x:Int))=true;simp⟩
 ·rw [decide_eq_false h,List.any_eq_false]
  intro y hy
  have:x≠y:=fun e=>h (e ▸ hy)
  show ¬ ((y:Int) == (x:Int))=true
  rw [beq_iff_eq]
  omega
theorem a2r {x i:Nat} {l:List Nat} {h:Hd} (e:h[i]? = some (.lst (l.map d8))):gIn true (d8 x) (.ref i) h = .ok (.bl (!decide (x∈l))) h:=by
 have fl:a0l (d8 x)=true∧(l.map d8).all a0l=true:=⟨rfl,by
  rw [List.all_eq_true]
  intro y hy
  obtain ⟨n,_,rfl⟩:=List.mem_map.mp hy
  rfl⟩
 unfold gIn a02
 simp only [e,if_pos fl,if_true,ah3]
abbrev cst (l:List Nat):List Int:=l.map fun x:Nat=>(x:Int)
theorem abv (l:List Nat):l.map d8=(cst l).map D.int:=by unfold cst;rw [List.map_map];rfl
theorem a4j {i:Nat} {l:List Nat} {h:Hd} (e:h[i]? = some (.lst (l.map d8))):a1z (.ref i) h=some (cst l):=by
 unfold a1z
 simp only [e]
 rw [abv,ints_map]
theorem a9j (l:List Nat):∃ m:List Nat,PySem.W.sortI (cst l)=cst m∧m.Perm l∧m.Pairwise (·≤·):=by
 have p:=PySem.W.sortI_perm (cst l)
 have s:=PySem.W.sortI_rises (cst l)
 refine ⟨(PySem.W.sortI (cst l)).map Int.toNat,?_,?_,?_⟩
 ·unfold cst
  rw [List.map_map]
  have:∀ x∈PySem.W.sortI (l.map fun x:Nat=>(x:Int)),((fun x:Nat=>(x:Int)) ∘ Int.toNat) x=x:=fun x hx=>by
   have:=p.mem_iff.mp hx
   obtain ⟨y,_,rfl⟩:=List.mem_map.mp this
   simp
  rw [List.map_congr_left this]
  simp
 ·have:=p.map Int.toNat
  have e:(cst l).map Int.toNat=l:=by
   unfold cst
   rw [List.map_map]
   exact (List.map_congr_left fun x _=>by simp).trans (List.map_id l)
  rwa [e] at this
 ·rw [List.pairwise_map]
  exact s.imp fun h=>by omega
def pos (m:List Nat) (x:Nat):Nat:=(ixI (x:Int) (cst m)).getD 0
theorem afb {m:List Nat} {x:Nat} (h:x∈m):ixI (x:Int) (cst m)=some (pos m x)∧pos m x<m.length:=by
 obtain ⟨j,hj⟩:=a8g (n:=(x:Int)) (l:=cst m) (List.mem_map.mpr ⟨x,h,rfl⟩)
 unfold pos
 rw [hj]
 refine ⟨rfl,?_⟩
 have:=(List.getElem?_eq_some_iff.mp (abb hj).1).1
 simpa using this
noncomputable def cu:SF:=p8 (yg aj dw di) 10
abbrev τT (most:Nat) (tg:List Nat) (many:Int) (rows:List (List Nat)) (ks:List Int) (m:D) (i:Nat) (t8 t9:Option D):Sd:=[some (.ref 0),some (d8 most),some (.str (S tg)),some (.int many),some (.rol (rows.map a3v)),some (.rol (ks.map D.int)),some m,some (d8 i),t8,t9]
structure Met (n:Nat) (met:List Nat):Prop where
 nd:met.Nodup
 lt:∀ x∈met,x<n
 z:0∈met
theorem Met.len {n:Nat} {met:List Nat} (M:Met n met):met.length≤n:=BF.a2q n met M.nd M.lt
theorem Met.add {n x:Nat} {met:List Nat} (M:Met n met) (hx:x<n) (h:x ∉ met):Met n (met++[x]):=by
 refine ⟨?_,fun y hy=>?_,List.mem_append_left _ M.z⟩
 ·rw [List.nodup_append]
  refine ⟨M.nd,by simp,fun a ha b hb=>?_⟩
  rw [List.mem_singleton] at hb
  subst hb
  exact fun e=>h (e ▸ ha)
 ·rcases List.mem_append.mp hy with z | z
  ·exact M.lt y z
  ·rw [List.mem_singleton] at z;subst z;exact hx
section
variable {A B C:SF} {most n:Nat} {tg:List Nat} {many:Int} {rows:List (List Nat)} {ks:List Int}
theorem aeg {u:O} {i:Nat} {t8:Option D} {met row:List Nat} (n32:n≤32) (M:Met n met) (rx:∀ x∈row,x<n) :
  ∃ (met':List Nat) (t8':Option D),forL (fun _=>True) (kN 8) (qx A B C) (row.map d8) (τT most tg many rows ks (.ref 1) i t8 none) [u, .lst (met.map d8)] = .nx (τT most tg many rows ks (.ref 1) i t8' none) [u, .lst (met'.map d8)]∧Met n met'∧(∃ add,met'=met++add)∧∀ x∈row,x∈met':=by
 have lp:=jm (g:=kN 8) (b:=qx A B C) d8
  (fun pre τ h=>∃ (met':List Nat) (t8:Option D),τ=τT most tg many rows ks (.ref 1) i t8 none∧h=[u, .lst (met'.map d8)]∧Met n met'∧(∃ add,met'=met++add)∧∀ x∈pre,x∈met')
  row (τT most tg many rows ks (.ref 1) i t8 none) [u, .lst (met.map d8)] ?_ ⟨met,t8,rfl,rfl,M,⟨[],by simp⟩,by simp⟩
 ·obtain ⟨τ',h',e,met',t8',rfl,rfl,M',ad,al⟩:=lp
  exact ⟨met',t8',e,M',ad,al⟩
 ·rintro pre x post τ h all ⟨met',t8,rfl,rfl,M',⟨add,rfl⟩,al⟩
  have hx:x<n:=rx x (by rw [all];simp)
  unfold qx
  by_cases h:x∈met++add
  ·refine ⟨_,_,rfl,τT most tg many rows ks (.ref 1) i (some (d8 x)) none,[u, .lst ((met++add).map d8)],?_,met++add,_,rfl,rfl,M',⟨add,rfl⟩,fun y hy=>?_⟩
   ·refine Eq.trans (ifF (tof (gq (cj rfl) (cj rfl) ((a2r (l:=met++add) rfl).trans (by rw [decide_eq_true h];rfl))))) rfl
   ·rcases List.mem_append.mp hy with z | z
    ·exact al y z
    ·rw [List.mem_singleton] at z;subst z;exact h
  ·refine ⟨_,_,rfl,τT most tg many rows ks (.ref 1) i (some (d8 x)) none,[u, .lst ((met++add++[x]).map d8)],?_,met++add++[x],_,rfl,rfl,M'.add hx h,⟨add++[x],by simp⟩,fun y hy=>?_⟩
   ·have ln:=M'.len
    refine Eq.trans (ifT (tof (gq (cj rfl) (cj rfl) ((a2r (l:=met++add) rfl).trans (by rw [decide_eq_false h];rfl))))) ?_
    rw [List.map_append (l₁:=met++add)]
    exact a2b (cj rfl) rfl (arg1 (cj rfl)) (a2c (xs:=(met++add).map d8) rfl (by rw [List.length_map];exact a4i (by omega)))
   ·rcases List.mem_append.mp hy with z | z
    ·exact List.mem_append_left _ (al y z)
    ·rw [List.mem_singleton] at z;subst z;simp
def Done (rows:List (List Nat)) (met:List Nat) (i:Nat):Prop:=∀ j,j<i→∀ r,met[j]? = some r→∀ x∈(rows[r]?).getD [],x∈met
theorem ah4 {u:O} {s:Nat} (n1:1≤n) (n32:n≤32) (lr:rows.length=n) (rr:∀ r∈rows,abp s n r) :
  ∃ (met:List Nat) (i:Nat) (t8:Option D),sWh (vm A B C) (qy A B C) 100000 (τT most tg many rows ks (.ref 1) 0 none none) [u, .lst ([0].map d8)] = .nx (τT most tg many rows ks (.ref 1) i t8 none) [u, .lst (met.map d8)]∧Met n met∧∀ r∈met,∀ x∈(rows[r]?).getD [],x∈met:=by
 have w:=amk (c:=vm A B C) (f:=qy A B C)
  (fun m τ h=>∃ (met:List Nat) (i:Nat) (t8:Option D),τ=τT most tg many rows ks (.ref 1) i t8 none∧h=[u, .lst (met.map d8)]∧m=32 - i∧i≤met.length∧Met n met∧Done rows met i)
  (fun τ h=>∃ (met:List Nat) (i:Nat) (t8:Option D),τ=τT most tg many rows ks (.ref 1) i t8 none∧h=[u, .lst (met.map d8)]∧Met n met∧Done rows met met.length)
  (fun _ _=>False) ?_ 32 100000 (τT most tg many rows ks (.ref 1) 0 none none) [u, .lst ([0].map d8)] (by omega)
  ⟨[0],0,none,rfl,rfl,rfl,by simp,⟨by simp,by simp;omega,by simp⟩,fun j hj=>absurd hj (Nat.not_lt_zero j)⟩
 ·rcases w with ⟨τ',h',e,met,i,t8,rfl,rfl,M,D⟩ | ⟨_,_,_,z⟩
  ·refine ⟨met,i,t8,e,M,fun r hr x hx=>?_⟩
   obtain ⟨j,hj,rfl⟩:=List.getElem_of_mem hr
   exact D j hj _ (List.getElem?_eq_getElem hj) x hx
  ·exact z.elim
 ·rintro m τ h ⟨met,i,t8,rfl,rfl,rfl,il,M,D⟩
  have ln:=M.len
  have lm:∀ h:Hd,h[1]? = some (.lst (met.map d8))→vg [.ref 1] h = .ok (d8 met.length) h:=fun h e=>by rw [a7f e,List.length_map]
  by_cases lt:i<met.length
  ·refine .inr ⟨_,tof (gq (cj rfl) (wz (cj rfl) (lm _ rfl)) (alf (by omega))), .inl ?_⟩
   have rl:met[i]<n:=M.lt _ (List.getElem_mem lt)
   have gm:met[i]? = some met[i]:=List.getElem?_eq_getElem lt
   generalize met[i]=r at rl gm
   have gr:rows[r]? = some ((rows[r]?).getD []):=by rw [List.getElem?_eq_getElem (by omega)];rfl
   have rn:=rr _ (List.mem_of_getElem? gr)
   obtain ⟨met',t8',e,M',⟨add,ea⟩,al⟩:=aeg (A:=A) (B:=B) (C:=C) (u:=u) (i:=i) (t8:=t8) (most:=most) (tg:=tg) (many:=many) (rows:=rows) (ks:=ks) n32 M rn.2
   refine ⟨τT most tg many rows ks (.ref 1) (i+1) t8' none,[u, .lst (met'.map d8)],32 - (i+1),?_,by omega,met',i+1,t8',rfl,rfl,rfl,by rw [ea,List.length_append];omega,M',fun j hj q hq x hx=>?_⟩
   ·unfold qy
    refine Eq.trans (a1t (a4g (gq (cj rfl) (gq (cj rfl) (cj rfl) (a8m (xs:=met.map d8) rfl (y:=d8 r) (by rw [List.getElem?_map,gm];rfl))) (ah1 (y:=a3v ((rows[r]?).getD [])) (by rw [List.getElem?_map,gr];rfl))) rfl)) ?_
    refine Eq.trans (congrArg (fun z=>MI.thn z _) e) ?_
    rw [zq]
    exact amt rfl (gf _ _ _) a3n
   ·by_cases je:j=i
    ·subst je
     rw [ea,List.getElem?_append_left lt,gm] at hq
     cases hq
     exact al x hx
    ·have jl:j<met.length:=by omega
     rw [ea,List.getElem?_append_left jl] at hq
     rw [ea]
     exact List.mem_append_left _ (D j (by omega) q hq x hx)
  ·refine .inl ⟨_,tof (gq (cj rfl) (wz (cj rfl) (lm _ rfl)) (amu (by omega))),met,i,t8,rfl,rfl,M,?_⟩
   rw [show met.length=i by omega];exact D
end
end SRC
namespace SRC
open PySem PySem.Spec L2 MI AT HND EVX
theorem abw {i:Nat} {l m:List Nat} {h:Hd} (e:h[i]? = some (.lst (l.map d8))) (z:l.length<64) (em:PySem.W.sortI (cst l)=cst m):a0n [.ref i] h = .ok (.ref h.length) (h++[.lst (m.map d8)]):=by
 have q:=a4j e
 unfold a0n
 simp only [q]
 rw [if_pos (by unfold cst;rw [List.length_map];exact z),em,← abv]
theorem abx {i x:Nat} {m:List Nat} {h:Hd} (e:h[i]? = some (.lst (m.map d8))) (hx:x∈m):a3l (.ref i) [d8 x] h = .ok (d8 (pos m x)) h:=by
 have q:=a4j e
 unfold a3l
 simp only [q,(afb hx).1]
section
variable {A B C:SF} {most n:Nat} {tg:List Nat} {many:Int} {rows:List (List Nat)} {ks:List Int}
abbrev a7g (rows:List (List Nat)) (m:List Nat):List (List Nat):=m.map fun r=>((rows[r]?).getD []).map (pos m)
abbrev a4k (ks:List Int) (m:List Nat):List Int:=m.map fun r=>(ks[r]?).getD 0
theorem aby {u:O} {N i:Nat} {t8:Option D} {met:List Nat} (P:Src u N) (n32:n≤32) (lr:rows.length=n) (lk:ks.length=n) (t6:tg.length≤6) (rr:∀ r∈rows,abp tg.length n r) (M:Met n met) (cl:∀ r∈met,∀ x∈(rows[r]?).getD [],x∈met) :
  ∃ m:List Nat,m.Perm met∧m.Pairwise (·≤·)∧∃ h:Hd,h.take 1=[u]∧toR (j7 (jy 6 (sA a0n (ak (sV 6) dm)))
   (j7 (jy 9 (sA sy (ak (sZ (jn (sIt (sV 6)) t1 (qz A B C) [4,6])) dm)))
   (u5 (sA a0q (ak (sV 2) (ak (sV 9) (ak (sA sy (ak (sZ (jn (sIt (sV 6)) t1 (rm A B C) [5])) dm)) dm)))))) (τT most tg many rows ks (.ref 1) i t8 none) [u, .lst (met.map d8)]) = .ok (.tup [.str (S tg), .tup ((a7g rows m).map a9p), .tup ((a4k ks m).map D.int)]) h:=by
 obtain ⟨m,em,pm,sm⟩:=a9j met
 have ln:=M.len
 have lm:m.length=met.length:=pm.length_eq
 let H:Hd:=[u, .lst (met.map d8), .lst (m.map d8)]
 have hc:∀ o∈H,a1x H.length o:=by
  intro o ho
  simp only [H,List.mem_cons,List.not_mem_nil,or_false] at ho
  rcases ho with rfl | rfl | rfl
  ·exact ur (Nat.zero_le _) P.clo
  ·exact ur (Nat.zero_le _) (jg _)
  ·exact ur (Nat.zero_le _) (jg _)
 have so:a0n [.ref 1] [u, .lst (met.map d8)] = .ok (.ref 2) H:=by
  exact abw (l:=met) rfl (by omega) em
 have rw':∀ r∈m,rows[r]? = some ((rows[r]?).getD [])∧abp tg.length n ((rows[r]?).getD [])∧∀ x∈(rows[r]?).getD [],x∈m:=fun r hr=>by
  have h1:=M.lt r (pm.mem_iff.mp hr)
  have e:rows[r]? = some ((rows[r]?).getD []):=by rw [List.getElem?_eq_getElem (by omega)];rfl
  exact ⟨e,rr _ (List.mem_of_getElem? e),fun x hx=>pm.mem_iff.mpr (cl r (pm.mem_iff.mp hr) x hx)⟩
 have z1:sZ (jn (sIt (sV 6)) t1 (qz A B C) [4,6]) (τT most tg many rows ks (.ref 2) i t8 none) H = .ok (.rol ((a7g rows m).map a9p)) H:=by
  rw [List.map_map]
  refine zu (akm (ck:=fun h=>h[2]? = some (.lst (m.map d8))) d8 (a9p ∘ fun r=>((rows[r]?).getD []).map (pos m)) m rfl (a4g (cj rfl) rfl) (j8 (by omega)) fun r hr=>?_) (gw fun x _=>a0o (jg _)) hc
  obtain ⟨e1,⟨e2,_⟩,e3⟩:=rw' r hr
  rw [uy]
  unfold qz
  have z2:sZ (jn (sIt (s2 gIx (sV 1) (sV 0))) t1 (vo A B C) [2]) (some (d8 r)::frs' [4,6] (τT most tg many rows ks (.ref 2) i t8 none)) H = .ok (.rol ((((rows[r]?).getD []).map (pos m)).map d8)) H:=by
   rw [List.map_map]
   refine zu (p7 d8 (d8 ∘ pos m) ((rows[r]?).getD []) (a4g (gq (cj rfl) (cj rfl) (ah1 (y:=a3v ((rows[r]?).getD [])) (by rw [List.getElem?_map,e1];rfl))) rfl) (j8 (by omega)) fun x hx=>?_) (gw fun x _=>du _) hc
   rw [uy]
   unfold vo
   exact ams (cj rfl) rfl (arg1 (cj rfl)) (abx rfl (e3 x hx))
  exact wz z2 rfl
 have z3:∀ t9:Option D,sZ (jn (sIt (sV 6)) t1 (rm A B C) [5]) (τT most tg many rows ks (.ref 2) i t8 t9) H = .ok (.rol ((a4k ks m).map D.int)) H:=fun t9=>by
  rw [List.map_map]
  refine zu (akm (ck:=fun h=>h[2]? = some (.lst (m.map d8))) d8 (D.int ∘ fun r=>(ks[r]?).getD 0) m rfl (a4g (cj rfl) rfl) (j8 (by omega)) fun r hr=>?_) (gw fun x _=>du _) hc
  have h1:=M.lt r (pm.mem_iff.mp hr)
  have e:ks[r]? = some ((ks[r]?).getD 0):=by rw [List.getElem?_eq_getElem (by omega)];rfl
  rw [uy]
  unfold rm
  exact gq (cj rfl) (cj rfl) (ah1 (by rw [List.getElem?_map,e];rfl))
 refine ⟨m,pm,sm,H,rfl,?_⟩
 refine Eq.trans (congrArg toR (jo (wz (cj rfl) so))) ?_
 refine Eq.trans (congrArg toR (jo (wz z1 (show sy [.rol ((a7g rows m).map a9p)] H = .ok (.tup ((a7g rows m).map a9p)) H from rfl)))) ?_
 exact congrArg toR (lz (acj (cj rfl) (cj rfl) (wz (z3 _) (show sy [.rol ((a4k ks m).map D.int)] H = .ok (.tup ((a4k ks m).map D.int)) H from rfl)) amv))
end
theorem aeh {o:O} {N most:Nat} (P:Src o N) (hN:N≤999980000) (m1:1≤most) (m32:most≤32):∃ (T:Table) (o':O),T.Ok∧Dr cu 2 [d8 most] o T.d o'∧Src o' (N+400):=by
 obtain ⟨tg,o1,T1,e1,P1⟩:=abo P (by omega)
 obtain ⟨x,o2,e2,x0,x1,P2⟩:=p6 (m:=7) P1 (by omega) (by omega) (by omega)
 obtain ⟨y,o3,e3,y0,y1,P3⟩:=p6 (m:=6) P2 (by omega) (by omega) (by omega)
 obtain ⟨z,o4,e4,z0,z1,P4⟩:=p6 (m:=(most:Nat)) P3 (by omega) (by omega) (by omega)
 have c1:jj false 1 di [.ref 0] [o] = .ok (.str (S tg)) [o1]:=e1 0 _ rfl
 have c2:jj false 2 aj [.ref 0, .int 7] [o1] = .ok (.int x) [o2]:=e2 0 _ rfl
 have c3:jj false 2 aj [.ref 0, .int 6] [o2] = .ok (.int y) [o3]:=e3 0 _ rfl
 have c4:jj false 2 aj [.ref 0,d8 most] [o3] = .ok (.int z) [o4]:=e4 0 _ rfl
 obtain ⟨many,u,n1,Pu,eu⟩:∃ (many:Int) (u:O),1≤many∧Src u (N+10)∧∀ g:SS,j7 (jy 3 (s2 jf (sC (.int 2)) (sA (jj false 2 aj) (ak (sV 0) (ak (sC (.int 7)) dm)))))
   (j7 (sIf (sT (s2 hEq (sA (jj false 2 aj) (ak (sV 0) (ak (sC (.int 6)) dm))) (sC (.int 0))))
    (jy 3 (s2 jf (sC (.int 1)) (sA (jj false 2 aj) (ak (sV 0) (ak (sV 1) dm)))))
    sNx) g) [some (.ref 0),some (d8 most),some (.str (S tg)),none,none,none,none,none,none,none] [o1]=g [some (.ref 0),some (d8 most),some (.str (S tg)),some (.int many),none,none,none,none,none,none] [u]:=by
  by_cases hy:y=0
  ·refine ⟨1+z,o4,by omega,P4,fun g=>?_⟩
   refine Eq.trans (jo (gq (gf _ _ _) (yt (cj rfl) (gf _ _ _) c2) ue)) ?_
   exact a3u (Eq.trans (ifT (tof (gq (yt (cj rfl) (gf _ _ _) c3) (gf _ _ _) (a2g hy)))) (ah0 (gq (gf _ _ _) (yt (cj rfl) (cj rfl) c4) ue)))
  ·refine ⟨2+x,o3,by omega,P3.up (by omega),fun g=>?_⟩
   refine Eq.trans (jo (gq (gf _ _ _) (yt (cj rfl) (gf _ _ _) c2) ue)) ?_
   exact ifN (tof (gq (yt (cj rfl) (gf _ _ _) c3) (gf _ _ _) (zz hy)))
 obtain ⟨n,hn1,hn2,mn⟩:∃ n:Nat,1≤n∧n≤32∧(if (most:Int)<many then (most:Int) else many)=(n:Nat):=by
  by_cases h:(most:Int)<many
  ·exact ⟨most,m1,m32,if_pos h⟩
  ·exact ⟨many.toNat,by omega,by omega,by rw [if_neg h];omega⟩
 obtain ⟨ks,rows,u2,lk,k0,kk,lr,rr,e5,P5⟩:=aef (tg:=tg) (n:=n) Pu (by omega) T1.hi hn1 hn2
 have c5:jj false 3 dw [.ref 0, .str (S tg),d8 n] [u] = .ok (.tup [.rol (rows.map a3v), .rol (ks.map D.int)]) [u2]:=e5 0 _ rfl
 obtain ⟨met,i,t8,ew,M,cl⟩:=ah4 (A:=aj) (B:=dw) (C:=di) (u:=u2) (most:=most) (tg:=tg) (many:=many) (ks:=ks) hn1 hn2 lr rr
 obtain ⟨m,pm,sm,H,hH,ee⟩:=aby (A:=aj) (B:=dw) (C:=di) (most:=most) (many:=many) (i:=i) (t8:=t8) P5 hn2 lr lk T1.hi rr M cl
 have lm:m.length=met.length:=pm.length_eq
 have ln:=M.len
 have zm:0∈m:=pm.mem_iff.mpr M.z
 have m0:m[0]? = some 0:=by
  cases m with
  | nil=>cases zm
  | cons a l =>
   rcases List.mem_cons.mp zm with q | q
   ·rw [← q];rfl
   ·have:=(List.pairwise_cons.mp sm).1 0 q
    rw [show a=0 by omega];rfl
 let T:Table:=⟨tg,a7g rows m,a4k ks m⟩
 have ml:1≤m.length:=by cases m with | nil=>cases zm | cons _ _=>simp
 have ok:T.Ok:=by
  refine ⟨T1,by simpa [T] using ml,by show (a7g rows m).length≤32;rw [List.length_map];omega,fun r hr=>?_,by simp [T],?_,fun k hk=>?_⟩
  ·obtain ⟨q,hq,rfl⟩:=List.mem_map.mp hr
   have h1:=M.lt q (pm.mem_iff.mp hq)
   have e:rows[q]? = some ((rows[q]?).getD []):=by rw [List.getElem?_eq_getElem (by omega)];rfl
   obtain ⟨a,b⟩:=rr _ (List.mem_of_getElem? e)
   refine ⟨by rw [List.length_map];exact a,fun x hx=>?_⟩
   obtain ⟨v,hv,rfl⟩:=List.mem_map.mp hx
   show pos m v<(a7g rows m).length
   rw [List.length_map]
   exact (afb (pm.mem_iff.mpr (cl q (pm.mem_iff.mp hq) v hv))).2
  ·show (a4k ks m)[0]? = _
   rw [List.getElem?_map,m0]
   show some ((ks[0]?).getD 0)=_
   rw [k0];rfl
  ·obtain ⟨q,hq,rfl⟩:=List.mem_map.mp hk
   have h1:=M.lt q (pm.mem_iff.mp hq)
   have e:ks[q]? = some ((ks[q]?).getD 0):=by rw [List.getElem?_eq_getElem (by omega)];rfl
   exact kk _ (List.mem_of_getElem? e)
 refine ⟨T,u2,ok,Dr.of rfl (by intro x hx;rw [List.mem_singleton] at hx;subst hx;exact du _) P.clo (r:=.ok T.d H) ?_ ((jk (a6m (Nat.zero_le 1) Table.clo) (by rw [hH];intro x hx;rw [List.mem_singleton] at hx;subst hx;exact ur (by omega) P5.clo)).trans (by rw [hH])) Table.clo P5.clo,P5.up (by omega)⟩
 unfold cu
 rw [iz]
 show toR (yg aj dw di [some (.ref 0),some (d8 most),none,none,none,none,none,none,none,none] [o])=_
 unfold yg
 refine Eq.trans (congrArg toR (jo (wz (cj rfl) c1))) ?_
 refine Eq.trans (congrArg toR (eu _)) ?_
 refine Eq.trans (congrArg toR (a3u (akd (acj (cj rfl) (cj rfl) (yt (cj rfl) (cj rfl) (show a6f [.int many, .int (most:Int)] [u] = .ok (d8 n) [u] by show R.ok (D.int (if (most:Int)<many then (most:Int) else many)) [u]=_;rw [mn])) c5) rfl))) ?_
 refine Eq.trans (congrArg toR (jo (d:=.ref 1) (h1:=[u2, .lst ([0].map d8)]) rfl)) ?_
 refine Eq.trans (congrArg toR (jo (gf _ _ _))) ?_
 refine Eq.trans (congrArg toR (a3u ew)) ?_
 exact ee
end SRC
namespace K21
open PySem PySem.Spec L2 MI
end K21
namespace K23
open PySem PySem.Spec L2 MI
end K23
namespace K22
open PySem PySem.Spec L2 MI
end K22
namespace K22
open PySem PySem.Spec L2 MI AT HND
section
variable (T:Table)
def stp (r c:Nat):Nat:=(((T.go[r]?).getD [])[c]?).getD 0
def knd (r:Nat):Bool:=decide ((T.ks[r]?).getD (-1) ≠ -1)
def tgA (c:Nat):Nat:=(T.tg[c]?).getD 0
def hit (r0:Nat) (w:List Nat):Prop:=w≠[]∧knd T (BF.walk (stp T) r0 w)=true
end
section
variable {T:Table} (h:T.Ok)
theorem akn (h:T.Ok) {r:Nat} (hr:r<T.go.length):∃ k:Int,T.ks[r]? = some k ∧ -1≤k∧knd T r=decide (k ≠ -1):=by
 have l:r<T.ks.length:=by rw [h.kl];exact hr
 refine ⟨T.ks[r],List.getElem?_eq_getElem l,(h.kk _ (List.getElem_mem l)).1,?_⟩
 unfold knd
 rw [List.getElem?_eq_getElem l,Option.getD_some]
end
end K22
namespace K22
open PySem PySem.Spec L2 MI AT HND
section
variable {T:Table}
abbrev FL (T:Table) (k r:Nat):Bool:=BF.fl T.tg.length (stp T) (knd T) k r
def kI (T:Table) (r:Nat):Int:=(T.ks[r]?).getD (-1)
end
end K22
namespace K22
open PySem PySem.Spec L2 MI AT HND
section
variable {T:Table}
def aph (T:Table) (r:Nat):Option Nat:=(List.range T.go.length).find? fun i=>FL T (1+i) r
def gtx (T:Table) (k r:Nat):List Nat:=(BF.gre T.tg.length (stp T) (knd T) k r).map (tgA T)
def A (T:Table) (r:Nat):D:=match aph T r with | none=>.non | some i=>.str (S (gtx T (1+i) r))
end
end K22
namespace K23
open PySem PySem.Spec L2 MI AT HND K22
section
variable {T:Table}
def Pln:D→Prop
 | .non=>True | .bl _=>True | .int _=>True | .str x=>x.cps.toList.length≤1000 | .tup xs=>clos 0 xs | .rol xs=>clos 0 xs | .rod _ xs=>clos 0 xs | _=>False
theorem Pln.clo {d:D} (p:Pln d):clo 0 d:=by
 cases d<;>first | (simp only [Pln] at p;done) | (simp only [Pln] at p;simpa [MI.clo] using p) | simp [MI.clo]
def isTup:D→Bool | .tup _=>true | _=>false
theorem aei {d:D} {h:Hd} (p:Pln d):ye [d, .ty "tuple"] h = .ok (.bl (isTup d)) h:=by
 cases d<;>first | (simp only [Pln] at p;done) | simp [ye,ahg,tyD,af5,isTup]
theorem afc (bs:List Bool) (h:Hd):aci [.rol (bs.map D.bl)] h = .ok (.bl (bs.all id)) h:=by
 unfold aci
 simp only [adk]
end
end K23
namespace K21
open PySem PySem.Spec L2 MI AT HND K22 K23 EVX
section
variable {T:Table}
theorem a7c {a b:D} (ha:MI.clo 0 a) (hb:MI.clo 0 b):∀ x∈[a,b],MI.clo 0 x:=by
 intro x hx
 simp only [List.mem_cons,List.not_mem_nil,or_false] at hx
 rcases hx with rfl | rfl
 ·exact ha
 ·exact hb
theorem a8n {a b c:D} (ha:MI.clo 0 a) (hb:MI.clo 0 b) (hc:MI.clo 0 c):∀ x∈[a,b,c],MI.clo 0 x:=by
 intro x hx
 simp only [List.mem_cons,List.not_mem_nil,or_false] at hx
 rcases hx with rfl | rfl | rfl
 ·exact ha
 ·exact hb
 ·exact hc
theorem a9k (h:Hd):gIx T.d (.int 2) h = .ok (.tup (T.ks.map D.int)) h:=abm (j:=2) rfl
theorem a4l (h:T.Ok) {r:Nat} (hr:r<T.go.length) (hh:Hd):gIx (.tup (T.ks.map D.int)) (d8 r) hh = .ok (.int (kI T r)) hh:=by
 obtain ⟨k,e,_⟩:=akn h hr
 exact abm (by rw [List.getElem?_map,e];simp [kI,e])
end
end K21
namespace K21
open PySem PySem.Spec L2 MI AT HND K22 K23 EVX
section
variable {T:Table}
theorem abz {f:SE} {τ:Sd} {h h1:Hd} {i:Int} (e:f τ h = .ok (.int i) h1):oS f τ h = .ok (some i) h1:=by unfold oS;rw [e];rfl
theorem ac0 {f:SE} {lo hi:SO} {τ:Sd} {h h1 h2 h3 h4:Hd} {d v:D} {a b:Option Int} (e:f τ h = .ok d h1) (e1:lo τ h1 = .ok a h2) (e2:hi τ h2 = .ok b h3) (e3:a9b d a b h3 = .ok v h4):a6j f lo hi τ h = .ok v h4:=by
 unfold a6j
 rw [e,dg,e1,dg,e2,dg,e3]
end
end K21
namespace SRC
open PySem PySem.Spec L2 MI AT HND EVX K22 K23 K21
section
variable {T:Table}
noncomputable def j4:SF:=p8 SRC.uh 3
end
end SRC
namespace K40
open PySem PySem.Spec L2 MI AT HND EVX K22 K23 K21
section
variable {τ:Sd} {h h1 h2:Hd} {c1 c2:ST} {f g k:SE} {p q:SS}
theorem ah5 {a b:Bool} (e1:c1 τ h = .ok a h) (e2:a=true→c2 τ h = .ok b h):a1k c1 c2 τ h = .ok (a && b) h:=by
 cases a with
 | true=>rw [aka e1 (e2 rfl)];rfl
 | false=>rw [amr e1];rfl
theorem orB {a b:Bool} (e1:c1 τ h = .ok a h) (e2:a=false→c2 τ h = .ok b h):sOr c1 c2 τ h = .ok (a || b) h:=by
 cases a with
 | true=>rw [orT e1];rfl
 | false=>rw [orF e1 (e2 rfl)];rfl
theorem ac1 {a b:Bool} (e1:f τ h = .ok (.bl a) h) (e2:a=true→k τ h = .ok (.bl b) h):a0t f k τ h = .ok (.bl (a && b)) h:=by
 cases a with
 | true=>rw [akc e1 (e2 rfl)];rfl
 | false=>unfold a0t;rw [e1,dg];rfl
theorem a9q (x y:Int):gGe (.int x) (.int y) h = .ok (.bl (decide (y≤x))) h:=rfl
theorem ao2 (x y:Int):gGt (.int x) (.int y) h = .ok (.bl (decide (y<x))) h:=rfl
theorem ako (x y:Int):gLt (.int x) (.int y) h = .ok (.bl (decide (x<y))) h:=rfl
theorem akp (x y:Int):hEq (.int x) (.int y) h = .ok (.bl (decide (x=y))) h:=by
 by_cases c:x=y
 ·rw [a2g c,decide_eq_true c]
 ·rw [zz c,decide_eq_false c]
theorem ao3 (x y:Int):hNe (.int x) (.int y) h = .ok (.bl (decide (x≠y))) h:=by
 by_cases c:x=y
 ·rw [akh c,decide_eq_false (by simpa using c)]
 ·rw [aki c,decide_eq_true c]
theorem ao4 {x y z:Int} (e1:f τ h = .ok (.int x) h) (e2:g τ h = .ok (.int y) h) (e3:k τ h = .ok (.int z) h):sCh gLe gLe f g k τ h = .ok (.bl (decide (x≤y∧y≤z))) h:=by
 unfold sCh
 rw [e1,dg,e2,dg]
 by_cases c:x≤y
 ·rw [SRC.alh c,dg]
  dsimp only
  rw [e3,dg]
  by_cases c2:y≤z
  ·rw [SRC.alh c2,decide_eq_true ⟨c,c2⟩]
  ·rw [SRC.ali c2,decide_eq_false fun w=>c2 w.2]
 ·rw [SRC.ali c,dg]
  rw [decide_eq_false fun w=>c w.1]
end
theorem akq {a b c d:D} (ha:MI.clo 0 a) (hb:MI.clo 0 b) (hc:MI.clo 0 c) (hd:MI.clo 0 d):∀ x∈[a,b,c,d],MI.clo 0 x:=by
 intro x hx
 simp only [List.mem_cons,List.not_mem_nil,or_false] at hx
 rcases hx with rfl | rfl | rfl | rfl
 ·exact ha
 ·exact hb
 ·exact hc
 ·exact hd
section
variable {T:Table}
def rw' (T:Table) (r:Nat):List Nat:=(T.go[r]?).getD []
theorem a7h (h:T.Ok) {r:Nat} (hr:r<T.go.length):T.go[r]? = some (rw' T r)∧(rw' T r).length≤6∧∀ x∈rw' T r,x<T.go.length:=by
 have e:T.go[r]? = some (rw' T r):=by unfold rw';rw [List.getElem?_eq_getElem hr];rfl
 obtain ⟨a,b⟩:=h.row _ (List.mem_of_getElem? e)
 exact ⟨e,by have:=h.tong.hi;omega,b⟩
theorem ah6 (h:T.Ok) {r:Nat} (hr:r<T.go.length) (hh:Hd):gIx (.tup (T.go.map a9p)) (d8 r) hh = .ok (a9p (rw' T r)) hh:=abm (by rw [List.getElem?_map,(a7h h hr).1];rfl)
def ig (l:List Int) (t:Nat):Int:=(l[t]?).getD 0
theorem ac2 {l:List Int} {t:Nat} (ht:t<l.length) (hh:Hd):gIx (.tup (l.map D.int)) (d8 t) hh = .ok (.int (ig l t)) hh:=abm (by unfold ig;rw [List.getElem?_map,List.getElem?_eq_getElem ht];rfl)
theorem go1 (h:Hd):gIx T.d (.int 1) h = .ok (.tup (T.go.map a9p)) h:=abm (j:=1) rfl
theorem ac3 (h:T.Ok) {r:Nat} (hr:r<T.go.length) : -1≤kI T r:=by
 obtain ⟨k,e,k1,_⟩:=akn h hr
 unfold kI;rw [e];exact k1
abbrev zsD (l:List Int):D:=.tup (l.map D.int)
theorem a5n (l:List Int):MI.clo 0 (zsD l):=a0o (gw fun x _=>du x)
def ml (a k t:Int):Bool:=if t = -2 then false else if k ≠ -1 then decide (1≤a) else decide (t<a)
noncomputable def jq:SF:=p8 a05 3
theorem ah7 (a k t:Int):Pu jq 3 [.int a, .int k, .int t] (.bl (ml a k t)):=by
 refine Pu.of rfl (a8n (du _) (du _) (du _)) (r:=.ok (.bl (ml a k t)) []) ?_ (jk (jr _) (by simp)) (jr _)
 unfold jq
 rw [iz]
 show toR (a05 [some (.int a),some (.int k),some (.int t)] [])=_
 unfold a05 ml
 by_cases h2:t = -2
 ·rw [if_pos h2]
  exact congrArg toR (a0b (Eq.trans (ifT (tof (gq (cj rfl) (a3p (gf _ _ _) (uz _)) (a2g h2)))) (lz (gf _ _ _))))
 ·rw [if_neg h2]
  refine Eq.trans (congrArg toR (ifN (tof (gq (cj rfl) (a3p (gf _ _ _) (uz _)) (zz h2))))) ?_
  by_cases hk:k = -1
  ·rw [if_neg (by simpa using hk)]
   exact congrArg toR (lz (SRC.ah2 (tof (gq (cj rfl) (a3p (gf _ _ _) (uz _)) (akh hk))) (gq (cj rfl) (cj rfl) (ao2 _ _))))
  ·rw [if_pos hk]
   exact congrArg toR (lz (SRC.ahk (tof (gq (cj rfl) (a3p (gf _ _ _) (uz _)) (aki hk))) (gq (cj rfl) (gf _ _ _) (a9q _ _))))
def hh (T:Table) (m:Int) (l:List Int) (r:Nat):Bool :=
 if kI T r ≠ -1∧¬ (0≤ig l r∧ig l r≤m) then false
 else if ig l r = -2 then true
 else if ig l r = -1 then (rw' T r).all fun t=>decide (kI T t = -1) && decide (ig l t = -1)
 else (rw' T r).all fun t=>ml (ig l r) (kI T t) (ig l t)
noncomputable def gj:SF:=p8 (sr jq) 8
theorem a5o {fi:SI} {fe:SE} {ix:List Nat} {τ:Sd} {hp:Hd} (row:List Nat) (f:Nat→Bool) (rl:row.length≤1000) (e:fi τ hp = .ok ⟨row.map d8,fun _=>True⟩ hp) (st:∀ t∈row,fe (some (d8 t)::frs' ix τ) hp = .ok (.bl (f t)) hp) (c:∀ o∈hp,a1x hp.length o) :
  sA aci (ak (sZ (jn fi t1 fe ix)) dm) τ hp = .ok (.bl (row.all f)) hp:=by
 have z:sZ (jn fi t1 fe ix) τ hp = .ok (.rol ((row.map f).map D.bl)) hp:=by
  rw [List.map_map]
  exact zu (p7 d8 (D.bl ∘ f) row e (j8 (by omega)) fun t ht=>(uy _ _ _ _).trans (st t ht)) (gw fun y _=>jr _) c
 refine wz z ((K23.afc _ _).trans ?_)
 rw [List.all_map]
 rfl
theorem ac4 (h:T.Ok) {m:Int} {l:List Int} {r:Nat} (ll:l.length=T.go.length) (hr:r<T.go.length):Pu gj 4 [T.d, .int m,zsD l,d8 r] (.bl (hh T m l r)):=by
 refine Pu.of rfl (akq Table.clo (du _) (a5n l) (du _)) (r:=.ok (.bl (hh T m l r)) []) ?_ (jk (jr _) (by simp)) (jr _)
 unfold gj
 rw [iz]
 show toR (sr jq [some T.d,some (.int m),some (zsD l),some (d8 r),none,none,none,none] [])=_
 unfold sr
 obtain ⟨_,rl,rx⟩:=a7h h hr
 refine Eq.trans (congrArg toR (a3u (akd (cj rfl) rfl))) ?_
 refine Eq.trans (congrArg toR (jo (gq (cj rfl) (cj rfl) (ac2 (by omega) _)))) ?_
 have kg:∀ (τ:Sd) (i j t:Nat),τ[i]? = some (some (.tup (T.ks.map D.int)))→τ[j]? = some (some (d8 t))→t<T.go.length→s2 gIx (sV i) (sV j) τ [] = .ok (.int (kI T t)) []:=fun τ i j t h0 h1 ht=>gq (cj h0) (cj h1) (a4l h ht _)
 have lg:∀ (τ:Sd) (i j t:Nat),τ[i]? = some (some (zsD l))→τ[j]? = some (some (d8 t))→t<T.go.length→s2 gIx (sV i) (sV j) τ [] = .ok (.int (ig l t)) []:=fun τ i j t h0 h1 ht=>gq (cj h0) (cj h1) (ac2 (by omega) _)
 have t1:a1k (sT (s2 hNe (s2 gIx (sV 6) (sV 3)) (s1 a0a (sC (.int 1))))) (a1h (sT (sCh gLe gLe (sC (.int 0)) (sV 7) (sV 1)))) [some T.d,some (.int m),some (zsD l),some (d8 r),some (.str (S T.tg)),some (.tup (T.go.map a9p)),some (.tup (T.ks.map D.int)),some (.int (ig l r))] [] = .ok (decide (kI T r ≠ -1) && !decide (0≤ig l r∧ig l r≤m)) [] :=
  ah5 (tof (gq (kg _ 6 3 r rfl rfl hr) (a3p (gf _ _ _) (uz _)) (ao3 _ _))) fun _=>a5m (tof (ao4 (gf _ _ _) (cj rfl) (cj rfl)))
 unfold hh
 by_cases c1:kI T r ≠ -1∧¬ (0≤ig l r∧ig l r≤m)
 ·rw [if_pos c1]
  have q:(decide (kI T r ≠ -1) && !decide (0≤ig l r∧ig l r≤m))=true:=by rw [decide_eq_true c1.1,decide_eq_false c1.2];rfl
  rw [q] at t1
  exact congrArg toR (a0b (Eq.trans (ifT t1) (lz (gf _ _ _))))
 rw [if_neg c1]
 have q:(decide (kI T r ≠ -1) && !decide (0≤ig l r∧ig l r≤m))=false:=by
  by_cases a:kI T r ≠ -1
  ·rw [decide_eq_true a,decide_eq_true (Decidable.not_not.mp fun z=>c1 ⟨a,z⟩)];rfl
  ·rw [decide_eq_false a];rfl
 rw [q] at t1
 refine Eq.trans (congrArg toR (ifN t1)) ?_
 by_cases c2:ig l r = -2
 ·rw [if_pos c2]
  exact congrArg toR (a0b (Eq.trans (ifT (tof (gq (cj rfl) (a3p (gf _ _ _) (uz _)) (a2g c2)))) (lz (gf _ _ _))))
 rw [if_neg c2]
 refine Eq.trans (congrArg toR (ifN (tof (gq (cj rfl) (a3p (gf _ _ _) (uz _)) (zz c2))))) ?_
 have it:sIt (s2 gIx (sV 5) (sV 3)) [some T.d,some (.int m),some (zsD l),some (d8 r),some (.str (S T.tg)),some (.tup (T.go.map a9p)),some (.tup (T.ks.map D.int)),some (.int (ig l r))] [] = .ok ⟨(rw' T r).map d8,fun _=>True⟩ []:=a4g (gq (cj rfl) (cj rfl) (ah6 h hr _)) rfl
 by_cases c3:ig l r = -1
 ·rw [if_pos c3]
  refine congrArg toR (a0b (Eq.trans (ifT (tof (gq (cj rfl) (a3p (gf _ _ _) (uz _)) (a2g c3)))) (lz (a5o (rw' T r) _ (by omega) it (fun t ht=>?_) (by simp)))))
  unfold ww
  exact ac1 (gq (kg _ 2 0 t rfl rfl (rx t ht)) (a3p (gf _ _ _) (uz _)) (akp _ _)) fun _=>gq (lg _ 1 0 t rfl rfl (rx t ht)) (a3p (gf _ _ _) (uz _)) (akp _ _)
 ·rw [if_neg c3]
  refine Eq.trans (congrArg toR (ifN (tof (gq (cj rfl) (a3p (gf _ _ _) (uz _)) (zz c3))))) ?_
  refine congrArg toR (lz (a5o (rw' T r) _ (by omega) it (fun t ht=>?_) (by simp)))
  unfold wy
  exact acj (cj rfl) (kg _ 2 0 t rfl rfl (rx t ht)) (lg _ 1 0 t rfl rfl (rx t ht)) (ah7 _ _ _ _)
end
end K40
namespace K40
open PySem PySem.Spec L2 MI AT HND EVX K22 K23 K21
section
variable {T:Table}
def isI:D→Bool | .int _=>true | _=>false
def isB:D→Bool | .bl _=>true | _=>false
theorem akr {d:D} {h:Hd} (p:Pln d):ye [d, .ty "int"] h = .ok (.bl (isI d || isB d)) h:=by
 cases d<;>first | (simp only [Pln] at p;done) | simp [ye,ahg,tyD,af5,isI,isB]
theorem afd {d:D} {h:Hd} (p:Pln d):ye [d, .ty "bool"] h = .ok (.bl (isB d)) h:=by
 cases d<;>first | (simp only [Pln] at p;done) | simp [ye,ahg,tyD,af5,isB]
structure Th (d:D):Prop where
 p:Pln d
 el:∀ xs,d = .tup xs→xs.length≤1000∧∀ x∈xs,Pln x
theorem a9l {a:D} (ha:MI.clo 0 a):∀ x∈[a],MI.clo 0 x:=by intro x hx;rw [List.mem_singleton] at hx;subst hx;exact ha
noncomputable def j5:SF:=p8 yh 1
theorem aks {x:D} (p:Pln x):Pu j5 1 [x] (.bl (isI x)):=by
 refine Pu.of rfl (a9l p.clo) (r:=.ok (.bl (isI x)) []) ?_ (jk (jr _) (by simp)) (jr _)
 unfold j5
 rw [iz]
 show toR (yh [some x] [])=_
 unfold yh
 have e:=ac1 (f:=sA ye (ak (sV 0) (ak (sC (.ty "int")) dm))) (k:=a4w (sA ye (ak (sV 0) (ak (sC (.ty "bool")) dm)))) (τ:=[some x]) (h:=[]) (yt (cj rfl) (gf _ _ _) (akr p)) fun _=>akj (yt (cj rfl) (gf _ _ _) (afd p))
 refine (congrArg toR (lz e)).trans ?_
 show R.ok (D.bl _) []=_
 congr 2
 cases x<;>rfl
def ahl (n:Nat):D→Bool | .tup xs=>decide (xs.length=n) | _=>false
noncomputable def kj:SF:=p8 a2m 3
theorem akt {d:D} {n:Nat} (p:Pln d):Pu kj 3 [d,d8 n,d8 n] (.bl (ahl n d)):=by
 refine Pu.of rfl (a8n p.clo (du _) (du _)) (r:=.ok (.bl (ahl n d)) []) ?_ (jk (jr _) (by simp)) (jr _)
 unfold kj
 rw [iz]
 show toR (a2m [some d,some (d8 n),some (d8 n)] [])=_
 unfold a2m
 by_cases t:isTup d=true
 ·obtain ⟨xs,rfl⟩:∃ xs,d = .tup xs:=by cases d<;>first | exact ⟨_,rfl⟩ | (simp [isTup] at t)
  refine (congrArg toR (lz (akc (yt (cj rfl) (gf _ _ _) ((aei p).trans (by rw [t]))) (ao4 (cj rfl) (wz (cj rfl) uc) (cj rfl))))).trans ?_
  show R.ok (D.bl _) []=R.ok (D.bl (decide (xs.length=n))) []
  congr 2
  rw [decide_eq_decide]
  omega
 ·have t':isTup d=false:=by simpa using t
  have e:ahl n d=false:=by cases d<;>first | rfl | (simp [isTup] at t)
  rw [e]
  exact congrArg toR (lz ((ac1 (yt (cj rfl) (gf _ _ _) (aei p)) (b:=false) fun z=>absurd (t'.symm.trans z) (by simp)).trans (by rw [t'];rfl)))
def a9r:D→Bool | .int i=>decide (-2≤i) | _=>false
def vals (xs:List D):List Int:=xs.map fun | .int i=>i | _=>0
theorem a3r:∀ {xs:List D},xs.all isI=true→xs=(vals xs).map D.int
 | [],_=>rfl
 | x::xs,h=>by
  rw [List.all_cons,Bool.and_eq_true] at h
  have:=a3r h.2
  cases x<;>first | (show _::_=_::_;exact congrArg _ this) | (cases h.1)
theorem a2s (xs:List D):(vals xs).length=xs.length:=List.length_map _
def HH (T:Table) (m:Int):D→Bool
 | .tup xs=>decide (xs.length=T.go.length) && (xs.all a9r && (List.range T.go.length).all (hh T m (vals xs)))
 | _=>false
theorem a7i {xs:List D} (h:xs.all a9r=true):xs.all isI=true:=by
 rw [List.all_eq_true] at h ⊢
 intro x hx
 have:=h x hx
 cases x<;>first | rfl | (cases this)
noncomputable def au:SF:=p8 (rz gj j5 kj) 4
theorem a9m (h:T.Ok) {m:Int} {d:D} (t:Th d):Pu au 3 [T.d, .int m,d] (.bl (HH T m d)):=by
 refine Pu.of rfl (a8n Table.clo (du _) t.p.clo) (r:=.ok (.bl (HH T m d)) []) ?_ (jk (jr _) (by simp)) (jr _)
 unfold au
 rw [iz]
 show toR (rz gj j5 kj [some T.d,some (.int m),some d,none] [])=_
 unfold rz
 have n32:=h.n32
 refine Eq.trans (congrArg toR (jo (d:=d8 T.go.length) (wz (gq (cj rfl) (gf _ _ _) (go1 _)) (uc.trans (by rw [List.length_map]))))) ?_
 have r1:a1h (yz (sA (jj false 3 kj) (ak (sV 2) (ak (sV 3) (ak (sV 3) dm))))) [some T.d,some (.int m),some d,some (d8 T.go.length)] [] = .ok (!ahl T.go.length d) []:=a5m (xf (acj (cj rfl) (cj rfl) (cj rfl) (akt t.p _)) (kh _))
 by_cases rb:ahl T.go.length d=true
 ·obtain ⟨xs,rfl⟩:∃ xs,d = .tup xs:=by cases d<;>first | exact ⟨_,rfl⟩ | (cases rb)
  have xl:xs.length=T.go.length:=of_decide_eq_true rb
  obtain ⟨_,px⟩:=t.el xs rfl
  have ca:sA aci (ak (sZ (jn (sIt (sV 2)) t1 (lw gj j5 kj) [])) dm) [some T.d,some (.int m),some (.tup xs),some (d8 T.go.length)] [] = .ok (.bl (xs.all a9r)) []:=by
   have z:sZ (jn (sIt (sV 2)) t1 (lw gj j5 kj) []) [some T.d,some (.int m),some (.tup xs),some (d8 T.go.length)] [] = .ok (.rol ((xs.map a9r).map D.bl)) []:=by
    rw [List.map_map]
    have it:sIt (sV 2) [some T.d,some (.int m),some (.tup xs),some (d8 T.go.length)] [] = .ok ⟨xs.map id,fun _=>True⟩ []:=by rw [List.map_id];exact a4g (cj rfl) rfl
    refine zu (p7 id (D.bl ∘ a9r) xs it (j8 (by omega)) fun x hx=>?_) (gw fun y _=>jr _) (by simp)
    rw [uy]
    unfold lw
    have e1:=aks (px x hx) []
    show a0t _ _ [some x] [] = .ok (.bl (a9r x)) []
    cases x with
    | int i=>exact (ac1 (wz (cj rfl) e1) fun _=>gq (cj rfl) (a3p (gf _ _ _) (uz _)) (a9q _ _)).trans (by simp [isI,a9r])
    | _=>exact (ac1 (b:=false) (wz (cj rfl) e1) fun z=>absurd z (by simp [isI])).trans rfl
   refine wz z ((K23.afc _ _).trans ?_)
   rw [List.all_map];rfl
  have r2:=orB (a:=false) (r1.trans (by rw [rb];rfl)) fun _=>a5m (xf ca (kh _))
  show _=R.ok (D.bl (decide (xs.length=T.go.length) && (xs.all a9r && (List.range T.go.length).all (hh T m (vals xs))))) []
  rw [decide_eq_true xl,Bool.true_and]
  cases lb:xs.all a9r with
  | false =>
   rw [lb] at r2
   exact congrArg toR (a0b (Eq.trans (ifT r2) (lz (gf _ _ _))))
  | true =>
   rw [lb] at r2
   refine Eq.trans (congrArg toR (ifN r2)) ?_
   rw [Bool.true_and]
   have ev:=a3r (a7i lb)
   refine congrArg toR (lz (a5o (List.range T.go.length) _ (by rw [List.length_range];omega) (zy (cj rfl) (j8 (by omega))) (fun r hr=>?_) (by simp)))
   rw [List.mem_range] at hr
   unfold wu
   have ho:=ac4 h (m:=m) (l:=vals xs) (r:=r) ((a2s xs).trans xl) hr []
   unfold zsD at ho
   rw [← ev] at ho
   exact amw (cj rfl) (cj rfl) (cj rfl) (cj rfl) ho
 ·have rf:ahl T.go.length d=false:=by simpa using rb
  have e:HH T m d=false:=by
   cases d<;>first | rfl | skip
   rename_i xs
   show (decide (xs.length=T.go.length) && _)=false
   rw [show decide (xs.length=T.go.length)=false from rf];rfl
  rw [e]
  exact congrArg toR (a0b (Eq.trans (ifT (orT (r1.trans (by rw [rf];rfl)))) (lz (gf _ _ _))))
def ahm (n:Nat):D→Bool | .tup xs=>decide (xs.length=n) && xs.all isI | _=>false
theorem a7j {d:D} {n:Nat} (t:Th d):Pu SRC.j4 2 [d,d8 n] (.bl (ahm n d)):=by
 refine Pu.of rfl (a7c t.p.clo (du _)) (r:=.ok (.bl (ahm n d)) []) ?_ (jk (jr _) (by simp)) (jr _)
 unfold SRC.j4
 rw [iz]
 show toR (SRC.uh [some d,some (d8 n),none] [])=_
 unfold SRC.uh
 by_cases td:isTup d=true
 ·obtain ⟨xs,rfl⟩:∃ xs,d = .tup xs:=by cases d<;>first | exact ⟨_,rfl⟩ | (simp [isTup] at td)
  obtain ⟨xl,px⟩:=t.el xs rfl
  have r1:=orB (a:=false) (c1:=a1h (yz (sA ye (ak (sV 0) (ak (sC (.ty "tuple")) dm))))) (c2:=sT (s2 hNe (sA vg (ak (sV 0) dm)) (sV 1))) (τ:=[some (.tup xs),some (d8 n),none]) (h:=[]) (akb (xf (yt (cj rfl) (gf _ _ _) ((aei t.p).trans (by rw [td]))) (kh _))) fun _=>tof (gq (wz (cj rfl) uc) (cj rfl) (ao3 _ _))
  show _=R.ok (D.bl (decide (xs.length=n) && xs.all isI)) []
  by_cases ln:xs.length=n
  ·rw [Bool.false_or,decide_eq_false (show ¬ ((xs.length:Int)≠(n:Int)) by omega)] at r1
   rw [decide_eq_true ln,Bool.true_and]
   refine Eq.trans (congrArg toR (ifN r1)) ?_
   refine Eq.trans (congrArg toR (a1t (xs:=xs.map id) (ck:=fun _=>True) (by rw [List.map_id];exact a4g (cj rfl) rfl))) ?_
   have lp:=a1c (g:=kN 2) (b:=SRC.u6) (id:D→D) (fun pre τ hh=>(∃ t2:Option D,τ=[some (.tup xs),some (d8 n),t2]∧hh=[])∧pre.all isI=true) (fun d hh=>d = .bl false∧hh=[]∧xs.all isI=false) xs [] [some (.tup xs),some (d8 n),none] [] ?_ ⟨⟨none,rfl,rfl⟩,rfl⟩
   ·rcases lp with ⟨τ',h',e,⟨t2,rfl,rfl⟩,al⟩ | ⟨d',h',e,rfl,rfl,al⟩
    ·rw [List.nil_append] at al
     rw [al]
     refine Eq.trans (congrArg (fun z=>toR (MI.thn z _)) e) ?_
     rfl
    ·rw [al]
     refine Eq.trans (congrArg (fun z=>toR (MI.thn z _)) e) ?_
     rfl
   ·rintro pre x post τ hh all ⟨⟨t2,rfl,rfl⟩,al⟩
    rw [List.nil_append] at all
    have hx:x∈xs:=by rw [all];simp
    refine ⟨_,_,rfl,?_⟩
    unfold SRC.u6
    have tt:=orB (c1:=a1h (yz (sA ye (ak (sV 2) (ak (sC (.ty "int")) dm))))) (c2:=yz (sA ye (ak (sV 2) (ak (sC (.ty "bool")) dm)))) (τ:=[some (.tup xs),some (d8 n),some x]) (h:=[]) (a5m (xf (yt (cj rfl) (gf _ _ _) (akr (px x hx))) (kh _))) fun _=>xf (yt (cj rfl) (gf _ _ _) (afd (px x hx))) (kh _)
    have ee:(!(isI x || isB x) || isB x) = !isI x:=by cases x<;>rfl
    rw [ee] at tt
    cases ix:isI x with
    | true =>
     rw [ix] at tt
     exact .inl ⟨_,_,Eq.trans (ifF tt) rfl,⟨_,rfl,rfl⟩,by rw [List.all_append,al,List.all_cons,ix];rfl⟩
    | false =>
     rw [ix] at tt
     refine .inr ⟨_,_,Eq.trans (ifT tt) (lz (gf _ _ _)),rfl,rfl,?_⟩
     rw [List.all_eq_false]
     exact ⟨x,hx,by rw [ix];simp⟩
  ·rw [Bool.false_or,decide_eq_true (show ((xs.length:Int)≠(n:Int)) by omega)] at r1
   rw [decide_eq_false ln,Bool.false_and]
   exact congrArg toR (a0b (Eq.trans (ifT r1) (lz (gf _ _ _))))
 ·have td':isTup d=false:=by simpa using td
  have e:ahm n d=false:=by cases d<;>first | rfl | (simp [isTup] at td)
  rw [e]
  exact congrArg toR (a0b (Eq.trans (ifT (orT (apa (xf (yt (cj rfl) (gf _ _ _) ((aei t.p).trans (by rw [td']))) (kh _))))) (lz (gf _ _ _))))
end
end K40
namespace K40
open PySem PySem.Spec L2 MI AT HND EVX K22 K23 K21
section
variable {T:Table}
def least (T:Table) (l:List Int) (t:Nat):Int:=if 0≤kI T t then 1 else if 0≤ig l t then ig l t+1 else 0
def a8o (T:Table) (l:List Int) (r t:Nat):Bool := !(decide (ig l r = -1) && !(decide (kI T t<0) && decide (ig l t = -1))) && !(decide (0≤ig l r) && (decide (ig l t = -2) || decide (ig l r<least T l t)))
def aku (T:Table) (m:Int) (l:List Int) (r:Nat):Bool:=decide (ig l r < -2) || (decide (0≤kI T r) && (decide (ig l r<0) || decide (m<ig l r)))
def rh (T:Table) (m:Int) (l:List Int) (r:Nat):Bool := !aku T m l r && (rw' T r).all (a8o T l r)
noncomputable def gh:SF:=p8 n6 6
theorem ah8 (h:T.Ok) {m:Int} {l:List Int} {r:Nat} (ll:l.length=T.go.length) (hr:r<T.go.length):Pu gh 4 [T.d, .int m,zsD l,d8 r] (.bl (rh T m l r)):=by
 refine Pu.of rfl (akq Table.clo (du _) (a5n l) (du _)) (r:=.ok (.bl (rh T m l r)) []) ?_ (jk (jr _) (by simp)) (jr _)
 unfold gh
 rw [iz]
 show toR (n6 [some T.d,some (.int m),some (zsD l),some (d8 r),none,none] [])=_
 unfold n6
 obtain ⟨_,rl,rx⟩:=a7h h hr
 have kg:∀ (τ:Sd) (j t:Nat),τ[0]? = some (some T.d)→τ[j]? = some (some (d8 t))→t<T.go.length→s2 gIx (s2 gIx (sV 0) (sC (.int 2))) (sV j) τ [] = .ok (.int (kI T t)) []:=fun τ j t h0 h1 ht=>gq (gq (cj h0) (gf _ _ _) (a9k _)) (cj h1) (a4l h ht _)
 have lg:∀ (τ:Sd) (j t:Nat),τ[2]? = some (some (zsD l))→τ[j]? = some (some (d8 t))→t<T.go.length→s2 gIx (sV 2) (sV j) τ [] = .ok (.int (ig l t)) []:=fun τ j t h0 h1 ht=>gq (cj h0) (cj h1) (ac2 (by omega) _)
 have tb:sOr (sT (s2 gLt (s2 gIx (sV 2) (sV 3)) (s1 a0a (sC (.int 2))))) (a1k (sT (s2 gGe (s2 gIx (s2 gIx (sV 0) (sC (.int 2))) (sV 3)) (sC (.int 0)))) (sOr (sT (s2 gLt (s2 gIx (sV 2) (sV 3)) (sC (.int 0)))) (sT (s2 gGt (s2 gIx (sV 2) (sV 3)) (sV 1))))) [some T.d,some (.int m),some (zsD l),some (d8 r),none,none] [] = .ok (aku T m l r) [] :=
  orB (tof (gq (lg _ 3 r rfl rfl hr) (a3p (gf _ _ _) (uz _)) (ako _ _))) fun _=>ah5 (tof (gq (kg _ 3 r rfl rfl hr) (gf _ _ _) (a9q _ _))) fun _=>orB (tof (gq (lg _ 3 r rfl rfl hr) (gf _ _ _) (ako _ _))) fun _=>tof (gq (lg _ 3 r rfl rfl hr) (cj rfl) (ao2 _ _))
 unfold rh
 cases bb:aku T m l r with
 | true =>
  rw [bb] at tb
  exact congrArg toR (a0b (Eq.trans (ifT tb) (lz (gf _ _ _))))
 | false =>
  rw [bb] at tb
  rw [Bool.not_false,Bool.true_and]
  refine Eq.trans (congrArg toR (ifN tb)) ?_
  refine Eq.trans (congrArg toR (a1t (xs:=(rw' T r).map d8) (ck:=fun _=>True) (a4g (gq (gq (cj rfl) (gf _ _ _) (go1 _)) (cj rfl) (ah6 h hr _)) rfl))) ?_
  have lp:=a1c (g:=kN 4) (b:=n8) d8 (fun pre τ hh=>(∃ t4 t5:Option D,τ=[some T.d,some (.int m),some (zsD l),some (d8 r),t4,t5]∧hh=[])∧pre.all (a8o T l r)=true) (fun d hh=>d = .bl false∧hh=[]∧(rw' T r).all (a8o T l r)=false) (rw' T r) [] [some T.d,some (.int m),some (zsD l),some (d8 r),none,none] [] ?_ ⟨⟨none,none,rfl,rfl⟩,rfl⟩
  ·rcases lp with ⟨τ',h',e,⟨t4,t5,rfl,rfl⟩,al⟩ | ⟨d',h',e,rfl,rfl,al⟩
   ·rw [List.nil_append] at al
    rw [al]
    refine Eq.trans (congrArg (fun z=>toR (MI.thn z _)) e) ?_
    rfl
   ·rw [al]
    refine Eq.trans (congrArg (fun z=>toR (MI.thn z _)) e) ?_
    rfl
  ·rintro pre t post τ hh all ⟨⟨t4,t5,rfl,rfl⟩,al⟩
   rw [List.nil_append] at all
   have hx:t∈rw' T r:=by rw [all];simp
   have tl:=rx t hx
   refine ⟨_,_,rfl,?_⟩
   unfold n8
   have a1:∀ t5:Option D,a1k (sT (s2 hEq (s2 gIx (sV 2) (sV 3)) (s1 a0a (sC (.int 1))))) (a1h (a1k (sT (s2 gLt (s2 gIx (s2 gIx (sV 0) (sC (.int 2))) (sV 4)) (sC (.int 0)))) (sT (s2 hEq (s2 gIx (sV 2) (sV 4)) (s1 a0a (sC (.int 1))))))) [some T.d,some (.int m),some (zsD l),some (d8 r),some (d8 t),t5] [] = .ok (decide (ig l r = -1) && !(decide (kI T t<0) && decide (ig l t = -1))) []:=fun t5 =>
    ah5 (tof (gq (lg _ 3 r rfl rfl hr) (a3p (gf _ _ _) (uz _)) (akp _ _))) fun _=>a5m (ah5 (tof (gq (kg _ 4 t rfl rfl tl) (gf _ _ _) (ako _ _))) fun _=>tof (gq (lg _ 4 t rfl rfl tl) (a3p (gf _ _ _) (uz _)) (akp _ _)))
   have a2:a1k (sT (s2 gGe (s2 gIx (sV 2) (sV 3)) (sC (.int 0)))) (sOr (sT (s2 hEq (s2 gIx (sV 2) (sV 4)) (s1 a0a (sC (.int 2))))) (sT (s2 gLt (s2 gIx (sV 2) (sV 3)) (sV 5)))) [some T.d,some (.int m),some (zsD l),some (d8 r),some (d8 t),some (.int (least T l t))] [] = .ok (decide (0≤ig l r) && (decide (ig l t = -2) || decide (ig l r<least T l t))) [] :=
    ah5 (tof (gq (lg _ 3 r rfl rfl hr) (gf _ _ _) (a9q _ _))) fun _=>orB (tof (gq (lg _ 4 t rfl rfl tl) (a3p (gf _ _ _) (uz _)) (akp _ _))) fun _=>tof (gq (lg _ 3 r rfl rfl hr) (cj rfl) (ako _ _))
   have mid:∀ g:SS,j7 (jy 5 (sC (.int 0))) (j7 (sIf (sT (s2 gGe (s2 gIx (s2 gIx (sV 0) (sC (.int 2))) (sV 4)) (sC (.int 0)))) (jy 5 (sC (.int 1))) (sIf (sT (s2 gGe (s2 gIx (sV 2) (sV 4)) (sC (.int 0)))) (jy 5 (s2 jf (s2 gIx (sV 2) (sV 4)) (sC (.int 1)))) sNx)) g) [some T.d,some (.int m),some (zsD l),some (d8 r),some (d8 t),t5] []=g [some T.d,some (.int m),some (zsD l),some (d8 r),some (d8 t),some (.int (least T l t))] []:=fun g=>by
    refine Eq.trans (jo (gf _ _ _)) ?_
    unfold least
    by_cases c1:0≤kI T t
    ·rw [if_pos c1]
     exact a3u (Eq.trans (ifT (tof ((gq (kg _ 4 t rfl rfl tl) (gf _ _ _) (a9q _ _)).trans (by rw [decide_eq_true c1])))) (ah0 (gf _ _ _)))
    ·rw [if_neg c1]
     have f1:sT (s2 gGe (s2 gIx (s2 gIx (sV 0) (sC (.int 2))) (sV 4)) (sC (.int 0))) [some T.d,some (.int m),some (zsD l),some (d8 r),some (d8 t),some (.int 0)] [] = .ok false []:=tof ((gq (kg _ 4 t rfl rfl tl) (gf _ _ _) (a9q _ _)).trans (by rw [decide_eq_false c1]))
     by_cases c2:0≤ig l t
     ·rw [if_pos c2]
      exact a3u (Eq.trans (ifF f1) (Eq.trans (ifT (tof ((gq (lg _ 4 t rfl rfl tl) (gf _ _ _) (a9q _ _)).trans (by rw [decide_eq_true c2])))) (ah0 (gq (lg _ 4 t rfl rfl tl) (gf _ _ _) ue))))
     ·rw [if_neg c2]
      exact a3u (Eq.trans (ifF f1) (Eq.trans (ifF (tof ((gq (lg _ 4 t rfl rfl tl) (gf _ _ _) (a9q _ _)).trans (by rw [decide_eq_false c2])))) rfl))
   have bad:a8o T l r t=false→(rw' T r).all (a8o T l r)=false:=fun z=>by
    rw [List.all_eq_false];exact ⟨t,hx,by rw [z];simp⟩
   have b1:=a1 t5
   cases v1:(decide (ig l r = -1) && !(decide (kI T t<0) && decide (ig l t = -1))) with
   | true =>
    rw [v1] at b1
    exact .inr ⟨_,_,a0b (Eq.trans (ifT b1) (lz (gf _ _ _))),rfl,rfl,bad (by unfold a8o;rw [v1];rfl)⟩
   | false =>
    rw [v1] at b1
    cases v2:(decide (0≤ig l r) && (decide (ig l t = -2) || decide (ig l r<least T l t))) with
    | true =>
     rw [v2] at a2
     exact .inr ⟨_,_,Eq.trans (ifN b1) (Eq.trans (mid _) (Eq.trans (ifT a2) (lz (gf _ _ _)))),rfl,rfl,bad (by unfold a8o;rw [v1,v2];rfl)⟩
    | false =>
     rw [v2] at a2
     refine .inl ⟨[some T.d,some (.int m),some (zsD l),some (d8 r),some (d8 t),some (.int (least T l t))],[],Eq.trans (ifN b1) (Eq.trans (mid _) (Eq.trans (ifF a2) rfl)),⟨_,_,rfl,rfl⟩,?_⟩
     have s1:a8o T l r t=true:=by unfold a8o;rw [v1,v2];rfl
     rw [List.all_append,al,List.all_cons,s1];rfl
def HL (T:Table) (m:Int):D→Bool
 | .tup xs=>(decide (xs.length=T.go.length) && xs.all isI) && (List.range T.go.length).all (rh T m (vals xs))
 | _=>false
noncomputable def bw:SF:=p8 (yr SRC.j4 gh) 4
theorem aej (h:T.Ok) {m:Int} {d:D} (t:Th d):Pu bw 3 [T.d, .int m,d] (.bl (HL T m d)):=by
 refine Pu.of rfl (a8n Table.clo (du _) t.p.clo) (r:=.ok (.bl (HL T m d)) []) ?_ (jk (jr _) (by simp)) (jr _)
 unfold bw
 rw [iz]
 show toR (yr SRC.j4 gh [some T.d,some (.int m),some d,none] [])=_
 unfold yr
 have n32:=h.n32
 have r1:a1h (yz (sA (jj false 2 SRC.j4) (ak (sV 2) (ak (sA vg (ak (s2 gIx (sV 0) (sC (.int 1))) dm)) dm)))) [some T.d,some (.int m),some d,none] [] = .ok (!ahm T.go.length d) []:=a5m (xf (yt (b:=d8 T.go.length) (cj rfl) (wz (gq (cj rfl) (gf _ _ _) (go1 _)) (uc.trans (by rw [List.length_map]))) (a7j t _)) (kh _))
 by_cases nb:ahm T.go.length d=true
 ·obtain ⟨xs,rfl⟩:∃ xs,d = .tup xs:=by cases d<;>first | exact ⟨_,rfl⟩ | (cases nb)
  have nb':(decide (xs.length=T.go.length) && xs.all isI)=true:=nb
  obtain ⟨e1,e2⟩:=Bool.and_eq_true_iff.mp nb'
  have xl:=of_decide_eq_true e1
  have ev:=a3r e2
  rw [nb] at r1
  show _=R.ok (D.bl ((decide (xs.length=T.go.length) && xs.all isI) && (List.range T.go.length).all (rh T m (vals xs)))) []
  rw [nb',Bool.true_and]
  refine Eq.trans (congrArg toR (ifN r1)) ?_
  refine Eq.trans (congrArg toR (a1t (zy (n:=T.go.length) (wz (cj rfl) (uc.trans (by rw [xl]))) (j8 (by omega))))) ?_
  have lp:=a1c (g:=kN 3) (b:=vz SRC.j4 gh) d8 (fun pre τ hh=>(∃ t3:Option D,τ=[some T.d,some (.int m),some (.tup xs),t3]∧hh=[])∧pre.all (rh T m (vals xs))=true) (fun d hh=>d = .bl false∧hh=[]∧(List.range T.go.length).all (rh T m (vals xs))=false) (List.range T.go.length) [] [some T.d,some (.int m),some (.tup xs),none] [] ?_ ⟨⟨none,rfl,rfl⟩,rfl⟩
  ·rcases lp with ⟨τ',h',e,⟨t3,rfl,rfl⟩,al⟩ | ⟨d',h',e,rfl,rfl,al⟩
   ·rw [List.nil_append] at al
    rw [al]
    refine Eq.trans (congrArg (fun z=>toR (MI.thn z _)) e) ?_
    rfl
   ·rw [al]
    refine Eq.trans (congrArg (fun z=>toR (MI.thn z _)) e) ?_
    rfl
  ·rintro pre r post τ hh all ⟨⟨t3,rfl,rfl⟩,al⟩
   rw [List.nil_append] at all
   have hx:r∈List.range T.go.length:=by rw [all];simp
   have hr:=List.mem_range.mp hx
   refine ⟨_,_,rfl,?_⟩
   unfold vz
   have ro:=ah8 h (m:=m) (l:=vals xs) (r:=r) ((a2s xs).trans xl) hr []
   unfold zsD at ro
   rw [← ev] at ro
   have tt:a1h (yz (sA (jj false 4 gh) (ak (sV 0) (ak (sV 1) (ak (sV 2) (ak (sV 3) dm)))))) [some T.d,some (.int m),some (.tup xs),some (d8 r)] [] = .ok (!rh T m (vals xs) r) []:=a5m (xf (amw (cj rfl) (cj rfl) (cj rfl) (cj rfl) ro) (kh _))
   cases v:rh T m (vals xs) r with
   | true =>
    rw [v] at tt
    exact .inl ⟨_,_,Eq.trans (ifF tt) rfl,⟨_,rfl,rfl⟩,by rw [List.all_append,al,List.all_cons,v];rfl⟩
   | false =>
    rw [v] at tt
    refine .inr ⟨_,_,Eq.trans (ifT tt) (lz (gf _ _ _)),rfl,rfl,?_⟩
    rw [List.all_eq_false];exact ⟨r,hx,by rw [v];simp⟩
 ·have nf:ahm T.go.length d=false:=by simpa using nb
  have e:HL T m d=false:=by
   cases d<;>first | rfl | skip
   rename_i xs
   show ((decide (xs.length=T.go.length) && xs.all isI) && _)=false
   rw [show (decide (xs.length=T.go.length) && xs.all isI)=false from nf];rfl
  rw [e]
  rw [nf] at r1
  exact congrArg toR (a0b (Eq.trans (ifT r1) (lz (gf _ _ _))))
theorem a9n (h:T.Ok) {m:Int} {l:List Int} {r:Nat} (hr:r<T.go.length) (low:∀ t,t<T.go.length → -2≤ig l t):hh T m l r=rh T m l r:=by
 obtain ⟨_,_,rx⟩:=a7h h hr
 have kr:=ac3 h hr
 have lr:=low r hr
 unfold hh rh aku
 by_cases c1:kI T r ≠ -1∧¬ (0≤ig l r∧ig l r≤m)
 ·rw [if_pos c1]
  have:(decide (ig l r < -2) || (decide (0≤kI T r) && (decide (ig l r<0) || decide (m<ig l r))))=true:=by
   simp only [Bool.or_eq_true,Bool.and_eq_true,decide_eq_true_eq]
   omega
  rw [this];rfl
 rw [if_neg c1]
 have:(decide (ig l r < -2) || (decide (0≤kI T r) && (decide (ig l r<0) || decide (m<ig l r))))=false:=by
  simp only [Bool.or_eq_false_iff,Bool.and_eq_false_iff,decide_eq_false_iff_not]
  omega
 rw [this,Bool.not_false,Bool.true_and]
 have one:∀ f:Nat→Bool,(∀ t∈rw' T r,f t=a8o T l r t)→(rw' T r).all f=(rw' T r).all (a8o T l r):=fun f hf=>by
  rw [Bool.eq_iff_iff,List.all_eq_true,List.all_eq_true]
  exact ⟨fun q t ht=>(hf t ht) ▸ q t ht,fun q t ht=>(hf t ht).symm ▸ q t ht⟩
 by_cases c2:ig l r = -2
 ·rw [if_pos c2]
  symm
  rw [List.all_eq_true]
  intro t ht
  unfold a8o
  rw [decide_eq_false (show ¬ ig l r = -1 by omega),decide_eq_false (show ¬ 0≤ig l r by omega)]
  rfl
 rw [if_neg c2]
 by_cases c3:ig l r = -1
 ·rw [if_pos c3]
  refine one _ fun t ht=>?_
  have kt:=ac3 h (rx t ht)
  unfold a8o
  rw [decide_eq_true c3,decide_eq_false (show ¬ 0≤ig l r by omega),Bool.true_and,Bool.not_not,Bool.false_and,Bool.not_false,Bool.and_true]
  congr 1
  rw [decide_eq_decide];omega
 ·rw [if_neg c3]
  refine one _ fun t ht=>?_
  have kt:=ac3 h (rx t ht)
  have lt:=low t (rx t ht)
  unfold a8o ml least
  rw [decide_eq_false c3,decide_eq_true (show 0≤ig l r by omega),Bool.false_and,Bool.not_false,Bool.true_and,Bool.true_and]
  by_cases d1:ig l t = -2
  ·rw [if_pos d1,decide_eq_true d1];rfl
  ·rw [if_neg d1,decide_eq_false d1,Bool.false_or]
   by_cases d2:kI T t ≠ -1
   ·rw [if_pos d2,if_pos (show 0≤kI T t by omega),Bool.eq_iff_iff]
    simp only [Bool.not_eq_true',decide_eq_true_eq,decide_eq_false_iff_not]
    omega
   ·rw [if_neg d2,if_neg (show ¬ 0≤kI T t by omega),Bool.eq_iff_iff]
    simp only [Bool.not_eq_true',decide_eq_true_eq,decide_eq_false_iff_not]
    by_cases d3:0≤ig l t
    ·rw [if_pos d3];omega
    ·rw [if_neg d3];omega
theorem ah9 {xs:List D} {t:Nat} (e:xs.all a9r=true) (ht:t<xs.length) : -2≤ig (vals xs) t:=by
 have ev:=a3r (a7i e)
 have hv:t<(vals xs).length:=by rw [a2s];exact ht
 have m:D.int (ig (vals xs) t)∈xs:=by
  have:xs[t]? = some (D.int (ig (vals xs) t)):=by
   rw [ev,List.getElem?_map]
   unfold ig
   rw [← ev,List.getElem?_eq_getElem hv];rfl
  exact List.mem_of_getElem? this
 rw [List.all_eq_true] at e
 exact of_decide_eq_true (e _ m)
theorem agree (h:T.Ok) (m:Int) (d:D):HH T m d=HL T m d:=by
 cases d<;>first | rfl | skip
 rename_i xs
 show (decide (xs.length=T.go.length) && (xs.all a9r && (List.range T.go.length).all (hh T m (vals xs))))=((decide (xs.length=T.go.length) && xs.all isI) && (List.range T.go.length).all (rh T m (vals xs)))
 by_cases xl:xs.length=T.go.length
 ·rw [decide_eq_true xl,Bool.true_and,Bool.true_and]
  cases lb:xs.all a9r with
  | true =>
   rw [a7i lb,Bool.true_and,Bool.true_and,Bool.eq_iff_iff,List.all_eq_true,List.all_eq_true]
   have ar:∀ r∈List.range T.go.length,hh T m (vals xs) r=rh T m (vals xs) r:=fun r hr=>a9n h (List.mem_range.mp hr) fun t ht=>ah9 lb (by omega)
   exact ⟨fun q r hr=>(ar r hr) ▸ q r hr,fun q r hr=>(ar r hr).symm ▸ q r hr⟩
  | false =>
   rw [Bool.false_and]
   cases ib:xs.all isI with
   | false=>rfl
   | true =>
    rw [Bool.true_and]
    symm
    rw [List.all_eq_false] at lb ⊢
    obtain ⟨x,hx,nx⟩:=lb
    obtain ⟨r,hr,rfl⟩:=List.getElem_of_mem hx
    have ev:=a3r ib
    have hv:r<(vals xs).length:=by rw [a2s];exact hr
    have gx:xs[r]=D.int (ig (vals xs) r):=by
     have:xs[r]? = some (D.int (ig (vals xs) r)):=by
      rw [ev,List.getElem?_map]
      unfold ig
      rw [← ev,List.getElem?_eq_getElem hv];rfl
     rw [List.getElem?_eq_getElem hr] at this
     exact Option.some.inj this
    rw [gx] at nx
    have nl:ig (vals xs) r < -2:=by
     have:¬ decide (-2≤ig (vals xs) r)=true:=nx
     rw [decide_eq_true_eq] at this
     omega
    refine ⟨r,List.mem_range.mpr (by omega),?_⟩
    unfold rh aku
    rw [decide_eq_true nl]
    simp
 ·rw [decide_eq_false xl];rfl
noncomputable def cz:SF:=p8 a06 2
theorem ac6 (b:Bool):Pu cz 2 [.bl b, .bl b] (.bl true):=by
 refine Pu.of rfl (a7c (jr _) (jr _)) (r:=.ok (.bl true) []) ?_ (jk (jr _) (by simp)) (jr _)
 unfold cz
 rw [iz]
 show toR (a06 [some (.bl b),some (.bl b)] [])=_
 unfold a06
 cases b with
 | true=>exact congrArg toR (a0b (Eq.trans (ifT (xf (cj rfl) (kh _))) (lz (gq (cj rfl) (gf _ _ _) rfl))))
 | false=>exact Eq.trans (congrArg toR (ifN (xf (cj rfl) (kh _)))) (congrArg toR (lz (gq (cj rfl) (gf _ _ _) rfl)))
theorem asked (h:T.Ok) {d:D} (t:Th d) (m:Int):∃ b,Pu au 3 [T.d, .int m,d] (.bl b)∧Pu bw 3 [T.d, .int m,d] (.bl b):=⟨HH T m d,a9m h t,by rw [agree h];exact aej h t⟩
end
end K40
namespace K40
open PySem PySem.Spec L2 MI AT HND EVX K22 K23 K21
theorem akv {fi:SI} {G:SG} {b:SS} {xs:List D} {ck:Hd→Prop} {τ:Sd} {h h1:Hd} (e:fi τ h = .ok ⟨xs,ck⟩ h1):a1w fi G b τ h=forL ck G b xs τ h1:=by
 unfold a1w
 rw [e]
 rfl
section
variable {T:Table}
def bg (bs:List Bool) (i:Nat):Bool:=(bs[i]?).getD false
theorem a9o {bs:List Bool} {i:Nat} (hi:i<bs.length):(bs.map D.bl)[i]? = some (.bl (bg bs i)):=by unfold bg;rw [List.getElem?_map,List.getElem?_eq_getElem hi];rfl
abbrev HB (bs:List Bool):Hd:=[.lst (bs.map D.bl)]
theorem afe (bs:List Bool) (i:Nat):(bs.map D.bl).set i (.bl true)=(bs.set i true).map D.bl:=by rw [List.map_set]
theorem kge (h:T.Ok) {τ:Sd} {j t:Nat} (hp:Hd) (h0:τ[0]? = some (some T.d)) (hj:τ[j]? = some (some (d8 t))) (ht:t<T.go.length):s2 gIx (s2 gIx (sV 0) (sC (.int 2))) (sV j) τ hp = .ok (.int (kI T t)) hp:=gq (gq (cj h0) (gf _ _ _) (a9k _)) (cj hj) (a4l h ht _)
theorem ac8 (h:T.Ok) {τ:Sd} {j r:Nat} (hp:Hd) (h0:τ[0]? = some (some T.d)) (hj:τ[j]? = some (some (d8 r))) (hr:r<T.go.length):sIt (s2 gIx (s2 gIx (sV 0) (sC (.int 1))) (sV j)) τ hp = .ok ⟨(rw' T r).map d8,fun _=>True⟩ hp:=a4g (gq (gq (cj h0) (gf _ _ _) (go1 _)) (cj hj) (ah6 h hr _)) rfl
noncomputable def bc:SF:=p8 a07 5
theorem a7k (h:T.Ok):∃ bs:List Bool,bs.length=T.go.length∧Pu bc 1 [T.d] (.rol (bs.map D.bl)):=by
 have n32:=h.n32
 let I:Sd→Hd→Prop:=fun τ hp=>∃ (bs:List Bool) (t2 t3 t4:Option D),τ=[some T.d,some (.ref 0),t2,t3,t4]∧hp=HB bs∧bs.length=T.go.length
 have ln:∀ (τ:Sd) (bs:List Bool),τ[1]? = some (some (.ref 0))→bs.length=T.go.length→sRg v4 (ak (sA vg (ak (sV 1) dm)) dm) τ (HB bs) = .ok ⟨(List.range T.go.length).map d8,fun _=>True⟩ (HB bs):=fun τ bs h1 bl =>
  zy (n:=T.go.length) (wz (cj h1) ((a7f (xs:=bs.map D.bl) rfl).trans (by rw [List.length_map,bl]))) (j8 (by omega))
 have L2:∀ (bs:List Bool) (t2 t4:Option D) (r:Nat),bs.length=T.go.length→r<T.go.length→∃ τ' h',ul [some T.d,some (.ref 0),t2,some (d8 r),t4] (HB bs) = .nx τ' h'∧I τ' h':=fun bs t2 t4 r bl hr=>by
  obtain ⟨_,_,rx⟩:=a7h h hr
  have lp:=jm (g:=kN 4) (b:=ym) d8 (fun pre τ hp=>∃ (bs:List Bool) (t4:Option D),τ=[some T.d,some (.ref 0),t2,some (d8 r),t4]∧hp=HB bs∧bs.length=T.go.length) (rw' T r) [some T.d,some (.ref 0),t2,some (d8 r),t4] (HB bs) ?_ ⟨bs,t4,rfl,rfl,bl⟩
  ·obtain ⟨τ',h',e,bs',t4',rfl,rfl,bl'⟩:=lp
   refine ⟨_,_,?_,bs',t2,some (d8 r),t4',rfl,rfl,bl'⟩
   unfold ul
   exact (akv (ac8 h _ rfl rfl hr)).trans e
  ·rintro pre t post τ hp all ⟨bs,t4,rfl,rfl,bl⟩
   have tl:=rx t (by rw [all];simp)
   have tst:sOr (sT (s2 gGe (s2 gIx (s2 gIx (sV 0) (sC (.int 2))) (sV 4)) (sC (.int 0)))) (yz (s2 gIx (sV 1) (sV 4))) [some T.d,some (.ref 0),t2,some (d8 r),some (d8 t)] (HB bs) = .ok (decide (0≤kI T t) || bg bs t) (HB bs) :=
    orB (tof (gq (kge h _ rfl rfl tl) (gf _ _ _) (a9q _ _))) fun _=>xf (gq (cj rfl) (cj rfl) (a8m (xs:=bs.map D.bl) rfl (a9o (by omega)))) (kh _)
   unfold ym
   cases v:(decide (0≤kI T t) || bg bs t) with
   | true =>
    rw [v] at tst
    refine ⟨_,_,rfl,_,HB (bs.set r true),?_,bs.set r true,some (d8 t),rfl,rfl,by rw [List.length_set];exact bl⟩
    refine Eq.trans (ifT tst) (ake (gf _ _ _) (cj rfl) (cj rfl) ((akf (xs:=bs.map D.bl) rfl (by rw [List.length_map];omega)).trans ?_))
    rw [afe]
    rfl
   | false =>
    rw [v] at tst
    exact ⟨_,_,rfl,_,_,Eq.trans (ifF tst) rfl,bs,_,rfl,rfl,bl⟩
 have L3:∀ (bs:List Bool) (t2 t3 t4:Option D),bs.length=T.go.length→∃ τ' h',um [some T.d,some (.ref 0),t2,t3,t4] (HB bs) = .nx τ' h'∧I τ' h':=fun bs t2 t3 t4 bl=>by
  have lp:=jm (g:=kN 3) (b:=ul) d8 (fun pre τ hp=>I τ hp) (List.range T.go.length) [some T.d,some (.ref 0),t2,t3,t4] (HB bs) ?_ ⟨bs,t2,t3,t4,rfl,rfl,bl⟩
  ·obtain ⟨τ',h',e,i⟩:=lp
   refine ⟨τ',h',?_,i⟩
   unfold um
   exact (akv (ln _ bs rfl bl)).trans e
  ·rintro pre r post τ hp all ⟨bs,t2,t3,t4,rfl,rfl,bl⟩
   obtain ⟨τ',h',e,i⟩:=L2 bs t2 t4 r bl (List.mem_range.mp (by rw [all];simp))
   exact ⟨_,_,rfl,τ',h',e,i⟩
 let b0:List Bool:=T.go.map fun _=>false
 have b0l:b0.length=T.go.length:=List.length_map _
 have lp:=jm (g:=kN 2) (b:=um) d8 (fun pre τ hp=>I τ hp) (List.range T.go.length) [some T.d,some (.ref 0),none,none,none] (HB b0) ?_ ⟨b0,none,none,none,rfl,rfl,b0l⟩
 ·obtain ⟨τ',h',e,bs,t2,t3,t4,rfl,rfl,bl⟩:=lp
  refine ⟨bs,bl,Pu.of rfl (a9l Table.clo) (r:=.ok (.ref 0) (HB bs)) ?_ (yc (Nat.le_refl _) rfl (gw fun x _=>jr x) (by simp)) (ql (gw fun x _=>jr x))⟩
  unfold bc
  rw [iz]
  show toR (a07 [some T.d,none,none,none,none] [])=_
  unfold a07
  have cm:jn (sIt (s2 gIx (sV 0) (sC (.int 1)))) t1 yj [] [some T.d,none,none,none,none] [] = .ok (.ref 0) (HB b0):=by
   have:=p7 (fi:=sIt (s2 gIx (sV 0) (sC (.int 1)))) (t:=t1) (fe:=yj) (ix:=[]) (τ:=[some T.d,none,none,none,none]) (h:=[]) a9p (fun _=>D.bl false) T.go (a4g (gq (cj rfl) (gf _ _ _) (go1 _)) rfl) (j8 (by omega)) fun x _=>rfl
   rw [this]
   show R.ok (D.ref 0) [O.lst _]=R.ok (D.ref 0) [O.lst ((T.go.map fun _=>false).map D.bl)]
   rw [List.map_map]
   rfl
  refine Eq.trans (congrArg toR (jo cm)) ?_
  refine Eq.trans (congrArg toR (a1t (ln _ b0 rfl b0l))) ?_
  refine Eq.trans (congrArg (fun z=>toR (MI.thn z _)) e) ?_
  rfl
 ·rintro pre k post τ hp all ⟨bs,t2,t3,t4,rfl,rfl,bl⟩
  obtain ⟨τ',h',e,i⟩:=L3 bs (some (d8 k)) t3 t4 bl
  exact ⟨_,_,rfl,τ',h',e,i⟩
noncomputable def jd:SF:=p8 (v8 bc) 6
theorem aca (h:T.Ok):∃ bs:List Bool,bs.length=T.go.length∧Pu jd 1 [T.d] (.rol (bs.map D.bl)):=by
 have n32:=h.n32
 obtain ⟨hs,hl,eh⟩:=a7k h
 let I:Sd→Hd→Prop:=fun τ hp=>∃ (bs:List Bool) (t3 t4 t5:Option D),τ=[some T.d,some (.rol (hs.map D.bl)),some (.ref 0),t3,t4,t5]∧hp=HB bs∧bs.length=T.go.length
 have ln:∀ (τ:Sd) (bs:List Bool),τ[2]? = some (some (.ref 0))→bs.length=T.go.length→sRg v4 (ak (sA vg (ak (sV 2) dm)) dm) τ (HB bs) = .ok ⟨(List.range T.go.length).map d8,fun _=>True⟩ (HB bs):=fun τ bs h1 bl =>
  zy (n:=T.go.length) (wz (cj h1) ((a7f (xs:=bs.map D.bl) rfl).trans (by rw [List.length_map,bl]))) (j8 (by omega))
 have L2:∀ (bs:List Bool) (t3 t5:Option D) (r:Nat),bs.length=T.go.length→r<T.go.length→∃ τ' h',oh bc [some T.d,some (.rol (hs.map D.bl)),some (.ref 0),t3,some (d8 r),t5] (HB bs) = .nx τ' h'∧I τ' h':=fun bs t3 t5 r bl hr=>by
  obtain ⟨_,_,rx⟩:=a7h h hr
  have lp:=jm (g:=kN 5) (b:=ux bc) d8 (fun pre τ hp=>∃ (bs:List Bool) (t5:Option D),τ=[some T.d,some (.rol (hs.map D.bl)),some (.ref 0),t3,some (d8 r),t5]∧hp=HB bs∧bs.length=T.go.length) (rw' T r) [some T.d,some (.rol (hs.map D.bl)),some (.ref 0),t3,some (d8 r),t5] (HB bs) ?_ ⟨bs,t5,rfl,rfl,bl⟩
  ·obtain ⟨τ',h',e,bs',t5',rfl,rfl,bl'⟩:=lp
   refine ⟨_,_,?_,bs',t3,some (d8 r),t5',rfl,rfl,bl'⟩
   unfold oh
   exact (akv (ac8 h _ rfl rfl hr)).trans e
  ·rintro pre t post τ hp all ⟨bs,t5,rfl,rfl,bl⟩
   have tl:=rx t (by rw [all];simp)
   have tst:a1k (yz (s2 gIx (sV 2) (sV 4))) (yz (s2 gIx (sV 1) (sV 5))) [some T.d,some (.rol (hs.map D.bl)),some (.ref 0),t3,some (d8 r),some (d8 t)] (HB bs) = .ok (bg bs r && bg hs t) (HB bs) :=
    ah5 (xf (gq (cj rfl) (cj rfl) (a8m (xs:=bs.map D.bl) rfl (a9o (by omega)))) (kh _)) fun _=>xf (gq (cj rfl) (cj rfl) (ah1 (a9o (by omega)))) (kh _)
   unfold ux
   cases v:(bg bs r && bg hs t) with
   | true =>
    rw [v] at tst
    refine ⟨_,_,rfl,_,HB (bs.set t true),?_,bs.set t true,some (d8 t),rfl,rfl,by rw [List.length_set];exact bl⟩
    refine Eq.trans (ifT tst) (ake (gf _ _ _) (cj rfl) (cj rfl) ((akf (xs:=bs.map D.bl) rfl (by rw [List.length_map];omega)).trans ?_))
    rw [afe]
    rfl
   | false =>
    rw [v] at tst
    exact ⟨_,_,rfl,_,_,Eq.trans (ifF tst) rfl,bs,_,rfl,rfl,bl⟩
 have L3:∀ (bs:List Bool) (t3 t4 t5:Option D),bs.length=T.go.length→∃ τ' h',ou bc [some T.d,some (.rol (hs.map D.bl)),some (.ref 0),t3,t4,t5] (HB bs) = .nx τ' h'∧I τ' h':=fun bs t3 t4 t5 bl=>by
  have lp:=jm (g:=kN 4) (b:=oh bc) d8 (fun pre τ hp=>I τ hp) (List.range T.go.length) [some T.d,some (.rol (hs.map D.bl)),some (.ref 0),t3,t4,t5] (HB bs) ?_ ⟨bs,t3,t4,t5,rfl,rfl,bl⟩
  ·obtain ⟨τ',h',e,i⟩:=lp
   refine ⟨τ',h',?_,i⟩
   unfold ou
   exact (akv (ln _ bs rfl bl)).trans e
  ·rintro pre r post τ hp all ⟨bs,t3,t4,t5,rfl,rfl,bl⟩
   obtain ⟨τ',h',e,i⟩:=L2 bs t3 t5 r bl (List.mem_range.mp (by rw [all];simp))
   exact ⟨_,_,rfl,τ',h',e,i⟩
 let b0:List Bool:=T.ks.map fun k=>decide (0≤k)
 have b0l:b0.length=T.go.length:=(List.length_map _).trans h.kl
 have lp:=jm (g:=kN 3) (b:=ou bc) d8 (fun pre τ hp=>I τ hp) (List.range T.go.length) [some T.d,some (.rol (hs.map D.bl)),some (.ref 0),none,none,none] (HB b0) ?_ ⟨b0,none,none,none,rfl,rfl,b0l⟩
 ·obtain ⟨τ',h',e,bs,t3,t4,t5,rfl,rfl,bl⟩:=lp
  refine ⟨bs,bl,Pu.of rfl (a9l Table.clo) (r:=.ok (.ref 0) (HB bs)) ?_ (yc (Nat.le_refl _) rfl (gw fun x _=>jr x) (by simp)) (ql (gw fun x _=>jr x))⟩
  unfold jd
  rw [iz]
  show toR (v8 bc [some T.d,none,none,none,none,none] [])=_
  unfold v8
  refine Eq.trans (congrArg toR (jo (wz (cj rfl) (eh _)))) ?_
  have kl:=h.kl
  have cm:jn (sIt (s2 gIx (sV 0) (sC (.int 2)))) t1 (uw bc) [] [some T.d,some (.rol (hs.map D.bl)),none,none,none,none] [] = .ok (.ref 0) (HB b0):=by
   have:=p7 (fi:=sIt (s2 gIx (sV 0) (sC (.int 2)))) (t:=t1) (fe:=uw bc) (ix:=[]) (τ:=[some T.d,some (.rol (hs.map D.bl)),none,none,none,none]) (h:=[]) D.int (fun k=>D.bl (decide (0≤k))) T.ks (a4g (gq (cj rfl) (gf _ _ _) (a9k _)) rfl) (j8 (by omega)) fun x _=>(uy _ _ _ _).trans (gq (cj rfl) (gf _ _ _) (a9q _ _))
   rw [this]
   show R.ok (D.ref 0) [O.lst _]=R.ok (D.ref 0) [O.lst ((T.ks.map fun k=>decide (0≤k)).map D.bl)]
   rw [List.map_map]
   rfl
  refine Eq.trans (congrArg toR (jo cm)) ?_
  refine Eq.trans (congrArg toR (a1t (ln _ b0 rfl b0l))) ?_
  refine Eq.trans (congrArg (fun z=>toR (MI.thn z _)) e) ?_
  rfl
 ·rintro pre k post τ hp all ⟨bs,t3,t4,t5,rfl,rfl,bl⟩
  obtain ⟨τ',h',e,i⟩:=L3 bs (some (d8 k)) t4 t5 bl
  exact ⟨_,_,rfl,τ',h',e,i⟩
end
end K40
namespace K40
open PySem PySem.Spec L2 MI AT HND EVX K22 K23 K21
section
variable {T:Table}
theorem a09 (p:Nat→Bool):∀ l:List Nat,(l.filterMap fun i=>if p i=true then some (d8 i) else none)=(l.filter p).map d8
 | []=>rfl
 | i::l=>by
  cases h:p i with
  | true=>rw [List.filterMap_cons_some (b:=d8 i) (by rw [h];rfl),List.filter_cons_of_pos h,a09 p l];rfl
  | false=>rw [List.filterMap_cons_none (by rw [h];rfl),List.filter_cons_of_neg (by rw [h];simp),a09 p l]
structure ND (n:Nat) (l:List Nat):Prop where
 nd:l.Nodup
 lt:∀ x∈l,x<n
theorem ND.add {n x:Nat} {l:List Nat} (M:ND n l) (hx:x<n) (h:x ∉ l):ND n (l++[x]):=by
 refine ⟨?_,fun y hy=>?_⟩
 ·rw [List.nodup_append]
  refine ⟨M.nd,by simp,fun a ha b hb=>?_⟩
  rw [List.mem_singleton] at hb
  subst hb
  exact fun e=>h (e ▸ ha)
 ·rcases List.mem_append.mp hy with z | z
  ·exact M.lt y z
  ·rw [List.mem_singleton] at z;subst z;exact hx
noncomputable def dh:SF:=p8 a08 5
theorem aha (h:T.Ok) {rs:List Nat} (rn:∀ r∈rs,r<T.go.length):∃ ts:List Nat,ND T.go.length ts∧Pu dh 2 [T.d, .rol (rs.map d8)] (.rol (ts.map d8)):=by
 have n32:=h.n32
 have lp:=jm (g:=kN 3) (b:=yp) d8 (fun pre τ hp=>∃ (ts:List Nat) (t3 t4:Option D),τ=[some T.d,some (.rol (rs.map d8)),some (.ref 0),t3,t4]∧hp=[.lst (ts.map d8)]∧ND T.go.length ts) rs [some T.d,some (.rol (rs.map d8)),some (.ref 0),none,none] [.lst []] ?_ ⟨[],none,none,rfl,rfl,⟨List.nodup_nil,by simp⟩⟩
 ·obtain ⟨τ',h',e,ts,t3,t4,rfl,rfl,M⟩:=lp
  refine ⟨ts,M,Pu.of rfl (a7c Table.clo (ql (jg _))) (r:=.ok (.ref 0) [.lst (ts.map d8)]) ?_ (yc (Nat.le_refl _) rfl (jg _) (by simp)) (ql (jg _))⟩
  unfold dh
  rw [iz]
  show toR (a08 [some T.d,some (.rol (rs.map d8)),none,none,none] [])=_
  unfold a08
  refine Eq.trans (congrArg toR (jo (d:=.ref 0) (h1:=[.lst []]) rfl)) ?_
  refine Eq.trans (congrArg toR (a1t (a4g (cj rfl) rfl))) ?_
  refine Eq.trans (congrArg (fun z=>toR (MI.thn z _)) e) ?_
  rfl
 ·rintro pre r post τ hp all ⟨ts,t3,t4,rfl,rfl,M⟩
  have hr:=rn r (by rw [all];simp)
  obtain ⟨_,_,rx⟩:=a7h h hr
  have l2:=jm (g:=kN 4) (b:=yo) d8 (fun pre τ hp=>∃ (ts:List Nat) (t4:Option D),τ=[some T.d,some (.rol (rs.map d8)),some (.ref 0),some (d8 r),t4]∧hp=[.lst (ts.map d8)]∧ND T.go.length ts) (rw' T r) [some T.d,some (.rol (rs.map d8)),some (.ref 0),some (d8 r),t4] [.lst (ts.map d8)] ?_ ⟨ts,t4,rfl,rfl,M⟩
  ·obtain ⟨τ',h',e,ts',t4',rfl,rfl,M'⟩:=l2
   refine ⟨_,_,rfl,_,_,?_,ts',some (d8 r),t4',rfl,rfl,M'⟩
   unfold yp
   exact (akv (ac8 h _ rfl rfl hr)).trans e
  ·rintro pre t post τ hp all ⟨ts,t4,rfl,rfl,M⟩
   have tl:=rx t (by rw [all];simp)
   have ln:=BF.a2q _ ts M.nd M.lt
   unfold yo
   by_cases hm:t∈ts
   ·exact ⟨_,_,rfl,_,_,Eq.trans (ifF (tof (gq (cj rfl) (cj rfl) ((SRC.a2r (l:=ts) rfl).trans (by rw [decide_eq_true hm];rfl))))) rfl,ts,_,rfl,rfl,M⟩
   ·refine ⟨_,_,rfl,_,[.lst ((ts++[t]).map d8)],?_,ts++[t],some (d8 t),rfl,rfl,M.add tl hm⟩
    refine Eq.trans (ifT (tof (gq (cj rfl) (cj rfl) ((SRC.a2r (l:=ts) rfl).trans (by rw [decide_eq_false hm];rfl))))) ?_
    rw [List.map_append]
    exact a2b (cj rfl) rfl (arg1 (cj rfl)) (a2c (xs:=ts.map d8) rfl (by rw [List.length_map];exact a4i (by omega)))
def NI (d:D):Prop:=d = .non∨∃ k:Int,d = .int k
noncomputable def jh:SF:=p8 (yq bc dh) 5
theorem aek (h:T.Ok) {rs:List Nat} (rn:∀ r∈rs,r<T.go.length):∃ d,NI d∧Pu jh 2 [T.d, .rol (rs.map d8)] d:=by
 have n32:=h.n32
 obtain ⟨hs,hl,eh⟩:=a7k h
 have lp:=jm (g:=kN 4) (b:=vy bc dh) (fun i:Nat=>D.int ((1+i:Nat))) (fun pre τ hp=>∃ (rs:List Nat) (due:Int) (t4:Option D),τ=[some T.d,some (.rol (rs.map d8)),some (.rol (hs.map D.bl)),some (.int due),t4]∧hp=[]∧∀ r∈rs,r<T.go.length) (List.range (2*T.go.length+2 - 1)) [some T.d,some (.rol (rs.map d8)),some (.rol (hs.map D.bl)),some (.int 0),none] [] ?_ ⟨rs,0,none,rfl,rfl,rn⟩
 ·obtain ⟨τ',h',e,rs',due,t4,rfl,rfl,_⟩:=lp
  have lnh:∀ hp:Hd,vg [.rol (hs.map D.bl)] hp = .ok (d8 T.go.length) hp:=fun hp=>by rw [a1s,List.length_map,hl]
  have run:∀ d,toR (u5 (a6a (sT (s2 gLe (sV 3) (sA vg (ak (sV 2) dm)))) (sV 3) (sC .non)) [some T.d,some (.rol (rs'.map d8)),some (.rol (hs.map D.bl)),some (.int due),t4] []) = .ok d []→jh [T.d, .rol (rs.map d8)] [] = .ok d []:=fun d ed=>by
   unfold jh
   rw [iz]
   show toR (yq bc dh [some T.d,some (.rol (rs.map d8)),none,none,none] [])=_
   unfold yq
   refine Eq.trans (congrArg toR (jo (wz (cj rfl) (eh _)))) ?_
   refine Eq.trans (congrArg toR (jo (gf _ _ _))) ?_
   have em:s2 jf (s2 a1b (sC (.int 2)) (sA vg (ak (sV 2) dm))) (sC (.int 2)) [some T.d,some (.rol (rs.map d8)),some (.rol (hs.map D.bl)),some (.int 0),none] [] = .ok (d8 (2*T.go.length+2)) [] :=
    (gq (gq (gf _ _ _) (wz (cj rfl) (lnh _)) (a4f.trans (if_pos (.inl ⟨by decide,by decide⟩)))) (gf _ _ _) ue).trans (by congr 2)
   refine Eq.trans (congrArg toR (a1t (abl (a:=1) (n:=2*T.go.length+2) (gf _ _ _) em (j8 (by omega)) (j8 (by omega))))) ?_
   refine Eq.trans (congrArg (fun z=>toR (MI.thn z _)) e) ?_
   rw [zq]
   exact ed
  by_cases c:due≤(T.go.length:Int)
  ·exact ⟨.int due, .inr ⟨_,rfl⟩,Pu.of rfl (a7c Table.clo (ql (jg _))) (run _ (congrArg toR (lz (SRC.ahk (tof (gq (cj rfl) (wz (cj rfl) (lnh _)) (SRC.alh c))) (cj rfl))))) (jk (du _) (by simp)) (du _)⟩
  ·exact ⟨.non, .inl rfl,Pu.of rfl (a7c Table.clo (ql (jg _))) (run _ (congrArg toR (lz (SRC.ah2 (tof (gq (cj rfl) (wz (cj rfl) (lnh _)) (SRC.ali c))) (gf _ _ _))))) (jk a79 (by simp)) a79⟩
 ·rintro pre i post τ hp all ⟨rs,due,t4,rfl,rfl,rn⟩
  obtain ⟨ts,M,et⟩:=aha h rn
  have tl:=BF.a2q _ ts M.nd M.lt
  let p1:Nat→Bool:=fun t=>decide (0≤kI T t)
  let p2:Nat→Bool:=fun t=>decide (kI T t<0) && bg hs t
  have cf1:∀ τ:Sd,τ[0]? = some (some T.d)→τ[1]? = some (some (.rol (ts.map d8)))→sZ (v6 (sIt (sV 1)) t1 (mq bc dh) (vp bc dh) [0]) τ [] = .ok (.rol ((ts.filter p1).map d8)) []:=fun τ h0 h1=>by
   rw [← a09]
   refine zu (a3o d8 (fun t=>if p1 t=true then some (d8 t) else none) ts (a4g (cj h1) rfl) (j8 (by omega)) fun t ht=>?_) (by rw [a09];exact jg _) (by simp)
   rw [a7d,a1g,a7e,h0]
   have q:mq bc dh [some (d8 t),some T.d] [] = .ok (p1 t) []:=tof (gq (gq (gq (cj rfl) (gf _ _ _) (a9k _)) (cj rfl) (a4l h (M.lt t ht) _)) (gf _ _ _) (a9q _ _))
   show (mq bc dh [some (d8 t),some T.d] []).bind _=_
   rw [q,dg]
   cases p1 t<;>rfl
  have cf2:∀ τ:Sd,τ[0]? = some (some T.d)→τ[1]? = some (some (.rol (ts.map d8)))→τ[2]? = some (some (.rol (hs.map D.bl)))→sZ (v6 (sIt (sV 1)) t1 (my bc dh) (vq bc dh) [0,2]) τ [] = .ok (.rol ((ts.filter p2).map d8)) []:=fun τ h0 h1 h2=>by
   rw [← a09]
   refine zu (a3o d8 (fun t=>if p2 t=true then some (d8 t) else none) ts (a4g (cj h1) rfl) (j8 (by omega)) fun t ht=>?_) (by rw [a09];exact jg _) (by simp)
   rw [a7d,a1g,a1g,a7e,h0,h2]
   have q:my bc dh [some (d8 t),some T.d,some (.rol (hs.map D.bl))] [] = .ok (p2 t) []:=ah5 (tof (gq (gq (gq (cj rfl) (gf _ _ _) (a9k _)) (cj rfl) (a4l h (M.lt t ht) _)) (gf _ _ _) (ako _ _))) fun _=>xf (gq (cj rfl) (cj rfl) (ah1 (a9o (by have:=M.lt t ht;omega)))) (kh _)
   show (my bc dh [some (d8 t),some T.d,some (.rol (hs.map D.bl))] []).bind _=_
   rw [q,dg]
   cases p2 t<;>rfl
  have ne:∃ b:Bool,ahj true (.rol ((ts.filter p1).map d8)) (.rol []) [] = .ok (.bl b) []:=by
   refine ⟨!a76 ((ts.filter p1).map d8) [],?_⟩
   unfold ahj xr
   dsimp only
   rw [if_pos ⟨by rw [List.all_eq_true];intro x hx;obtain ⟨y,_,rfl⟩:=List.mem_map.mp hx;rfl,rfl⟩]
   rfl
  obtain ⟨b,eb⟩:=ne
  have zl:∀ τ:Sd,sZ (sA a3e dm) τ [] = .ok (.rol []) []:=fun τ=>zu (xs:=[]) rfl qp (by simp)
  have fin:∀ due':Int,jy 1 (sZ (v6 (sIt (sV 1)) t1 (my bc dh) (vq bc dh) [0,2])) [some T.d,some (.rol (ts.map d8)),some (.rol (hs.map D.bl)),some (.int due'),some (.int ((1+i:Nat)))] [] = .nx [some T.d,some (.rol ((ts.filter p2).map d8)),some (.rol (hs.map D.bl)),some (.int due'),some (.int ((1+i:Nat)))] []:=fun due'=>ah0 (cf2 _ rfl rfl rfl)
  have lt2:∀ r∈ts.filter p2,r<T.go.length:=fun r hr=>M.lt r (List.mem_filter.mp hr).1
  refine ⟨_,_,rfl,?_⟩
  unfold vy
  have tst:∀ τ:Sd,τ[0]? = some (some T.d)→τ[1]? = some (some (.rol (ts.map d8)))→sT (s2 (ahj true) (sZ (v6 (sIt (sV 1)) t1 (mq bc dh) (vp bc dh) [0])) (sZ (sA a3e dm))) τ [] = .ok b []:=fun τ h0 h1=>tof (gq (cf1 τ h0 h1) (zl τ) eb)
  cases b with
  | true=>exact ⟨_,_,Eq.trans (jo (yt (cj rfl) (cj rfl) (et _))) (Eq.trans (a3u (Eq.trans (ifT (tst _ rfl rfl)) (ah0 (cj rfl)))) (fin _)),ts.filter p2,_,_,rfl,rfl,lt2⟩
  | false=>exact ⟨_,_,Eq.trans (jo (yt (cj rfl) (cj rfl) (et _))) (Eq.trans (ifN (tst _ rfl rfl)) (fin _)),ts.filter p2,_,_,rfl,rfl,lt2⟩
noncomputable def bh:SF:=p8 (uo jd bc jh) 5
theorem NI.clo {d:D} (h:NI d):MI.clo 0 d:=by
 rcases h with rfl | ⟨k,rfl⟩
 ·exact a79
 ·exact du _
theorem ahb (h:T.Ok):∃ ds:List D,ds.length=T.go.length∧(∀ d∈ds,NI d)∧Pu bh 1 [T.d] (.rol ds):=by
 have n32:=h.n32
 obtain ⟨hs,hl,eh⟩:=a7k h
 obtain ⟨ms,ml,em⟩:=aca h
 have lp:=jm (g:=kN 4) (b:=u9 jd bc jh) d8 (fun pre τ hp=>∃ (ds:List D) (t4:Option D),τ=[some T.d,some (.rol (hs.map D.bl)),some (.rol (ms.map D.bl)),some (.ref 0),t4]∧hp=[.lst ds]∧ds.length=pre.length∧∀ d∈ds,NI d) (List.range T.go.length) [some T.d,some (.rol (hs.map D.bl)),some (.rol (ms.map D.bl)),some (.ref 0),none] [.lst []] ?_ ⟨[],none,rfl,rfl,rfl,by simp⟩
 ·obtain ⟨τ',h',e,ds,t4,rfl,rfl,dl,dn⟩:=lp
  rw [List.length_range] at dl
  have cl:∀ n:Nat,clos n ds:=fun n=>xu.mpr fun d hd=>a6m (Nat.zero_le n) (dn d hd).clo
  refine ⟨ds,dl,dn,Pu.of rfl (a9l Table.clo) (r:=.ok (.ref 0) [.lst ds]) ?_ (yc (Nat.le_refl _) rfl (cl 0) (by simp)) (ql (cl 0))⟩
  unfold bh
  rw [iz]
  show toR (uo jd bc jh [some T.d,none,none,none,none] [])=_
  unfold uo
  refine Eq.trans (congrArg toR (jo (wz (cj rfl) (eh _)))) ?_
  refine Eq.trans (congrArg toR (jo (wz (cj rfl) (em _)))) ?_
  refine Eq.trans (congrArg toR (jo (d:=.ref 0) (h1:=[.lst []]) rfl)) ?_
  refine Eq.trans (congrArg toR (a1t (zy (n:=T.go.length) (wz (cj rfl) (a1s.trans (by rw [List.length_map,ml]))) (j8 (by omega))))) ?_
  refine Eq.trans (congrArg (fun z=>toR (MI.thn z _)) e) ?_
  rfl
 ·rintro pre r post τ hp all ⟨ds,t4,rfl,rfl,dl,dn⟩
  obtain ⟨ri,hr⟩:=a3q all
  have add:∀ d,NI d→∃ ds':List D,ds'=ds++[d]∧ds'.length=(pre++[r]).length∧∀ x∈ds',NI x:=fun d nd=>⟨_,rfl,by rw [List.length_append,List.length_append,dl];rfl,fun x hx=>by
   rcases List.mem_append.mp hx with z | z
   ·exact dn x z
   ·rw [List.mem_singleton] at z;subst z;exact nd⟩
  have mk:yz (s2 gIx (sV 2) (sV 4)) [some T.d,some (.rol (hs.map D.bl)),some (.rol (ms.map D.bl)),some (.ref 0),some (d8 r)] [.lst ds] = .ok (bg ms r) [.lst ds]:=xf (gq (cj rfl) (cj rfl) (ah1 (a9o (by omega)))) (kh _)
  have dz:ds.length<LINE:=a4i (by omega)
  unfold u9
  cases v:bg ms r with
  | true =>
   rw [v] at mk
   obtain ⟨d,nd,ed⟩:=aek h (rs:=[r]) (by intro x hx;rw [List.mem_singleton] at hx;subst hx;exact hr)
   obtain ⟨ds',e',l',n'⟩:=add d nd
   refine ⟨_,_,rfl,_,[.lst ds'],?_,ds',some (d8 r),rfl,rfl,l',n'⟩
   have zr:∀ τ:Sd,τ[4]? = some (some (d8 r))→sZ (sA a3e (ak (sV 4) dm)) τ [.lst ds] = .ok (.rol ([r].map d8)) [.lst ds]:=fun τ h4=>zu (xs:=[d8 r]) (wz (cj h4) rfl) (ji (du _) qp) (by intro o ho;rw [List.mem_singleton] at ho;subst ho;exact xu.mpr fun d hd=>a6m (Nat.zero_le 1) (dn d hd).clo)
   rw [e']
   exact Eq.trans (ifT mk) (a2b (cj rfl) rfl (arg1 (yt (cj rfl) (zr _ rfl) (ed _))) (a2c (xs:=ds) rfl dz))
  | false =>
   rw [v] at mk
   have hp2:yz (s2 gIx (sV 1) (sV 4)) [some T.d,some (.rol (hs.map D.bl)),some (.rol (ms.map D.bl)),some (.ref 0),some (d8 r)] [.lst ds] = .ok (bg hs r) [.lst ds]:=xf (gq (cj rfl) (cj rfl) (ah1 (a9o (by omega)))) (kh _)
   cases w:bg hs r with
   | true =>
    rw [w] at hp2
    obtain ⟨ds',e',l',n'⟩:=add (.int (-2)) (.inr ⟨_,rfl⟩)
    refine ⟨_,_,rfl,_,[.lst ds'],?_,ds',some (d8 r),rfl,rfl,l',n'⟩
    rw [e']
    exact Eq.trans (ifF mk) (a2b (cj rfl) rfl (arg1 (SRC.ahk hp2 (a3p (gf _ _ _) (uz _)))) (a2c (xs:=ds) rfl dz))
   | false =>
    rw [w] at hp2
    obtain ⟨ds',e',l',n'⟩:=add (.int (-1)) (.inr ⟨_,rfl⟩)
    refine ⟨_,_,rfl,_,[.lst ds'],?_,ds',some (d8 r),rfl,rfl,l',n'⟩
    rw [e']
    exact Eq.trans (ifF mk) (a2b (cj rfl) rfl (arg1 (SRC.ah2 hp2 (a3p (gf _ _ _) (uz _)))) (a2c (xs:=ds) rfl dz))
end
end K40
namespace K40
open PySem PySem.Spec L2 MI AT HND EVX K22 K23 K21
theorem a00 {u:O} {M:Nat} (P:SRC.Src u M):∀ x∈[u],a1x 1 x:=fun x hx=>by rw [List.mem_singleton] at hx;subst hx;exact ur (by omega) P.clo
theorem zdn {u:O} {M:Nat} {τ:Sd} (P:SRC.Src u M):sZ aax τ [u] = .ok (.rod [] []) [u]:=by
 unfold sZ
 show a8b 1 (.ok (.ref 1) [u, .dK []])=_
 refine a5f (h1:=[u, .dK []]) ?_ (by simpa using a00 P)
 unfold FU a1n
 rw [if_neg (by simp only [MI.clo];omega)]
 rfl
theorem ael {d:D} (p:Pln d) (nt:isTup d=false):Th d:=⟨p,fun xs e=>by subst e;simp [isTup] at nt⟩
theorem a6r {xs:List D} (xl:xs.length≤1000) (px:∀ x∈xs,Pln x):Th (.tup xs):=⟨xu.mpr fun x hx=>(px x hx).clo,fun ys e=>by cases e;exact ⟨xl,px⟩⟩
theorem acb (i:Int):Pln (.int i):=trivial
theorem a0p (l:List Int):∀ x∈l.map D.int,Pln x:=fun x hx=>by obtain ⟨i,_,rfl⟩:=List.mem_map.mp hx;exact acb i
theorem ahc {l:List Int} (ll:l.length≤1000):Th (zsD l):=a6r (by rw [List.length_map];exact ll) (a0p l)
theorem ahd {xs:List D} {lo hi:Option Int} {x:D} (h:x∈a2d xs lo hi):x∈xs:=List.mem_of_mem_drop (List.mem_of_mem_take h)
def ahe:List D:=[.bl true, .non, .str "1", .tup [.int 1], .rol [.int 1], .rod [] [], .bl false]
theorem akx:∀ x∈ahe,Pln x:=by
 intro x hx
 simp only [ahe,List.mem_cons,List.not_mem_nil,or_false] at hx
 rcases hx with rfl | rfl | rfl | rfl | rfl | rfl | rfl<;>first | exact trivial | exact ji (du _) qp | exact qp | (show ("1" : Str).cps.toList.length≤1000;decide)
noncomputable def dj:SF:=p8 (mz SRC.aj) 4
theorem aky {o:O} {N:Nat} {l:List Int} (P:SRC.Src o N) (hN:N≤999990000) (l1:1≤l.length) (l32:l.length≤32):∃ d o',Th d∧Dr dj 2 [zsD l] o d o'∧SRC.Src o' (N+3):=by
 obtain ⟨k,o1,e1,k0,k1,P1⟩:=SRC.p6 (m:=11) P (by omega) (by omega) (by omega)
 have c1:jj false 2 SRC.aj [.ref 0, .int 11] [o] = .ok (.int k) [o1]:=e1 0 _ rfl
 have fin:∀ d u,SRC.Src u (N+3)→Th d→toR (mz SRC.aj [some (.ref 0),some (zsD l),none,none] [o]) = .ok d [u]→∃ d o',Th d∧Dr dj 2 [zsD l] o d o'∧SRC.Src o' (N+3):=fun d u Pu t e =>
  ⟨d,u,t,Dr.of rfl (a9l (a5n l)) P.clo (r:=.ok d [u]) (by unfold dj;rw [iz];exact e) (jk (a6m (Nat.zero_le 1) t.p.clo) (by simpa using a00 Pu)) t.p.clo Pu.clo,Pu⟩
 by_cases h0:k=0
 ·refine fin (.tup (l.map D.int++[.int (-1)])) o1 (P1.up (by omega)) (a6r (by rw [List.length_append,List.length_map];simp only [List.length_singleton];omega) fun x hx=>?_) ?_
  ·rcases List.mem_append.mp hx with z | z
   ·exact a0p l x z
   ·rw [List.mem_singleton] at z;subst z;exact acb _
  unfold mz
  refine Eq.trans (congrArg toR (jo (yt (cj rfl) (gf _ _ _) c1))) ?_
  exact congrArg toR (a0b (Eq.trans (ifT (tof (gq (cj rfl) (gf _ _ _) (a2g h0)))) (lz (gq (cj rfl) (wz (a3p (gf _ _ _) (uz _)) EVX.alg) (PAP.abq (by rw [List.length_map];simp only [List.length_singleton];omega))))))
 by_cases h1:k=1
 ·have cl:(a2d (l.map D.int) none (some (-1))).length≤1000:=by
   unfold a2d
   rw [List.length_take,List.length_drop,List.length_map]
   omega
  refine fin (.tup (a2d (l.map D.int) none (some (-1)))) o1 (P1.up (by omega)) (a6r cl fun x hx=>a0p l x (ahd hx)) ?_
  unfold mz
  refine Eq.trans (congrArg toR (jo (yt (cj rfl) (gf _ _ _) c1))) ?_
  refine Eq.trans (congrArg toR (ifN (tof (gq (cj rfl) (gf _ _ _) (zz h0))))) ?_
  exact congrArg toR (a0b (Eq.trans (ifT (tof (gq (cj rfl) (gf _ _ _) (a2g h1)))) (lz (ac0 (cj rfl) rfl (abz (a3p (gf _ _ _) (uz _))) (PAP.amx _ _ _ _)))))
 by_cases h2:k=2
 ·have cm:jn (sIt (sV 1)) t1 (a2a SRC.aj) [] [some (.ref 0),some (zsD l),some (.int k),none] [o1] = .ok (.ref 1) [o1, .lst (l.map D.int)]:=by
   refine p7 D.int D.int l (a4g (cj rfl) rfl) (j8 (by omega)) fun c _=>?_
   rw [uy]
   exact cj rfl
  have ci:∀ n:Nat,clos n (l.map D.int):=fun n=>gw fun x _=>du x
  have pd:Pln (.rol (l.map D.int)):=ci 0
  refine ⟨.rol (l.map D.int),o1,ael pd rfl,Dr.of rfl (a9l (a5n l)) P.clo (r:=.ok (.ref 1) [o1, .lst (l.map D.int)]) ?_ (yc (Nat.le_refl _) rfl (ci _) (by simpa using a00 P1)) pd.clo P1.clo,P1.up (by omega)⟩
  unfold dj
  rw [iz]
  show toR (mz SRC.aj [some (.ref 0),some (zsD l),none,none] [o])=_
  unfold mz
  refine Eq.trans (congrArg toR (jo (yt (cj rfl) (gf _ _ _) c1))) ?_
  refine Eq.trans (congrArg toR (ifN (tof (gq (cj rfl) (gf _ _ _) (zz h0))))) ?_
  refine Eq.trans (congrArg toR (ifN (tof (gq (cj rfl) (gf _ _ _) (zz h1))))) ?_
  exact congrArg toR (a0b (Eq.trans (ifT (tof (gq (cj rfl) (gf _ _ _) (a2g h2)))) (lz cm)))
 by_cases h3:k=3
 ·obtain ⟨x,o2,e2,x0,x1,P2⟩:=SRC.p6 (m:=3) P1 (by omega) (by omega) (by omega)
  obtain ⟨x,rfl⟩:=Int.eq_ofNat_of_zero_le x0
  have c2:jj false 2 SRC.aj [.ref 0, .int 3] [o1] = .ok (d8 x) [o2]:=e2 0 _ rfl
  have run:∀ d,[D.non, .rod [] [], .str ""][x]? = some d→toR (mz SRC.aj [some (.ref 0),some (zsD l),none,none] [o]) = .ok d [o2]:=fun d ed=>by
   unfold mz
   refine Eq.trans (congrArg toR (jo (yt (cj rfl) (gf _ _ _) c1))) ?_
   refine Eq.trans (congrArg toR (ifN (tof (gq (cj rfl) (gf _ _ _) (zz h0))))) ?_
   refine Eq.trans (congrArg toR (ifN (tof (gq (cj rfl) (gf _ _ _) (zz h1))))) ?_
   refine Eq.trans (congrArg toR (ifN (tof (gq (cj rfl) (gf _ _ _) (zz h2))))) ?_
   exact congrArg toR (a0b (Eq.trans (ifT (tof (gq (cj rfl) (gf _ _ _) (a2g h3)))) (lz (gq (acj (gf _ _ _) (zdn P1) (gf _ _ _) amv) (yt (cj rfl) (gf _ _ _) c2) (abm ed)))))
  rcases (show x=0∨x=1∨x=2 by omega) with rfl | rfl | rfl
  ·exact fin .non o2 (P2.up (by omega)) (ael trivial rfl) (run _ rfl)
  ·exact fin (.rod [] []) o2 (P2.up (by omega)) (ael (show clos 0 [] from qp) rfl) (run _ rfl)
  ·exact fin (.str "") o2 (P2.up (by omega)) (ael (show ("" : Str).cps.toList.length≤1000 by decide) rfl) (run _ rfl)
 ·obtain ⟨a,o2,e2,a0,a1,P2⟩:=SRC.p6 (m:=(l.length:Int)) P1 (by omega) (by omega) (by omega)
  obtain ⟨a,rfl⟩:=Int.eq_ofNat_of_zero_le a0
  have c2:jj false 2 SRC.aj [.ref 0, .int (l.length:Int)] [o1] = .ok (d8 a) [o2]:=e2 0 _ rfl
  obtain ⟨w,hw,w7⟩:∃ w:Nat,k - 4=(w:Int)∧w<7:=⟨(k - 4).toNat,by omega,by omega⟩
  have w7':w<ahe.length:=w7
  have ex:ahe[w]? = some ahe[w]:=List.getElem?_eq_getElem w7'
  have px:=akx _ (List.getElem_mem w7')
  generalize ahe[w]=x at ex px
  refine fin (.tup ((l.map D.int).take a++[x]++(l.map D.int).drop (a+1))) o2 (P2.up (by omega)) (a6r ?_ fun y hy=>?_) ?_
  ·simp only [List.length_append,List.length_take,List.length_drop,List.length_singleton,List.length_map];omega
  ·rcases List.mem_append.mp hy with z | z
   ·rcases List.mem_append.mp z with z | z
    ·exact a0p l y (List.mem_of_mem_take z)
    ·rw [List.mem_singleton] at z;subst z;exact px
   ·exact a0p l y (List.mem_of_mem_drop z)
  unfold mz
  refine Eq.trans (congrArg toR (jo (yt (cj rfl) (gf _ _ _) c1))) ?_
  refine Eq.trans (congrArg toR (ifN (tof (gq (cj rfl) (gf _ _ _) (zz h0))))) ?_
  refine Eq.trans (congrArg toR (ifN (tof (gq (cj rfl) (gf _ _ _) (zz h1))))) ?_
  refine Eq.trans (congrArg toR (ifN (tof (gq (cj rfl) (gf _ _ _) (zz h2))))) ?_
  refine Eq.trans (congrArg toR (ifN (tof (gq (cj rfl) (gf _ _ _) (zz h3))))) ?_
  refine Eq.trans (congrArg toR (jo (yt (cj rfl) (wz (cj rfl) (uc.trans (by rw [List.length_map]))) c2))) ?_
  have od:∀ τ:Sd,sA a0q (ak (sC (.bl true)) (ak (sC .non) (ak (sC (.str "1")) (ak (sA a0q (ak (sC (.int 1)) dm)) (ak (sZ (sA a3e (ak (sC (.int 1)) dm))) (ak (sZ aax) (ak (sC (.bl false)) dm))))))) τ [o2] = .ok (.tup ahe) [o2]:=fun τ=>by
   have zl:sZ (sA a3e (ak (sC (.int 1)) dm)) τ [o2] = .ok (.rol [.int 1]) [o2]:=zu (xs:=[.int 1]) rfl (ji (du _) qp) (a00 P2)
   have ar:=yx (τ:=τ) (gf (.bl true) τ [o2]) (yx (gf .non τ [o2]) (yx (gf (.str "1") τ [o2]) (yx (wz (gf (.int 1) τ [o2]) EVX.alg) (yx zl (yx (zdn (τ:=τ) P2) (yx (gf (.bl false) τ [o2]) (show dm τ [o2] = .ok [] [o2] from rfl)))))))
   rw [ape ar]
   unfold MI.a0q
   rw [if_pos (j8 (by simp))]
   rfl
  exact congrArg toR (lz (gq (gq (ac0 (cj rfl) rfl (abz (cj rfl)) (PAP.ao0 _ a _)) (wz (gq (od _) (gq (cj rfl) (gf _ _ _) ((a4h _ _).trans (by rw [hw]))) (abm ex)) EVX.alg) (PAP.abq (by rw [List.length_take,List.length_map];simp only [List.length_singleton];omega))) (ac0 (cj rfl) (abz (gq (cj rfl) (gf _ _ _) ue)) rfl (PAP.af9 _ (a+1) _)) (PAP.abq (by simp only [List.length_append,List.length_take,List.length_drop,List.length_singleton,List.length_map];omega))))
end K40
namespace K40
open PySem PySem.Spec L2 MI AT HND EVX K22 K23 K21
theorem a2t (p:Nat→Bool) (f:Nat→Int):∀ l:List Nat,(l.filterMap fun i=>if p i=true then some (D.int (f i)) else none)=((l.filter p).map f).map D.int
 | []=>rfl
 | i::l=>by
  cases h:p i with
  | true=>rw [List.filterMap_cons_some (b:=D.int (f i)) (by rw [h];rfl),List.filter_cons_of_pos h,a2t p f l];rfl
  | false=>rw [List.filterMap_cons_none (by rw [h];rfl),List.filter_cons_of_neg (by rw [h];simp),a2t p f l]
noncomputable def aem:SF:=p8 (aea SRC.aj bh bw dj cz SRC.bz SRC.cu au) 11
def toZ:D→Int | .int k=>k | _=>3
theorem akz (ns:List Int):∃ h',K40.aem [.scr (ns.map D.int)] [] = .ok (.bl true) h':=by
 obtain ⟨o,P,e0⟩:=SRC.abn ns []
 obtain ⟨a,o1,e1,a0,a1,P1⟩:=SRC.p6 (m:=4) P (by omega) (by omega) (by omega)
 obtain ⟨b,o2,e2,b0,b1,P2⟩:=SRC.p6 (m:=4) P1 (by omega) (by omega) (by omega)
 obtain ⟨T,o3,hT,e3,P3⟩:=SRC.aeh (most:=16) P2 (by omega) (by omega) (by omega)
 obtain ⟨a,rfl⟩:=Int.eq_ofNat_of_zero_le a0
 obtain ⟨ds,dl,dn,ed⟩:=ahb hT
 have n32:=hT.n32
 have n1:=hT.n1
 have c1:jj false 2 SRC.aj [.ref 0, .int 4] [o] = .ok (d8 a) [o1]:=e1 0 _ rfl
 have c2:jj false 2 SRC.aj [.ref 0, .int 4] [o1] = .ok (.int b) [o2]:=e2 0 _ rfl
 have c3:jj false 2 SRC.cu [.ref 0, .int 16] [o2] = .ok T.d [o3]:=e3 0 _ rfl
 obtain ⟨st,es⟩:∃ st:Int,gIx (.tup [.int 1, .int (-1), .int 2, .int (-2)]) (d8 a) [o1] = .ok (.int st) [o1]:=by
  rcases (show a=0∨a=1∨a=2∨a=3 by omega) with rfl | rfl | rfl | rfl
  ·exact ⟨_,abm rfl⟩
  ·exact ⟨_,abm rfl⟩
  ·exact ⟨_,abm rfl⟩
  ·exact ⟨_,abm rfl⟩
 let l:List Int:=ds.map toZ
 have ll:l.length=T.go.length:=(List.length_map _).trans dl
 have F8:∀ {d:D},Th d→∀ m:Int,∃ b:Bool,(∀ hp:Hd,jj false 3 au [T.d, .int m,d] hp = .ok (.bl b) hp)∧∀ hp:Hd,jj false 3 bw [T.d, .int m,d] hp = .ok (.bl b) hp:=fun t m=>asked hT t m
 let τ1:Int→Option D→Option D→Option D→Option D→Sd:=fun mx t7 t8 t9 t10=>[some (.scr (ns.map D.int)),some (.ref 0),some (.int st),some (.int (b - 1)),some T.d,some (zsD l),some (.int mx),t7,t8,t9,t10]
 have ask:∀ {d:D} (t:Th d) (τ:Sd) (i j:Nat) (m:Int) (hp:Hd),τ[4]? = some (some T.d)→τ[i]? = some (some (.int m))→τ[j]? = some (some d)→sA (jj false 2 cz) (ak (sA (jj false 3 au) (ak (sV 4) (ak (sV i) (ak (sV j) dm)))) (ak (sA (jj false 3 bw) (ak (sV 4) (ak (sV i) (ak (sV j) dm)))) dm)) τ hp = .ok (.bl true) hp:=fun t τ i j m hp h4 hi hj=>by
  obtain ⟨b,q1,q2⟩:=F8 t m
  exact yt (acj (cj h4) (cj hi) (cj hj) (q1 _)) (acj (cj h4) (cj hi) (cj hj) (q2 _)) (ac6 b _)
 have tl:Th (zsD l):=ahc (by omega)
 have L3:∀ (mx nu:Int) (t8 t9 t10:Option D) (u:O),∃ t8' t9':Option D,forL (fun _=>True) (kN 8) (a2n SRC.aj bh bw dj cz SRC.bz SRC.cu au) ((List.range T.go.length).map d8) (τ1 mx (some (.int nu)) t8 t9 t10) [u] = .nx (τ1 mx (some (.int nu)) t8' t9' t10) [u]:=fun mx nu t8 t9 t10 u=>by
  have lp:=jm (g:=kN 8) (b:=a2n SRC.aj bh bw dj cz SRC.bz SRC.cu au) d8 (fun pre τ hp=>∃ t8 t9:Option D,τ=τ1 mx (some (.int nu)) t8 t9 t10∧hp=[u]) (List.range T.go.length) (τ1 mx (some (.int nu)) t8 t9 t10) [u] ?_ ⟨t8,t9,rfl,rfl⟩
  ·obtain ⟨τ',h',e,t8',t9',rfl,rfl⟩:=lp
   exact ⟨t8',t9',e⟩
  ·rintro pre r post τ hp all ⟨t8,t9,rfl,rfl⟩
   have hr:r<T.go.length:=List.mem_range.mp (by rw [all];simp)
   let d9:D:=.tup ((l.map D.int).take r++[.int (ig l r+st)]++(l.map D.int).drop (r+1))
   have t9':Th d9:=a6r (by simp only [List.length_append,List.length_take,List.length_drop,List.length_singleton,List.length_map];omega) fun y hy=>by
    rcases List.mem_append.mp hy with z | z
    ·rcases List.mem_append.mp z with z | z
     ·exact a0p l y (List.mem_of_mem_take z)
     ·rw [List.mem_singleton] at z;subst z;exact acb _
    ·exact a0p l y (List.mem_of_mem_drop z)
   refine ⟨_,_,rfl,τ1 mx (some (.int nu)) (some (d8 r)) (some d9) t10,[u],?_,_,_,rfl,rfl⟩
   unfold a2n
   refine Eq.trans (jo (gq (gq (ac0 (cj rfl) rfl (abz (cj rfl)) (PAP.ao0 _ r _)) (wz (gq (gq (cj rfl) (cj rfl) (ac2 (by omega) _)) (cj rfl) ue) EVX.alg) (PAP.abq (by rw [List.length_take,List.length_map];simp only [List.length_singleton];omega))) (ac0 (cj rfl) (abz (gq (cj rfl) (gf _ _ _) ue)) rfl (PAP.af9 _ (r+1) _)) (PAP.abq (by simp only [List.length_append,List.length_take,List.length_drop,List.length_singleton,List.length_map];omega)))) ?_
   exact Eq.trans (ifF (akb (xf (ask t9' _ 7 9 nu _ rfl rfl rfl) (kh _)))) rfl
 have L4:∀ (mx nu:Int) (t8 t9 t10:Option D) (u:O) (M:Nat),SRC.Src u M→M≤999990000→∃ (t8' t9' t10':Option D) (u':O),a2o SRC.aj bh bw dj cz SRC.bz SRC.cu au (τ1 mx (some (.int nu)) t8 t9 t10) [u] = .nx (τ1 mx (some (.int nu)) t8' t9' t10') [u']∧SRC.Src u' (M+3):=fun mx nu t8 t9 t10 u M Pu hM=>by
  obtain ⟨t8',t9',e5⟩:=L3 mx nu t8 t9 t10 u
  obtain ⟨d,u',td,e6,P6⟩:=aky (l:=l) Pu hM (by omega) (by omega)
  have c6:jj false 2 dj [.ref 0,zsD l] [u] = .ok d [u']:=e6 0 _ rfl
  refine ⟨t8',t9',some d,u',?_,P6⟩
  unfold a2o
  refine Eq.trans (ifN (akb (xf (ask tl _ 7 5 nu _ rfl rfl rfl) (kh _)))) ?_
  refine Eq.trans (a1t (zy (n:=T.go.length) (wz (cj rfl) (uc.trans (by rw [List.length_map,ll]))) (j8 (by omega)))) ?_
  refine Eq.trans (congrArg (fun z=>MI.thn z _) e5) ?_
  rw [zq]
  refine Eq.trans (jo (yt (cj rfl) (cj rfl) c6)) ?_
  exact Eq.trans (ifF (akb (xf (ask td _ 7 10 nu _ rfl rfl rfl) (kh _)))) rfl
 let p:Nat→Bool:=fun r=>decide (0≤kI T r)
 let xs:List Int:=[0]++((List.range T.go.length).filter p).map (ig l)
 let mx:Int:=mxI xs
 have lp:=jm (g:=kN 7) (b:=a2o SRC.aj bh bw dj cz SRC.bz SRC.cu au) D.int (fun pre τ hp=>∃ (t7 t8 t9 t10:Option D) (u:O),τ=τ1 mx t7 t8 t9 t10∧hp=[u]∧SRC.Src u (1000+3*pre.length)) [mx,(if mx+(b - 1) > 0 then mx+(b - 1) else 0),(if mx - 1 > 0 then mx - 1 else 0)] (τ1 mx none none none none) [o3] ?_ ⟨none,none,none,none,o3,rfl,rfl,P3.up (by omega)⟩
 ·obtain ⟨τ',h',e,t7,t8,t9,t10,u,rfl,rfl,Pu⟩:=lp
  refine ⟨[u],?_⟩
  unfold K40.aem
  rw [iz]
  show toR (aea SRC.aj bh bw dj cz SRC.bz SRC.cu au [some (.scr (ns.map D.int)),none,none,none,none,none,none,none,none,none,none] [])=_
  unfold aea
  refine Eq.trans (congrArg toR (jo (wz (cj rfl) e0))) ?_
  have q4:∀ τ:Sd,sA a0q (ak (sC (.int 1)) (ak (s1 a0a (sC (.int 1))) (ak (sC (.int 2)) (ak (s1 a0a (sC (.int 2))) dm)))) τ [o] = .ok (.tup [.int 1, .int (-1), .int 2, .int (-2)]) [o]:=fun τ=>amw (gf _ _ _) (a3p (gf _ _ _) (uz _)) (gf _ _ _) (a3p (gf _ _ _) (uz _)) (by unfold MI.a0q;rw [if_pos (j8 (by simp))])
  refine Eq.trans (congrArg toR (jo (gq (q4 _) (yt (cj rfl) (gf _ _ _) c1) es))) ?_
  refine Eq.trans (congrArg toR (jo (gq (yt (cj rfl) (gf _ _ _) c2) (gf _ _ _) (a4h _ _)))) ?_
  refine Eq.trans (congrArg toR (jo (yt (cj rfl) (gf _ _ _) c3))) ?_
  have z5:∀ τ:Sd,τ[4]? = some (some T.d)→sZ (jn (sIt (sA (jj false 1 bh) (ak (sV 4) dm))) t1 (a5g SRC.aj bh bw dj cz SRC.bz SRC.cu au) []) τ [o3] = .ok (.rol (l.map D.int)) [o3]:=fun τ h4=>by
   show _=R.ok (D.rol ((ds.map toZ).map D.int)) [o3]
   rw [List.map_map]
   have it:sIt (sA (jj false 1 bh) (ak (sV 4) dm)) τ [o3] = .ok ⟨ds.map id,fun _=>True⟩ [o3]:=by rw [List.map_id];exact a4g (wz (cj h4) (ed _)) rfl
   refine zu (p7 id (D.int ∘ toZ) ds it (j8 (by omega)) fun d hd=>?_) (gw fun y _=>du _) (a00 P3)
   rw [uy]
   unfold a5g
   show a6a _ _ _ [some d] [o3] = .ok (.int (toZ d)) [o3]
   rcases dn d hd with rfl | ⟨k,rfl⟩
   ·exact SRC.ahk (tof (gq (cj rfl) (gf _ _ _) (show gIs .non .non [o3] = .ok (.bl true) [o3] from rfl))) (gf _ _ _)
   ·exact SRC.ah2 (tof (gq (cj rfl) (gf _ _ _) (show gIs (.int k) .non [o3] = .ok (.bl false) [o3] from rfl))) (cj rfl)
  refine Eq.trans (congrArg toR (jo (wz (z5 _ rfl) (show sy [.rol (l.map D.int)] [o3] = .ok (zsD l) [o3] from rfl)))) ?_
  have z6:∀ τ:Sd,τ[4]? = some (some T.d)→τ[5]? = some (some (zsD l))→sZ (v6 (sRg v4 (ak (sA vg (ak (sV 5) dm)) dm)) t1 (a1e SRC.aj bh bw dj cz SRC.bz SRC.cu au) (a1d SRC.aj bh bw dj cz SRC.bz SRC.cu au) [4,5]) τ [o3] = .ok (.rol ((((List.range T.go.length).filter p).map (ig l)).map D.int)) [o3]:=fun τ h4 h5=>by
   rw [← a2t]
   refine zu (a3o d8 (fun r=>if p r=true then some (D.int (ig l r)) else none) (List.range T.go.length) (zy (n:=T.go.length) (wz (cj h5) (uc.trans (by rw [List.length_map,ll]))) (j8 (by omega))) (j8 (by rw [List.length_range];omega)) fun r hr=>?_) (by rw [a2t];exact gw fun y _=>du _) (a00 P3)
   have hr':=List.mem_range.mp hr
   rw [a7d,a1g,a1g,a7e,h4,h5]
   have q:a1e SRC.aj bh bw dj cz SRC.bz SRC.cu au [some (d8 r),some T.d,some (zsD l)] [o3] = .ok (p r) [o3]:=tof (gq (gq (gq (cj rfl) (gf _ _ _) (a9k _)) (cj rfl) (a4l hT hr' _)) (gf _ _ _) (a9q _ _))
   have q2:a1d SRC.aj bh bw dj cz SRC.bz SRC.cu au [some (d8 r),some T.d,some (zsD l)] [o3] = .ok (.int (ig l r)) [o3]:=gq (cj rfl) (cj rfl) (ac2 (by omega) _)
   show (a1e SRC.aj bh bw dj cz SRC.bz SRC.cu au [some (d8 r),some T.d,some (zsD l)] [o3]).bind _=_
   rw [q,dg]
   cases p r with
   | true =>
    show (a1d SRC.aj bh bw dj cz SRC.bz SRC.cu au [some (d8 r),some T.d,some (zsD l)] [o3]).bind _=_
    rw [q2,dg];rfl
   | false=>rfl
  have z0:∀ τ:Sd,sZ (sA a3e (ak (sC (.int 0)) dm)) τ [o3] = .ok (.rol [.int 0]) [o3]:=fun τ=>zu (xs:=[.int 0]) rfl (ji (du _) qp) (a00 P3)
  have z7:∀ τ:Sd,τ[4]? = some (some T.d)→τ[5]? = some (some (zsD l))→sZ (s2 jf (sZ (sA a3e (ak (sC (.int 0)) dm))) (sZ (v6 (sRg v4 (ak (sA vg (ak (sV 5) dm)) dm)) t1 (a1e SRC.aj bh bw dj cz SRC.bz SRC.cu au) (a1d SRC.aj bh bw dj cz SRC.bz SRC.cu au) [4,5]))) τ [o3] = .ok (.rol (xs.map D.int)) [o3]:=fun τ h4 h5=>by
   refine zu (gq (z0 τ) (z6 τ h4 h5) ?_) (gw fun y _=>du _) (a00 P3)
   have fl:=List.length_filter_le p (List.range T.go.length)
   rw [List.length_range] at fl
   rw [ab9 (xs:=[.int 0]) (ys:=(((List.range T.go.length).filter p).map (ig l)).map D.int) rfl rfl,if_pos (j8 (by rw [List.length_map,List.length_map];simp only [List.length_singleton];omega))]
   rfl
  refine Eq.trans (congrArg toR (jo (wz (z7 _ rfl rfl) (ajn (by simp [xs]))))) ?_
  have g2:∀ (x:Int) (hp:Hd),a4z [.int 0, .int x] hp = .ok (.int (if x > 0 then x else 0)) hp:=fun x hp=>rfl
  refine Eq.trans (congrArg toR (a1t (a4g (acj (cj rfl) (yt (gf _ _ _) (gq (cj rfl) (cj rfl) ue) (g2 _ _)) (yt (gf _ _ _) (gq (cj rfl) (gf _ _ _) (a4h _ _)) (g2 _ _)) amv) rfl))) ?_
  refine Eq.trans (congrArg (fun z=>toR (MI.thn z _)) e) ?_
  rw [zq]
  have p20:∀ hp:Hd,a6v (.int 10) (.int 20) hp = .ok (.int ((10:Int) ^ (20:Int).toNat)) hp:=fun hp=>agv ⟨by decide,by decide,by decide⟩
  generalize (10:Int) ^ (20:Int).toNat=big at p20
  obtain ⟨bb,q1,q2⟩:=F8 tl (mx+big)
  refine Eq.trans (congrArg toR (ifN (akb (xf (yt (acj (cj rfl) (gq (cj rfl) (gq (gf _ _ _) (gf _ _ _) (p20 _)) ue) (cj rfl) (q1 _)) (acj (cj rfl) (gq (cj rfl) (gq (gf _ _ _) (gf _ _ _) (p20 _)) ue) (cj rfl) (q2 _)) (ac6 bb _)) (kh _))))) ?_
  exact congrArg toR (lz (ask tl _ 6 5 mx _ rfl rfl rfl))
 ·rintro pre nu post τ hp all ⟨t7,t8,t9,t10,u,rfl,rfl,Pu⟩
  have pl:pre.length<3:=by have:=congrArg List.length all;simp at this;omega
  obtain ⟨t8',t9',t10',u',e,P'⟩:=L4 mx nu t8 t9 t10 u _ Pu (by omega)
  exact ⟨_,_,rfl,_,_,e,some (.int nu),t8',t9',t10',u',rfl,rfl,P'.up (by rw [List.length_append,List.length_singleton];omega)⟩
end K40
namespace L2
open PySem PySem.Spec PySem.W PyProof.Rows
end L2
namespace K40
open PySem PySem.Spec L2 MI
def aen (K:PySem.W.Frag):Sp:=fun vs H Q _=>∃ (a:Addr) (ns:List Int),vs=[.ref a]∧SqF K H a (ns.map V.int)∧ns.length≤63∧∀ H',Q (.bl true) H'
theorem a6s {K:PySem.W.Frag} {ι:List Addr} {H:Hp}:∀ ns:List Int,Reps K ι H (ns.map V.int) (ns.map D.int)
 | []=>.nil
 | n::ns=>.cons (.int n) (a6s ns)
theorem al0 {K:PySem.W.Frag} (vs:List V) (H:Hp) (Q:VK) (E:XK) (h:aen K vs H Q E):qj K 1 K40.aem vs H Q E:=by
 obtain ⟨a,ns,rfl,hS,hl,q⟩:=h
 obtain ⟨h',e⟩:=K40.akz ns
 refine ⟨rfl,[],[.scr (ns.map D.int)],[], .cons (.scr hS (a6s ns)) .nil,⟨List.nodup_nil,rfl,fun i a o z=>by simp at z⟩,?_⟩
 rw [e]
 intro ι' H' b g r hr
 cases r
 exact q H'
theorem al1 {K:PySem.W.Frag} {H:Hp} {a:Addr} {vs:List V} (hO:Only H) (hS:SqL K H a vs):SqF K H a vs:=by
 rcases hS with r | r
 ·rcases r with r | ⟨o,r⟩
  ·rcases hO a with z | ⟨o,xs,z⟩<;>rw [z] at r<;>cases r
  ·exact .inl ⟨o,r⟩
 ·exact .inr (.inr r)
abbrev fo (x:Str) (t:Stmt) (kV dc pm:Value) (an:Option Addr) (cd ct:Value):=PySem.W.fnOf x x (a1j t) (iw t) (az t) .none kV dc pm an cd ct
theorem al2 {l:PySem.W.OpenLaw} {w:World} {K:PySem.W.Frag} {h:Heap} {mg:Str→Option Value} {fa f1 f2 f3 f4 f5 f6 f7 f8 f9 f10 f11 f12 f13 f14 f15 f16 f17 f18 f19 f20 f21 f22:Addr} (X:K.In h) (G:h.Ns mainGlobals mg) (hfa:mg "law" = some (.ref fa))
  {od1 an1 od2 an2 od3 an3 od4 an4 od5 an5 od6 an6 od7 an7 od8 an8 od9 an9 od10 an10 od11 an11 od12 an12 od13 an13 od14 an14 od15 an15 od16 an16 od17 an17 od18 an18 od19 an19 od20 an20 od21 an21 od22 an22:Option Addr} {sl1 sl2 sl3 sl4 sl5 sl6 sl7 sl8 sl9 sl10 sl11 sl12 sl13 sl14 sl15 sl16 sl17 sl18 sl19 sl20 sl21 sl22:Array (Option Value)} {oc1 kV1 dc1 pm1 cd1 ct1 oc2 kV2 dc2 pm2 cd2 ct2 oc3 kV3 dc3 pm3 cd3 ct3 oc4 kV4 dc4 pm4 cd4 ct4 oc5 kV5 dc5 pm5 cd5 ct5 oc6 kV6 dc6 pm6 cd6 ct6 oc7 kV7 dc7 pm7 cd7 ct7 oc8 kV8 dc8 pm8 cd8 ct8 oc9 kV9 dc9 pm9 cd9 ct9 oc10 kV10 dc10 pm10 cd10 ct10 oc11 kV11 dc11 pm11 cd11 ct11 oc12 kV12 dc12 pm12 cd12 ct12 oc13 kV13 dc13 pm13 cd13 ct13 oc14 kV14 dc14 pm14 cd14 ct14 oc15 kV15 dc15 pm15 cd15 ct15 oc16 kV16 dc16 pm16 cd16 ct16 oc17 kV17 dc17 pm17 cd17 ct17 oc18 kV18 dc18 pm18 cd18 ct18 oc19 kV19 dc19 pm19 cd19 ct19 oc20 kV20 dc20 pm20 cd20 ct20 oc21 kV21 dc21 pm21 cd21 ct21 oc22 kV22 dc22 pm22 cd22 ct22:Value}
  (a1:PySem.W.nsIn K mainGlobals "is_number" = some (some (.ref f1))) (l1:K.lookup f1=some ⟨oc1,od1, .func (fo "is_number" (top 1) kV1 dc1 pm1 an1 cd1 ct1),sl1⟩) (c1:PySem.W.codeIn K cd1 "is_number" = true) (k1:PySem.W.keepIn K (.ref f1)=true)
  (a2:PySem.W.nsIn K mainGlobals "is_row" = some (some (.ref f2))) (l2:K.lookup f2=some ⟨oc2,od2, .func (fo "is_row" (top 2) kV2 dc2 pm2 an2 cd2 ct2),sl2⟩) (c2:PySem.W.codeIn K cd2 "is_row" = true) (k2:PySem.W.keepIn K (.ref f2)=true)
  (a3:PySem.W.nsIn K mainGlobals "heights_hold" = some (some (.ref f3))) (l3:K.lookup f3=some ⟨oc3,od3, .func (fo "heights_hold" (top 4) kV3 dc3 pm3 an3 cd3 ct3),sl3⟩) (c3:PySem.W.codeIn K cd3 "heights_hold" = true) (k3:PySem.W.keepIn K (.ref f3)=true)
  (a4:PySem.W.nsIn K mainGlobals "height_holds" = some (some (.ref f4))) (l4:K.lookup f4=some ⟨oc4,od4, .func (fo "height_holds" (top 5) kV4 dc4 pm4 an4 cd4 ct4),sl4⟩) (c4:PySem.W.codeIn K cd4 "height_holds" = true) (k4:PySem.W.keepIn K (.ref f4)=true)
  (a5:PySem.W.nsIn K mainGlobals "may_lead" = some (some (.ref f5))) (l5:K.lookup f5=some ⟨oc5,od5, .func (fo "may_lead" (top 6) kV5 dc5 pm5 an5 cd5 ct5),sl5⟩) (c5:PySem.W.codeIn K cd5 "may_lead" = true) (k5:PySem.W.keepIn K (.ref f5)=true)
  (a6:PySem.W.nsIn K mainGlobals "_law_said" = some (some (.ref f6))) (l6:K.lookup f6=some ⟨oc6,od6, .func (fo "_law_said" (top 8) kV6 dc6 pm6 an6 cd6 ct6),sl6⟩) (c6:PySem.W.codeIn K cd6 "_law_said" = true) (k6:PySem.W.keepIn K (.ref f6)=true)
  (a7:PySem.W.nsIn K mainGlobals "_law_source" = some (some (.ref f7))) (l7:K.lookup f7=some ⟨oc7,od7, .func (fo "_law_source" (top 9) kV7 dc7 pm7 an7 cd7 ct7),sl7⟩) (c7:PySem.W.codeIn K cd7 "_law_source" = true) (k7:PySem.W.keepIn K (.ref f7)=true)
  (a8:PySem.W.nsIn K mainGlobals "_law_draw" = some (some (.ref f8))) (l8:K.lookup f8=some ⟨oc8,od8, .func (fo "_law_draw" (top 10) kV8 dc8 pm8 an8 cd8 ct8),sl8⟩) (c8:PySem.W.codeIn K cd8 "_law_draw" = true) (k8:PySem.W.keepIn K (.ref f8)=true)
  (a9:PySem.W.nsIn K mainGlobals "_law_signs" = some (some (.ref f9))) (l9:K.lookup f9=some ⟨oc9,od9, .func (fo "_law_signs" (top 11) kV9 dc9 pm9 an9 cd9 ct9),sl9⟩) (c9:PySem.W.codeIn K cd9 "_law_signs" = true) (k9:PySem.W.keepIn K (.ref f9)=true)
  (a10:PySem.W.nsIn K mainGlobals "_law_tongue" = some (some (.ref f10))) (l10:K.lookup f10=some ⟨oc10,od10, .func (fo "_law_tongue" (top 12) kV10 dc10 pm10 an10 cd10 ct10),sl10⟩) (c10:PySem.W.codeIn K cd10 "_law_tongue" = true) (k10:PySem.W.keepIn K (.ref f10)=true)
  (a11:PySem.W.nsIn K mainGlobals "_law_rooms" = some (some (.ref f11))) (l11:K.lookup f11=some ⟨oc11,od11, .func (fo "_law_rooms" (top 13) kV11 dc11 pm11 an11 cd11 ct11),sl11⟩) (c11:PySem.W.codeIn K cd11 "_law_rooms" = true) (k11:PySem.W.keepIn K (.ref f11)=true)
  (a12:PySem.W.nsIn K mainGlobals "_law_table" = some (some (.ref f12))) (l12:K.lookup f12=some ⟨oc12,od12, .func (fo "_law_table" (top 14) kV12 dc12 pm12 an12 cd12 ct12),sl12⟩) (c12:PySem.W.codeIn K cd12 "_law_table" = true) (k12:PySem.W.keepIn K (.ref f12)=true)
  (a13:PySem.W.nsIn K mainGlobals "_law_hope" = some (some (.ref f13))) (l13:K.lookup f13=some ⟨oc13,od13, .func (fo "_law_hope" (top 15) kV13 dc13 pm13 an13 cd13 ct13),sl13⟩) (c13:PySem.W.codeIn K cd13 "_law_hope" = true) (k13:PySem.W.keepIn K (.ref f13)=true)
  (a14:PySem.W.nsIn K mainGlobals "_law_next" = some (some (.ref f14))) (l14:K.lookup f14=some ⟨oc14,od14, .func (fo "_law_next" (top 16) kV14 dc14 pm14 an14 cd14 ct14),sl14⟩) (c14:PySem.W.codeIn K cd14 "_law_next" = true) (k14:PySem.W.keepIn K (.ref f14)=true)
  (a15:PySem.W.nsIn K mainGlobals "_law_reach" = some (some (.ref f15))) (l15:K.lookup f15=some ⟨oc15,od15, .func (fo "_law_reach" (top 17) kV15 dc15 pm15 an15 cd15 ct15),sl15⟩) (c15:PySem.W.codeIn K cd15 "_law_reach" = true) (k15:PySem.W.keepIn K (.ref f15)=true)
  (a16:PySem.W.nsIn K mainGlobals "_law_behind" = some (some (.ref f16))) (l16:K.lookup f16=some ⟨oc16,od16, .func (fo "_law_behind" (top 18) kV16 dc16 pm16 an16 cd16 ct16),sl16⟩) (c16:PySem.W.codeIn K cd16 "_law_behind" = true) (k16:PySem.W.keepIn K (.ref f16)=true)
  (a17:PySem.W.nsIn K mainGlobals "_law_heights" = some (some (.ref f17))) (l17:K.lookup f17=some ⟨oc17,od17, .func (fo "_law_heights" (top 19) kV17 dc17 pm17 an17 cd17 ct17),sl17⟩) (c17:PySem.W.codeIn K cd17 "_law_heights" = true) (k17:PySem.W.keepIn K (.ref f17)=true)
  (a18:PySem.W.nsIn K mainGlobals "_law_numbers" = some (some (.ref f18))) (l18:K.lookup f18=some ⟨oc18,od18, .func (fo "_law_numbers" (top 20) kV18 dc18 pm18 an18 cd18 ct18),sl18⟩) (c18:PySem.W.codeIn K cd18 "_law_numbers" = true) (k18:PySem.W.keepIn K (.ref f18)=true)
  (a19:PySem.W.nsIn K mainGlobals "_law_room_holds" = some (some (.ref f19))) (l19:K.lookup f19=some ⟨oc19,od19, .func (fo "_law_room_holds" (top 21) kV19 dc19 pm19 an19 cd19 ct19),sl19⟩) (c19:PySem.W.codeIn K cd19 "_law_room_holds" = true) (k19:PySem.W.keepIn K (.ref f19)=true)
  (a20:PySem.W.nsIn K mainGlobals "_law_holds" = some (some (.ref f20))) (l20:K.lookup f20=some ⟨oc20,od20, .func (fo "_law_holds" (top 22) kV20 dc20 pm20 an20 cd20 ct20),sl20⟩) (c20:PySem.W.codeIn K cd20 "_law_holds" = true) (k20:PySem.W.keepIn K (.ref f20)=true)
  (a21:PySem.W.nsIn K mainGlobals "_law_odd" = some (some (.ref f21))) (l21:K.lookup f21=some ⟨oc21,od21, .func (fo "_law_odd" (top 23) kV21 dc21 pm21 an21 cd21 ct21),sl21⟩) (c21:PySem.W.codeIn K cd21 "_law_odd" = true) (k21:PySem.W.keepIn K (.ref f21)=true)
  (a22:PySem.W.nsIn K mainGlobals "law" = some (some (.ref f22))) (l22:K.lookup f22=some ⟨oc22,od22, .func (fo "law" (top 24) kV22 dc22 pm22 an22 cd22 ct22),sl22⟩) (c22:PySem.W.codeIn K cd22 "law" = true) (k22:PySem.W.keepIn K (.ref f22)=true)
  (z1:PySem.W.nsIn K mainGlobals "abs" = some none) (z2:PySem.W.nsIn K mainGlobals "all" = some none) (z3:PySem.W.nsIn K mainGlobals "bool" = some none) (z4:PySem.W.nsIn K mainGlobals "int" = some none) (z5:PySem.W.nsIn K mainGlobals "isinstance" = some none) (z6:PySem.W.nsIn K mainGlobals "len" = some none) (z7:PySem.W.nsIn K mainGlobals "max" = some none) (z8:PySem.W.nsIn K mainGlobals "min" = some none) (z9:PySem.W.nsIn K mainGlobals "range" = some none) (z10:PySem.W.nsIn K mainGlobals "sorted" = some none) (z11:PySem.W.nsIn K mainGlobals "sum" = some none) (z12:PySem.W.nsIn K mainGlobals "tuple" = some none)  :
  ∃ fd:FuncData,(∀ (s:Shared) (v:Value),BindsTo s fd ⟨[v],[]⟩ [("_law_script",v)])∧∀ base:Heap,K.In base→base.Ns mainGlobals mg→FnOk l.prog w K mg base CX0 4 fa fd ["_law_script"] (aen K):=by
 have e:=hfa.symm.trans (PySem.W.mg_of X G a22)
 cases e
 have F1:=m5 (st:=top 1) l1 c1 k1
 have b1:=F1.binds (ps:=["thing"]) fun _ _ _ _ _ _ us hl=>match us,hl with | [_],_=>rfl
 have F2:=m5 (st:=top 2) l2 c2 k2
 have b2:=F2.binds (ps:=["thing", "low", "high"]) fun _ _ _ _ _ _ us hl=>match us,hl with | [_,_,_],_=>rfl
 have F3:=m5 (st:=top 4) l3 c3 k3
 have b3:=F3.binds (ps:=["table", "number", "rows"]) fun _ _ _ _ _ _ us hl=>match us,hl with | [_,_,_],_=>rfl
 have F4:=m5 (st:=top 5) l4 c4 k4
 have b4:=F4.binds (ps:=["table", "number", "rows", "room"]) fun _ _ _ _ _ _ us hl=>match us,hl with | [_,_,_,_],_=>rfl
 have F5:=m5 (st:=top 6) l5 c5 k5
 have b5:=F5.binds (ps:=["high", "kind", "to"]) fun _ _ _ _ _ _ us hl=>match us,hl with | [_,_,_],_=>rfl
 have F6:=m5 (st:=top 8) l6 c6 k6
 have b6:=F6.binds (ps:=["_law_found", "_law_wanted"]) fun _ _ _ _ _ _ us hl=>match us,hl with | [_,_],_=>rfl
 have F7:=m5 (st:=top 9) l7 c7 k7
 have b7:=F7.binds (ps:=["_law_script"]) fun _ _ _ _ _ _ us hl=>match us,hl with | [_],_=>rfl
 have F8:=m5 (st:=top 10) l8 c8 k8
 have b8:=F8.binds (ps:=["_law_left", "_law_many"]) fun _ _ _ _ _ _ us hl=>match us,hl with | [_,_],_=>rfl
 have F9:=m5 (st:=top 11) l9 c9 k9
 have b9:=F9.binds (ps:=[]) fun _ _ _ _ _ _ us hl=>match us,hl with | [],_=>rfl
 have F10:=m5 (st:=top 12) l10 c10 k10
 have b10:=F10.binds (ps:=["_law_left"]) fun _ _ _ _ _ _ us hl=>match us,hl with | [_],_=>rfl
 have F11:=m5 (st:=top 13) l11 c11 k11
 have b11:=F11.binds (ps:=["_law_left", "_law_tongue_here", "_law_many"]) fun _ _ _ _ _ _ us hl=>match us,hl with | [_,_,_],_=>rfl
 have F12:=m5 (st:=top 14) l12 c12 k12
 have b12:=F12.binds (ps:=["_law_left", "_law_most"]) fun _ _ _ _ _ _ us hl=>match us,hl with | [_,_],_=>rfl
 have F13:=m5 (st:=top 15) l13 c13 k13
 have b13:=F13.binds (ps:=["_law_table_here"]) fun _ _ _ _ _ _ us hl=>match us,hl with | [_],_=>rfl
 have F14:=m5 (st:=top 16) l14 c14 k14
 have b14:=F14.binds (ps:=["_law_table_here", "_law_rooms_here"]) fun _ _ _ _ _ _ us hl=>match us,hl with | [_,_],_=>rfl
 have F15:=m5 (st:=top 17) l15 c15 k15
 have b15:=F15.binds (ps:=["_law_table_here", "_law_rooms_here"]) fun _ _ _ _ _ _ us hl=>match us,hl with | [_,_],_=>rfl
 have F16:=m5 (st:=top 18) l16 c16 k16
 have b16:=F16.binds (ps:=["_law_table_here"]) fun _ _ _ _ _ _ us hl=>match us,hl with | [_],_=>rfl
 have F17:=m5 (st:=top 19) l17 c17 k17
 have b17:=F17.binds (ps:=["_law_table_here"]) fun _ _ _ _ _ _ us hl=>match us,hl with | [_],_=>rfl
 have F18:=m5 (st:=top 20) l18 c18 k18
 have b18:=F18.binds (ps:=["_law_found", "_law_many"]) fun _ _ _ _ _ _ us hl=>match us,hl with | [_,_],_=>rfl
 have F19:=m5 (st:=top 21) l19 c19 k19
 have b19:=F19.binds (ps:=["_law_table_here", "_law_number", "_law_rows", "_law_room"]) fun _ _ _ _ _ _ us hl=>match us,hl with | [_,_,_,_],_=>rfl
 have F20:=m5 (st:=top 22) l20 c20 k20
 have b20:=F20.binds (ps:=["_law_table_here", "_law_number", "_law_rows"]) fun _ _ _ _ _ _ us hl=>match us,hl with | [_,_,_],_=>rfl
 have F21:=m5 (st:=top 23) l21 c21 k21
 have b21:=F21.binds (ps:=["_law_left", "_law_due"]) fun _ _ _ _ _ _ us hl=>match us,hl with | [_,_],_=>rfl
 have F22:=m5 (st:=top 24) l22 c22 k22
 have b22:=F22.binds (ps:=["_law_script"]) fun _ _ _ _ _ _ us hl=>match us,hl with | [_],_=>rfl
 have M:Nm mg:=⟨PySem.W.mg_none_of X G z1,PySem.W.mg_none_of X G z2,PySem.W.mg_none_of X G z3,PySem.W.mg_none_of X G z4,PySem.W.mg_none_of X G z5,PySem.W.mg_none_of X G z6,PySem.W.mg_none_of X G z7,PySem.W.mg_none_of X G z8,PySem.W.mg_none_of X G z9,PySem.W.mg_none_of X G z10,PySem.W.mg_none_of X G z11,PySem.W.mg_none_of X G z12⟩
 refine ⟨PySem.W.fnOf "law" "law" (a1j (top 24)) (iw (top 24)) (az (top 24)) .none kV22 dc22 pm22 an22 cd22 ct22,fun s v=>.of_eq rfl,fun base _ _=>?_⟩
 have D_0:Dn l.prog w K mg base 1 "is_number" ["thing"] (qj K 1 (K40.j5)) _ _:=⟨m7 F1 ano (m_0 M),PySem.W.mg_of X G a1,k1,b1⟩
 have D_1:Dn l.prog w K mg base 1 "is_row" ["thing", "low", "high"] (qj K 3 (K40.kj)) _ _:=⟨m7 F2 anp (m_1 M),PySem.W.mg_of X G a2,k2,b2⟩
 have D_4:Dn l.prog w K mg base 1 "may_lead" ["high", "kind", "to"] (qj K 3 (K40.jq)) _ _:=⟨m7 F5 ant (m_4 ),PySem.W.mg_of X G a5,k5,b5⟩
 have D_3:Dn l.prog w K mg base 2 "height_holds" ["table", "number", "rows", "room"] (qj K 4 (K40.gj)) _ _:=⟨m7 F4 anr (m_3 M D_4 (by decide)),PySem.W.mg_of X G a4,k4,b4⟩
 have D_2:Dn l.prog w K mg base 3 "heights_hold" ["table", "number", "rows"] (qj K 3 (K40.au)) _ _:=⟨m7 F3 anq (m_2 M D_3 (by decide) D_0 (by decide) D_1 (by decide)),PySem.W.mg_of X G a3,k3,b3⟩
 have D_5:Dn l.prog w K mg base 1 "_law_said" ["_law_found", "_law_wanted"] (qj K 2 (K40.cz)) _ _:=⟨m7 F6 anu (m_5 ),PySem.W.mg_of X G a6,k6,b6⟩
 have D_6:Dn l.prog w K mg base 1 "_law_source" ["_law_script"] (qj K 1 (SRC.bz)) _ _:=⟨m7 F7 anv (m_6 M),PySem.W.mg_of X G a7,k7,b7⟩
 have D_7:Dn l.prog w K mg base 1 "_law_draw" ["_law_left", "_law_many"] (qj K 2 (SRC.aj)) _ _:=⟨m7 F8 anw (m_7 M),PySem.W.mg_of X G a8,k8,b8⟩
 have D_8:Dn l.prog w K mg base 1 "_law_signs" [] (qj K 0 (SRC.jb)) _ _:=⟨m7 F9 anx (m_8 ),PySem.W.mg_of X G a9,k9,b9⟩
 have D_9:Dn l.prog w K mg base 2 "_law_tongue" ["_law_left"] (qj K 1 (SRC.di)) _ _:=⟨m7 F10 anz (m_9 M D_7 (by decide) D_8 (by decide)),PySem.W.mg_of X G a10,k10,b10⟩
 have D_10:Dn l.prog w K mg base 2 "_law_rooms" ["_law_left", "_law_tongue_here", "_law_many"] (qj K 3 (SRC.dw)) _ _:=⟨m7 F11 aju (aow M D_7 (by decide)),PySem.W.mg_of X G a11,k11,b11⟩
 have D_11:Dn l.prog w K mg base 3 "_law_table" ["_law_left", "_law_most"] (qj K 2 (SRC.cu)) _ _:=⟨m7 F12 ajv (aox M D_7 (by decide) D_10 (by decide) D_9 (by decide)),PySem.W.mg_of X G a12,k12,b12⟩
 have D_12:Dn l.prog w K mg base 1 "_law_hope" ["_law_table_here"] (qj K 1 (K40.bc)) _ _:=⟨m7 F13 ajw (aoy M),PySem.W.mg_of X G a13,k13,b13⟩
 have D_13:Dn l.prog w K mg base 1 "_law_next" ["_law_table_here", "_law_rooms_here"] (qj K 2 (K40.dh)) _ _:=⟨m7 F14 ajx (aoz ),PySem.W.mg_of X G a14,k14,b14⟩
 have D_14:Dn l.prog w K mg base 2 "_law_reach" ["_law_table_here", "_law_rooms_here"] (qj K 2 (K40.jh)) _ _:=⟨m7 F15 ajy (ap0 M D_12 (by decide) D_13 (by decide)),PySem.W.mg_of X G a15,k15,b15⟩
 have D_15:Dn l.prog w K mg base 2 "_law_behind" ["_law_table_here"] (qj K 1 (K40.jd)) _ _:=⟨m7 F16 ajz (ap1 M D_12 (by decide)),PySem.W.mg_of X G a16,k16,b16⟩
 have D_16:Dn l.prog w K mg base 3 "_law_heights" ["_law_table_here"] (qj K 1 (K40.bh)) _ _:=⟨m7 F17 ak0 (ap2 M D_15 (by decide) D_12 (by decide) D_14 (by decide)),PySem.W.mg_of X G a17,k17,b17⟩
 have D_17:Dn l.prog w K mg base 1 "_law_numbers" ["_law_found", "_law_many"] (qj K 2 (SRC.j4)) _ _:=⟨m7 F18 ak1 (ap3 M),PySem.W.mg_of X G a18,k18,b18⟩
 have D_18:Dn l.prog w K mg base 1 "_law_room_holds" ["_law_table_here", "_law_number", "_law_rows", "_law_room"] (qj K 4 (K40.gh)) _ _:=⟨m7 F19 ak2 (ap4 ),PySem.W.mg_of X G a19,k19,b19⟩
 have D_19:Dn l.prog w K mg base 2 "_law_holds" ["_law_table_here", "_law_number", "_law_rows"] (qj K 3 (K40.bw)) _ _:=⟨m7 F20 ak3 (ap5 M D_17 (by decide) D_18 (by decide)),PySem.W.mg_of X G a20,k20,b20⟩
 have D_20:Dn l.prog w K mg base 2 "_law_odd" ["_law_left", "_law_due"] (qj K 2 (K40.dj)) _ _:=⟨m7 F21 ak4 (ap6 M D_7 (by decide)),PySem.W.mg_of X G a21,k21,b21⟩
 have D_21:Dn l.prog w K mg base 4 "law" ["_law_script"] (qj K 1 (K40.aem)) _ _:=⟨m7 F22 ak5 (ap7 M D_7 (by decide) D_16 (by decide) D_19 (by decide) D_20 (by decide) D_5 (by decide) D_6 (by decide) D_11 (by decide) D_2 (by decide)),PySem.W.mg_of X G a22,k22,b22⟩
 exact D_21.ok.imp al0
theorem walk {l:PySem.W.OpenLaw} {q:Program} {loose:List Str} {XP:(Str→Option Value)→Heap→Prop} {YP:World→Heap→Prop} {d:DefRec} {K:Params→PySem.W.Frag} (hn:l.most=some 63) (hdf:d.params.defaults=[])
  (hY:∀ (w:World) (h:Heap),YP w h→(K w.params).In h)
  (F:∀ (w:World) (mg:Str→Option Value) (fa:Addr) (h:Heap),(K w.params).In h→h.Ns mainGlobals mg→mg d.name=some (.ref fa) →
   ∃ fd:FuncData,(∀ (s:Shared) (u:Value),BindsTo s fd ⟨[u],[]⟩ [("_law_script",u)])∧∀ base:Heap,(K w.params).In base→base.Ns mainGlobals mg→FnOk l.prog w (K w.params) mg base CX0 4 fa fd ["_law_script"] (aen (K w.params))) :
  PySem.W.WalkO q loose XP YP l.row.toRowW d [] (fun f vs=>PySem.call f vs) :=
 L2.ag3 (n:=63) (k:=4) (x := "_law_script") (CX:=fun _=>CX0) (sp:=fun w=>aen (K w.params)) hn (by decide) hdf ⟨rfl,by decide,by decide,rfl⟩ hY F (fun _ _ a ns hl hO hS=>⟨a,ns,rfl,al1 hO hS,hl,fun _=>rfl⟩) fun _ _ _ _ _ z=>z
end K40
open PySem PySem.W PyProof.Rows
theorem K40.said:PySem.Challenge.rw_nearreach_k40_heights_looked_at.wellSaid=true:=by kernel_rfl
noncomputable def K40.hq:Program:=view PySem.Challenge.pw_nearreach_k40_heights_looked_at [PySem.Challenge.pw_nearreach_k40_heights_looked_at.main.body.length - 1]
noncomputable def K40.hl:List Str:=PySem.Challenge.pw_nearreach_k40_heights_looked_at.boundNames
local macro_rules | `(tactic| o_head $H) => `(tactic| refine PySem.W.holds_open (q:=K40.hq) (loose:=K40.hl) (Xt:=fun _=>true) (XP:=fun _ _=>True) (Yf:=Hook.obs $H) (Ya:=Hook.val $H) (YP:=Hook.says $H) (N:=20000) ?hl (Hook.of $H) (Hook.keeps $H) (fun _ _=>trivial) (fun _ _ _ _ _=>trivial) (by rfl) (by rfl) (by rfl) (fun _ _=>recFacts_nil rfl) (by rfl) (by assumption) (by decide +kernel) ⟨rfl,rfl,rfl,rfl,rfl,by decide +kernel⟩ ?hw ?hc)
set_option maxRecDepth 100000 in
set_option maxHeartbeats 0 in
theorem PySem.Challenge.cw_nearreach_k40_heights_looked_at_holds : PySem.Challenge.rw_nearreach_k40_heights_looked_at.Holds := by
 w_on;refine holds_law K40.said fun said=>?_;k_head
 (case hw=>w_witness2)
 (case hl=>intro w;kernel_rfl)
 k_fill
 refine K40.walk (l:=PySem.Challenge.rw_nearreach_k40_heights_looked_at) rfl rfl (fun w h Y=>PySem.W.kIn_of Y) ?F
 case F =>
  intro w mg fa h KX G hmg
  refine' K40.al2 KX G hmg ?a1 ?l1 ?c1 ?k1 ?a2 ?l2 ?c2 ?k2 ?a3 ?l3 ?c3 ?k3 ?a4 ?l4 ?c4 ?k4 ?a5 ?l5 ?c5 ?k5 ?a6 ?l6 ?c6 ?k6 ?a7 ?l7 ?c7 ?k7 ?a8 ?l8 ?c8 ?k8 ?a9 ?l9 ?c9 ?k9 ?a10 ?l10 ?c10 ?k10 ?a11 ?l11 ?c11 ?k11 ?a12 ?l12 ?c12 ?k12 ?a13 ?l13 ?c13 ?k13 ?a14 ?l14 ?c14 ?k14 ?a15 ?l15 ?c15 ?k15 ?a16 ?l16 ?c16 ?k16 ?a17 ?l17 ?c17 ?k17 ?a18 ?l18 ?c18 ?k18 ?a19 ?l19 ?c19 ?k19 ?a20 ?l20 ?c20 ?k20 ?a21 ?l21 ?c21 ?k21 ?a22 ?l22 ?c22 ?k22 ?z1 ?z2 ?z3 ?z4 ?z5 ?z6 ?z7 ?z8 ?z9 ?z10 ?z11 ?z12
  (case a1=>k_is);(case l1=>k_is);(case c1=>k_is);(case k1=>k_is)
  (case a2=>k_is);(case l2=>k_is);(case c2=>k_is);(case k2=>k_is)
  (case a3=>k_is);(case l3=>k_is);(case c3=>k_is);(case k3=>k_is)
  (case a4=>k_is);(case l4=>k_is);(case c4=>k_is);(case k4=>k_is)
  (case a5=>k_is);(case l5=>k_is);(case c5=>k_is);(case k5=>k_is)
  (case a6=>k_is);(case l6=>k_is);(case c6=>k_is);(case k6=>k_is)
  (case a7=>k_is);(case l7=>k_is);(case c7=>k_is);(case k7=>k_is)
  (case a8=>k_is);(case l8=>k_is);(case c8=>k_is);(case k8=>k_is)
  (case a9=>k_is);(case l9=>k_is);(case c9=>k_is);(case k9=>k_is)
  (case a10=>k_is);(case l10=>k_is);(case c10=>k_is);(case k10=>k_is)
  (case a11=>k_is);(case l11=>k_is);(case c11=>k_is);(case k11=>k_is)
  (case a12=>k_is);(case l12=>k_is);(case c12=>k_is);(case k12=>k_is)
  (case a13=>k_is);(case l13=>k_is);(case c13=>k_is);(case k13=>k_is)
  (case a14=>k_is);(case l14=>k_is);(case c14=>k_is);(case k14=>k_is)
  (case a15=>k_is);(case l15=>k_is);(case c15=>k_is);(case k15=>k_is)
  (case a16=>k_is);(case l16=>k_is);(case c16=>k_is);(case k16=>k_is)
  (case a17=>k_is);(case l17=>k_is);(case c17=>k_is);(case k17=>k_is)
  (case a18=>k_is);(case l18=>k_is);(case c18=>k_is);(case k18=>k_is)
  (case a19=>k_is);(case l19=>k_is);(case c19=>k_is);(case k19=>k_is)
  (case a20=>k_is);(case l20=>k_is);(case c20=>k_is);(case k20=>k_is)
  (case a21=>k_is);(case l21=>k_is);(case c21=>k_is);(case k21=>k_is)
  (case a22=>k_is);(case l22=>k_is);(case c22=>k_is);(case k22=>k_is)
  (case z1=>k_is)
  (case z2=>k_is)
  (case z3=>k_is)
  (case z4=>k_is)
  (case z5=>k_is)
  (case z6=>k_is)
  (case z7=>k_is)
  (case z8=>k_is)
  (case z9=>k_is)
  (case z10=>k_is)
  (case z11=>k_is)
  (case z12=>k_is)
