import PyProof.Rows.All
import Wide.All
import OpenK.AllK
import Wide.FinOn
import Lean
import PyProof.EqAt
import PyProof.EqKinds
import PyProof.TupleCall
import PyProof.ListStr
import PyProof.TupleOfStr
import PyProof.ConsumeWalk
import PyProof.SliceStr2
import PyProof.CompUse
import PyProof.Rows.SetFrom
import PyProof.SetRoads
import PyProof.StrLawsIn
import PyProof.Rows.StrIndexOr
import PyProof.Rows.StrJoin2
import PyProof.Rows.SumAny
import PyProof.WalkInts
import PyProof.SeqI3
import PyProof.Draws
import PyProof.ZipIter
import PyProof.EnumMake
import Wide.Txt2
import PyProof.Rows.SortWalk
import PyProof.ListRange
import PyProof.Rows.Range3
import KE.KStateDown
import PyProof.ReprRoads
import PyProof.CallFns
import KE.KTryDeep
import PyProof.ExcBaseAll.ValueError
import KE.KTryMore
import KE.KIsNot
import PyProof.ExcAttrAll.ValueError
import PyProof.NsDelKeeps
import PySem.Challenge.RW_nearreach_k35_cuts
set_option Elab.async false
set_option linter.all false
set_option maxRecDepth 100000
namespace L2
open PySem PySem.Spec PyProof.Rows
abbrev Key:=Sum Int Str
def ajg:Key→Value→Bool
 | .inl k,v=>Value.isInt k v
 | .inr x,v=>Value.isStrOf x v
def aq1 (w:World):Key→Int
 | .inl k=>hashInt k
 | .inr x=>hashStr w x
theorem jb:∀ {k:Key} {v:Value},ajg k v=true→(∃ i t,k=Sum.inl i∧v=Value.int i t)∨(∃ x t,k=Sum.inr x∧v=Value.str x t)
 | .inl i,v,h=>by
  obtain ⟨t,e⟩:=Value.isInt_shape (k:=i) (v:=v) h
  exact .inl ⟨i,t,rfl,e⟩
 | .inr x,v,h=>by
  obtain ⟨t,e⟩:=Value.isStrOf_shape (x:=x) (v:=v) h
  exact .inr ⟨x,t,rfl,e⟩
theorem ajh (a b:Int):decide ((Sum.inl a:Key)=Sum.inl b)=(a == b):=by
 by_cases e:a=b
 ·subst e;simp
 ·have h:¬ (Sum.inl a:Key)=Sum.inl b:=fun q=>e (Sum.inl.inj q)
  rw [decide_eq_false h]
  exact (beq_eq_false_iff_ne.mpr e).symm
theorem aji (a b:Str):decide ((Sum.inr a:Key)=Sum.inr b)=decide (a=b):=by
 by_cases e:a=b
 ·subst e;simp
 ·have h:¬ (Sum.inr a:Key)=Sum.inr b:=fun q=>e (Sum.inr.inj q)
  rw [decide_eq_false h,decide_eq_false e]
theorem ajj (a:Int) (b:Str):decide ((Sum.inl a:Key)=Sum.inr b)=false:=decide_eq_false (fun q=>nomatch q)
theorem ajk (a:Str) (b:Int):decide ((Sum.inr a:Key)=Sum.inl b)=false:=decide_eq_false (fun q=>nomatch q)
def a6q (prog:Program) (w:World):PySem.KeyKind prog w Key where
 is:=ajg
 hash:=aq1 w
 inj:=fun v a b ha hb=>by
  rcases jb ha with ⟨i,t,rfl,rfl⟩ | ⟨x,t,rfl,rfl⟩
  ·rcases jb hb with ⟨j,u,rfl,e⟩ | ⟨y,u,rfl,e⟩
   ·injection e with e1 _;rw [e1]
   ·exact nomatch e
  ·rcases jb hb with ⟨j,u,rfl,e⟩ | ⟨y,u,rfl,e⟩
   ·exact nomatch e
   ·injection e with e1 _;rw [e1]
 byValue:=fun k v h=>by
  rcases jb h with ⟨i,t,rfl,rfl⟩ | ⟨x,t,rfl,rfl⟩<;>rfl
 pyHash:=fun hv h=>by
  rcases jb hv with ⟨i,t,rfl,rfl⟩ | ⟨x,t,rfl,rfl⟩
  ·exact wpAny_pyHash_int h
  ·exact wpAny_pyHash_str h
 eqBool:=fun hu hv h=>by
  rcases jb hu with ⟨i,t,rfl,rfl⟩ | ⟨x,t,rfl,rfl⟩
  ·rcases jb hv with ⟨j,u,rfl,rfl⟩ | ⟨y,u,rfl,rfl⟩
   ·rw [ajh] at h;exact wpAny_eqBool_int h
   ·rw [ajj] at h;exact SeqAt.EqAt.int_str i t y u _ _ _ _ h
  ·rcases jb hv with ⟨j,u,rfl,rfl⟩ | ⟨y,u,rfl,rfl⟩
   ·rw [ajk] at h;exact SeqAt.EqAt.str_int x t j u _ _ _ _ h
   ·rw [aji] at h;exact wpAny_eqBool_str h
 «strs»:=fun k x t v h=>by
  rcases jb h with ⟨i,u,rfl,e⟩ | ⟨y,u,rfl,e⟩
  ·exact nomatch e
  ·injection e with e1 _
   subst e1
   cases v<;>rfl
end L2
namespace L2
open PySem PySem.Spec PyProof.Rows
inductive V where
 | non | bl (b:Bool) | int (i:Int) | str (x:Str) | byt (b:Array UInt8) | flt (b:UInt64) | ref (a:Addr) | ty (n:String)
 deriving DecidableEq
def RelV:V→Value→Prop
 | .non,u=>u=Value.none
 | .bl b,u=>u=Value.bool b
 | .int i,u=>∃ t,u=Value.int i t
 | .str x,u=>∃ t,u=Value.str x t
 | .byt b,u=>∃ t,u=Value.bytes b t
 | .flt b,u=>∃ t,u=Value.float b t
 | .ref a,u=>u=Value.ref a
 | .ty n,u=>u=Value.type n
abbrev Vals:List V→List Value→Prop:=Paired RelV
theorem Vals.length {xs:List V} {us:List Value} (r:Vals xs us):xs.length=us.length:=Paired.length r
theorem Vals.get:∀ {xs:List V} {us:List Value} {i:Nat} {x:V},Vals xs us→xs[i]? = some x→∃ u,us[i]? = some u∧RelV x u
 | _,_,_,_, .nil,e=>by simp at e
 | _,_,0,_, .cons r _,e=>by simp at e;subst e;exact ⟨_,rfl,r⟩
 | _,_,i+1,x, .cons _ t,e=>by
  obtain ⟨u,h1,h2⟩:=Vals.get (i:=i) (x:=x) t (by simpa using e)
  exact ⟨u,by simpa using h1,h2⟩
theorem Vals.set {x:V} {u:Value} (r:RelV x u):∀ {xs:List V} {us:List Value} (i:Nat),Vals xs us→Vals (xs.set i x) (us.set i u)
 | _,_,_, .nil=>.nil
 | _,_,0, .cons _ t=>.cons r t
 | _,_,i+1, .cons q t=>.cons q (Vals.set r i t)
theorem Vals.append:∀ {xs ys:List V} {us ws:List Value},Vals xs us→Vals ys ws→Vals (xs++ys) (us++ws)
 | _,_,_,_, .nil,s=>s
 | _,_,_,_, .cons r t,s=>.cons r (Vals.append t s)
theorem Vals.take:∀ {xs:List V} {us:List Value} (n:Nat),Vals xs us→Vals (xs.take n) (us.take n)
 | _,_,0,_=>.nil
 | _,_,_+1, .nil=>.nil
 | _,_,n+1, .cons r t=>.cons r (Vals.take n t)
theorem Vals.drop:∀ {xs:List V} {us:List Value} (n:Nat),Vals xs us→Vals (xs.drop n) (us.drop n)
 | _,_,0,r=>r
 | _,_,_+1, .nil=>.nil
 | _,_,n+1, .cons _ t=>Vals.drop n t
def RelO:Option V→Option Value→Prop
 | some v,some u=>RelV v u
 | none,none=>True
 | _,_=>False
def KV {κ:Type}:List (κ × V)→List (κ × Value)→Prop:=Paired fun (p:κ × V) (q:κ × Value)=>p.1=q.1∧RelV p.2 q.2
def kV:Key→V
 | .inl i=>.int i
 | .inr x=>.str x
inductive HO where
 | lst (xs:List V)
 | tup (xs:List V)
 | dK (kvs:List (Key × V)) | dT (kvs:List (List Key × V))
 | set (S:Int→Bool) (n:Nat)
 | ins (C dx:Addr) (fs:List (Str × V))
 | own (x:Addr)
 | xd (fs:List (Str × V))
 | met (f x:Addr)
 | rng (lo hi:Int)
 | frz (o:Obj) (u:HO)
 | tbl (ps:Array Value)
 | ext (φ:Heap→Prop)
abbrev Hp:=Addr→Option HO
def upd (H:Hp) (a:Addr) (o:HO):Hp:=fun b=>if b=a then some o else H b
theorem kj {H:Hp} {a:Addr} {o:HO}:upd H a o a=some o:=by unfold upd;rw [if_pos rfl]
theorem dw {H:Hp} {a b:Addr} {o:HO} (h:b≠a):upd H a o b=H b:=by unfold upd;rw [if_neg h]
theorem dj {H:Hp} {a b:Addr} {o:HO} (h:H a=some o) (h':H b=none):a≠b:=by
 intro e;subst e;rw [h] at h';cases h'
section
variable (P:Program) (w:World)
def ObjOk (H:Hp) (h:Heap) (a:Addr):HO→Prop
 | .lst xs=>xs.length≤sizeLine∧∃ (its:List Value) (n:Nat),Vals xs its∧h.get? a=some { cls:=.type "list",data:=.seq its.toArray n }
 | .tup xs=>xs.length≤sizeLine∧∃ its:List Value,Vals xs its∧IsTup h a its.toArray
 | .dK kvs=>kvs.length≤sizeLine∧(a == sysModules)=false∧∃ vs,KV kvs vs∧h.DictOf (a6q P w) a vs
 | .dT kvs=>kvs.length≤sizeLine∧(a == sysModules)=false∧∃ xs:List (List Key × Addr × Value),
   Paired (fun (p:List Key × V) (q:List Key × Addr × Value)=>p.1=q.1∧H q.2.1=some (.tup (p.1.map kV))∧RelV p.2 q.2.2) kvs xs ∧
   ∃ o es ep,h.get? a=some o∧o.ExactDict∧o.data = .dict es ep∧es.toList=xs.map (entryOfKey (tupleKind (a6q P w)))∧(xs.map (·.1)).Nodup
 | .set S n=>h.SetOf (intKind P w) a S n
 | .ins C dx fs=>H dx=some (.own a)∧fs.length≤1000∧dx≠a∧h.get? a=some (PySem.W.instObj C dx) ∧
   ∃ mA,h.Ns1 dx mA∧(∀ f,RelO (fs.lookup f) (mA f))∧PySem.Within mA (fs.map (·.1))
 | .own _=>∃ o,h.get? a=some o
 | .xd fs=>∃ mA,h.Ns1 a mA∧∀ f,RelO (fs.lookup f) (mA f)
 | .rng lo hi=>∃ t u v,h.get? a=some { cls:=.type "range",data:=.fields #[.int lo t, .int hi u, .int 1 v] }
 | .frz o u=>h.get? a=some o∧ObjOk H h a u
 | .tbl ps=>h.get? a=some { cls:=.none,data:=.fields ps }
 | .met f x=>h.get? a=some (PySem.W.methodObj (.ref f) (.ref x))
 | .ext φ=>φ h∧(∃ o,h.get? a=some o)∧∀ h1 h2:Heap,φ h1→(∀ o,h1.get? a=some o→h2.get? a=some o)→φ h2
def HOk (H:Hp) (h:Heap):Prop:=∀ a o,H a=some o→ObjOk P w H h a o
end
section
variable {P:Program} {w:World} {H H':Hp} {h h':Heap} {a:Addr} {o:HO}
theorem ObjOk.lt (x:ObjOk P w H h a o):a<h.objs.size:=by
 cases o with
 | lst xs=>obtain ⟨_,_,_,_,e⟩:=x;exact Heap.lt_size e
 | tup xs=>obtain ⟨_,_,_,p⟩:=x;exact p.lt
 | dK kvs=>obtain ⟨_,_,_,_,o,_,_,e,_⟩:=x;exact Heap.lt_size e
 | dT kvs=>obtain ⟨_,_,_,_,o,_,_,e,_⟩:=x;exact Heap.lt_size e
 | set S n=>obtain ⟨o,_,_,_,e,_⟩:=x;exact Heap.lt_size e
 | ins C dx fs=>obtain ⟨_,_,_,e,_⟩:=x;exact Heap.lt_size e
 | own y=>obtain ⟨_,e⟩:=x;exact Heap.lt_size e
 | xd fs=>obtain ⟨_,⟨_,_,_,e,_⟩,_⟩:=x;exact Heap.lt_size e
 | rng lo hi=>obtain ⟨_,_,_,e⟩:=x;exact Heap.lt_size e
 | frz ob u=>obtain ⟨e,_⟩:=x;exact Heap.lt_size e
 | tbl ps=>exact Heap.lt_size (show h.get? a=some _ from x)
 | met f y=>exact Heap.lt_size (show h.get? a=some _ from x)
 | ext φ=>obtain ⟨_,⟨_,e⟩,_⟩:=x;exact Heap.lt_size e
theorem Paired.mapP {α β:Type} {F G:α→β→Prop}:∀ {l₁:List α} {l₂:List β},Paired F l₁ l₂→(∀ a b,F a b→G a b)→Paired G l₁ l₂
 | _,_, .nil,_=>.nil
 | _,_, .cons r t,f=>.cons (f _ _ r) (Paired.mapP t f)
theorem ObjOk.stay (x:ObjOk P w H h a o) (k:∀ b u,(b=a∨H b=some (.own a))→h.get? b=some u→h'.get? b=some u)
  (ho:∀ b,H b=some (.own a)→H' b=some (.own a)) (ht:∀ b xs,H b=some (.tup xs)→H' b=some (.tup xs)):ObjOk P w H' h' a o:=by
 induction o with
 | lst xs=>obtain ⟨z,its,n,r,e⟩:=x;exact ⟨z,its,n,r,k _ _ (.inl rfl) e⟩
 | tup xs=>obtain ⟨z,its,r,ob,e,c⟩:=x;exact ⟨z,its,r,ob,k _ _ (.inl rfl) e,c⟩
 | dK kvs=>obtain ⟨z,y,vs,r,ob,es,ep,e,c⟩:=x;exact ⟨z,y,vs,r,ob,es,ep,k _ _ (.inl rfl) e,c⟩
 | dT kvs =>
  obtain ⟨z,y,xs,r,ob,es,ep,e,c⟩:=x
  exact ⟨z,y,xs,Paired.mapP r fun p q z=>⟨z.1,ht _ _ z.2.1,z.2.2⟩,ob,es,ep,k _ _ (.inl rfl) e,c⟩
 | set S n=>obtain ⟨ob,es,ep,t,e,c⟩:=x;exact ⟨ob,es,ep,t,k _ _ (.inl rfl) e,c⟩
 | ins C dx fs =>
  obtain ⟨d,z,ne,e,mA,⟨od,es,ep,e2,c⟩,r⟩:=x
  exact ⟨ho _ d,z,ne,k _ _ (.inl rfl) e,mA,⟨od,es,ep,k _ _ (.inr d) e2,c⟩,r⟩
 | own y=>obtain ⟨ob,e⟩:=x;exact ⟨ob,k _ _ (.inl rfl) e⟩
 | xd fs=>obtain ⟨mA,⟨od,es,ep,e,c⟩,r⟩:=x;exact ⟨mA,⟨od,es,ep,k _ _ (.inl rfl) e,c⟩,r⟩
 | rng lo hi=>obtain ⟨t,u,v,e⟩:=x;exact ⟨t,u,v,k _ _ (.inl rfl) e⟩
 | frz ob u ih=>obtain ⟨e,q⟩:=x;exact ⟨k _ _ (.inl rfl) e,ih q⟩
 | tbl ps =>
  have e:h.get? a=some { cls:=.none,data:=.fields ps }:=x
  show h'.get? a=some { cls:=.none,data:=.fields ps }
  exact k a _ (.inl rfl) e
 | met f y =>
  have e:h.get? a=some (PySem.W.methodObj (.ref f) (.ref y)):=x
  show h'.get? a=some (PySem.W.methodObj (.ref f) (.ref y))
  exact k a _ (.inl rfl) e
 | ext φ=>obtain ⟨p,⟨o,e⟩,st⟩:=x;exact ⟨st _ _ p fun o q=>k _ _ (.inl rfl) q,⟨o,k _ _ (.inl rfl) e⟩,st⟩
theorem HOk.lt (x:HOk P w H h) (e:H a=some o):a<h.objs.size:=(x a o e).lt
theorem HOk.fresh (x:HOk P w H h) (e:h.objs.size≤a):H a=none:=by
 cases q:H a with
 | none=>rfl
 | some u=>exact absurd (Nat.lt_of_lt_of_le (x.lt q) e) (Nat.lt_irrefl _)
theorem HOk.kept (x:HOk P w H h) (k:∀ b u,h.get? b=some u→h'.get? b=some u):HOk P w H h':=fun a o e =>
 (x a o e).stay (fun b u _ q=>k b u q) (fun _ q=>q) fun _ _ q=>q
theorem HOk.laid (x:HOk P w H h) (k:∀ b u,h.get? b=some u→h'.get? b=some u) (hp:h.objs.size≤a) (new:ObjOk P w (upd H a o) h' a o):HOk P w (upd H a o) h':=fun b u e=>by
 have hn:=x.fresh hp
 by_cases hb:b=a
 ·subst hb;rw [kj] at e;cases e;exact new
 ·rw [dw hb] at e
  exact (x b u e).stay (fun c v _ q=>k c v q) (fun c q=>by rw [dw (dj q hn)];exact q) fun c xs q=>by rw [dw (dj q hn)];exact q
end
def Rd (H:Hp) (a:Addr) (u:HO):Prop:=H a=some u∨∃ o,H a=some (.frz o u)
theorem Rd.of {H:Hp} {a:Addr} {u:HO} (h:H a=some u):Rd H a u:=.inl h
theorem Rd.ok {P:Program} {w:World} {H:Hp} {h:Heap} {a:Addr} {u:HO} (r:Rd H a u) (x:HOk P w H h):ObjOk P w H h a u:=by
 rcases r with r | ⟨o,r⟩
 ·exact x a u r
 ·obtain ⟨_,q⟩:=x a _ r
  exact q
def Mut:Option HO→Prop
 | some (.lst _)=>True
 | some (.dK _)=>True
 | some (.dT _)=>True
 | some (.set _ _)=>True
 | some (.ins _ _ _)=>True
 | some (.ext _)=>True
 | _=>False
section
variable {P:Program} {w:World} {H:Hp} {h h':Heap} {x e:Addr} {o':HO}
theorem HOk.write (ok:HOk P w H h) (mu:Mut (H x)) (he:e=x∨H e=some (.own x)) (k:∀ b u,b≠e→h.get? b=some u→h'.get? b=some u) (heo:∃ u,h'.get? e=some u)
  (new:ObjOk P w (upd H x o') h' x o'):HOk P w (upd H x o') h':=fun b u q=>by
 have nown:∀ c y,H c=some (.own y)→c≠x:=fun c y r z=>by subst z;rw [r] at mu;exact mu
 have ntup:∀ c xs,H c=some (.tup xs)→c≠x:=fun c xs r z=>by subst z;rw [r] at mu;exact mu
 by_cases hb:b=x
 ·subst hb;rw [kj] at q;cases q;exact new
 ·rw [dw hb] at q
  by_cases hbe:b=e
  ·have q':H b=some (.own x):=by
    rcases he with z | z
    ·exact absurd (hbe.trans z) hb
    ·rw [hbe];exact z
   rw [q] at q';cases q'
   obtain ⟨v,hv⟩:=heo
   exact ⟨v,by rw [hbe];exact hv⟩
  ·refine (ok b u q).stay (fun c v hc r=>k c v ?_ r) (fun c r=>by rw [dw (nown c b r)];exact r) fun c xs r=>by rw [dw (ntup c xs r)];exact r
   rcases hc with rfl | hc
   ·exact hbe
   ·rintro rfl
    rcases he with z | z
    ·exact nown c b hc z
    ·rw [hc] at z;cases z;exact hb rfl
end
structure Un (fs ex:List Addr) (H H':Hp) (h h':Heap):Prop where
 keep:∀ b o,h.get? b=some o→H b=none→b ∉ fs→b ∉ ex→h'.get? b=some o
 slot:∀ b o,h.get? b=some o→H b=none→b∈fs→b ∉ ex→∃ sl,h'.get? b=some { o with slots:=sl }
 free:∀ b o,h.get? b=some o→H b=none→b ∉ ex→H' b=none
 there:∀ b o,h.get? b=some o→b ∉ ex→∃ o',h'.get? b=some o'
 tups:∀ b xs,H b=some (.tup xs)→H' b=some (.tup xs)
 frzs:∀ b o u,H b=some (.frz o u)→H' b=some (.frz o u)
 tbls:∀ b ps,H b=some (.tbl ps)→∃ more,H' b=some (.tbl (ps++more))
section
variable {fs fs' ex ex':List Addr} {H H1 H2:Hp} {h h1 h2 h':Heap} {a x e:Addr} {o:HO}
theorem Un.any (u:Un fs ex H H1 h h1) {b:Addr} {ob:Obj} (q:h.get? b=some ob) (n:H b=none) (hx:b ∉ ex):∃ sl,h1.get? b=some { ob with slots:=sl }:=by
 by_cases hb:b∈fs
 ·exact u.slot b ob q n hb hx
 ·exact ⟨ob.slots,u.keep b ob q n hb hx⟩
theorem Un.kept (k:∀ b u,h.get? b=some u→h'.get? b=some u):Un fs ex H H h h' :=
 ⟨fun b ob q _ _ _=>k b ob q,fun b ob q _ _ _=>⟨ob.slots,k b ob q⟩,fun _ _ _ n _=>n,fun b ob q _=>⟨ob,k b ob q⟩,fun _ _ q=>q,fun _ _ _ q=>q,fun _ ps q=>⟨#[],by rw [q];simp⟩⟩
theorem Un.refl:Un fs ex H H h h:=Un.kept fun _ _ q=>q
theorem Un.laid (k:∀ b u,h.get? b=some u→h'.get? b=some u) (hp:h.objs.size≤a) (hn:H a=none):Un fs ex H (upd H a o) h h' where
 keep:=fun b u q _ _ _=>k b u q
 slot:=fun b u q _ _ _=>⟨u.slots,k b u q⟩
 free:=fun b u q n _=>by rw [dw (Nat.ne_of_lt (Nat.lt_of_lt_of_le (Heap.lt_size q) hp))];exact n
 there:=fun b u q _=>⟨u,k b u q⟩
 tups:=fun b xs q=>by rw [dw (dj q hn)];exact q
 frzs:=fun b u xs q=>by rw [dw (dj q hn)];exact q
 tbls:=fun b ps q=>⟨#[],by rw [dw (dj q hn),q];simp⟩
theorem Un.write (mu:Mut (H x)) (he:e=x∨H e=some (.own x)) (k:∀ b u,b≠e→h.get? b=some u→h'.get? b=some u) (heo:∃ u,h'.get? e=some u):Un fs ex H (upd H x o) h h':=by
 have hx:∀ b,H b=none→b≠x:=fun b n z=>by subst z;rw [n] at mu;exact mu
 have hb:∀ b,H b=none→b≠e:=fun b n z=>by
  subst z
  rcases he with r | r
  ·exact hx b n r
  ·rw [n] at r;cases r
 have hm:∀ b u,H b=some u→¬ Mut (some u)→b≠x:=fun b u q nm z=>by subst z;rw [q] at mu;exact nm mu
 refine ⟨fun b u q n _ _=>k b u (hb b n) q,fun b u q n _ _=>⟨u.slots,k b u (hb b n) q⟩,fun b u q n _=>by rw [dw (hx b n)];exact n,fun b u q _=>?_,
  fun b xs q=>by rw [dw (hm b _ q fun z=>z)];exact q,fun b u xs q=>by rw [dw (hm b _ q fun z=>z)];exact q,fun b ps q=>⟨#[],by rw [dw (hm b _ q fun z=>z),q];simp⟩⟩
 by_cases hbe:b=e
 ·subst hbe;exact heo
 ·exact ⟨u,k b u hbe q⟩
end
def trk (h:Heap) (H:Hp):List Addr:=(List.range h.objs.size).filter fun a=>(H a).isSome
def acv (h:Heap) (H:Hp):Heap:=PySem.W.hideAll h (trk h H)
theorem a9h (h:Heap) (H:Hp):(acv h H).objs.size=h.objs.size:=PySem.W.hideAll_size _ _
theorem acw {h:Heap} {H:Hp} {b:Addr} {o:Obj} (e:h.get? b=some o) (n:H b=none):(acv h H).get? b=some o :=
 PySem.W.hideAll_get _ e fun hm=>by
  have q:(H b).isSome=true:=(List.mem_filter.mp hm).2
  rw [n] at q;simp at q
theorem agq {h:Heap} {H:Hp} {b:Addr} {o:Obj} (e:(acv h H).get? b=some o):h.get? b=some o∧H b=none:=by
 have e':h.get? b=some o:=PySem.W.of_hideAll (trk h H) e
 refine ⟨e',?_⟩
 cases q:H b with
 | none=>rfl
 | some x =>
  have hm:b∈trk h H:=List.mem_filter.mpr ⟨List.mem_range.mpr (Heap.lt_size e'),by simp [q]⟩
  have z:(acv h H).get? b=none:=PySem.W.hideAll_none (trk h H) hm
  rw [z] at e;cases e
def agr (g h:Heap) (L:Addr):List (Addr × Obj):=(List.range h.objs.size).filterMap fun a=>if a=L∨(g.get? a).isSome=true then none else (h.get? a).map fun o=>(a,o)
def rest (g h:Heap) (L d:Addr):List (Addr × Obj):=(agr g h L).filter fun p=>decide (p.1≠d)
end L2
namespace L2
open PySem PySem.Spec PyProof.Rows
structure Mod (K:PySem.W.Frag) (mg:Str→Option Value) (base:Heap):Prop where
 kin:K.In base
 glob:base.Ns mainGlobals mg
 blt:∃ mb,base.Ns builtinsNs mb∧∀ x:Str,x ≠ "__name__"→mb x=bootBuiltins x
 nolimit:base.NoLimit
structure Cx where
 prog:Program
 w:World
 K:PySem.W.Frag
 mg:Str→Option Value
 base:Heap
 A:Around
 N:List Str
 s₀:Shared
 H₀:Hp
 env:Env
 outer:List Env
 stack:List Env
 ex:List Addr
 fn:Str→Bool
 calm:Bool
 pn:List (Addr × Obj)
 xe:Value→Shared→Prop
def frs (l:List Env):List Addr:=l.filterMap (·.frame)
abbrev Cx.fs (X:Cx):List Addr:=frs X.outer
def Vis (sc:Scope) (x:Str):Prop:=sc.names.lookup x=some .local∨sc.names.lookup x=some .cell∨sc.names.lookup x=some .free
def Loc (sc:Scope) (x:Str):Prop:=sc.names.lookup x=some .local∨sc.names.lookup x=some .cell
def Look (env:Env) (h:Heap) (m:Str→Option Value) (x:Str) (u:Value):Prop :=
 (env.kindOf x=some .local∧m x=some u)∨((env.kindOf x=some .cell∨env.kindOf x=some .free)∧∃ c,env.cells.lookup x=some c∧h.IsCell c (some u))
structure Cx.Ok (X:Cx):Prop where
 mod:Mod X.K X.mg X.base
 kind:X.env.scope.kind = .function
 glob:X.env.globals=mainGlobals
 blt:X.env.builtins=builtinsNs
 above:X.s₀.heap.objs.size≤X.env.locals
 inj:∀ x y c,X.env.cells.lookup x=some c→X.env.cells.lookup y=some c→x=y
 has:∀ x,(X.env.kindOf x=some .cell∨X.env.kindOf x=some .free)→∃ c,X.env.cells.lookup x=some c
 cab:∀ x c,X.fn x=true→X.env.cells.lookup x=some c→X.s₀.heap.objs.size≤c
 hd:X.calm=true→X.A.handled=none
 frames:X.A.frames=some X.stack
 stk:X.stack=X.outer∨(X.stack=X.env::X.outer∧X.env.frame=some X.env.locals)
 exf:∀ b∈X.ex,b≠X.env.locals∧∀ x c,X.env.cells.lookup x=some c→c≠b
 bs:∀ b o,X.base.get? b=some o→X.s₀.heap.get? b=some o∧X.H₀ b=none
 bsz:X.base.objs.size≤X.s₀.heap.objs.size
 noex:∀ b o,X.base.get? b=some o→b ∉ X.ex
 exfs:∀ b∈X.ex,b ∉ X.fs
 funs:X.s₀.heap.FunFrames X.base X.outer
 frf:∀ b∈X.fs,X.H₀ b=none
structure Inv (X:Cx) (pins:List (Addr × Obj)) (σ:List (Option V)) (H:Hp) (s:Shared):Prop where
 ok:X.Ok
 os:s.os=X.s₀.os
 bare:AllBare s.gens
 base:Un X.fs X.ex X.H₀ H X.s₀.heap s.heap
 loc:∃ m,s.heap.Ns X.env.locals m∧∀ (i:Nat) (x:Str) (v:V),X.N[i]? = some x→σ[i]? = some (some v)→Vis X.env.scope x→∃ u,RelV v u∧Look X.env s.heap m x u
 cell:∀ x c,X.env.cells.lookup x=some c→∃ v,s.heap.IsCell c v
 free:H X.env.locals=none
 freeC:∀ x c,X.env.cells.lookup x=some c→H c=none
 pin:∀ p∈X.pn++pins,s.heap.get? p.1=some p.2∧H p.1=none∧p.1≠X.env.locals∧p.1 ∉ X.fs∧∀ v,p.2.data≠.cell v
 hok:HOk X.prog X.w H s.heap
 len:σ.length=X.N.length
section
variable {X:Cx} {pins:List (Addr × Obj)} {σ:List (Option V)} {H H':Hp} {s:Shared} {h':Heap}
theorem Cx.Ok.nofr (ok:X.Ok) {b:Addr} {o:Obj} (e:X.base.get? b=some o):b ∉ X.fs:=fun hb=>by
 have:=(ok.funs.mem hb).1
 rw [e] at this;cases this
theorem Inv.bs (I:Inv X pins σ H s):∀ b o,X.base.get? b=some o→s.heap.get? b=some o∧H b=none:=fun b o e =>
 ⟨I.base.keep b o (I.ok.bs b o e).1 (I.ok.bs b o e).2 (I.ok.nofr e) (I.ok.noex b o e),I.base.free b o (I.ok.bs b o e).1 (I.ok.bs b o e).2 (I.ok.noex b o e)⟩
theorem Inv.bk (I:Inv X pins σ H s):∀ b o,X.base.get? b=some o→s.heap.get? b=some o:=fun b o e=>(I.bs b o e).1
theorem Inv.mod (I:Inv X pins σ H s):Mod X.K X.mg X.base:=I.ok.mod
theorem Inv.kIn (I:Inv X pins σ H s):X.K.In s.heap:=I.ok.mod.kin.keeps I.bk
theorem Inv.fr (I:Inv X pins σ H s):∃ m,Fr X.base X.env.locals s.heap m :=
 let ⟨m,hn,_⟩:=I.loc
 ⟨m,hn,I.bk,Nat.le_trans I.ok.bsz I.ok.above⟩
theorem Inv.lt (I:Inv X pins σ H s):X.env.locals<s.heap.objs.size:=let ⟨_,hn,_⟩:=I.loc;hn.lt
theorem Inv.sz (I:Inv X pins σ H s):X.s₀.heap.objs.size≤s.heap.objs.size:=Nat.le_trans I.ok.above (Nat.le_of_lt I.lt)
theorem Inv.nofs (I:Inv X pins σ H s) {a:Addr} (h:s.heap.objs.size≤a):a ∉ X.fs:=fun hb=>by
 obtain ⟨_,o,ho,_⟩:=I.ok.funs.mem hb
 exact absurd (Nat.lt_of_lt_of_le (Heap.lt_size ho) (Nat.le_trans I.sz h)) (Nat.lt_irrefl _)
theorem Inv.cne (I:Inv X pins σ H s):∀ x c,X.env.cells.lookup x=some c→c≠X.env.locals:=fun x c e z=>by
 obtain ⟨v,o,ho,hd⟩:=I.cell x c e
 obtain ⟨m,⟨o',es,ep,ho',hd',_⟩,_⟩:=I.loc
 rw [z,ho'] at ho;cases ho;rw [hd'] at hd;cases hd
theorem Inv.funs (I:Inv X pins σ H s):s.heap.FunFrames X.base X.outer:=by
 have all:∀ (l:List Env),(∀ b∈frs l,b∈X.fs)→X.s₀.heap.FunFrames X.base l→s.heap.FunFrames X.base l:=by
  intro l
  induction l with
  | nil=>intro _ _;trivial
  | cons env r ih =>
   intro hs hl
   obtain ⟨hk,⟨L,o,hf,hn,ho,hd⟩,hr⟩:=hl
   have hL:L∈X.fs:=hs L (by unfold frs;rw [List.filterMap_cons,hf];exact List.mem_cons_self)
   obtain ⟨sl,e⟩:=I.base.slot L o ho (I.ok.frf L hL) hL fun z=>I.ok.exfs L z hL
   exact ⟨hk,⟨L,_,hf,hn,e,hd⟩,ih (fun b hb=>hs b (by unfold frs;rw [List.filterMap_cons,hf];exact List.mem_cons_of_mem _ hb)) hr⟩
 exact all X.outer (fun _ hb=>hb) I.ok.funs
theorem Inv.stack (I:Inv X pins σ H s):s.heap.FunFrames X.base X.stack:=by
 rcases I.ok.stk with e | ⟨e,hf⟩
 ·rw [e];exact I.funs
 ·rw [e]
  obtain ⟨m,hn,_⟩:=I.loc
  refine .cons (by rw [I.ok.kind];decide) hf hn ?_ I.funs
  exact Heap.get?_none_of_le (Nat.le_trans I.ok.bsz I.ok.above)
theorem Inv.stkSub (I:Inv X pins σ H s):∀ b∈frs X.stack,b∈X.env.locals::X.fs:=fun b hb=>by
 rcases I.ok.stk with e | ⟨e,hf⟩
 ·rw [e] at hb;exact List.mem_cons_of_mem _ hb
 ·rw [e] at hb
  unfold frs at hb
  rw [List.filterMap_cons,hf] at hb
  exact hb
theorem Inv.stkFree (I:Inv X pins σ H s):∀ b∈frs X.stack,H b=none:=fun b hb=>by
 rcases List.mem_cons.mp (I.stkSub b hb) with e | hb
 ·rw [e];exact I.free
 ·obtain ⟨_,o,ho,_⟩:=I.ok.funs.mem hb
  exact I.base.free b o ho (I.ok.frf b hb) fun z=>I.ok.exfs b z hb
theorem Inv.step {g':Array GenState} {t':Nat} {d':Drawn} {ch:List Addr} (I:Inv X pins σ H s)
  (hch:∀ b∈ch,(b∈X.ex∨X.s₀.heap.objs.size≤b)∧b≠X.env.locals∧(∀ x c,X.env.cells.lookup x=some c→c≠b)∧∀ p∈X.pn++pins,p.1≠b)
  (keep:∀ b o,b≠X.env.locals→b ∉ X.fs→b ∉ ch→s.heap.get? b=some o→H b=none→h'.get? b=some o)
  (slot:∀ b o,b≠X.env.locals→b∈X.fs→b ∉ ch→s.heap.get? b=some o→H b=none→∃ sl,h'.get? b=some { o with slots:=sl }) (free:∀ b o,b ∉ ch→s.heap.get? b=some o→H b=none→H' b=none)
  (there:∀ b o,b ∉ ch→s.heap.get? b=some o→∃ o',h'.get? b=some o')
  (tups:∀ b xs,H b=some (.tup xs)→H' b=some (.tup xs)) (frzs:∀ b o u,H b=some (.frz o u)→H' b=some (.frz o u)) (tbls:∀ b ps,H b=some (.tbl ps)→∃ more,H' b=some (.tbl (ps++more)))
  (ns:∀ m,s.heap.Ns X.env.locals m→h'.Ns X.env.locals m) (hok:HOk X.prog X.w H' h') (hg:AllBare g') :
  Inv X pins σ H' { s with heap:=h',gens:=g',drawn:=d',toks:=t' }:=by
 have neL:∀ b o,X.s₀.heap.get? b=some o→b≠X.env.locals:=fun b o e=>Nat.ne_of_lt (Nat.lt_of_lt_of_le (Heap.lt_size e) I.ok.above)
 have neC:∀ b o,X.s₀.heap.get? b=some o→b ∉ X.ex→b ∉ ch:=fun b o e hx hb=>by
  rcases (hch b hb).1 with z | z
  ·exact hx z
  ·exact absurd (Nat.lt_of_lt_of_le (Heap.lt_size e) z) (Nat.lt_irrefl _)
 have cellK:∀ x c,X.env.cells.lookup x=some c→∀ v,s.heap.IsCell c v→h'.IsCell c v:=fun x c e v ⟨o,ho,hd⟩=>by
  have nch:c ∉ ch:=fun z=>(hch c z).2.2.1 x c e rfl
  by_cases hc:c∈X.fs
  ·obtain ⟨sl,q⟩:=slot c o (I.cne x c e) hc nch ho (I.freeC x c e)
   exact ⟨_,q,hd⟩
  ·exact ⟨o,keep c o (I.cne x c e) hc nch ho (I.freeC x c e),hd⟩
 refine ⟨I.ok,I.os,hg,⟨fun b o e n hb hx=>?_,fun b o e n hb hx=>?_,fun b o e n hx=>?_,fun b o e hx=>?_,fun b xs e=>tups b xs (I.base.tups b xs e),fun b o xs e=>frzs b o xs (I.base.frzs b o xs e),fun b ps e=>?_⟩,?_,fun x c e=>?_,?_,fun x c e=>?_,fun p hp=>?_,hok,I.len⟩
 ·exact keep b o (neL b o e) hb (neC b o e hx) (I.base.keep b o e n hb hx) (I.base.free b o e n hx)
 ·obtain ⟨sl,e1⟩:=I.base.slot b o e n hb hx
  obtain ⟨sl',e2⟩:=slot b _ (neL b o e) hb (neC b o e hx) e1 (I.base.free b o e n hx)
  exact ⟨sl',e2⟩
 ·obtain ⟨o',e1⟩:=I.base.there b o e hx
  exact free b o' (neC b o e hx) e1 (I.base.free b o e n hx)
 ·obtain ⟨o',e1⟩:=I.base.there b o e hx
  exact there b o' (neC b o e hx) e1
 ·obtain ⟨m1,e1⟩:=I.base.tbls b ps e
  obtain ⟨m2,e2⟩:=tbls b _ e1
  exact ⟨m1++m2,by rw [e2,Array.append_assoc]⟩
 ·obtain ⟨m,hn,hl⟩:=I.loc
  refine ⟨m,ns m hn,fun i x v e1 e2 e3=>?_⟩
  obtain ⟨u,r,l⟩:=hl i x v e1 e2 e3
  refine ⟨u,r,?_⟩
  rcases l with l | ⟨k,c,e,z⟩
  ·exact .inl l
  ·exact .inr ⟨k,c,e,cellK x c e _ z⟩
 ·obtain ⟨v,z⟩:=I.cell x c e
  exact ⟨v,cellK x c e v z⟩
 ·obtain ⟨m,⟨o,_,_,ho,_⟩,_⟩:=I.loc
  exact free _ o (fun z=>(hch _ z).2.1 rfl) ho I.free
 ·obtain ⟨v,o,ho,hd⟩:=I.cell x c e
  exact free c o (fun z=>(hch c z).2.2.1 x c e rfl) ho (I.freeC x c e)
 ·obtain ⟨e,n,ne,nf,d⟩:=I.pin p hp
  have nch:p.1 ∉ ch:=fun z=>(hch p.1 z).2.2.2 p hp rfl
  exact ⟨keep p.1 p.2 ne nf nch e n,free p.1 p.2 nch e n,ne,nf,d⟩
theorem Inv.un {t':Nat} (I:Inv X pins σ H s) (u:Un X.fs [] H H' s.heap h') (hok:HOk X.prog X.w H' h'):Inv X pins σ H' { s with heap:=h',toks:=t' }:=by
 obtain ⟨m,⟨o,es,ep,ho,r⟩,_⟩:=id I.loc
 obtain ⟨sl,hL⟩:=u.any ho I.free (by simp)
 exact I.step (g':=s.gens) (d':=s.drawn) (ch:=[]) (fun _ z=>nomatch z) (fun b o _ hb _ e n=>u.keep b o e n hb (by simp)) (fun b o _ hb _ e n=>u.slot b o e n hb (by simp)) (fun b o _ e n=>u.free b o e n (by simp)) (fun b o _ e=>u.there b o e (by simp)) u.tups u.frzs u.tbls (fun m' hm=>by
  obtain ⟨o',es',ep',ho',r'⟩:=hm
  rw [ho] at ho';cases ho'
  exact ⟨_,es',ep',hL,r'⟩) hok I.bare
theorem Inv.call {g':Array GenState} {t':Nat} {d':Drawn} {ch:List Addr} (I:Inv X pins σ H s) (u:Un (frs X.stack) ch H H' s.heap h') (hok:HOk X.prog X.w H' h') (hg:AllBare g')
  (hch:∀ b∈ch,(b∈X.ex∨X.s₀.heap.objs.size≤b)∧b≠X.env.locals∧(∀ x c,X.env.cells.lookup x=some c→c≠b)∧∀ p∈X.pn++pins,p.1≠b) :
  Inv X pins σ H' { s with heap:=h',gens:=g',drawn:=d',toks:=t' }:=by
 obtain ⟨m,⟨o,es,ep,ho,r⟩,_⟩:=id I.loc
 obtain ⟨sl,hL⟩:=u.any ho I.free fun z=>(hch _ z).2.1 rfl
 exact I.step (ch:=ch) hch (fun b o hL hb hc e n=>u.keep b o e n (fun z=>(List.mem_cons.mp (I.stkSub b z)).elim hL hb) hc) (fun b o _ _ hc e n=>u.any e n hc) (fun b o hc e n=>u.free b o e n hc) (fun b o hc e=>u.there b o e hc) u.tups u.frzs u.tbls (fun m' hm=>by
  obtain ⟨o',es',ep',ho',r'⟩:=hm
  rw [ho] at ho';cases ho'
  exact ⟨_,es',ep',hL,r'⟩) hok hg
theorem Inv.turned {t':Nat} {it:Addr} (I:Inv X pins σ H s) (k:∀ b o,b≠it→s.heap.get? b=some o→h'.get? b=some o) (hn:H it=none) (hL:it≠X.env.locals)
  (h1:it∈X.ex∨X.s₀.heap.objs.size≤it) (h2:∀ x c,X.env.cells.lookup x=some c→c≠it) (h3:∀ p∈X.pn++pins,p.1≠it):Inv X pins σ H { s with heap:=h',toks:=t' }:=by
 have nit:∀ b u,H b=some u→b≠it:=fun b u e z=>by rw [z,hn] at e;cases e
 refine I.step (g':=s.gens) (d':=s.drawn) (ch:=[it]) (fun b hb=>?_) (fun b o _ _ hc e _=>k b o (fun z=>hc (by simp [z])) e) (fun b o _ _ hc e _=>⟨o.slots,k b o (fun z=>hc (by simp [z])) e⟩) (fun _ _ _ _ n=>n)
  (fun b o hc e=>⟨o,k b o (fun z=>hc (by simp [z])) e⟩) (fun _ _ e=>e) (fun _ _ _ e=>e) (fun b ps e=>⟨#[],by rw [e];simp⟩) (fun m hm=>?_) (fun b u e=>?_) I.bare
 ·have e:b=it:=by simpa using hb
  subst e
  exact ⟨h1,hL,h2,h3⟩
 ·obtain ⟨o,es,ep,ho,r⟩:=hm
  exact ⟨o,es,ep,k _ o (Ne.symm hL) ho,r⟩
 ·refine (I.hok b u e).stay (fun c v hc q=>k c v ?_ q) (fun _ q=>q) fun _ _ q=>q
  rcases hc with z | z
  ·rw [z];exact nit b u e
  ·exact nit c _ z
theorem Inv.tok (I:Inv X pins σ H s) (t:Nat):Inv X pins σ H { s with toks:=t }:=I.un (h':=s.heap) (t':=t) Un.refl I.hok
theorem Inv.kept {t':Nat} (I:Inv X pins σ H s) (k:∀ b u,s.heap.get? b=some u→h'.get? b=some u):Inv X pins σ H { s with heap:=h',toks:=t' }:=I.un (Un.kept k) (I.hok.kept k)
theorem Inv.laid {a:Addr} {o:HO} {t':Nat} (I:Inv X pins σ H s) (k:∀ b u,s.heap.get? b=some u→h'.get? b=some u) (hp:s.heap.objs.size≤a) (new:ObjOk X.prog X.w (upd H a o) h' a o) :
  Inv X pins σ (upd H a o) { s with heap:=h',toks:=t' }:=I.un (Un.laid k hp (I.hok.fresh hp)) (I.hok.laid k hp new)
theorem Inv.write {x e:Addr} {o:HO} {t':Nat} (I:Inv X pins σ H s) (mu:Mut (H x)) (he:e=x∨H e=some (.own x)) (k:∀ b u,b≠e→s.heap.get? b=some u→h'.get? b=some u) (heo:∃ u,h'.get? e=some u)
  (new:ObjOk X.prog X.w (upd H x o) h' x o):Inv X pins σ (upd H x o) { s with heap:=h',toks:=t' }:=I.un (Un.write mu he k heo) (I.hok.write mu he k heo new)
theorem Inv.weak {σ':List (Option V)} (I:Inv X pins σ H s) (hl:σ'.length=σ.length) (w:∀ (i:Nat) v,σ'[i]? = some (some v)→σ[i]? = some (some v)):Inv X pins σ' H s :=
 ⟨I.ok,I.os,I.bare,I.base,let ⟨m,hn,hl'⟩:=I.loc; ⟨m,hn,fun i x v e1 e2 e3=>hl' i x v e1 (w i v e2) e3⟩,I.cell,I.free,I.freeC,I.pin,I.hok,hl.trans I.len⟩
theorem Inv.pins_of {pins':List (Addr × Obj)} (I:Inv X pins σ H s) (h:∀ p∈pins',s.heap.get? p.1=some p.2∧H p.1=none∧p.1≠X.env.locals∧p.1 ∉ X.fs∧∀ v,p.2.data≠.cell v):Inv X pins' σ H s :=
 ⟨I.ok,I.os,I.bare,I.base,I.loc,I.cell,I.free,I.freeC,fun p hp=>(List.mem_append.mp hp).elim (fun z=>I.pin p (List.mem_append_left _ z)) (h p),I.hok,I.len⟩
theorem a3d {N:List Str} (hN:N.Nodup) {i j:Nat} {x:Str} (a:N[i]? = some x) (b:N[j]? = some x):i=j:=by
 obtain ⟨h1,e1⟩:=List.getElem?_eq_some_iff.mp a
 obtain ⟨h2,e2⟩:=List.getElem?_eq_some_iff.mp b
 exact (List.getElem_inj hN).mp (e1.trans e2.symm)
theorem a5b {M:Model} {A:Around} {E:Value→Shared→Prop} {i:Nat} {x:Str} {v:V} {u:Value} {Q:Unit→Shared→Prop} (I:Inv X pins σ H s) (hN:X.N.Nodup) (hi:X.N[i]? = some x) (hx:Loc X.env.scope x) (r:RelV v u)
  (h:∀ s',Inv X pins (σ.set i (some v)) H s'→(∃ a,Heap.SameBut a s.heap s'.heap∧(a=X.env.locals∨X.env.cells.lookup x=some a))→Q () s') (hf:X.fn x=true∨X.env.scope.names.lookup x=some .local:=by first | exact .inl rfl | exact .inr rfl | assumption):wpAny M A (storeName X.env x u) Q E s:=by
 obtain ⟨m,hn,hl⟩:=id I.loc
 have hcls:(X.env.scope.kind == .class || (X.env.scope.kind == .module && X.env.locals != X.env.globals))=false:=by rw [I.ok.kind];rfl
 have hiσ:i<σ.length:=by rw [I.len];exact (List.getElem?_eq_some_iff.mp hi).1
 have cne:=I.cne
 have tracked:∀ {a:Addr} {h':Heap},(∃ o,s.heap.get? a=some o∧H a=none)→Heap.SameBut a s.heap h'→HOk X.prog X.w H h':=fun {a h'} ha hs b ob e=>by
  obtain ⟨_,_,hfree⟩:=ha
  refine (I.hok b ob e).stay (fun c w' hc q=>(hs.2 c ?_).trans q) (fun _ q=>q) fun _ _ q=>q
  rintro rfl
  rcases hc with rfl | hc
  ·rw [hfree] at e;cases e
  ·rw [hfree] at hc;cases hc
 rcases hx with hk | hk
 ·refine wpAny_storeName_local hk hn (fun h' hn' hs=>?_) hcls
  obtain ⟨oL,_,_,hoL,_⟩:=id hn
  refine h _ ⟨I.ok,I.os,I.bare,⟨fun b o e n hb hx=>?_,fun b o e n hb hx=>?_,I.base.free,fun b o e hx=>?_,I.base.tups,I.base.frzs,I.base.tbls⟩,⟨_,hn',fun j y v' e1 e2 e3=>?_⟩,fun y c e=>?_,I.free,I.freeC,fun p hp=>?_,tracked ⟨oL,hoL,I.free⟩ hs,by simpa using I.len⟩ ⟨_,hs, .inl rfl⟩
  ·exact (hs.2 b (Nat.ne_of_lt (Nat.lt_of_lt_of_le (Heap.lt_size e) I.ok.above))).trans (I.base.keep b o e n hb hx)
  ·obtain ⟨sl,e1⟩:=I.base.slot b o e n hb hx
   exact ⟨sl,(hs.2 b (Nat.ne_of_lt (Nat.lt_of_lt_of_le (Heap.lt_size e) I.ok.above))).trans e1⟩
  ·obtain ⟨o',e1⟩:=I.base.there b o e hx
   exact ⟨o',(hs.2 b (Nat.ne_of_lt (Nat.lt_of_lt_of_le (Heap.lt_size e) I.ok.above))).trans e1⟩
  ·by_cases hj:j=i
   ·subst hj
    rw [hi] at e1;cases e1
    rw [List.getElem?_set_self hiσ] at e2
    cases e2
    exact ⟨u,r, .inl ⟨hk,by simp⟩⟩
   ·rw [List.getElem?_set_ne (Ne.symm hj)] at e2
    obtain ⟨u',r',q⟩:=hl j y v' e1 e2 e3
    refine ⟨u',r',?_⟩
    rcases q with ⟨k,e⟩ | ⟨k,c,e,z⟩
    ·refine .inl ⟨k,?_⟩
     have:y≠x:=fun e=>hj (a3d hN e1 (e ▸ hi))
     simp [this,e]
    ·exact .inr ⟨k,c,e,z.sameBut hs (cne y c e)⟩
  ·obtain ⟨w',z⟩:=I.cell y c e
   exact ⟨w',z.sameBut hs (cne y c e)⟩
  ·obtain ⟨e,n,ne,nf,d⟩:=I.pin p hp
   exact ⟨(hs.2 p.1 ne).trans e,n,ne,nf,d⟩
 ·have hfn:X.fn x=true:=by
   rcases hf with z | z
   ·exact z
   ·rw [z] at hk;cases hk
  obtain ⟨c,hc⟩:=I.ok.has x (.inl hk)
  obtain ⟨w',z⟩:=I.cell x c hc
  refine wpAny_storeName_cell I.ok.kind hk hc z (fun h' hc' hs=>?_)
  obtain ⟨oc,hoc,hocd⟩:=id z
  refine h { s with heap:=h' } ⟨I.ok,I.os,I.bare,⟨fun b o e n hb hx=>?_,fun b o e n hb hx=>?_,I.base.free,fun b o e hx=>?_,I.base.tups,I.base.frzs,I.base.tbls⟩,⟨m,hn.sameBut hs (Ne.symm (cne x c hc)),fun j y v' e1 e2 e3=>?_⟩,fun y c' e=>?_,I.free,I.freeC,fun p hp=>?_,tracked ⟨oc,hoc,I.freeC x c hc⟩ hs,by simpa using I.len⟩ ⟨c,hs, .inr hc⟩
  ·exact (hs.2 b (Nat.ne_of_lt (Nat.lt_of_lt_of_le (Heap.lt_size e) (I.ok.cab x c hfn hc)))).trans (I.base.keep b o e n hb hx)
  ·obtain ⟨sl,e1⟩:=I.base.slot b o e n hb hx
   exact ⟨sl,(hs.2 b (Nat.ne_of_lt (Nat.lt_of_lt_of_le (Heap.lt_size e) (I.ok.cab x c hfn hc)))).trans e1⟩
  ·obtain ⟨o',e1⟩:=I.base.there b o e hx
   exact ⟨o',(hs.2 b (Nat.ne_of_lt (Nat.lt_of_lt_of_le (Heap.lt_size e) (I.ok.cab x c hfn hc)))).trans e1⟩
  ·by_cases hj:j=i
   ·subst hj
    rw [hi] at e1;cases e1
    rw [List.getElem?_set_self hiσ] at e2
    cases e2
    exact ⟨u,r, .inr ⟨.inl hk,c,hc,hc'⟩⟩
   ·rw [List.getElem?_set_ne (Ne.symm hj)] at e2
    obtain ⟨u',r',q⟩:=hl j y v' e1 e2 e3
    refine ⟨u',r',?_⟩
    rcases q with q | ⟨k,c',e,z'⟩
    ·exact .inl q
    ·refine .inr ⟨k,c',e,z'.sameBut hs ?_⟩
     rintro rfl
     exact hj (a3d hN e1 (I.ok.inj _ _ _ e hc ▸ hi))
  ·by_cases hcc:c'=c
   ·subst hcc;exact ⟨_,hc'⟩
   ·obtain ⟨w2,z2⟩:=I.cell y c' e
    exact ⟨w2,z2.sameBut hs hcc⟩
  ·obtain ⟨e,n,ne,nf,d⟩:=I.pin p hp
   refine ⟨(hs.2 p.1 ?_).trans e,n,ne,nf,d⟩
   intro q
   rw [q,hoc] at e
   have q':oc=p.2:=Option.some.inj e
   exact d w' (by rw [← q'];exact hocd)
theorem a0u {M:Model} {A:Around} {E:Value→Shared→Prop} {i:Nat} {x:Str} {v:V} {u:Value} {Q:Unit→Shared→Prop} (I:Inv X pins σ H s) (hN:X.N.Nodup) (hi:X.N[i]? = some x) (hx:Loc X.env.scope x) (r:RelV v u)
  (h:∀ s',Inv X pins (σ.set i (some v)) H s'→Q () s') (hf:X.fn x=true∨X.env.scope.names.lookup x=some .local:=by first | exact .inl rfl | exact .inr rfl | assumption):wpAny M A (storeName X.env x u) Q E s :=
 a5b I hN hi hx r (fun s' I' _=>h s' I') hf
theorem Inv.call' {s':Shared} {ch:List Addr} (I:Inv X pins σ H s) (ho:s'.os=s.os) (u:Un (frs X.stack) ch H H' s.heap s'.heap) (hok:HOk X.prog X.w H' s'.heap) (hg:AllBare s'.gens)
  (hch:∀ b∈ch,(b∈X.ex∨X.s₀.heap.objs.size≤b)∧b≠X.env.locals∧(∀ x c,X.env.cells.lookup x=some c→c≠b)∧∀ p∈X.pn++pins,p.1≠b):Inv X pins σ H' s':=by
 obtain ⟨h',g',d',t',o'⟩:=s'
 have e:o'=s.os:=ho
 subst e
 exact I.call (g':=g') (t':=t') (d':=d') u hok hg hch
end
abbrev XK:=Value→Option Addr→Hp→Prop
abbrev St:=List (Option V)
abbrev VK:=V→Hp→Prop
abbrev TE:=St→Hp→VK→Prop
abbrev TT:=St→Hp→(Bool→Hp→Prop)→Prop
abbrev TA:=St→Hp→(List V→Hp→Prop)→Prop
structure Ends where
 nx:St→Hp→Prop
 rt:VK
 bk:St→Hp→Prop:=fun _ _=>False
 ct:St→Hp→Prop:=fun _ _=>False
abbrev TS:=Ends→St→Hp→Prop
def EP (X:Cx) (pins:List (Addr × Obj)) (σ:St) (Q:VK) (u:Value) (s':Shared):Prop:=∃ v H',Inv X pins σ H' s'∧RelV v u∧Q v H'
def TP (X:Cx) (pins:List (Addr × Obj)) (σ:St) (Q:Bool→Hp→Prop) (b:Bool) (s':Shared):Prop:=∃ H',Inv X pins σ H' s'∧Q b H'
def AP (X:Cx) (pins:List (Addr × Obj)) (σ:St) (Q:List V→Hp→Prop) (us:List Value) (s':Shared):Prop:=∃ vs H',Inv X pins σ H' s'∧Vals vs us∧Q vs H'
def SP (X:Cx) (pins:List (Addr × Obj)) (D:Ends) (f:Flow) (s':Shared):Prop :=
 match f with
 | .next=>∃ σ' H',Inv X pins σ' H' s'∧D.nx σ' H'
 | .brk=>∃ σ' H',Inv X pins σ' H' s'∧D.bk σ' H'
 | .cont=>∃ σ' H',Inv X pins σ' H' s'∧D.ct σ' H'
 | .ret u=>∃ v σ' H',Inv X pins σ' H' s'∧RelV v u∧D.rt v H'
def PE (X:Cx) (e:Expr) (t:TE):Prop :=
 ∀ (pins:List (Addr × Obj)) (s:Shared) (σ:St) (H:Hp) (Q:VK),Inv X pins σ H s→t σ H Q→wpAny (model X.prog X.w) X.A (eval e X.env) (EP X pins σ Q) X.xe s
def PT (X:Cx) (e:Expr) (t:TT):Prop :=
 ∀ (pins:List (Addr × Obj)) (s:Shared) (σ:St) (H:Hp) (Q:Bool→Hp→Prop),Inv X pins σ H s→t σ H Q→wpAny (model X.prog X.w) X.A (isTrue e X.env (eval e X.env)) (TP X pins σ Q) X.xe s
def PW (X:Cx) (e:Expr) (t:TT):Prop :=
 ∀ (whole:Sem Value) (pins:List (Addr × Obj)) (s:Shared) (σ:St) (H:Hp) (Q:Bool→Hp→Prop),Inv X pins σ H s→t σ H Q→wpAny (model X.prog X.w) X.A (isTrue e X.env whole) (TP X pins σ Q) X.xe s
theorem PW.pt {X:Cx} {e:Expr} {t:TT} (h:PW X e t):PT X e t:=h _
def PA (X:Cx) (es:List Expr) (t:TA):Prop :=
 ∀ (pos:Pos) (pins:List (Addr × Obj)) (s:Shared) (σ:St) (H:Hp) (Q:List V→Hp→Prop),Inv X pins σ H s→t σ H Q→wpAny (model X.prog X.w) X.A (spliced (backTo pos (starEach es X.env))) (AP X pins σ Q) X.xe s
def PS (X:Cx) (st:Stmt) (t:TS):Prop :=
 ∀ (pins:List (Addr × Obj)) (s:Shared) (σ:St) (H:Hp) (D:Ends),Inv X pins σ H s→t D σ H→wpAny (model X.prog X.w) X.A (exec st X.env) (SP X pins D) X.xe s
def PSs (X:Cx) (st:List Stmt) (t:TS):Prop :=
 ∀ (pins:List (Addr × Obj)) (s:Shared) (σ:St) (H:Hp) (D:Ends),Inv X pins σ H s→t D σ H→wpAny (model X.prog X.w) X.A (execs st X.env) (SP X pins D) X.xe s
theorem thn {α:Type} {t:Sem α} {Q Q':α→Shared→Prop} {M:Model} {A:Around} {E:Value→Shared→Prop} {s:Shared} (h:wpAny M A t Q E s) (hQ:∀ a s,Q a s→Q' a s):wpAny M A t Q' E s:=wpAny_mono h hQ fun _ _ x=>x
end L2
namespace L2
open PySem PySem.Spec PyProof.Rows
section
variable {X:Cx}
theorem bin {a b:Expr} {ta tb:TE} (ha:PE X a ta) (hb:PE X b tb) {pins:List (Addr × Obj)} {s:Shared} {σ:St} {H:Hp} {R:V→V→Hp→Prop} (I:Inv X pins σ H s) (h:ta σ H fun x H1=>tb σ H1 fun y H2=>R x y H2)
  {α:Type} {Q:α→Shared→Prop} {f:Value→Value→Sem α}
  (hf:∀ v u s2 x y H2,Inv X pins σ H2 s2→RelV x v→RelV y u→R x y H2→wpAny (model X.prog X.w) X.A (f v u) Q X.xe s2) :
  wpAny (model X.prog X.w) X.A (eval a X.env) (fun v s₁=>wpAny (model X.prog X.w) X.A (eval b X.env) (fun u s₂=>wpAny (model X.prog X.w) X.A (f v u) Q X.xe s₂) X.xe s₁) X.xe s:=by
 refine thn (ha pins s σ H _ I h) fun v s1 ⟨x,H1,I1,r1,q1⟩=>?_
 refine thn (hb pins s1 σ H1 _ I1 q1) fun u s2 ⟨y,H2,I2,r2,q2⟩=>?_
 exact hf v u s2 x y H2 I2 r1 r2 q2
def aq2 (i:Nat):TE:=fun σ H Q=>∃ v,σ[i]? = some (some v)∧Q v H
def tC (v:V):TE:=fun _ H Q=>Q v H
theorem a9i {i:Nat} {x:Str} {pos:Pos} (hN:X.N[i]? = some x) (hv:Vis X.env.scope x) (hd:(x == ("__debug__" : Str))=false:=by decide) (hcd:(x == ("__classdict__" : Str))=false:=by decide):PE X (.Name x pos) (aq2 i):=by
 intro pins s σ H Q I h
 obtain ⟨v,e,h⟩:=h
 obtain ⟨m,hn,hl⟩:=I.loc
 obtain ⟨u,r,l⟩:=hl i x v hN e hv
 have fin:EP X pins σ Q u s:=⟨v,H,I,r,h⟩
 rcases l with ⟨hk,hm⟩ | ⟨hk,c,hc,hcell⟩
 ·exact wpAny_Name (wpAny_loadName_local I.ok.kind hk hn hm fin) hd
 ·rcases hk with hk | hk
  ·exact wpAny_Name (wpAny_loadName_cell I.ok.kind hk hc hcell fin) hd
  ·exact wpAny_Name (wpAny_loadName_free I.ok.kind hk hc hcell fin hcd) hd
theorem ajl {i j pos}:PE X (.Constant (.int i) j pos) (tC (.int i)):=fun _ _ _ H _ I h=>wpAny_Constant_int ⟨.int i,H,I.tok _,⟨_,rfl⟩,h⟩
theorem anp {b j pos}:PE X (.Constant (.bool b) j pos) (tC (.bl b)):=fun _ _ _ H _ I h=>Constant_bool ⟨.bl b,H,I,rfl,h⟩
theorem ajm {j pos}:PE X (.Constant .none j pos) (tC .non):=fun _ _ _ H _ I h=>Constant_none ⟨.non,H,I,rfl,h⟩
theorem ajn {x j pos}:PE X (.Constant (.str x) j pos) (tC (.str x)):=fun _ _ _ H _ I h=>Calls.Constant_str ⟨.str x,H,I.tok _,⟨_,rfl⟩,h⟩
def Gl (X:Cx) (x:Str):Prop:=X.env.kindOf x=some .globalImplicit
theorem a08 {E:Value→Shared→Prop} {pins:List (Addr × Obj)} {s:Shared} {σ:St} {H:Hp} {x:Str} {u:Value} {pos:Pos} {Q:Value→Shared→Prop} (I:Inv X pins σ H s) (hg:Gl X x) (hm:X.mg x=some u) (h:Q u s)
  (hd:(x == ("__debug__" : Str))=false:=by decide):wpAny (model X.prog X.w) X.A (eval (.Name x pos) X.env) Q E s :=
 Calls.Name_function_global I.ok.kind hg (Calls.loadGlobal_global (by rw [I.ok.glob];exact I.mod.glob.keeps I.bk) hm h) hd
theorem a2h {E:Value→Shared→Prop} {pins:List (Addr × Obj)} {s:Shared} {σ:St} {H:Hp} {x:Str} {u:Value} {pos:Pos} {Q:Value→Shared→Prop} (I:Inv X pins σ H s) (hg:Gl X x) (hm:X.mg x=none) (hv:bootBuiltins x=some u) (h:Q u s)
  (hn:x ≠ "__name__":=by decide) (hd:(x == ("__debug__" : Str))=false:=by decide):wpAny (model X.prog X.w) X.A (eval (.Name x pos) X.env) Q E s:=by
 obtain ⟨mb,h1,h2⟩:=I.mod.blt
 exact Calls.Name_function_global I.ok.kind hg (Calls.loadGlobal_builtin (by rw [I.ok.glob];exact I.mod.glob.keeps I.bk) hm (by rw [I.ok.blt];exact h1.keeps I.bk) ((h2 x hn).trans hv) h) hd
theorem a1f {x:Str} {v:V} {u:Value} {pos:Pos} (hg:Gl X x) (hm:X.mg x=some u) (r:RelV v u) (hd:(x == ("__debug__" : Str))=false:=by decide):PE X (.Name x pos) (tC v) :=
 fun _ _ _ H _ I h=>a08 I hg hm ⟨v,H,I,r,h⟩ hd
theorem a9j {x:Str} {v:V} {u:Value} {pos:Pos} (hg:Gl X x) (hm:X.mg x=none) (hv:bootBuiltins x=some u) (r:RelV v u) (hn:x ≠ "__name__":=by decide) (hd:(x == ("__debug__" : Str))=false:=by decide):PE X (.Name x pos) (tC v) :=
 fun _ _ _ H _ I h=>a2h I hg hm hv ⟨v,H,I,r,h⟩ hn hd
variable {a b:Expr} {ta tb:TE} {pos:Pos}
variable {tA tB':TT} {rest:List Expr}
def aq3 (t u:TT):TT:=fun σ H Q=>t σ H fun c H1=>if c=true then u σ H1 Q else Q false H1
def tOr (t u:TT):TT:=fun σ H Q=>t σ H fun c H1=>if c=true then Q true H1 else u σ H1 Q
def aq4 (t:TT):TT:=fun σ H Q=>t σ H fun c H1=>Q (!c) H1
theorem ags (ha:PT X a tA):PW X (.BoolOp .And [a] pos) tA:=by
 intro wh pins s σ H Q I h
 refine isTrue_and (thn (ha pins s σ H Q I h) fun c s1 e=>?_)
 cases c with
 | true=>exact isTrue_and_nil e
 | false=>exact e
theorem ajo (ha:PT X a tA):PW X (.BoolOp .Or [a] pos) tA:=by
 intro wh pins s σ H Q I h
 refine isTrue_or (thn (ha pins s σ H Q I h) fun c s1 e=>?_)
 cases c with
 | false=>exact isTrue_or_nil e
 | true=>exact e
theorem ajp (ha:PT X a tA) (hb:PW X (.BoolOp .And (b::rest) pos) tB'):PW X (.BoolOp .And (a::b::rest) pos) (aq3 tA tB'):=by
 intro wh pins s σ H Q I h
 refine isTrue_and (thn (ha pins s σ H _ I h) fun c s1 ⟨H1,I1,q1⟩=>?_)
 cases c with
 | true=>exact hb wh pins s1 σ H1 Q I1 q1
 | false=>exact ⟨H1,I1,q1⟩
theorem anq (ha:PT X a tA) (hb:PW X (.BoolOp .Or (b::rest) pos) tB'):PW X (.BoolOp .Or (a::b::rest) pos) (tOr tA tB'):=by
 intro wh pins s σ H Q I h
 refine isTrue_or (thn (ha pins s σ H _ I h) fun c s1 ⟨H1,I1,q1⟩=>?_)
 cases c with
 | true=>exact ⟨H1,I1,q1⟩
 | false=>exact hb wh pins s1 σ H1 Q I1 q1
theorem ajq (ha:PT X a tA):PT X (.UnaryOp .Not a pos) (aq4 tA):=by
 intro pins s σ H Q I h
 exact isTrue_not (ha pins s σ H (fun c H1=>Q (!c) H1) I h)
def anr (ta tb:TE):TE:=fun σ H Q=>ta σ H fun x H1=>∃ c,x = .bl c∧if c=true then tb σ H1 Q else Q (.bl false) H1
theorem ajr {op} {t:TE} (h:PE X a t):PE X (.BoolOp op [a] pos) t:=fun pins s σ H Q I hw=>BoolOp_one (h pins s σ H Q I hw)
theorem ajs (ha:PE X a ta) (hb:PE X (.BoolOp .And (b::rest) pos) tb):PE X (.BoolOp .And (a::b::rest) pos) (anr ta tb):=by
 intro pins s σ H Q I h
 refine BoolOp_and (thn (ha pins s σ H _ I h) fun v s1 ⟨x,H1,I1,r1,q1⟩=>?_)
 obtain ⟨c,rfl,q1⟩:=q1
 cases r1
 refine wpAny_truthy_bool ?_
 cases c with
 | true=>exact hb pins s1 σ H1 Q I1 q1
 | false=>exact ⟨.bl false,H1,I1,rfl,q1⟩
def tIf (t:TT) (ta tb:TE):TE:=fun σ H Q=>t σ H fun c H1=>if c=true then ta σ H1 Q else tb σ H1 Q
theorem acx {c:Expr} (hc:PT X c tA) (ha:PE X a ta) (hb:PE X b tb):PE X (.IfExp c a b pos) (tIf tA ta tb):=by
 intro pins s σ H Q I h
 refine wpAny_IfExp (thn (hc pins s σ H _ I h) fun d s1 ⟨H1,I1,q1⟩=>?_)
 cases d with
 | true=>exact ha pins s1 σ H1 Q I1 q1
 | false=>exact hb pins s1 σ H1 Q I1 q1
end
end L2
namespace L2
open PySem PySem.Spec PyProof.Rows
def SqL (K:PySem.W.Frag) (H:Hp) (a:Addr) (xs:List V):Prop :=
 Rd H a (.lst xs) ∨
  ∃ (o:Obj) (its:Array Value) (n:Nat),K.lookup a=some o∧o.cls = .type "list"∧o.dict=none∧o.data = .seq its n∧its.size≤sizeLine∧Vals xs its.toList
def SqT (K:PySem.W.Frag) (H:Hp) (a:Addr) (xs:List V):Prop :=
 Rd H a (.tup xs) ∨
  ∃ (o:Obj) (its:Array Value) (n:Nat),K.lookup a=some o∧o.cls = .type "tuple"∧o.data = .seq its n∧its.size≤sizeLine∧Vals xs its.toList
def aq5:Value→Option V
 | .none=>some .non
 | .bool b=>some (.bl b)
 | .int i _=>some (.int i)
 | .str x _=>some (.str x)
 | .bytes b _=>some (.byt b)
 | .float b _=>some (.flt b)
 | .ref a=>some (.ref a)
 | .type n=>some (.ty n)
 | _=>none
theorem RelV.abs {x:V} {u:Value} (r:RelV x u):aq5 u=some x:=by
 cases x with
 | non=>cases r;rfl
 | bl _=>cases r;rfl
 | int _=>obtain ⟨t,rfl⟩:=r;rfl
 | str _=>obtain ⟨t,rfl⟩:=r;rfl
 | byt _=>obtain ⟨t,rfl⟩:=r;rfl
 | flt _=>obtain ⟨t,rfl⟩:=r;rfl
 | ref _=>cases r;rfl
 | ty _=>cases r;rfl
theorem RelV.inj {x y:V} {u:Value} (r:RelV x u) (q:RelV y u):x=y:=Option.some.inj (r.abs.symm.trans q.abs)
theorem Vals.inj:∀ {xs ys:List V} {us:List Value},Vals xs us→Vals ys us→xs=ys
 | _,_,_, .nil, .nil=>rfl
 | _,_,_, .cons r t, .cons r' t'=>by rw [r.inj r',Vals.inj t t']
section
variable {X:Cx} {pins:List (Addr × Obj)} {σ:St} {H:Hp} {s:Shared} {a:Addr} {xs ys:List V}
theorem SqL.of {K:PySem.W.Frag} (h:H a=some (.lst xs)):SqL K H a xs:=.inl (.inl h)
theorem SqT.of {K:PySem.W.Frag} (h:H a=some (.tup xs)):SqT K H a xs:=.inl (.inl h)
theorem Inv.list (I:Inv X pins σ H s) (h:SqL X.K H a xs):∃ its:List Value,Vals xs its∧PlainL s.heap a its.toArray∧xs.length≤sizeLine:=by
 rcases h with h | ⟨o,its,n,hk,hc,hd,hs,hz,r⟩
 ·obtain ⟨z,its,n,r,e⟩:=h.ok I.hok
  exact ⟨its,r,⟨_,n,e,rfl,rfl,rfl⟩,z⟩
 ·refine ⟨its.toList,r,⟨o,n,I.kIn a o hk,hc,hd,by simpa using hs⟩,?_⟩
  have e:=r.length
  simp only [Array.length_toList] at e
  omega
theorem Inv.tuple (I:Inv X pins σ H s) (h:SqT X.K H a xs):∃ its:List Value,Vals xs its∧IsTup s.heap a its.toArray∧xs.length≤sizeLine:=by
 rcases h with h | ⟨o,its,n,hk,hc,hs,hz,r⟩
 ·obtain ⟨z,its,r,p⟩:=h.ok I.hok
  exact ⟨its,r,p,z⟩
 ·refine ⟨its.toList,r,⟨o,I.kIn a o hk,hc,n,by simpa using hs⟩,?_⟩
  have e:=r.length
  simp only [Array.length_toList] at e
  omega
theorem Inv.list_inj (I:Inv X pins σ H s) (h:SqL X.K H a xs) (h':SqL X.K H a ys):xs=ys:=by
 obtain ⟨its,r,⟨o,n,e,_,_,d⟩,_⟩:=I.list h
 obtain ⟨its',r',⟨o',n',e',_,_,d'⟩,_⟩:=I.list h'
 rw [e] at e';cases e'
 rw [d] at d'
 injection d' with d1 _
 have:its=its':=by simpa using congrArg Array.toList d1
 subst this
 exact r.inj r'
theorem Inv.tuple_inj (I:Inv X pins σ H s) (h:SqT X.K H a xs) (h':SqT X.K H a ys):xs=ys:=by
 obtain ⟨its,r,⟨o,e,_,n,d⟩,_⟩:=I.tuple h
 obtain ⟨its',r',⟨o',e',_,n',d'⟩,_⟩:=I.tuple h'
 rw [e] at e';cases e'
 rw [d] at d'
 injection d' with d1 _
 have:its=its':=by simpa using congrArg Array.toList d1
 subst this
 exact r.inj r'
end
abbrev Cx.wish (X:Cx) (E:Value→Shared→Prop):Cx:={ X with xe:=E }
abbrev Cx.nox (X:Cx):Cx:=X.wish fun _ _=>False
theorem Cx.Ok.wish {X:Cx} (ok:X.Ok) (E:Value→Shared→Prop):(X.wish E).Ok :=
 ⟨ok.mod,ok.kind,ok.glob,ok.blt,ok.above,ok.inj,ok.has,ok.cab,ok.hd,ok.frames,ok.stk,ok.exf,ok.bs,ok.bsz,ok.noex,ok.exfs,ok.funs,ok.frf⟩
theorem Cx.Ok.unwish {X:Cx} {E:Value→Shared→Prop} (ok:(X.wish E).Ok):X.Ok :=
 ⟨ok.mod,ok.kind,ok.glob,ok.blt,ok.above,ok.inj,ok.has,ok.cab,ok.hd,ok.frames,ok.stk,ok.exf,ok.bs,ok.bsz,ok.noex,ok.exfs,ok.funs,ok.frf⟩
section
variable {X:Cx} {pins:List (Addr × Obj)} {σ:St} {H:Hp} {s:Shared} {E:Value→Shared→Prop}
theorem Inv.wish (I:Inv X pins σ H s) (E:Value→Shared→Prop):Inv (X.wish E) pins σ H s:=⟨I.ok.wish E,I.os,I.bare,I.base,I.loc,I.cell,I.free,I.freeC,I.pin,I.hok,I.len⟩
theorem Inv.unwish (I:Inv (X.wish E) pins σ H s):Inv X pins σ H s:=⟨I.ok.unwish,I.os,I.bare,I.base,I.loc,I.cell,I.free,I.freeC,I.pin,I.hok,I.len⟩
theorem SP.unwish {D:Ends} {f:Flow} {s':Shared} (h:SP (X.wish E) pins D f s'):SP X pins D f s':=by
 cases f with
 | next=>obtain ⟨σ',H',I,q⟩:=h;exact ⟨σ',H',I.unwish,q⟩
 | brk=>obtain ⟨σ',H',I,q⟩:=h;exact ⟨σ',H',I.unwish,q⟩
 | cont=>obtain ⟨σ',H',I,q⟩:=h;exact ⟨σ',H',I.unwish,q⟩
 | ret u=>obtain ⟨v,σ',H',I,r,q⟩:=h;exact ⟨v,σ',H',I.unwish,r,q⟩
theorem PSs.nox {st:List Stmt} {t:TS} (h:PSs X.nox st t):PSs X st t:=fun pins s σ H D I hw =>
 wpAny_mono (h pins s σ H D (I.wish _) hw) (fun _ _ q=>q.unwish) fun _ _ z=>False.elim z
end
section
variable {X:Cx} {st:Stmt} {rest:List Stmt} {t u:TS} {e:Expr} {te:TE} {pos:Pos}
def ant:TS:=fun D σ H=>D.nx σ H
def aq6 (t u:TS):TS:=fun D σ H=>t { D with nx:=u D } σ H
theorem agt:PSs X [] ant:=fun _ _ σ H _ I h=>wpAny_execs_nil ⟨σ,H,I,h⟩
theorem acy (h1:PS X st t) (h2:PSs X rest u):PSs X (st::rest) (aq6 t u):=by
 intro pins s σ H D I h
 refine wpAny_execs_cons (thn (h1 pins s σ H { D with nx:=u D } I h) fun f s1 q=>?_)
 cases f with
 | next =>
  obtain ⟨σ',H',I',q⟩:=q
  exact h2 pins s1 σ' H' D I' q
 | ret v=>exact q
 | brk=>exact q
 | cont=>exact q
theorem agu (h1:PS X st t):PSs X [st] t:=by
 intro pins s σ H D I h
 refine wpAny_execs_cons (thn (h1 pins s σ H D I h) fun f s1 q=>?_)
 cases f with
 | next=>exact wpAny_execs_nil q
 | ret v=>exact q
 | brk=>exact q
 | cont=>exact q
theorem Inv.quiet {pins:List (Addr × Obj)} {σ:St} {H:Hp} {s:Shared} (I:Inv X pins σ H s):interactive X.env=false:=by simp [interactive,I.ok.kind]
def anu (te:TE):TS:=fun D σ H=>te σ H fun _ H1=>D.nx σ H1
theorem agv (he:PE X e te) (hs:swapsWith e none pos.line X.env=pure false:=by rfl):PS X (.Expr e pos) (anu te):=by
 intro pins s σ H D I h
 exact wpAny_Expr_any (thn (he pins s σ H _ I h) fun v s1 ⟨x,H1,I1,r1,q1⟩=>⟨σ,H1,I1,q1⟩) I.quiet hs
def aq7 (te:TE):TS:=fun D σ H=>te σ H D.rt
theorem ajt (he:PE X e te):PS X (.Return (some e) pos) (aq7 te):=by
 intro pins s σ H D I h
 exact wpAny_Return_some (thn (he pins s σ H _ I h) fun v s1 ⟨x,H1,I1,r1,q1⟩=>⟨x,σ,H1,I1,r1,q1⟩)
def aq8 (c:TT) (t u:TS):TS:=fun D σ H=>c σ H fun b H1=>if b=true then t D σ H1 else u D σ H1
theorem anv {c:Expr} {a b:List Stmt} {tc:TT} (hc:PT X c tc) (ha:PSs X a t) (hb:PSs X b u):PS X (.If c a b pos) (aq8 tc t u):=by
 intro pins s σ H D I h
 refine wpAny_If (thn (hc pins s σ H _ I h) fun d s1 ⟨H1,I1,q1⟩=>?_)
 cases d with
 | true=>exact ha pins s1 σ H1 D I1 q1
 | false=>exact hb pins s1 σ H1 D I1 q1
end
abbrev TG:=V→St→Hp→(St→Hp→Prop)→Prop
abbrev TGs:=List V→St→Hp→(St→Hp→Prop)→Prop
def PG (X:Cx) (target:Expr) (t:TG):Prop :=
 ∀ (pins:List (Addr × Obj)) (s:Shared) (σ:St) (H:Hp) (v:V) (u:Value) (Q:St→Hp→Prop),Inv X pins σ H s→RelV v u→t v σ H Q →
  wpAny (model X.prog X.w) X.A (assign target X.env u) (fun _ s'=>∃ σ' H',Inv X pins σ' H' s'∧Q σ' H') X.xe s
def PGs (X:Cx) (ts:List Expr) (t:TGs):Prop :=
 ∀ (pins:List (Addr × Obj)) (s:Shared) (σ:St) (H:Hp) (vs:List V) (us:List Value) (Q:St→Hp→Prop),Inv X pins σ H s→Vals vs us→t vs σ H Q →
  wpAny (model X.prog X.w) X.A (assignInOrder ((assignEach ts X.env).map (·.2)) us) (fun _ s'=>∃ σ' H',Inv X pins σ' H' s'∧Q σ' H') X.xe s
abbrev aju:=V→V→V→Hp→(Hp→Prop)→Prop
def anw (X:Cx) (t:aju):Prop :=
 ∀ (pins:List (Addr × Obj)) (s:Shared) (σ:St) (H:Hp) (o i v:V) (ov iv u:Value) (Q:Hp→Prop),Inv X pins σ H s→RelV o ov→RelV i iv→RelV v u→t o i v H Q →
  wpAny (model X.prog X.w) X.A (setItem ov iv u) (fun _ s'=>∃ H',Inv X pins σ H' s'∧Q H') X.xe s
abbrev TIp:=V→V→Hp→VK→Prop
def PIp (X:Cx) (op:Operator) (t:TIp):Prop :=
 ∀ (pins:List (Addr × Obj)) (s:Shared) (σ:St) (H:Hp) (x y:V) (v u:Value) (Q:VK),Inv X pins σ H s→RelV x v→RelV y u→t x y H Q →
  wpAny (model X.prog X.w) X.A (inplaceOp op v u) (EP X pins σ Q) X.xe s
section
variable {X:Cx} {pos:Pos}
def a8f (i:Nat):TG:=fun v σ H Q=>Q (σ.set i (some v)) H
theorem qd {i:Nat} {x:Str} (hN:X.N.Nodup) (hi:X.N[i]? = some x) (hx:Loc X.env.scope x) (hf:X.fn x=true∨X.env.scope.names.lookup x=some .local:=by first | exact .inl rfl | exact .inr rfl | assumption):PG X (.Name x pos) (a8f i):=by
 intro pins s σ H v u Q I r h
 exact wpAny_assign_Name (a0u I hN hi hx r (fun s' I'=>⟨_,H,I',h⟩) hf)
def aq9:TGs:=fun vs σ H Q=>vs=[]∧Q σ H
def ajv (t:TG) (u:TGs):TGs:=fun vs σ H Q=>∃ v r,vs=v::r∧t v σ H fun σ' H'=>u r σ' H' Q
theorem agw:PGs X [] aq9:=by
 intro pins s σ H vs us Q I r h
 obtain ⟨e,h⟩:=h
 subst e
 cases r
 exact assignInOrder_nil ⟨σ,H,I,h⟩
theorem acz {e:Expr} {es:List Expr} {t:TG} {u:TGs} (h1:PG X e t) (h2:PGs X es u)
  (hs:(assignEach (e::es) X.env).map (·.2)=assign e X.env::(assignEach es X.env).map (·.2):=by rfl):PGs X (e::es) (ajv t u):=by
 intro pins s σ H vs us Q I r h
 obtain ⟨v,vr,e1,h⟩:=h
 subst e1
 cases r with
 | cons r rr =>
  rw [hs]
  refine assignInOrder_cons (thn (h1 pins s σ H _ _ _ I r h) fun _ s1 ⟨σ1,H1,I1,q1⟩=>?_)
  exact h2 pins s1 σ1 H1 _ _ Q I1 rr q1
def a0v (K:PySem.W.Frag) (n:Nat) (t:TGs):TG:=fun v σ H Q=>∃ a xs,v = .ref a∧SqT K H a xs∧xs.length=n∧t xs σ H Q
theorem ajw {es:List Expr} {k:Nat} {t:TGs} {n:Nat} (hc:X.calm=true) (h:PGs X es t)
  (hn:(assignEach es X.env).length=n:=by rfl) (hst:(assignEach es X.env).findIdx? (·.1)=none:=by rfl):PG X (.Tuple es k pos) (a0v X.K n t):=by
 intro pins s σ H v u Q I r hw
 obtain ⟨a,xs,e1,hq,hl,hw⟩:=hw
 subst e1
 cases r
 obtain ⟨its,rv,ht,hz⟩:=I.tuple hq
 refine assign_Tuple_tuple (I.ok.hd hc) ht (by simp [hn,← hl,rv.length]) hst fun h' hx=>?_
 have I1:Inv X pins σ H { s with heap:=h' }:=I.kept (t':=s.toks) fun b o e=>hx b o (Nat.ne_of_lt (Heap.lt_size e)) e
 exact h pins _ σ H xs _ Q I1 (by simpa using rv) hw
def a8g (to ti:TE) (t:aju):TG:=fun v σ H Q=>to σ H fun o H1=>ti σ H1 fun i H2=>t o i v H2 fun H3=>Q σ H3
theorem ajx {o i:Expr} {to ti:TE} {t:aju} (ho:PE X o to) (hi:PE X i ti) (hs:anw X t)
  (ha:∀ v,assign (.Subscript o i pos) X.env v=(do
   let ov ← holding [v] (eval o X.env)
   let iv ← holding [v,ov] (eval i X.env)
   standAt pos
   holding [v,ov,iv] (setItem ov iv v)
   release [v,ov,iv] []):=by intro _;rfl):PG X (.Subscript o i pos) (a8g to ti t):=by
 intro pins s σ H v u Q I r h
 rw [ha]
 refine wpAny_bind (wpAny_holding (thn (ho pins s σ H _ I h) fun ov s1 ⟨x,H1,I1,r1,q1⟩=>?_))
 refine wpAny_bind (wpAny_holding (thn (hi pins s1 σ H1 _ I1 q1) fun iv s2 ⟨y,H2,I2,r2,q2⟩=>?_))
 refine wpAny_bind (wpAny_standAt (wpAny_bind (wpAny_holding (thn (hs pins s2 σ H2 x y v ov iv u _ I2 r1 r2 r q2) fun _ s3 ⟨H3,I3,q3⟩=>?_))))
 exact wpAny_release ⟨σ,H3,I3,q3⟩
def amx (te:TE) (g:TG):TS:=fun D σ H=>te σ H fun x H1=>g x σ H1 D.nx
theorem afl {tg e:Expr} {te:TE} {g:TG} (he:PE X e te) (hg:PG X tg g) (hs:swapsWithSole [tg] e pos.line X.env=pure false:=by rfl) (hw:swappedStores [tg] e X.env=pure none:=by rfl)
  (h1:(assignEach [tg] X.env).map (·.2)=[assign tg X.env]:=by rfl):PS X (.Assign [tg] e pos) (amx te g):=by
 intro pins s σ H D I h
 refine wpAny_Assign_stores (thn (he pins s σ H _ I h) fun v s1 ⟨x,H1,I1,r1,q1⟩=>?_) hs hw
 rw [h1]
 exact thn (hg pins s1 σ H1 x v _ I1 r1 q1) fun _ s2 q=>q
theorem ajy {i:Nat} {x:Str} {e:Expr} {te:TE} {pos':Pos} (hN:X.N.Nodup) (hi:X.N[i]? = some x) (hx:Loc X.env.scope x) (he:PE X e te) (hs:swapsWith e (some (.Name x pos')) pos.line X.env=pure false:=by rfl) (hf:X.fn x=true∨X.env.scope.names.lookup x=some .local:=by first | exact .inl rfl | exact .inr rfl | assumption) :
  PS X (.Assign [.Name x pos'] e pos) (amx te (a8f i)):=by
 intro pins s σ H D I h
 refine wpAny_Assign_Name (thn (he pins s σ H _ I h) fun v s1 ⟨y,H1,I1,r1,q1⟩=>?_) hs
 exact a0u I1 hN hi hx r1 (fun s2 I2=>⟨_,H1,I2,q1⟩) hf
def aqa (i:Nat) (te:TE) (ti:TIp):TS:=fun D σ H=>∃ x,σ[i]? = some (some x)∧te σ H fun y H1=>ti x y H1 fun z H2=>D.nx (σ.set i (some z)) H2
theorem ajz {i:Nat} {x:Str} {e:Expr} {te:TE} {op:Operator} {ti:TIp} {pos':Pos} (hN:X.N.Nodup) (hi:X.N[i]? = some x) (hx:Loc X.env.scope x) (he:PE X e te) (ho:PIp X op ti) (hf:X.fn x=true∨X.env.scope.names.lookup x=some .local:=by first | exact .inl rfl | exact .inr rfl | assumption) :
  PS X (.AugAssign (.Name x pos') op e pos) (aqa i te ti):=by
 intro pins s σ H D I h
 obtain ⟨v,e1,h⟩:=h
 obtain ⟨m,hn,hl⟩:=I.loc
 have vis:Vis X.env.scope x:=by rcases hx with k | k;exact .inl k;exact .inr (.inl k)
 obtain ⟨u,r,l⟩:=hl i x v hi e1 vis
 refine wpAny_AugAssign_Name ?_
 have go:wpAny (model X.prog X.w) X.A (eval e X.env) (fun w s₂=>wpAny (model X.prog X.w) X.A (inplaceOp op u w) (fun r s₃=>wpAny (model X.prog X.w) X.A (storeName X.env x r) (fun _=>SP X pins D .next) X.xe s₃) X.xe s₂) X.xe s:=by
  refine thn (he pins s σ H _ I h) fun w s1 ⟨y,H1,I1,r1,q1⟩=>?_
  refine thn (ho pins s1 σ H1 v y u w _ I1 r r1 q1) fun z s2 ⟨zv,H2,I2,r2,q2⟩=>?_
  exact a0u I2 hN hi hx r2 (fun s3 I3=>⟨_,H2,I3,q2⟩) hf
 rcases l with ⟨hk,hm⟩ | ⟨hk,c,hc,hcell⟩
 ·exact wpAny_loadName_local I.ok.kind hk hn hm go
 ·rcases hk with hk | hk
  ·exact wpAny_loadName_cell I.ok.kind hk hc hcell go
  ·rcases hx with k | k
   ·have:X.env.scope.names.lookup x=some .free:=hk
    rw [k] at this;cases this
   ·have:X.env.scope.names.lookup x=some .free:=hk
    rw [k] at this;cases this
def anx (to ti te:TE) (tget:V→V→Hp→VK→Prop) (tip:TIp) (tset:aju):TS:=fun D σ H=>to σ H fun o H1=>ti σ H1 fun i H2=>tget o i H2 fun x H3=>te σ H3 fun y H4=>tip x y H4 fun z H5=>tset o i z H5 fun H6=>D.nx σ H6
def ap9 (X:Cx) (t:V→V→Hp→VK→Prop):Prop :=
 ∀ (pins:List (Addr × Obj)) (s:Shared) (σ:St) (H:Hp) (o i:V) (ov iv:Value) (Q:VK),Inv X pins σ H s→RelV o ov→RelV i iv→t o i H Q →
  wpAny (model X.prog X.w) X.A (getItem ov iv) (EP X pins σ Q) X.xe s
theorem agx {o i e:Expr} {to ti te:TE} {tget:V→V→Hp→VK→Prop} {tip:TIp} {tset:aju} {op:Operator} {tpos:Pos} (ho:PE X o to) (hi:PE X i ti) (hg:ap9 X tget) (he:PE X e te) (hp:PIp X op tip) (hs:anw X tset)
  (ha:∀ ov iv new,augStore i ov iv new=(do holding [new,ov,iv] (setItem ov iv new);release [new,ov,iv] [];pure .next):=by intros;rfl):PS X (.AugAssign (.Subscript o i tpos) op e pos) (anx to ti te tget tip tset):=by
 intro pins s σ H D I h
 refine wpAny_AugAssign_SubscriptAny (thn (ho pins s σ H _ I h) fun ov s1 ⟨x1,H1,I1,r1,q1⟩=>?_) ha
 refine thn (hi pins s1 σ H1 _ I1 q1) fun iv s2 ⟨x2,H2,I2,r2,q2⟩=>?_
 refine thn (hg pins s2 σ H2 x1 x2 ov iv _ I2 r1 r2 q2) fun old s3 ⟨x3,H3,I3,r3,q3⟩=>?_
 refine thn (he pins s3 σ H3 _ I3 q3) fun v s4 ⟨x4,H4,I4,r4,q4⟩=>?_
 refine thn (hp pins s4 σ H4 x3 x4 old v _ I4 r3 r4 q4) fun new s5 ⟨x5,H5,I5,r5,q5⟩=>?_
 exact thn (hs pins s5 σ H5 x1 x2 x5 ov iv new _ I5 r1 r2 r5 q5) fun _ s6 ⟨H6,I6,q6⟩=>⟨σ,H6,I6,q6⟩
end
section
variable {X:Cx} {pos:Pos}
def ak0 (c:TT) (tb:TS):TS:=fun D σ H=>∃ W:Nat→St→Hp→Prop,(∃ m,W m σ H)∧∀ m σ H,W m σ H →
 c σ H fun b H1=>if b=true then ∃ N:St→Hp→Prop,(∀ σ' H',N σ' H'→∃ m',m'<m∧W m' σ' H')∧tb { D with nx:=N,ct:=N,bk:=D.nx } σ H1 else D.nx σ H1
theorem ad0 {c:Expr} {body:List Stmt} {tc:TT} {tb:TS} (hp:PassesOwn (model X.prog X.w) X.A X.env X.xe) (hc:PT X c tc) (hb:PSs X body tb):PS X (.While c body [] pos) (ak0 tc tb):=by
 intro pins s σ H D I h
 obtain ⟨W,⟨m0,w0⟩,turn⟩:=h
 refine wpAny_While (codeAny_whileLoop (fun n s'=>∃ σ' H',Inv X pins σ' H' s'∧W n σ' H') ?_ m0 ⟨σ,H,I,w0⟩)
 rintro n s1 ⟨σ1,H1,I1,w1⟩
 refine wpAny_passesOwn hp (thn (hc pins s1 σ1 H1 _ I1 (turn n σ1 H1 w1)) fun b s2 ⟨H2,I2,q2⟩=>?_)
 cases b with
 | true =>
  obtain ⟨N,hN,q2⟩:=q2
  rw [if_pos rfl]
  refine wpAny_passesOwn hp (thn (hb pins s2 σ1 H2 _ I2 q2) fun f s3 q3=>?_)
  cases f with
  | next =>
   obtain ⟨σ3,H3,I3,n3⟩:=q3
   obtain ⟨m',hm,w3⟩:=hN σ3 H3 n3
   exact ⟨m',hm,σ3,H3,I3,w3⟩
  | cont =>
   obtain ⟨σ3,H3,I3,n3⟩:=q3
   obtain ⟨m',hm,w3⟩:=hN σ3 H3 n3
   exact ⟨m',hm,σ3,H3,I3,w3⟩
  | brk=>exact q3
  | ret v=>exact q3
 | false =>
  rw [if_neg Bool.false_ne_true]
  exact wpAny_execs_nil ⟨σ1,H2,I2,q2⟩
end
structure It where
 go:Nat→Hp→Prop
 yld:Nat→Hp→V→Hp→Prop
 stop:Nat→Hp→Prop
def a6o (X:Cx) (pins:List (Addr × Obj)) (H:Hp) (b:Addr):Prop :=
 H b=none∧b≠X.env.locals∧b ∉ X.fs∧(b∈X.ex∨X.s₀.heap.objs.size≤b)∧(∀ x c,X.env.cells.lookup x=some c→c≠b)∧∀ p∈X.pn++pins,p.1≠b
theorem Inv.fpOk {X:Cx} {pins:List (Addr × Obj)} {σ:St} {H H':Hp} {s:Shared} {b:Addr} (I:Inv X pins σ H s) (hb:s.heap.objs.size≤b) (hn:H' b=none):a6o X pins H' b:=by
 refine ⟨hn,Nat.ne_of_gt (Nat.lt_of_lt_of_le I.lt hb),I.nofs hb, .inr (Nat.le_trans I.sz hb),fun x c e z=>?_,fun p hp z=>?_⟩
 ·obtain ⟨v,q⟩:=I.cell x c e
  exact absurd (Nat.lt_of_lt_of_le q.lt (by rw [z];exact hb)) (Nat.lt_irrefl _)
 ·exact absurd (Nat.lt_of_lt_of_le (Heap.lt_size (I.pin p hp).1) (by rw [z];exact hb)) (Nat.lt_irrefl _)
structure Turn (P:Program) (w:World) (K:PySem.W.Frag) (tg:Expr) (J:It) (fp:List Addr) (it:Addr) (tn:Nat→Heap→Prop):Prop where
 mem:it∈fp
 obj:∀ i h,tn i h→∀ b∈fp,∃ o,h.get? b=some o∧∀ v,o.data≠.cell v
 keep:∀ i h h',tn i h→(∀ b∈fp,∀ o,h.get? b=some o→h'.get? b=some o)→tn i h'
 item:∀ (X:Cx),X.prog=P→X.w=w→X.K=K→X.calm=true→∀ (i:Nat) (pins:List (Addr × Obj)) (s:Shared) (σ:St) (H:Hp) (E:Value→Shared→Prop),Inv X pins σ H s→(∀ b∈fp,a6o X pins H b)→tn i s.heap→J.go i H →
  wpAny (model P w) X.A (pyNext (.ref it)) (fun r s1=>∃ u,r=some u ∧
   wpAny (model P w) X.A (letOwnedTupleGo tg (.ref it) u) (fun _ s2=>∃ x H',Inv X pins σ H' s2∧RelV x u∧J.yld i H x H'∧tn (i+1) s2.heap∧∀ b∈fp,H' b=none) E s1) E s
 done:∀ (X:Cx),X.prog=P→X.w=w→X.K=K→X.calm=true→∀ (i:Nat) (pins:List (Addr × Obj)) (s:Shared) (σ:St) (H:Hp) (E:Value→Shared→Prop),Inv X pins σ H s→(∀ b∈fp,a6o X pins H b)→tn i s.heap→J.stop i H →
  wpAny (model P w) X.A (pyNext (.ref it)) (fun r s1=>r=none∧Inv X pins σ H s1) E s
 self:∀ (A:Around) (i:Nat) (s:Shared) (Q:Value→Shared→Prop) (E:Value→Shared→Prop),tn i s.heap→Q (.ref it) s→wpAny (model P w) A (pyIter (.ref it)) Q E s
abbrev TI:=St→Hp→(It→Hp→Prop)→Prop
def PIE (X:Cx) (pins:List (Addr × Obj)) (σ:St) (tg:Expr) (R:It→Hp→Prop) (itv:Value) (s2:Shared):Prop :=
 ∃ (it:Addr) (fp:List Addr) (tn:Nat→Heap→Prop) (J:It) (H':Hp),itv = .ref it∧Inv X pins σ H' s2∧Turn X.prog X.w X.K tg J fp it tn∧tn 0 s2.heap∧(∀ b∈fp,a6o X pins H' b)∧R J H'
def PI (X:Cx) (tg iter:Expr) (wi:TI):Prop :=
 ∀ (pins:List (Addr × Obj)) (s:Shared) (σ:St) (H:Hp) (R:It→Hp→Prop),Inv X pins σ H s→wi σ H R →
  wpAny (model X.prog X.w) X.A (eval iter X.env) (fun v s1=>wpAny (model X.prog X.w) X.A (pyIter v) (PIE X pins σ tg R) X.xe s1) X.xe s
theorem ad1 {M:Model} {A:Around} {E:Value→Shared→Prop} {s:Shared} {tg:Expr} {it:Addr} {u:Value} {o:Obj} {n:String} {vs:Array Value} {Q:Unit→Shared→Prop} (ho:s.heap.get? it=some o) (hc:o.cls = .type n) (hd:o.data = .fields vs)
  (hn:["enumerate", "zip", "dict_itemiterator", "dict_reverseitemiterator", "odict_iterator", "itertools.zip_longest", "itertools.pairwise"].contains n=false) (hQ:Q () s):wpAny M A (letOwnedTupleGo tg (.ref it) u) Q E s:=by
 unfold letOwnedTupleGo
 cases tg<;>first
  | exact wpAny_pure hQ
  | (cases u<;>first
    | exact wpAny_pure hQ
    | (refine wpAny_bind (wpAny_load ho ?_)
       rw [hc,hd]
       show wpAny M A (if (["enumerate", "zip", "dict_itemiterator", "dict_reverseitemiterator", "odict_iterator", "itertools.zip_longest", "itertools.pairwise"].contains n && vs[0]? == some (rawInt _))=true then _ else _) Q E s
       rw [if_neg (by intro h;rw [hn,Bool.false_and] at h;cases h)]
       exact wpAny_pure hQ))
def Itl (K:PySem.W.Frag) (a:Addr):It :=
 ⟨fun i H=>∃ xs x,SqL K H a xs∧xs[i]? = some x,fun i H x H'=>H'=H∧∀ xs,SqL K H a xs→xs[i]? = some x,fun i H=>∃ xs,SqL K H a xs∧xs.length≤i⟩
def Itt (K:PySem.W.Frag) (a:Addr):It :=
 ⟨fun i H=>∃ xs x,SqT K H a xs∧xs[i]? = some x,fun i H x H'=>H'=H∧∀ xs,SqT K H a xs→xs[i]? = some x,fun i H=>∃ xs,SqT K H a xs∧xs.length≤i⟩
def Itr (lo:Int) (n:Nat):It:=⟨fun i _=>i<n,fun i H x H'=>H'=H∧x = .int (lo+i),fun i _=>n≤i⟩
theorem a9k {P:Program} {w:World} {K:PySem.W.Frag} {tg:Expr} (a it:Addr):Turn P w K tg (Itl K a) [it] it (fun i h=>h.IsListIter it a i) where
 mem:=by simp
 obj:=fun i h st b hb=>by
  have e:b=it:=by simpa using hb
  subst e
  obtain ⟨o,e,c,d⟩:=st
  exact ⟨o,e,fun v z=>by rw [d] at z;cases z⟩
 keep:=fun i h h' st k=>st.at fun o e=>k it (by simp) o e
 item:=by
  intro X hP hw hK hc i pins s σ H E I hf st hg
  subst hP hw hK
  obtain ⟨xs,x,hq,hx⟩:=hg
  obtain ⟨its,rv,p,hz⟩:=I.list hq
  obtain ⟨u,hu,ru⟩:=rv.get hx
  obtain ⟨f0,f1,f2,f3,f4,f5⟩:=hf it (by simp)
  refine wpAny_pyNext_list_item st p.isList (x:=u) (by simpa using hu) fun h' st' sb=>?_
  have I1:Inv X pins σ H { s with heap:=h' }:=I.turned (t':=s.toks) (fun b o hb e=>(sb.2 b hb).trans e) f0 f1 f3 f4 f5
  obtain ⟨o,e,c,d⟩:=id st'
  exact ⟨u,rfl,ad1 (s:={ s with heap:=h' }) e c d (by decide) ⟨x,H,I1,ru,⟨rfl,fun ys hy=>by rw [I.list_inj hy hq];exact hx⟩,st',fun b hb=>(hf b hb).1⟩⟩
 done:=by
  intro X hP hw hK hc i pins s σ H E I hf st hg
  subst hP hw hK
  obtain ⟨xs,hq,hx⟩:=hg
  obtain ⟨its,rv,p,hz⟩:=I.list hq
  obtain ⟨f0,f1,f2,f3,f4,f5⟩:=hf it (by simp)
  have hl:=rv.length
  exact wpAny_pyNext_list_end (I.ok.hd hc) st p.isList (by simp;omega) fun h' eb=>⟨rfl,I.turned (t':=s.toks) (fun b o hb e=>eb b o hb e) f0 f1 f3 f4 f5⟩
 self:=fun _ _ _ _ _ st h=>wpAny_pyIter_listiter st h
theorem a8h {P:Program} {w:World} {K:PySem.W.Frag} {tg:Expr} (a it:Addr):Turn P w K tg (Itt K a) [it] it (fun i h=>h.IsTupleIter it a i) where
 mem:=by simp
 obj:=fun i h st b hb=>by
  have e:b=it:=by simpa using hb
  subst e
  obtain ⟨o,e,c,d⟩:=st
  exact ⟨o,e,fun v z=>by rw [d] at z;cases z⟩
 keep:=fun i h h' st k=>st.at fun o e=>k it (by simp) o e
 item:=by
  intro X hP hw hK hc i pins s σ H E I hf st hg
  subst hP hw hK
  obtain ⟨xs,x,hq,hx⟩:=hg
  obtain ⟨its,rv,p,hz⟩:=I.tuple hq
  obtain ⟨u,hu,ru⟩:=rv.get hx
  obtain ⟨f0,f1,f2,f3,f4,f5⟩:=hf it (by simp)
  refine wpAny_pyNext_tuple_item st (show s.heap.IsTuple a its.toArray from p) (x:=u) (by simpa using hu) fun h' st' sb=>?_
  have I1:Inv X pins σ H { s with heap:=h' }:=I.turned (t':=s.toks) (fun b o hb e=>(sb.2 b hb).trans e) f0 f1 f3 f4 f5
  obtain ⟨o,e,c,d⟩:=id st'
  exact ⟨u,rfl,ad1 (s:={ s with heap:=h' }) e c d (by decide) ⟨x,H,I1,ru,⟨rfl,fun ys hy=>by rw [I.tuple_inj hy hq];exact hx⟩,st',fun b hb=>(hf b hb).1⟩⟩
 done:=by
  intro X hP hw hK hc i pins s σ H E I hf st hg
  subst hP hw hK
  obtain ⟨xs,hq,hx⟩:=hg
  obtain ⟨its,rv,p,hz⟩:=I.tuple hq
  obtain ⟨f0,f1,f2,f3,f4,f5⟩:=hf it (by simp)
  have hl:=rv.length
  exact wpAny_pyNext_tuple_end (I.ok.hd hc) st (show s.heap.IsTuple a its.toArray from p) (by simp;omega) fun h' eb=>⟨rfl,I.turned (t':=s.toks) (fun b o hb e=>eb b o hb e) f0 f1 f3 f4 f5⟩
 self:=fun _ _ _ _ _ st h=>wpAny_pyIter_tupleiter st h
theorem a8i {P:Program} {w:World} {K:PySem.W.Frag} {tg:Expr} (it:Addr) (lo:Int) (n:Nat):Turn P w K tg (Itr lo n) [it] it (fun i h=>IsRangeIter h it (lo+(i:Nat)*1) ((n:Int) - (i:Nat)) 1) where
 mem:=by simp
 obj:=fun i h st b hb=>by
  have e:b=it:=by simpa using hb
  subst e
  exact ⟨_,st,fun v z=>by
   have z':Data.fields _=Data.cell v:=z
   cases z'⟩
 keep:=fun i h h' st k=>k it (by simp) _ st
 item:=by
  intro X hP hw hK hc i pins s σ H E I hf st hg
  subst hP hw hK
  obtain ⟨f0,f1,f2,f3,f4,f5⟩:=hf it (by simp)
  have W:=Walks.range (prog:=X.prog) (w:=X.w) (I.ok.hd hc) it lo 1 n
  refine W.item i s _ _ hg st fun v h' tk hv st' kk=>?_
  obtain ⟨t,rfl⟩:=hv
  have I1:Inv X pins σ H { s with heap:=h',toks:=tk }:=I.turned (fun b o hb e=>kk b o (by simpa using hb) e) f0 f1 f3 f4 f5
  refine ⟨_,rfl,ad1 (s:={ s with heap:=h',toks:=tk }) (n := "range_iterator") st' rfl rfl (by decide) ⟨.int (lo+i),H,I1,⟨t,?_⟩,⟨rfl,rfl⟩,st',fun b hb=>(hf b hb).1⟩⟩
  rw [Int.mul_one]
 done:=by
  intro X hP hw hK hc i pins s σ H E I hf st hg
  subst hP hw hK
  obtain ⟨f0,f1,f2,f3,f4,f5⟩:=hf it (by simp)
  exact wpAny_pyNext_range_end (I.ok.hd hc) st (by have:n≤i:=hg;omega) fun h' eb=>⟨rfl,I.turned (t':=s.toks) (fun b o hb e=>eb b o hb e) f0 f1 f3 f4 f5⟩
 self:=fun _ _ _ _ _ st h=>wpAny_pyIter_rangeiter st h
end L2
namespace L2
open PySem PySem.Spec PyProof.Rows
section
variable {X:Cx} {tg:Expr}
def anz (K:PySem.W.Frag) (tl:TE):TI:=fun σ H R=>tl σ H fun x H1=>∃ a,x = .ref a∧(∃ xs,SqL K H1 a xs)∧R (Itl K a) H1
def aqb (K:PySem.W.Frag) (tl:TE):TI:=fun σ H R=>tl σ H fun x H1=>∃ a,x = .ref a∧(∃ xs,SqT K H1 a xs)∧R (Itt K a) H1
theorem a9l {l:Expr} {tl:TE} (hl:PE X l tl):PI X tg l (anz X.K tl):=by
 intro pins s σ H R I h
 refine thn (hl pins s σ H _ I h) fun v s1 ⟨x,H1,I1,r1,q1⟩=>?_
 obtain ⟨a,e,⟨xs,hq⟩,q⟩:=q1
 subst e
 cases r1
 obtain ⟨its,rv,p,hz⟩:=I1.list hq
 refine wpAny_pyIter_list p.isList ?_
 refine ⟨s1.heap.objs.size,[s1.heap.objs.size],_,_,H1,rfl,I1.kept (t':=s1.toks) fun b o e=>Heap.get?_push_of_some _ e,a9k a _,⟨_,Heap.get?_push_size _ rfl,rfl,rfl⟩,fun b hb=>?_,q⟩
 have e:b=s1.heap.objs.size:=by simpa using hb
 subst e
 exact I1.fpOk (Nat.le_refl _) (I1.hok.fresh (Nat.le_refl _))
theorem ak1 {l:Expr} {tl:TE} (hl:PE X l tl):PI X tg l (aqb X.K tl):=by
 intro pins s σ H R I h
 refine thn (hl pins s σ H _ I h) fun v s1 ⟨x,H1,I1,r1,q1⟩=>?_
 obtain ⟨a,e,⟨xs,hq⟩,q⟩:=q1
 subst e
 cases r1
 obtain ⟨its,rv,p,hz⟩:=I1.tuple hq
 refine wpAny_pyIter_tuple (show s1.heap.IsTuple a its.toArray from p) ?_
 refine ⟨s1.heap.objs.size,[s1.heap.objs.size],_,_,H1,rfl,I1.kept (t':=s1.toks) fun b o e=>Heap.get?_push_of_some _ e,a8h a _,⟨_,Heap.get?_push_size _ rfl,rfl,rfl⟩,fun b hb=>?_,q⟩
 have e:b=s1.heap.objs.size:=by simpa using hb
 subst e
 exact I1.fpOk (Nat.le_refl _) (I1.hok.fresh (Nat.le_refl _))
theorem a7f {pins:List (Addr × Obj)} {σ:St} {H:Hp} {s:Shared} {R:It→Hp→Prop} {E:Value→Shared→Prop} {lo hi:Int} {t u v:Tok} {tk:Nat} (I:Inv X pins σ H s) (h1 : -(2 ^ 62)≤lo) (h2:lo<2 ^ 62) (h3 : -(2 ^ 62)≤hi) (h4:hi<2 ^ 62)
  (q:R (Itr lo (hi - lo).toNat) H):wpAny (model X.prog X.w) X.A (pyIter (.ref s.heap.objs.size)) (PIE X pins σ tg R) E { s with heap:=s.heap.push { cls:=.type "range",data:=.fields #[.int lo t, .int hi u, .int 1 v] },toks:=tk }:=by
 refine wpAny_pyIter_range (IsRange.new ..) (small_one h1 h2 h3 h4) ?_
 have I1:Inv X pins σ H { s with heap:=s.heap.push { cls:=.type "range",data:=.fields #[.int lo t, .int hi u, .int 1 v] },toks:=tk }:=I.kept fun b o e=>Heap.get?_push_of_some _ e
 refine ⟨(s.heap.push { cls:=.type "range",data:=.fields #[.int lo t, .int hi u, .int 1 v] }).objs.size,[(s.heap.push { cls:=.type "range",data:=.fields #[.int lo t, .int hi u, .int 1 v] }).objs.size],_,_,H,rfl,
  I1.kept (t':=tk) fun b o e=>Heap.get?_push_of_some _ e,a8i _ lo (hi - lo).toNat,?_,fun b hb=>?_,q⟩
 ·have e1:lo+((0:Nat):Int)*1=lo:=by simp
  have e2:(((hi - lo).toNat:Nat):Int) - ((0:Nat):Int)=Builtin.Range.rangeSize lo hi 1:=by rw [rangeSize_one];split<;>omega
  show IsRangeIter _ _ (lo+((0:Nat):Int)*1) ((((hi - lo).toNat:Nat):Int) - ((0:Nat):Int)) 1
  rw [e1,e2]
  exact Heap.get?_push_size _ rfl
 ·have e:b=(s.heap.push { cls:=.type "range",data:=.fields #[.int lo t, .int hi u, .int 1 v] }).objs.size:=by simpa using hb
  subst e
  exact I1.fpOk (Nat.le_refl _) (I1.hok.fresh (Nat.le_refl _))
def ao0 (ta:TA):TI:=fun σ H R=>ta σ H fun vs H1=>∃ j:Int,vs=[.int j] ∧ -(2 ^ 62)≤j∧j<2 ^ 62∧R (Itr 0 j.toNat) H1
def ao1 (ta:TA):TI:=fun σ H R=>ta σ H fun vs H1=>∃ i j:Int,vs=[.int i, .int j]∧(-(2 ^ 62)≤i∧i<2 ^ 62 ∧ -(2 ^ 62)≤j∧j<2 ^ 62)∧R (Itr i (j - i).toNat) H1
theorem a9m {a:Expr} {ta:TA} {p pos:Pos} (hg:Gl X "range") (hm:X.mg "range" = none) (ha:PA X [a] ta) (hs:starEach [a] X.env=[(false,eval a X.env)]:=by rfl):PI X tg (.Call (.Name "range" p) [a] [] pos) (ao0 ta):=by
 intro pins s σ H R I h
 refine Call_ (a2h I hg hm boot_range (PyProof.Rows.callWith_type1 (thn (ha pos pins s σ H _ I h) fun us s1 ⟨vs,H1,I1,r1,q1⟩=>?_) hs rfl))
 obtain ⟨j,e,q1,q2,q⟩:=q1
 subst e
 cases r1 with
 | cons r rr =>
  cases rr
  obtain ⟨t,rfl⟩:=r
  exact call_range_1 (a7f I1 (by omega) (by omega) q1 q2 (by simpa using q))
theorem a9n {a b:Expr} {ta:TA} {p pos:Pos} (hg:Gl X "range") (hm:X.mg "range" = none) (ha:PA X [a,b] ta) (hs:starEach [a,b] X.env=[(false,eval a X.env),(false,eval b X.env)]:=by rfl) (hs2:starEach [b] X.env=[(false,eval b X.env)]:=by rfl) :
  PI X tg (.Call (.Name "range" p) [a,b] [] pos) (ao1 ta):=by
 intro pins s σ H R I h
 refine Call_ (a2h I hg hm boot_range (PyProof.Rows.callWith_type1 (thn (ha pos pins s σ H _ I h) fun us s1 ⟨vs,H1,I1,r1,q1⟩=>?_) (by rw [hs,hs2]) (by rw [hs2];rfl)))
 obtain ⟨i,j,e,⟨q1,q2,q3,q4⟩,q⟩:=q1
 subst e
 cases r1 with
 | cons r rr =>
  cases rr with
  | cons r' rr =>
   cases rr
   obtain ⟨t,rfl⟩:=r
   obtain ⟨t',rfl⟩:=r'
   exact call_range_2 (a7f I1 q1 q2 q3 q4 q)
def aqc (wi:TI) (g:TG) (tb:TS):TS:=fun D σ H=>wi σ H fun J H1=>∃ W:Nat→Nat→St→Hp→Prop,(∃ m,W 0 m σ H1)∧∀ i m σ H,W i m σ H →
 (J.stop i H∧D.nx σ H)∨(J.go i H∧∃ N:St→Hp→Prop,(∀ σ' H',N σ' H'→∃ m',m'<m∧W (i+1) m' σ' H')∧∀ x H',J.yld i H x H'→g x σ H' fun σ2 H2=>tb { D with nx:=N,ct:=N,bk:=D.nx } σ2 H2)
def a2i (fp:List Addr) (h:Heap):List (Addr × Obj):=fp.filterMap fun b=>(h.get? b).map fun o=>(b,o)
theorem lq {fp:List Addr} {h:Heap} {b:Addr} {o:Obj} (hb:b∈fp) (e:h.get? b=some o):(b,o)∈a2i fp h:=List.mem_filterMap.mpr ⟨b,hb,by rw [e];rfl⟩
theorem a9o {fp:List Addr} {h:Heap} {p:Addr × Obj} (hp:p∈a2i fp h):p.1∈fp∧h.get? p.1=some p.2:=by
 obtain ⟨b,hb,e⟩:=List.mem_filterMap.mp hp
 cases q:h.get? b with
 | none=>rw [q] at e;cases e
 | some o =>
  rw [q] at e
  have e':(b,o)=p:=Option.some.inj e
  subst e'
  exact ⟨hb,q⟩
theorem Inv.pinned {pins:List (Addr × Obj)} {σ:St} {H:Hp} {s:Shared} {fp:List Addr} (I:Inv X pins σ H s) (hf:∀ b∈fp,a6o X pins H b) (ho:∀ b∈fp,∃ o,s.heap.get? b=some o∧∀ v,o.data≠.cell v):Inv X (pins++a2i fp s.heap) σ H s :=
 I.pins_of fun p hp=>(List.mem_append.mp hp).elim (fun z=>I.pin p (List.mem_append_right _ z)) fun z=>by
  obtain ⟨hb,e⟩:=a9o z
  obtain ⟨f0,f1,f2,_⟩:=hf p.1 hb
  obtain ⟨o,e',d⟩:=ho p.1 hb
  rw [e] at e';cases e'
  exact ⟨e,f0,f1,f2,d⟩
theorem Inv.unpinned {pins pl:List (Addr × Obj)} {σ:St} {H:Hp} {s:Shared} (I:Inv X (pins++pl) σ H s):Inv X pins σ H s:=I.pins_of fun p hp=>I.pin p (List.mem_append_right _ (List.mem_append_left _ hp))
theorem ak2 {iter:Expr} {body:List Stmt} {wi:TI} {g:TG} {tb:TS} {pos:Pos} (hp:PassesOwn (model X.prog X.w) X.A X.env X.xe) (hc:X.calm=true) (hi:PI X tg iter wi) (hg:PG X tg g) (hb:PSs X body tb)
  (hs:∀ x,foldedSetIterable iter X.env x=pure x:=by intro _;rfl):PS X (.For tg iter body [] pos) (aqc wi g tb):=by
 intro pins s σ H D I h
 refine wpAny_For (thn (hi pins s σ H _ I h) fun v s1 h1=>thn h1 fun itv s2 h2=>?_) hs
 obtain ⟨it,fp,tn,J,H2,e,I2,T,st2,f2,W,⟨m0,w0⟩,turn⟩:=h2
 subst e
 have stat:∀ {H':Hp},(∀ b∈fp,H' b=none)→∀ b∈fp,a6o X pins H' b:=fun hn b hb=>⟨hn b hb,(f2 b hb).2⟩
 refine codeAny_forLoop_any (fun n s'=>∃ i σ' H',Inv X pins σ' H' s'∧tn i s'.heap∧(∀ b∈fp,H' b=none)∧W i n σ' H') ?_ m0 ⟨0,σ,H2,I2,st2,fun b hb=>(f2 b hb).1,w0⟩
 rintro n s3 ⟨i,σ3,H3,I3,st3,fr3,w3⟩
 rcases turn i n σ3 H3 w3 with ⟨stop,qn⟩ | ⟨go,N,hN,step⟩
 ·refine wpAny_passesOwn hp (thn (T.done X rfl rfl rfl hc i pins s3 σ3 H3 X.xe I3 (stat fr3) st3 stop) fun r s4 ⟨hr,I4⟩=>?_)
  subst hr
  exact wpAny_execs_nil ⟨σ3,H3,I4,qn⟩
 ·refine wpAny_passesOwn hp (thn (T.item X rfl rfl rfl hc i pins s3 σ3 H3 X.xe I3 (stat fr3) st3 go) fun r s4 ⟨u,hr,h4⟩=>?_)
  subst hr
  refine wpAny_passesOwn hp (thn h4 fun _ s5 ⟨x,H5,I5,r5,y5,st5,fr5⟩=>?_)
  have I5':=I5.pinned (stat fr5) (T.obj _ _ st5)
  refine wpAny_passesOwn hp (thn (hg _ s5 σ3 H5 x u _ I5' r5 (step x H5 y5)) fun _ s6 ⟨σ6,H6,I6,q6⟩=>?_)
  refine wpAny_passesOwn hp (thn (hb _ s6 σ6 H6 _ I6 q6) fun f s7 q7=>?_)
  have again:∀ {σ7:St} {H7:Hp},Inv X (pins++a2i fp s5.heap) σ7 H7 s7→N σ7 H7→∃ m,m<n∧∃ i σ' H',Inv X pins σ' H' s7∧tn i s7.heap∧(∀ b∈fp,H' b=none)∧W i m σ' H':=fun {σ7 H7} I7 n7=>by
   obtain ⟨m',hm,w7⟩:=hN σ7 H7 n7
   refine ⟨m',hm,i+1,σ7,H7,I7.unpinned,T.keep _ _ _ st5 fun b hb o e=>(I7.pin (b,o) (List.mem_append_right _ (List.mem_append_right _ (lq hb e)))).1,fun b hb=>?_,w7⟩
   obtain ⟨o,e,d⟩:=T.obj _ _ st5 b hb
   exact (I7.pin (b,o) (List.mem_append_right _ (List.mem_append_right _ (lq hb e)))).2.1
  cases f with
  | next=>obtain ⟨σ7,H7,I7,n7⟩:=q7;exact again I7 n7
  | cont=>obtain ⟨σ7,H7,I7,n7⟩:=q7;exact again I7 n7
  | brk=>obtain ⟨σ7,H7,I7,q7⟩:=q7;exact ⟨σ7,H7,I7.unpinned,q7⟩
  | ret v=>obtain ⟨x7,σ7,H7,I7,r7,q7⟩:=q7;exact ⟨x7,σ7,H7,I7.unpinned,r7,q7⟩
end
end L2
namespace L2
open PySem PySem.Spec PyProof.Rows
abbrev R2:=V→V→Hp→VK→Prop
def OpR (X:Cx) (f:Value→Value→Sem Value) (r:R2):Prop :=
 ∀ (pins:List (Addr × Obj)) (s:Shared) (σ:St) (H:Hp) (x y:V) (v u:Value) (Q:VK),Inv X pins σ H s→RelV x v→RelV y u→r x y H Q →
  wpAny (model X.prog X.w) X.A (f v u) (EP X pins σ Q) X.xe s
def UnR (X:Cx) (f:Value→Sem Value) (r:V→Hp→VK→Prop):Prop :=
 ∀ (pins:List (Addr × Obj)) (s:Shared) (σ:St) (H:Hp) (x:V) (v:Value) (Q:VK),Inv X pins σ H s→RelV x v→r x H Q →
  wpAny (model X.prog X.w) X.A (f v) (EP X pins σ Q) X.xe s
def CallR (X:Cx) (f:Value) (r:List V→Hp→VK→Prop):Prop :=
 ∀ (pins:List (Addr × Obj)) (s:Shared) (σ:St) (H:Hp) (xs:List V) (us:List Value) (Q:VK),Inv X pins σ H s→Vals xs us→r xs H Q →
  wpAny (model X.prog X.w) X.A (call f us) (EP X pins σ Q) X.xe s
def aqd (X:Cx) (r:V→Hp→(Bool→Hp→Prop)→Prop):Prop :=
 ∀ (pins:List (Addr × Obj)) (s:Shared) (σ:St) (H:Hp) (x:V) (v:Value) (Q:Bool→Hp→Prop),Inv X pins σ H s→RelV x v→r x H Q →
  wpAny (model X.prog X.w) X.A (truthy v) (TP X pins σ Q) X.xe s
def tOp (r:R2) (ta tb:TE):TE:=fun σ H Q=>ta σ H fun x H1=>tb σ H1 fun y H2=>r x y H2 Q
def tUn (r:V→Hp→VK→Prop) (ta:TE):TE:=fun σ H Q=>ta σ H fun x H1=>r x H1 Q
def rI (C:Int→Int→Prop) (g:Int→Int→V):R2:=fun x y H Q=>∃ i j,x = .int i∧y = .int j∧C i j∧Q (g i j) H
def rI0 (g:Int→Int→V):R2:=fun x y H Q=>∃ i j,x = .int i∧y = .int j∧Q (g i j) H
def rU (g:Int→V):V→Hp→VK→Prop:=fun x H Q=>∃ i,x = .int i∧Q (g i) H
section
variable {X:Cx} {a b c:Expr} {ta tb tc:TE} {pos:Pos}
theorem ao2 (ha:PE X a ta) (hb:PE X b tb) {pins:List (Addr × Obj)} {s:Shared} {σ:St} {H:Hp} {R:V→V→Hp→Prop} (I:Inv X pins σ H s)
  (h:ta σ H fun x H1=>tb σ H1 fun y H2=>R x y H2) {Q:Value→Shared→Prop} {f:Value→Value→Sem Value}
  (hf:∀ v u s2 x y H2,Inv X pins σ H2 s2→RelV x v→RelV y u→R x y H2→wpAny (model X.prog X.w) X.A (f v u) Q X.xe s2) :
  wpAny (model X.prog X.w) X.A (eval a X.env) (fun v s₁=>wpAny (model X.prog X.w) X.A (eval b X.env) (fun u s₂=>wpAny (model X.prog X.w) X.A (f v u) Q X.xe s₂) X.xe s₁) X.xe s:=by
 refine thn (ha pins s σ H _ I h) fun v s1 ⟨x,H1,I1,r1,q1⟩=>?_
 refine thn (hb pins s1 σ H1 _ I1 q1) fun u s2 ⟨y,H2,I2,r2,q2⟩=>?_
 exact hf v u s2 x y H2 I2 r1 r2 q2
theorem ao3 {op:Operator} {r:R2} (ho:OpR X (binaryOp op) r) (ha:PE X a ta) (hb:PE X b tb):PE X (.BinOp a op b pos) (tOp r ta tb):=by
 intro pins s σ H Q I h
 exact wpAny_BinOp (ao2 ha hb I h fun v u s2 x y H2 I2 rx ry q=>ho pins s2 σ H2 x y v u Q I2 rx ry q)
theorem ao4 {op:UnaryOp} {r:V→Hp→VK→Prop} (ho:UnR X (unaryOp op) r) (ha:PE X a ta):PE X (.UnaryOp op a pos) (tUn r ta):=by
 intro pins s σ H Q I h
 exact UnaryOp_ (thn (ha pins s σ H _ I h) fun v s1 ⟨x,H1,I1,r1,q1⟩=>ho pins s1 σ H1 x v Q I1 r1 q1)
theorem opI {f:Value→Value→Sem Value} {C:Int→Int→Prop} {g:Int→Int→Int}
  (rule:∀ (i j:Int) (t u:Tok) (s:Shared) (Q:Value→Shared→Prop) (E:Value→Shared→Prop),C i j→Q (.int (g i j) s.toks) { s with toks:=s.toks+1 }→wpAny (model X.prog X.w) X.A (f (.int i t) (.int j u)) Q E s) :
  OpR X f (rI C fun i j=>.int (g i j)):=by
 intro pins s σ H x y v u Q I rx ry h
 obtain ⟨i,j,rfl,rfl,hc,q⟩:=h
 obtain ⟨t,rfl⟩:=rx
 obtain ⟨t',rfl⟩:=ry
 exact rule i j t t' s _ _ hc ⟨.int (g i j),H,I.tok _,⟨_,rfl⟩,q⟩
theorem ao5 {f:Value→Value→Sem Value} {g:Int→Int→Int}
  (rule:∀ (i j:Int) (t u:Tok) (s:Shared) (Q:Value→Shared→Prop) (E:Value→Shared→Prop),Q (.int (g i j) s.toks) { s with toks:=s.toks+1 }→wpAny (model X.prog X.w) X.A (f (.int i t) (.int j u)) Q E s) :
  OpR X f (rI0 fun i j=>.int (g i j)):=by
 intro pins s σ H x y v u Q I rx ry h
 obtain ⟨i,j,rfl,rfl,q⟩:=h
 obtain ⟨t,rfl⟩:=rx
 obtain ⟨t',rfl⟩:=ry
 exact rule i j t t' s _ _ ⟨.int (g i j),H,I.tok _,⟨_,rfl⟩,q⟩
theorem amy {f:Value→Value→Sem Value} {g:Int→Int→Bool}
  (rule:∀ (i j:Int) (t u:Tok) (s:Shared) (Q:Value→Shared→Prop) (E:Value→Shared→Prop),Q (.bool (g i j)) s→wpAny (model X.prog X.w) X.A (f (.int i t) (.int j u)) Q E s) :
  OpR X f (rI0 fun i j=>.bl (g i j)):=by
 intro pins s σ H x y v u Q I rx ry h
 obtain ⟨i,j,rfl,rfl,q⟩:=h
 obtain ⟨t,rfl⟩:=rx
 obtain ⟨t',rfl⟩:=ry
 exact rule i j t t' s _ _ ⟨.bl (g i j),H,I,rfl,q⟩
def ao6 (i j:Int):Prop:=0<j∧j<1073741824
def apa (i j:Int):Prop:=0≤j∧j≤1000000∧i.natAbs<2 ^ 64
def CMul (i j:Int):Prop:=(-(2 ^ 64)<i∧i<2 ^ 64)∨(-(2 ^ 64)<j∧j<2 ^ 64)
theorem CMul.ok {i j:Int} (h:CMul i j):IntMulOk i j:=by
 rcases h with ⟨h1,h2⟩ | ⟨h1,h2⟩
 ·exact .of_left (intBits_le_64 h1 h2)
 ·exact .of_right (intBits_le_64 h1 h2)
theorem ak3:OpR X (binaryOp .Add) (rI0 fun i j=>.int (i+j)):=ao5 fun _ _ _ _ _ _ _ q=>add_int q
theorem ak4:OpR X (binaryOp .Sub) (rI0 fun i j=>.int (i - j)):=ao5 fun _ _ _ _ _ _ _ q=>sub_int q
theorem ak5:OpR X (binaryOp .Mult) (rI CMul fun i j=>.int (i*j)):=opI fun _ _ _ _ _ _ _ hc q=>mul_int q hc.ok
theorem agy:OpR X (binaryOp .FloorDiv) (rI ao6 fun i j=>.int (i / j)):=opI fun i j _ _ _ _ _ hc q=>by
 have h1:(0:Int)<j:=hc.1
 have h2:j<1073741824:=hc.2
 exact floordiv_int (by omega) (by rw [Int.fdiv_eq_ediv_of_nonneg i (by omega)];exact q) (.inl (PyProof.noPylong_small (by omega)))
theorem ak6:OpR X (binaryOp .Mod) (rI (fun _ j=>0<j) fun i j=>.int (i % j)):=opI fun i j _ _ _ _ _ hc q=>by
 have h1:(0:Int)<j:=hc
 exact mod_int' (by omega) (by rw [Int.fmod_eq_emod_of_nonneg i (by omega)];exact q)
theorem ak7:OpR X (binaryOp .Pow) (rI apa fun i j=>.int (i ^ j.toNat)):=opI fun _ _ _ _ _ _ _ hc q=>pow_int_small hc.1 hc.2.1 hc.2.2 q
theorem a3e:OpR X (inplaceOp .Add) (rI0 fun i j=>.int (i+j)):=ao5 fun _ _ _ _ _ _ _ q=>iadd_int q
theorem ad2:OpR X (inplaceOp .FloorDiv) (rI ao6 fun i j=>.int (i / j)):=opI fun i j _ _ _ _ _ hc q=>by
 have h1:(0:Int)<j:=hc.1
 have h2:j<1073741824:=hc.2
 exact ifloordiv_int (by omega) (by rw [Int.fdiv_eq_ediv_of_nonneg i (by omega)];exact q) (.inl (PyProof.noPylong_small (by omega)))
theorem unI {f:Value→Sem Value} {g:Int→Int}
  (rule:∀ (i:Int) (t:Tok) (s:Shared) (Q:Value→Shared→Prop) (E:Value→Shared→Prop),Q (.int (g i) s.toks) { s with toks:=s.toks+1 }→wpAny (model X.prog X.w) X.A (f (.int i t)) Q E s) :
  UnR X f (rU fun i=>.int (g i)):=by
 intro pins s σ H x v Q I rx h
 obtain ⟨i,rfl,q⟩:=h
 obtain ⟨t,rfl⟩:=rx
 exact rule i t s _ _ ⟨.int (g i),H,I.tok _,⟨_,rfl⟩,q⟩
theorem ak8:UnR X (unaryOp .USub) (rU fun i=>.int (-i)):=unI fun _ _ _ _ _ q=>neg_int q
end
section
variable {X:Cx} {a b c:Expr} {ta tb tc:TE} {pos:Pos}
theorem a2j {pins:List (Addr × Obj)} {σ:St} {H:Hp} {s:Shared} {Q:VK} {k k':Bool} (I:Inv X pins σ H s) (q:Q (.bl k) H) (e:k=k'):EP X pins σ Q (.bool k') s:=by
 subst e
 exact ⟨.bl k,H,I,rfl,q⟩
theorem a9p:OpR X (compareOp .Lt) (rI0 fun i j=>.bl (decide (i<j))):=amy fun _ _ _ _ _ _ _ q=>lt_int q
theorem ao7:OpR X (compareOp .LtE) (rI0 fun i j=>.bl (decide (i≤j))):=amy fun _ _ _ _ _ _ _ q=>le_int q
theorem ak9:OpR X (compareOp .Gt) (rI0 fun i j=>.bl (decide (j<i))):=amy fun _ _ _ _ _ _ _ q=>gt_int q
theorem aka:OpR X (compareOp .GtE) (rI0 fun i j=>.bl (decide (j≤i))):=amy fun _ _ _ _ _ _ _ q=>ge_int q
theorem wk:OpR X (compareOp .Lt) (fun x y H Q=>∃ i j,x = .str i∧y = .str j∧Q (.bl (decide (i.cps.toList<j.cps.toList))) H):=by
 intro pins s σ H x y v u Q I rx ry h
 obtain ⟨i,j,rfl,rfl,q⟩:=h
 obtain ⟨t,rfl⟩:=rx
 obtain ⟨t',rfl⟩:=ry
 exact lt_str (a2j I q rfl)
theorem a9q:OpR X (compareOp .In) (fun x y H Q=>∃ i j,x = .str i∧y = .str j∧Q (.bl (!(Builtin.Str.occurrences j i 0 j.length 1).isEmpty)) H):=by
 intro pins s σ H x y v u Q I rx ry h
 obtain ⟨i,j,rfl,rfl,q⟩:=h
 obtain ⟨t,rfl⟩:=rx
 obtain ⟨t',rfl⟩:=ry
 exact in_str (a2j I q rfl)
theorem a9r:OpR X (compareOp .IsNot) (fun x y H Q=>y = .non∧Q (.bl (!decide (x = .non))) H):=by
 intro pins s σ H x y v u Q I rx ry h
 obtain ⟨rfl,q⟩:=h
 cases ry
 refine isnot_none_gen (a2j I q ?_)
 cases x<;>first
  | (cases rx;rfl)
  | (obtain ⟨t,rfl⟩:=rx;rfl)
theorem a5c:OpR X (compareOp .NotIn) (fun x y H Q=>∃ i j,x = .str i∧y = .str j∧Q (.bl (!(!(Builtin.Str.occurrences j i 0 j.length 1).isEmpty))) H):=by
 intro pins s σ H x y v u Q I rx ry h
 obtain ⟨i,j,rfl,rfl,q⟩:=h
 obtain ⟨t,rfl⟩:=rx
 obtain ⟨t',rfl⟩:=ry
 exact notIn_str (a2j I q rfl)
theorem OpR.or {f:Value→Value→Sem Value} {r r':R2} (h:OpR X f r) (h':OpR X f r'):OpR X f (fun x y H Q=>r x y H Q∨r' x y H Q):=by
 intro pins s σ H x y v u Q I rx ry q
 rcases q with q | q
 ·exact h pins s σ H x y v u Q I rx ry q
 ·exact h' pins s σ H x y v u Q I rx ry q
theorem j8 (b:Expr) {op:CmpOp} (h:op≠.In:=by decide) (h2:op≠.NotIn:=by decide):behindInMarks op b=false:=by
 have e1:(op == CmpOp.In)=false:=by cases op<;>first | rfl | exact absurd rfl h
 have e2:(op == CmpOp.NotIn)=false:=by cases op<;>first | rfl | exact absurd rfl h2
 cases b<;>simp [behindInMarks,e1,e2]
theorem agz {op:CmpOp} {r:R2} (ho:OpR X (compareOp op) r) (ha:PE X a ta) (hb:PE X b tb) (hm:behindInMarks op b=false):PE X (.Compare a [op] [b] pos) (tOp r ta tb):=by
 intro pins s σ H Q I h
 exact wpAny_Compare1 (ao2 ha hb I h fun v u s2 x y H2 I2 rx ry q=>ho pins s2 σ H2 x y v u Q I2 rx ry q) hm
def akb (t:TE):TT:=fun σ H Q=>t σ H fun x H'=>∃ k,x = .bl k∧Q k H'
theorem ah0 {op:CmpOp} {r:R2} (ho:OpR X (compareOp op) r) (ha:PE X a ta) (hb:PE X b tb) (hm:behindInMarks op b=false):PT X (.Compare a [op] [b] pos) (akb (tOp r ta tb)):=by
 intro pins s σ H Q I h
 refine wpAny_isTrue_Compare1 (thn (ha pins s σ H _ I h) fun v s1 ⟨x,H1,I1,r1,q1⟩=>thn (hb pins s1 σ H1 _ I1 q1) fun u s2 ⟨y,H2,I2,r2,q2⟩ =>
  thn (ho pins s2 σ H2 x y v u _ I2 r1 r2 q2) fun c s3 ⟨z,H3,I3,r3,k,e,q3⟩=>?_) hm
 subst e
 cases r3
 exact wpAny_truthy_bool ⟨H3,I3,q3⟩
def ao8 (K:PySem.W.Frag) (x:V) (H:Hp) (k:Bool):Prop :=
 match x with
 | .non=>k=false
 | .bl b=>k=b
 | .int i=>k=(i != 0)
 | .str y=>y.length≤sizeLine∧k=((y.length:Int) != 0)
 | .byt y=>y.size≤sizeLine∧k=((y.size:Int) != 0)
 | .ref p=>(∃ xs,SqL K H p xs∧k = !xs.isEmpty)∨(∃ xs,SqT K H p xs∧k = !xs.isEmpty)∨∃ kvs,H p=some (.dK kvs)∧k = !kvs.isEmpty
 | _=>False
theorem a8j {κ:Type} {kvs:List (κ × V)} {vs:List (κ × Value)} (r:KV kvs vs):(!vs.isEmpty) = !kvs.isEmpty:=by
 cases r<;>rfl
theorem a2k {xs:List V} {its:List Value} (r:Vals xs its):(!its.toArray.isEmpty) = !xs.isEmpty:=by
 cases r<;>simp
theorem a0i:(sizeLine:Nat)<2 ^ 63:=by rw [sizeLine_eq];decide
theorem akc:aqd X (fun x H Q=>∃ k,ao8 X.K x H k∧Q k H):=by
 intro pins s σ H x v Q I rx h
 obtain ⟨k,e,q⟩:=h
 have hl:=a0i
 have hs:sizeLine=16777216:=sizeLine_eq
 cases x with
 | non =>
  cases rx
  have e':k=false:=e
  subst e'
  exact truthy_none ⟨H,I,q⟩
 | bl b =>
  cases rx
  have e':k=b:=e
  subst e'
  exact wpAny_truthy_bool ⟨H,I,q⟩
 | int i =>
  obtain ⟨t,rfl⟩:=rx
  have e':k=(i != 0):=e
  subst e'
  exact PySem.P.truthy_int ⟨H,I,q⟩
 | str y =>
  obtain ⟨t,rfl⟩:=rx
  obtain ⟨hy,e'⟩:y.length≤sizeLine∧k=((y.length:Int) != 0):=e
  subst e'
  exact PySem.P.truthy_str (by omega) ⟨H,I.tok _,q⟩
 | byt y =>
  obtain ⟨t,rfl⟩:=rx
  obtain ⟨hy,e'⟩:y.size≤sizeLine∧k=((y.size:Int) != 0):=e
  subst e'
  exact PySem.W.truthy_bytes (by omega) ⟨H,I.tok _,q⟩
 | ref p =>
  cases rx
  have e':(∃ xs,SqL X.K H p xs∧k = !xs.isEmpty)∨(∃ xs,SqT X.K H p xs∧k = !xs.isEmpty)∨∃ kvs,H p=some (.dK kvs)∧k = !kvs.isEmpty:=e
  rcases e' with ⟨xs,hx,e'⟩ | ⟨xs,hx,e'⟩ | ⟨kvs,hx,e'⟩
  ·subst e'
   obtain ⟨its,r,pl,hz⟩:=I.list hx
   have hlen:=r.length
   exact wpAny_truthy_list pl.isList (by simp only [List.size_toArray];omega) ⟨H,I.tok _,by rw [a2k r];exact q⟩
  ·subst e'
   obtain ⟨its,r,pl,hz⟩:=I.tuple hx
   have hlen:=r.length
   exact truthy_tuple pl (by simp only [List.size_toArray];omega) ⟨H,I.tok _,by rw [a2k r];exact q⟩
  ·subst e'
   obtain ⟨hz,hS,vs,r,m⟩:kvs.length≤sizeLine∧(p == sysModules)=false∧∃ vs,KV kvs vs∧s.heap.DictOf (a6q X.prog X.w) p vs:=I.hok p _ hx
   have hlen:kvs.length=vs.length:=Paired.length r
   exact wpAny_truthy_dict hS m (by omega) ⟨H,I.tok _,by rw [a8j r];exact q⟩
 | _=>exact (show False from e).elim
theorem ad3 (ha:PE X a ta) (he:∀ whole,isTrue a X.env whole=(do let v ← whole;standAt a.pos;holding [v] (truthy v))) :
  PT X a (fun σ H Q=>ta σ H fun x H'=>∃ k,ao8 X.K x H' k∧Q k H'):=by
 intro pins s σ H Q I h
 exact isTrue_plain (thn (ha pins s σ H _ I h) fun v s1 ⟨x,H1,I1,r1,q1⟩=>akc pins s1 σ H1 x v Q I1 r1 q1) (he _)
theorem a8k:OpR X (binaryOp .Add) (fun x y H Q=>∃ i j,x = .str i∧y = .str j∧i.length+j.length≤sizeLine∧Q (.str (i++j)) H):=by
 intro pins s σ H x y v u Q I rx ry h
 obtain ⟨i,j,rfl,rfl,hz,q⟩:=h
 obtain ⟨t,rfl⟩:=rx
 obtain ⟨t',rfl⟩:=ry
 exact add_str (fun t' tk=>⟨.str (i++j),H,I.tok _,⟨_,rfl⟩,q⟩) hz
theorem uy:OpR X (inplaceOp .Add) (fun x y H Q=>∃ i j,x = .str i∧y = .str j∧i.length+j.length≤sizeLine∧Q (.str (i++j)) H):=by
 intro pins s σ H x y v u Q I rx ry h
 obtain ⟨i,j,rfl,rfl,hz,q⟩:=h
 obtain ⟨t,rfl⟩:=rx
 obtain ⟨t',rfl⟩:=ry
 exact iadd_str (fun t' tk=>⟨.str (i++j),H,I.tok _,⟨_,rfl⟩,q⟩) hz
theorem vals1 {x:V} {us:List Value} (r:Vals [x] us):∃ u,us=[u]∧RelV x u:=by
 cases r with
 | cons r1 r2=>cases r2;exact ⟨_,rfl,r1⟩
theorem vals2 {x y:V} {us:List Value} (r:Vals [x,y] us):∃ u w',us=[u,w']∧RelV x u∧RelV y w':=by
 cases r with
 | cons r1 r2 =>
  cases r2 with
  | cons r3 r4=>cases r4;exact ⟨_,_,rfl,r1,r3⟩
theorem ad4:CallR X (.builtin "abs") (fun xs H Q=>∃ i,xs=[.int i]∧Q (.int (if i<0 then -i else i)) H):=by
 intro pins s σ H xs us Q I r h
 obtain ⟨i,rfl,q⟩:=h
 obtain ⟨u,rfl,t,rfl⟩:=vals1 r
 exact call_abs_int fun u tk=>⟨.int (if i<0 then -i else i),H,I.tok _,⟨_,rfl⟩,q⟩
theorem a9s (hc:X.calm=true):CallR X (.builtin "min") (fun xs H Q=>∃ i j,xs=[.int i, .int j]∧Q (.int (if j<i then j else i)) H):=by
 intro pins s σ H xs us Q I r h
 obtain ⟨i,j,rfl,q⟩:=h
 obtain ⟨u,w',rfl,⟨t,rfl⟩,⟨t',rfl⟩⟩:=vals2 r
 refine min_two_ints (I.ok.hd hc) fun h' tk k=>⟨_,H,I.kept k,?_,q⟩
 by_cases hj:j<i
 ·rw [if_pos hj,if_pos hj];exact ⟨_,rfl⟩
 ·rw [if_neg hj,if_neg hj];exact ⟨_,rfl⟩
theorem a9t:CallR X (.type "int") (fun xs H Q=>(∃ i,xs=[.int i]∧Q (.int i) H)∨∃ k,xs=[.bl k]∧Q (.int (if k then 1 else 0)) H):=by
 intro pins s σ H xs us Q I r h
 rcases h with ⟨i,rfl,q⟩ | ⟨k,rfl,q⟩
 ·obtain ⟨u,rfl,t,rfl⟩:=vals1 r
  exact call_int_int ⟨.int i,H,I,⟨_,rfl⟩,q⟩
 ·obtain ⟨u,rfl,r1⟩:=vals1 r
  cases r1
  exact call_int_bool ⟨.int (if k then 1 else 0),H,I.tok _,⟨_,rfl⟩,q⟩
end
end L2
namespace L2
open PySem PySem.Spec PyProof.Rows
structure ObjM (h:Heap) (x dx C:Addr) (mA:Str→Option Value):Prop where
 obj:h.get? x=some (PySem.W.instObj C dx)
 ns:h.Ns1 dx mA
 ne:dx≠x
theorem a9u {h:Heap} {dx:Addr} {mA:Str→Option Value} (n:h.Ns1 dx mA):∃ od,h.get? dx=some od∧∀ name,PySem.W.lookIn name od=some (mA name):=by
 obtain ⟨o,es,ep,ho,hd,hk,_,hm⟩:=n
 refine ⟨o,ho,fun name=>?_⟩
 have e:=hm name
 unfold nsFind findBy at e
 rw [← Array.find?_toList] at e
 unfold PySem.W.lookIn
 rw [hd]
 dsimp only
 split
 ·rename_i y q
  rw [q] at e
  exact congrArg some e
 ·rename_i q
  rw [q] at e
  have a:es.toList.any (·.refKey)=false:=by
   rw [List.any_eq_false]
   intro y hy
   obtain ⟨z,t,hkey⟩:=hk y (Array.mem_toList_iff.mp hy)
   simp [DictEntry.refKey,hkey]
  have a':¬ es.toList.any (·.refKey)=true:=by rw [a];exact Bool.false_ne_true
  rw [if_neg a']
  exact congrArg some e
theorem ObjM.look {h:Heap} {x dx C:Addr} {mA:Str→Option Value} (I:ObjM h x dx C mA):∃ od,PySem.W.InstAt h x (PySem.W.instObj C dx) C (some od)∧∀ name,PySem.W.lookIn name od=some (mA name) :=
 let ⟨od,ho,hl⟩:=a9u I.ns
 ⟨od,⟨I.obj,rfl,rfl,ho⟩,hl⟩
section
variable {P:Program} {w:World} {H H':Hp} {h h':Heap} {a C dx:Addr} {fs fs':List (Str × V)}
theorem ah1 (hok:HOk P w H h) (e:H a=some (.ins C dx fs)):∃ mA,ObjM h a dx C mA∧(∀ f,RelO (fs.lookup f) (mA f))∧PySem.Within mA (fs.map (·.1))∧fs.length≤1000∧H dx=some (.own a):=by
 obtain ⟨d,z,ne,ob,mA,n,r,q⟩:=(show ObjOk P w H h a (.ins C dx fs) from hok a _ e)
 exact ⟨mA,⟨ob,n,ne⟩,r,q,z,d⟩
end
structure Cls (K:PySem.W.Frag) (C:Addr):Prop where
 pg:PySem.W.plainGet K C Str.empty=true
 hd:PySem.W.hasDictIn K C=true
 po:PySem.W.plainOver K C=true
 sa:PySem.W.findIn K (.ref C) "__setattr__" = some (some (.builtin "object.__setattr__"))
theorem Cls.get {K:PySem.W.Frag} {C:Addr} (c:Cls K C) (f:Str):PySem.W.plainGet K C f=true:=c.pg
section
variable {X:Cx} {pins:List (Addr × Obj)} {σ:St} {H:Hp} {s:Shared} {A:Around} {E:Value→Shared→Prop} {Q:Value→Shared→Prop} {c:Value} {b:Bool}
inductive TyOf (K:PySem.W.Frag) (H:Hp):V→Value→Prop where
 | non:TyOf K H .non (.type "NoneType")
 | bl (x:Bool):TyOf K H (.bl x) (.type "bool")
 | int (i:Int):TyOf K H (.int i) (.type "int")
 | str (x:Str):TyOf K H (.str x) (.type "str")
 | flt (x:UInt64):TyOf K H (.flt x) (.type "float")
 | lst {a:Addr} {xs:List V} (e:H a=some (.lst xs)):TyOf K H (.ref a) (.type "list")
 | frz {a:Addr} {o:Obj} {xs:List V} (e:H a=some (.frz o (.lst xs))):TyOf K H (.ref a) (.type "list")
 | tup {a:Addr} {xs:List V} (e:H a=some (.tup xs)):TyOf K H (.ref a) (.type "tuple")
 | dK {a:Addr} {kvs:List (Key × V)} (e:H a=some (.dK kvs)):TyOf K H (.ref a) (.type "dict")
 | dT {a:Addr} {kvs:List (List Key × V)} (e:H a=some (.dT kvs)):TyOf K H (.ref a) (.type "dict")
 | ins {a C dx:Addr} {fs:List (Str × V)} (e:H a=some (.ins C dx fs)) (cl:Cls K C) (ha:PySem.W.findIn K (.ref C) "__class__" = some (some (.builtin "object.__class__")))
   (hn:PySem.W.specialIn K (.builtin "object.__class__") "__get__" = some (some (.builtin "getset_descriptor.__get__"))) (htk:PySem.W.takesIn K (.builtin "object.__class__")=some true)
   (hm:PySem.W.mroIn K C (.type "object")=some true):TyOf K H (.ref a) (.ref C)
theorem a9v {x:V} {u t:Value} (I:Inv X pins σ H s) (rx:RelV x u) (ty:TyOf X.K H x t) (e:PySem.W.kitOne X.K t c=some b) (h:∀ tk,Q (.bool b) { s with toks:=tk }) :
  wpAny (model X.prog X.w) A (call (.builtin "isinstance") [u,c]) Q E s:=by
 cases ty with
 | non=>cases (show u=Value.none from rx);exact PySem.W.kia_one PySem.W.kitx_none I.kIn True.intro e (fun z=>nomatch z) h
 | bl y=>cases (show u=Value.bool y from rx);exact PySem.W.kia_one PySem.W.kitx_bool I.kIn True.intro e (fun z=>nomatch z) h
 | int i=>obtain ⟨t,q⟩:=(show ∃ t,u=Value.int i t from rx);cases q;exact PySem.W.kia_one PySem.W.kitx_int I.kIn True.intro e (fun z=>nomatch z) h
 | str y=>obtain ⟨t,q⟩:=(show ∃ t,u=Value.str y t from rx);cases q;exact PySem.W.kia_one PySem.W.kitx_str I.kIn True.intro e (fun z=>nomatch z) h
 | flt y=>obtain ⟨t,q⟩:=(show ∃ t,u=Value.float y t from rx);cases q;exact PySem.W.kia_one PySem.W.kitx_float I.kIn True.intro e (fun z=>nomatch z) h
 | @lst a xs ea =>
  cases (show u=Value.ref a from rx)
  obtain ⟨_,_,n,_,h1⟩:=(show ObjOk X.prog X.w H s.heap a (.lst xs) from I.hok a _ ea)
  exact PySem.W.kia_one PySem.W.kitx_list I.kIn ⟨_,h1,rfl⟩ e (fun z=>nomatch z) h
 | @frz a ob xs ea =>
  cases (show u=Value.ref a from rx)
  obtain ⟨_,_,_,n,_,h1⟩:=(show ObjOk X.prog X.w H s.heap a (.frz ob (.lst xs)) from I.hok a _ ea)
  exact PySem.W.kia_one PySem.W.kitx_list I.kIn ⟨_,h1,rfl⟩ e (fun z=>nomatch z) h
 | @tup a xs ea =>
  cases (show u=Value.ref a from rx)
  obtain ⟨_,_,_,p⟩:=(show ObjOk X.prog X.w H s.heap a (.tup xs) from I.hok a _ ea)
  obtain ⟨o,h1,h2,_⟩:=p
  exact PySem.W.kia_one PySem.W.kitx_tuple I.kIn ⟨o,h1,h2⟩ e (fun z=>nomatch z) h
 | @dK a kvs ea =>
  cases (show u=Value.ref a from rx)
  obtain ⟨_,_,vs,_,p⟩:=(show ObjOk X.prog X.w H s.heap a (.dK kvs) from I.hok a _ ea)
  obtain ⟨o,es,ep,h1,h2,_⟩:=p
  exact PySem.W.kia_one PySem.W.kitx_dict I.kIn ⟨o,h1,h2.1⟩ e (fun z=>nomatch z) h
 | @dT a kvs ea =>
  cases (show u=Value.ref a from rx)
  obtain ⟨_,_,xs,_,o,es,ep,h1,h2,_⟩:=(show ObjOk X.prog X.w H s.heap a (.dT kvs) from I.hok a _ ea)
  exact PySem.W.kia_one PySem.W.kitx_dict I.kIn ⟨o,h1,h2.1⟩ e (fun z=>nomatch z) h
 | @ins a C dx fs ea cl ha hn htk hm =>
  cases (show u=Value.ref a from rx)
  obtain ⟨mA,O,_⟩:=ah1 I.hok ea
  obtain ⟨od,J,_⟩:=O.look
  exact PySem.W.kia_one (PySem.W.kitx_own (cl.get _) cl.hd ha hn htk hm) I.kIn J e (fun z=>nomatch z) h
end
end L2
namespace L2
open PySem PySem.Spec PyProof.Rows
structure Room (k:Nat) (A:Around):Prop where
 hd:A.handled=none
 dp:A.depth+3*k+5<recursionLimit
 un:A.units+16*k+200<cLine
 gd:A.guards=some []
theorem Room.mono {j k:Nat} {A:Around} (r:Room k A) (h:j≤k):Room j A:=⟨r.hd,by have:=r.dp;omega,by have:=r.un;omega,r.gd⟩
theorem Room.deeper {k:Nat} {A:Around} (r:Room (k+1) A) (env:Env):Room k (A.deeper env) :=
 ⟨r.hd,by have:=r.dp;show A.depth+1+3*k+5<_;omega,by have:=r.un;show A.units+3+16*k+200<_;omega,r.gd⟩
theorem Room.depth {k:Nat} {A:Around} (r:Room k A):A.depth<recursionLimit:=by have:=r.dp;omega
theorem Room.units {k:Nat} {A:Around} (r:Room k A):A.units+64<cLine:=by have:=r.un;omega
def ao9:TA:=fun _ H Q=>Q [] H
def akd (ta:TE) (tr:TA):TA:=fun σ H Q=>ta σ H fun x H1=>tr σ H1 fun xs H2=>Q (x::xs) H2
section
variable {X:Cx} {e:Expr} {es:List Expr} {te:TE} {t:TA} {pos:Pos}
theorem a5d:PA X [] ao9:=fun _ _ _ _ H Q I h=>Calls.spliced_nil ⟨[],H,I, .nil,h⟩
theorem um (ha:PE X e te) (hr:PA X es t) (hs:starEach (e::es) X.env=(false,eval e X.env)::starEach es X.env:=by rfl):PA X (e::es) (akd te t):=by
 intro pos pins s σ H Q I h
 rw [hs]
 show wpAny _ _ (spliced ((false,eval e X.env)::backTo pos (starEach es X.env))) _ _ s
 refine Calls.spliced_cons (thn (ha pins s σ H _ I h) fun u s1 ⟨x,H1,I1,r1,q1⟩=>?_)
 exact thn (hr pos pins s1 σ H1 _ I1 q1) fun us s2 ⟨xs,H2,I2,r2,q2⟩=>⟨x::xs,H2,I2, .cons r1 r2,q2⟩
def aqe (t:TA):TE:=fun σ H Q=>t σ H fun xs H1=>xs.length≤sizeLine∧∀ p,H1 p=none→Q (.ref p) (upd H1 p (.tup xs))
def aqf (t:TA):TE:=fun σ H Q=>t σ H fun xs H1=>xs.length≤sizeLine∧∀ p,H1 p=none→Q (.ref p) (upd H1 p (.lst xs))
theorem afm {x1} (h:PA X es t):PE X (.Tuple es x1 pos) (aqe t):=by
 intro pins s σ H Q I hq
 refine wpAny_Tuple_spliced (thn (h pos pins s σ H _ I hq) fun us s1 ⟨xs,H1,I1,r,z,q⟩=>⟨by rw [← r.length];exact z,?_⟩)
 have hf:H1 s1.heap.objs.size=none:=I1.hok.fresh (Nat.le_refl _)
 refine ⟨.ref s1.heap.objs.size,upd H1 s1.heap.objs.size (.tup xs),I1.laid (t':=s1.toks) (fun b u e=>Heap.get?_push_of_some _ e) (Nat.le_refl _) ?_,rfl,q _ hf⟩
 exact ⟨z,us,r,⟨_,Heap.get?_push_size _ rfl,rfl,_,rfl⟩⟩
theorem ake (h:PA X es t):PE X (.List es pos) (aqf t):=by
 intro pins s σ H Q I hq
 refine wpAny_List_spliced (thn (h pos pins s σ H _ I hq) fun us s1 ⟨xs,H1,I1,r,z,q⟩=>⟨by rw [← r.length];exact z,?_⟩)
 have hf:H1 s1.heap.objs.size=none:=I1.hok.fresh (Nat.le_refl _)
 refine ⟨.ref s1.heap.objs.size,upd H1 s1.heap.objs.size (.lst xs),I1.laid (t':=s1.toks) (fun b u e=>Heap.get?_push_of_some _ e) (Nat.le_refl _) ?_,rfl,q _ hf⟩
 exact ⟨z,us,0,r,Heap.get?_push_size _ rfl⟩
end
abbrev Sp:=List V→Hp→VK→XK→Prop
abbrev CXT:=List Env→Hp→Shared→XK→Value→Shared→Prop
structure Env0 (P:Program) (w:World) (K:PySem.W.Frag) (mg:Str→Option Value) (base:Heap) (A:Around) (outer:List Env) (s:Shared) (H:Hp):Prop where
 frames:A.frames=some outer
 mod:Mod K mg base
 bs:∀ b o,base.get? b=some o→s.heap.get? b=some o∧H b=none
 bsz:base.objs.size≤s.heap.objs.size
 funs:s.heap.FunFrames base outer
 frf:∀ b∈frs outer,H b=none
 hok:HOk P w H s.heap
 bare:AllBare s.gens
def CE (outer:List Env) (P:Program) (w:World) (H:Hp) (s:Shared) (Q:VK) (u:Value) (s':Shared):Prop :=
 ∃ v H',s'.os=s.os∧AllBare s'.gens∧Un (frs outer) [] H H' s.heap s'.heap∧HOk P w H' s'.heap∧RelV v u∧Q v H'
def CR (CX:CXT) (outer:List Env) (P:Program) (w:World) (H:Hp) (s:Shared) (Q:VK) (E:XK) (r:Result) (s':Shared):Prop :=
 match r with
 | .ok (.ret u)=>CE outer P w H s Q u s'
 | .ok _=>False
 | .error e=>CX outer H s E e s'
structure FnOk (P:Program) (w:World) (K:PySem.W.Frag) (mg:Str→Option Value) (base:Heap) (CX:CXT) (k:Nat) (f:Addr) (fd:FuncData) (ps:List Str) (sp:Sp):Prop where
 len:∀ vs H Q E,sp vs H Q E→vs.length=ps.length
 run:∀ (A:Around) (outer:List Env) (s:Shared) (H:Hp) (args:Args) (us:List Value) (vs:List V) (Q:VK) (E:XK),Room k A→Env0 P w K mg base A outer s H→BindsTo s fd args (ps.zip us)→Vals vs us→sp vs H Q E →
  codeAny (model P w) A (.call (.ref f) args) (CR CX outer P w H s Q E) s
theorem FnOk.imp {P:Program} {w:World} {K:PySem.W.Frag} {mg:Str→Option Value} {base:Heap} {CX:CXT} {k:Nat} {f:Addr} {fd:FuncData} {ps:List Str} {sp sp':Sp} (F:FnOk P w K mg base CX k f fd ps sp)
  (h:∀ vs H Q E,sp' vs H Q E→sp vs H Q E):FnOk P w K mg base CX k f fd ps sp' :=
 ⟨fun vs H Q E q=>F.len vs H Q E (h _ _ _ _ q),fun A outer s H args us vs Q E hr he hb hv hs=>F.run A outer s H args us vs Q E hr he hb hv (h _ _ _ _ hs)⟩
section
variable {X:Cx} {pins:List (Addr × Obj)} {σ:St} {H:Hp} {s s':Shared}
theorem Inv.env0 (I:Inv X pins σ H s):Env0 X.prog X.w X.K X.mg X.base X.A X.stack s H :=
 ⟨I.ok.frames,I.ok.mod,I.bs,Nat.le_trans I.ok.bsz I.sz,I.stack,I.stkFree,I.hok,I.bare⟩
theorem Inv.after {Q:VK} {u:Value} (I:Inv X pins σ H s) (h:CE X.stack X.prog X.w H s Q u s'):EP X pins σ Q u s':=by
 obtain ⟨v,H',os,bare,un,hok,r,q⟩:=h
 obtain ⟨hh,g,d,t,os'⟩:=s'
 obtain rfl:os'=s.os:=os
 exact ⟨v,H',I.call (h':=hh) (g':=g) (d':=d) (t':=t) (ch:=[]) un hok bare (fun b z=>absurd z (by simp)),r,q⟩
end
def akf (sp:Sp) (dvs:List V) (E:XK) (t:TA):TE:=fun σ H Q=>t σ H fun vs H1=>sp (vs++dvs) H1 Q E
def Binds (K:PySem.W.Frag) (fd:FuncData) (ps:List Str) (ds:List Value):Prop :=
 ∀ (s:Shared) (us:List Value),K.In s.heap→(us++ds).length=ps.length→BindsTo s fd ⟨us,[]⟩ (ps.zip (us++ds))
theorem Binds.all {K:PySem.W.Frag} {fd:FuncData} {ps:List Str} (h:∀ us:List Value,us.length=ps.length→bindArgs fd ⟨us,[]⟩=pure (ps.zip us)):Binds K fd ps []:=fun s us _ hl=>by
 rw [List.append_nil] at hl ⊢
 exact .of_eq (h us hl)
def a1g (CX:CXT) (X:Cx) (E:XK):Prop:=∀ (pins:List (Addr × Obj)) (σ:St) (H:Hp) (s:Shared) (e:Value) (s':Shared),Inv X pins σ H s→CX X.stack H s E e s'→X.xe e s'
section
variable {X:Cx} {CX:CXT} {k:Nat} {f C:Addr} {fd:FuncData} {ps:List Str} {sp:Sp} {dvs:List V} {ds:List Value} {E:XK} {x m:Str} {p pos apos:Pos} {e o:Expr} {es:List Expr} {ta:TE} {t:TA}
theorem afn {pins:List (Addr × Obj)} {σ:St} {H:Hp} {s:Shared} {Q:VK} {us:List Value} {vs:List V} (F:FnOk X.prog X.w X.K X.mg X.base CX k f fd ps sp) (hr:Room k X.A) (hb:Binds X.K fd ps ds) (hd:Vals dvs ds) (hx:a1g CX X E)
  (I:Inv X pins σ H s) (r:Vals vs us) (h:sp (vs++dvs) H Q E):wpAny (model X.prog X.w) X.A (call (.ref f) us) (EP X pins σ Q) X.xe s:=by
 have r2:Vals (vs++dvs) (us++ds):=r.append hd
 have hl:(us++ds).length=ps.length:=by rw [← r2.length];exact F.len _ _ _ _ h
 refine wpAny_call (codeAny_mono (F.run X.A X.stack s H ⟨us,[]⟩ (us++ds) (vs++dvs) Q E hr I.env0 (hb s us I.kIn hl) r2 h) fun r s' hq=>?_)
 cases r with
 | error e=>exact hx pins σ H s e s' I hq
 | ok fl =>
  cases fl with
  | ret u=>exact I.after hq
  | next=>exact False.elim hq
  | brk=>exact False.elim hq
  | cont=>exact False.elim hq
theorem a1h (F:FnOk X.prog X.w X.K X.mg X.base CX k f fd ps sp) (hr:Room k X.A) (hg:Gl X x) (hm:X.mg x=some (.ref f)) (hk:PySem.W.keepIn X.K (.ref f)=true) (hb:Binds X.K fd ps ds) (hd:Vals dvs ds) (hx:a1g CX X E)
  (ha:PA X (e::es) t) (hdb:(x == ("__debug__" : Str))=false:=by decide) (he:starEach (e::es) X.env=(false,eval e X.env)::starEach es X.env:=by rfl) (hpl:(backTo pos (starEach es X.env)).any (·.1)=false:=by rfl) :
  PE X (.Call (.Name x p) (e::es) [] pos) (akf sp dvs E t):=by
 intro pins s σ H Q I h
 refine wpAny_Call_Name_kw (a08 I hg hm ?_ hdb)
 refine PySem.W.callWith_K (h₀:=X.base) I.ok.mod.kin hk (thn (ha pos pins s σ H _ I h) fun us s1 ⟨vs,H1,I1,r,q⟩=>⟨I1.kIn,?_⟩) he hpl
 exact afn F hr hb hd hx I1 r q
theorem ad5 (F:FnOk X.prog X.w X.K X.mg X.base CX k f fd ps sp) (hr:Room k X.A) (hg:Gl X x) (hm:X.mg x=some (.ref f)) (hk:PySem.W.keepIn X.K (.ref f)=true) (hb:Binds X.K fd ps ds) (hd:Vals dvs ds) (hx:a1g CX X E)
  (hdb:(x == ("__debug__" : Str))=false:=by decide):PE X (.Call (.Name x p) [] [] pos) (akf sp dvs E ao9):=by
 intro pins s σ H Q I h
 refine wpAny_Call_Name_kw (a08 I hg hm ?_ hdb)
 exact PySem.W.callWith_K0 I.kIn hk (afn (us:=[]) F hr hb hd hx I .nil h)
end
def PK (X:Cx) (kws:List Keyword) (t:TA):Prop :=
 ∀ (pos:Pos) (pins:List (Addr × Obj)) (s:Shared) (σ:St) (H:Hp) (Q:List V→Hp→Prop),Inv X pins σ H s→t σ H Q→wpAny (model X.prog X.w) X.A (evalAll ((backToKw pos (keywordEach kws X.env)).map (·.2))) (AP X pins σ Q) X.xe s
section
variable {X:Cx} {CX:CXT} {k:Nat} {f C:Addr} {fd:FuncData} {ps ks:List Str} {sp:Sp} {E:XK} {x m:Str} {p pos apos kpos:Pos} {e o:Expr} {es:List Expr} {kws:List Keyword} {te ta:TE} {t tk:TA} {nm:Option Str}
theorem akg:PK X [] ao9:=fun _ _ _ _ H Q I h=>wpAny_evalAll_nil ⟨[],H,I, .nil,h⟩
theorem ah2 (ha:PE X e te) (hr:PK X kws t):PK X (⟨nm,e,kpos⟩::kws) (akd te t):=by
 intro pos pins s σ H Q I h
 show wpAny _ _ (evalAll ((do let v ← eval e X.env;standAt pos;pure v)::(backToKw pos (keywordEach kws X.env)).map (·.2))) _ _ s
 refine wpAny_evalAll_cons (wpAny_bind (thn (ha pins s σ H _ I h) fun u s1 ⟨x,H1,I1,r1,q1⟩=>wpAny_bind (wpAny_standAt (wpAny_pure ?_))))
 exact thn (hr pos pins s1 σ H1 _ I1 q1) fun us s2 ⟨xs,H2,I2,r2,q2⟩=>⟨x::xs,H2,I2, .cons r1 r2,q2⟩
variable {g:List Value→List Value→List Value} {gV:List V→List V→List V}
end
structure FnScope (N P:List Str) (sc:Scope):Prop where
 kind:sc.kind = .function
 co:sc.isCoroutine=false
 gen:sc.isGenerator=false
 nd:N.Nodup
 pre:N.take P.length=P
 par:∀ x∈P,sc.names.lookup x=some .local∨sc.names.lookup x=some .cell
 nofree:∀ y∈sc.names,y.2≠.free
theorem a5e {kindOf:Str→Option NameKind} {x:Str}:∀ {binds:List (Str × Value)} {m:Str→Option Value},(∀ v,(x,v) ∉ binds)→bindL kindOf binds m x=m x
 | [],_,_=>rfl
 | (n,v)::r,m,h=>by
  unfold bindL
  rw [a5e fun w hw=>h w (List.mem_cons_of_mem _ hw)]
  split
  ·have:x≠n:=by rintro rfl;exact h v List.mem_cons_self
   simp [this]
  ·rfl
theorem a5f {kindOf:Str→Option NameKind} {x:Str}:∀ {binds:List (Str × Value)} {m:Str→Option Value},(∀ v,(x,v) ∉ binds)→bindC kindOf binds m x=m x
 | [],_,_=>rfl
 | (n,v)::r,m,h=>by
  unfold bindC
  rw [a5f fun w hw=>h w (List.mem_cons_of_mem _ hw)]
  split
  ·rfl
  ·have:x≠n:=by rintro rfl;exact h v List.mem_cons_self
   simp [this]
theorem a5g {kindOf:Str→Option NameKind} {x:Str} {v:Value}:∀ {P:List Str} {vs:List Value} {i:Nat} {m:Str→Option Value},P.Nodup→P[i]? = some x→vs[i]? = some v→kindOf x=some .local →
  bindL kindOf (P.zip vs) m x=some v
 | [],_,_,_,_,h,_,_=>by simp at h
 | _::_,[],_,_,_,_,h,_=>by simp at h
 | p::P,w::vs,0,m,nd,h1,h2,hk=>by
  simp at h1 h2;subst h1;subst h2
  show bindL kindOf ((p,w)::P.zip vs) m p=_
  unfold bindL
  rw [a5e fun v hv=>(List.nodup_cons.mp nd).1 (List.of_mem_zip hv).1,if_pos hk]
  simp
 | p::P,w::vs,i+1,m,nd,h1,h2,hk=>by
  show bindL kindOf ((p,w)::P.zip vs) m x=_
  unfold bindL
  exact a5g (i:=i) (List.nodup_cons.mp nd).2 (by simpa using h1) (by simpa using h2) hk
theorem a5h {kindOf:Str→Option NameKind} {x:Str} {v:Value}:∀ {P:List Str} {vs:List Value} {i:Nat} {m:Str→Option Value},P.Nodup→P[i]? = some x→vs[i]? = some v→kindOf x≠some .local →
  bindC kindOf (P.zip vs) m x=some v
 | [],_,_,_,_,h,_,_=>by simp at h
 | _::_,[],_,_,_,_,h,_=>by simp at h
 | p::P,w::vs,0,m,nd,h1,h2,hk=>by
  simp at h1 h2;subst h1;subst h2
  show bindC kindOf ((p,w)::P.zip vs) m p=_
  unfold bindC
  rw [a5f fun v hv=>(List.nodup_cons.mp nd).1 (List.of_mem_zip hv).1,if_neg hk]
  simp
 | p::P,w::vs,i+1,m,nd,h1,h2,hk=>by
  show bindC kindOf ((p,w)::P.zip vs) m x=_
  unfold bindC
  exact a5h (i:=i) (List.nodup_cons.mp nd).2 (by simpa using h1) (by simpa using h2) hk
def start (N:List Str) (vs:List V):St:=vs.map some++List.replicate (N.length - vs.length) none
def a0j (CX:CXT) (P:Program) (w:World) (K:PySem.W.Frag) (mg:Str→Option Value) (base:Heap) (N:List Str) (qual:Str) (scope:Scope) (f:Addr) (cd:Value) (A:Around) (outer:List Env) (s:Shared) (H:Hp) (E:XK):Cx where
 prog:=P
 w:=w
 K:=K
 mg:=mg
 base:=base
 A:=A.deeper (envOfC qual scope s.heap.objs.size f cd)
 N:=N
 s₀:=s
 H₀:=H
 env:=envOfC qual scope s.heap.objs.size f cd
 outer:=outer
 stack:=envOfC qual scope s.heap.objs.size f cd::outer
 ex:=[]
 calm:=true
 fn:=fun _=>true
 pn:=[]
 xe:=fun e s'=>wpAny (model P w) (A.deeper (envOfC qual scope s.heap.objs.size f cd)) (leaving (envOfC qual scope s.heap.objs.size f cd) e) (fun _ s''=>CX outer H s E e s'') (fun e' s''=>CX outer H s E e' s'') s'
theorem a7g {sc:Scope} {n:Nat} {x:Str} (h:sc.names.lookup x=some .cell):∃ c,(cellsFrom n sc.names []).lookup x=some c:=by
 have q:=PySem.W.cellsFrom_some sc.names n [] (.inl h)
 exact Option.isSome_iff_exists.mp q
theorem a9w {CX:CXT} {P:Program} {w:World} {K:PySem.W.Frag} {mg:Str→Option Value} {base:Heap} {N ps:List Str} {qual:Str} {scope:Scope} {f:Addr} {cd:Value} {A:Around} {outer:List Env} {s s1:Shared} {H:Hp} {E:XK} {us:List Value} {vs:List V}
  (S:FnScope N ps scope) (hd:A.handled=none) (e0:Env0 P w K mg base A outer s H) (hl:vs.length=ps.length) (r:Vals vs us)
  (x:InCallC s s.heap.objs.size (bindL (envOfC qual scope s.heap.objs.size f cd).kindOf (ps.zip us) fun _=>none) (cellsFrom (s.heap.objs.size+1) scope.names []) (bindC (envOfC qual scope s.heap.objs.size f cd).kindOf (ps.zip us) fun _=>none) s1) :
  Inv (a0j CX P w K mg base N qual scope f cd A outer s H E) [] (start N vs) H s1:=by
 have hpl:ps.length≤N.length:=by have:=congrArg List.length S.pre;rw [List.length_take] at this;omega
 obtain ⟨h1,tk,rfl,hk⟩:=x.done
 have noA:∀ b:Addr,b ∉ (a0j CX P w K mg base N qual scope f cd A outer s H E).ex:=fun b z=>absurd (show b∈([]:List Addr) from z) (by simp)
 refine ⟨⟨e0.mod,S.kind,rfl,rfl,Nat.le_refl _,fun y z c h1 h2=>?_,fun y hy=>?_,fun y c _ h=>?_,fun _=>hd,Around.frames_deeper e0.frames, .inr ⟨rfl,rfl⟩,fun b z=>absurd z (noA b),e0.bs,e0.bsz,fun b _ _=>noA b,fun b z=>absurd z (noA b),e0.funs,e0.frf⟩,
  rfl,e0.bare,Un.kept hk,⟨_,x.toInCall.ns,fun i y v h1 h2 h3=>?_⟩,fun y c h=>⟨_,x.cell y c h⟩,e0.hok.fresh (Nat.le_refl _),fun y c h=>?_,fun p hp=>absurd (show p∈([]:List (Addr × Obj)) from hp) (by simp),e0.hok.kept hk,?_⟩
 ·exact name_of_addr x.apart (PySem.mem_of_lookup h1) (PySem.mem_of_lookup h2)
 ·have hy:scope.names.lookup y=some .cell∨scope.names.lookup y=some .free:=hy
  rcases hy with hy | hy
  ·exact a7g hy
  ·exact absurd rfl (S.nofree _ (PySem.mem_of_lookup hy))
 ·exact Nat.le_of_lt (x.above y c (PySem.mem_of_lookup h))
 ·have hi:i<vs.length:=by
   unfold start at h2
   by_cases hi:i<vs.length
   ·exact hi
   ·rw [List.getElem?_append_right (by simpa using hi)] at h2
    rw [List.getElem?_replicate] at h2
    split at h2<;>cases h2
  have ha:vs[i]? = some v:=by
   unfold start at h2
   rw [List.getElem?_append_left (by simpa using hi),List.getElem?_map] at h2
   cases e:vs[i]? with
   | none=>rw [e] at h2;cases h2
   | some a=>rw [e] at h2;cases h2;rfl
  obtain ⟨u,hu,rv⟩:=r.get ha
  have hp:ps[i]? = some y:=by
   rw [← S.pre,List.getElem?_take_of_lt (by omega)];exact h1
  have ndP:ps.Nodup:=by rw [← S.pre];exact S.nd.sublist (List.take_sublist _ _)
  refine ⟨u,rv,?_⟩
  rcases S.par y (List.mem_of_getElem? hp) with k | k
  ·exact .inl ⟨k,a5g ndP hp hu k⟩
  ·obtain ⟨c,e⟩:=a7g (n:=s.heap.objs.size+1) k
   refine .inr ⟨.inl k,c,e,?_⟩
   have q:=x.cell y c e
   rw [a5h ndP hp hu (by show scope.names.lookup y≠_;rw [k];decide)] at q
   exact q
 ·exact e0.hok.fresh (Nat.le_of_lt (x.above y c (PySem.mem_of_lookup h)))
 ·unfold start
  show _=N.length
  rw [List.length_append,List.length_map,List.length_replicate]
  omega
theorem akh {CX:CXT} {P:Program} {w:World} {K:PySem.W.Frag} {mg:Str→Option Value} {base:Heap} {k:Nat} {f:Addr} {name qual:Str} {params:Arguments} {body:List Stmt} {scope:Scope} {dV kV doc pm cdv ct oc:Value} {an od:Option Addr}
  {osl:Array (Option Value)} {N ps:List Str} {sp:Sp} (lk:K.lookup f=some ⟨oc,od, .func (PySem.W.fnOf name qual params body scope dV kV doc pm an cdv ct),osl⟩) (hcd:PySem.W.codeIn K cdv qual=true) (S:FnScope N ps scope)
  (len:∀ vs H Q E,sp vs H Q E→vs.length=ps.length)
  (hbody:∀ (A:Around) (outer:List Env) (s:Shared) (H:Hp) (vs:List V) (Q:VK) (E:XK),Room k (A.deeper (envOfC qual scope s.heap.objs.size f cdv))→sp vs H Q E →
   ∃ t,PSs (a0j CX P w K mg base N qual scope f cdv A outer s H E) body t∧t { nx:=fun _ H'=>Q .non H',rt:=Q } (start N vs) H) :
  FnOk P w K mg base CX (k+1) f (PySem.W.fnOf name qual params body scope dV kV doc pm an cdv ct) ps sp:=by
 refine ⟨len,fun A outer s H args us vs Q E hr e0 hb r hsp=>?_⟩
 have hl:=len _ _ _ _ hsp
 have KX:K.In s.heap:=e0.mod.kin.keeps fun b o e=>(e0.bs b o e).1
 have lim:s.heap.NoLimit:=e0.mod.nolimit.keeps fun b o e=>(e0.bs b o e).1
 have hkind:∀ y∈ps.zip us,scope.names.lookup y.1=some .local∨(scope.names.lookup y.1=some .cell∧((cellsFrom (s.heap.objs.size+1) scope.names []).lookup y.1).isSome=true):=fun ⟨n,v⟩ hy=>by
  rcases S.par n (List.of_mem_zip hy).1 with q | q
  ·exact .inl q
  ·exact .inr ⟨q,PySem.W.cellsFrom_some _ _ _ (.inl q)⟩
 refine codeAny_call_function hr.depth (KX _ _ lk) rfl S.co S.gen rfl (PySem.W.codeRec_of KX hcd) (hb _ _ _ _ ?_)
 refine wpAny_newFunctionEnv_cells S.kind hkind fun env he s1 x=>?_
 subst he
 refine ⟨lim.keeps x.toInCall.keep,codeAny_func ?_⟩
 obtain ⟨t,ht,hq⟩:=hbody A outer s H vs Q E (hr.deeper _) hsp
 have I:Inv (a0j CX P w K mg base N qual scope f cdv A outer s H E) [] (start N vs) H s1:=a9w S hr.hd e0 hl r x
 refine wpAny_mono (ht [] s1 (start N vs) H _ I hq) (fun fl s' hs=>?_) fun e s' hs=>hs
 have fin:∀ {σ':St} {H':Hp} {v:V} {u:Value},Inv (a0j CX P w K mg base N qual scope f cdv A outer s H E) [] σ' H' s'→RelV v u→Q v H'→CE outer P w H s Q u s' :=
  fun {σ' H' v u} J rv q=>⟨v,H',J.os,J.bare,J.base,J.hok,rv,q⟩
 cases fl with
 | ret u =>
  obtain ⟨v,σ',H',J,rv,q⟩:=hs
  exact fin J rv q
 | next =>
  obtain ⟨σ',H',J,q⟩:=hs
  exact fin (v:=V.non) (u:=Value.none) J rfl q
 | brk =>
  obtain ⟨_,_,_,q⟩:=hs
  exact False.elim q
 | cont =>
  obtain ⟨_,_,_,q⟩:=hs
  exact False.elim q
end L2
namespace L2
open PySem PySem.Spec PyProof.Rows
section
variable {X:Cx} {x:Str} {p pos:Pos} {e:Expr} {es:List Expr} {t:TA} {id T:String} {r:List V→Hp→VK→Prop}
def tCB (r:List V→Hp→VK→Prop) (t:TA):TE:=fun σ H Q=>t σ H fun vs H1=>r vs H1 Q
theorem a3f (hc:CallR X (.builtin id) r) (hg:Gl X x) (hm:X.mg x=none) (hv:bootBuiltins x=some (.builtin id)) (ha:PA X (e::es) t) (hn:x ≠ "__name__":=by decide) (hdb:(x == ("__debug__" : Str))=false:=by decide)
  (he:starEach (e::es) X.env=(false,eval e X.env)::starEach es X.env:=by rfl) (hpl:(backTo pos (starEach es X.env)).any (·.1)=false:=by rfl):PE X (.Call (.Name x p) (e::es) [] pos) (tCB r t):=by
 intro pins s σ H Q I h
 refine wpAny_Call_Name_kw (a2h I hg hm hv ?_ hn hdb)
 exact PyProof.Rows.callWith_builtin1 (thn (ha pos pins s σ H _ I h) fun us s1 ⟨vs,H1,I1,r1,q1⟩=>hc pins s1 σ H1 vs us Q I1 r1 q1) he hpl
theorem a9x (hc:CallR X (.type T) r) (hg:Gl X x) (hm:X.mg x=none) (hv:bootBuiltins x=some (.type T)) (ha:PA X (e::es) t) (hn:x ≠ "__name__":=by decide) (hdb:(x == ("__debug__" : Str))=false:=by decide)
  (he:starEach (e::es) X.env=(false,eval e X.env)::starEach es X.env:=by rfl) (hpl:(backTo pos (starEach es X.env)).any (·.1)=false:=by rfl):PE X (.Call (.Name x p) (e::es) [] pos) (tCB r t):=by
 intro pins s σ H Q I h
 refine wpAny_Call_Name_kw (a2h I hg hm hv ?_ hn hdb)
 exact PyProof.Rows.callWith_type1 (thn (ha pos pins s σ H _ I h) fun us s1 ⟨vs,H1,I1,r1,q1⟩=>hc pins s1 σ H1 vs us Q I1 r1 q1) he hpl
end
end L2
namespace HT
open PySem PyProof.Rows
section
variable {prog:Program} {w:World} {A:Around} {E:Value→Shared→Prop} {s:Shared}
theorem ah3 {t b:Addr} {vs ws:List Value} {Q:Value→Shared→Prop} (ht:IsTup s.heap t vs.toArray) (hb:IsTup s.heap b ws.toArray) (hv:vs≠[])
  (h1:ws=[]→Q (.ref t) s) (h2:ws≠[]→Q (.ref s.heap.objs.size) { s with heap:=s.heap.push { cls:=.type "tuple",data:=.seq (vs++ws).toArray } })
  (hsz:vs.length+ws.length≤sizeLine):wpAny (model prog w) A (binaryOp .Add (.ref t) (.ref b)) Q E s:=by
 obtain ⟨⟨cls,dd,data,sl⟩,ho,hc,n,hd⟩:=id ht
 obtain ⟨⟨cls2,dd2,data2,sl2⟩,ho2,hc2,n2,hd2⟩:=id hb
 simp only at hc hd hc2 hd2
 subst hc hd hc2 hd2
 have e:vs.toArray++ws.toArray=(vs++ws).toArray:=by simp
 by_cases hw:ws=[]
 ·exact concat_meets ⟨_,ho,rfl⟩ ⟨_,ho2,rfl⟩ noFill_tuple_add seq_tuple_add PySem.F.slot_tuple_add PySem.F.entry_tuple_add (PySem.F.args_tuple_add_2 _ _)
   (tuple_addW1 t b vs.toArray ws.toArray n n2 dd dd2 sl sl2 (by simpa using hv) (by simp [hw])) ⟨ho,ho2,h1 hw⟩
 ·refine concat_meets ⟨_,ho,rfl⟩ ⟨_,ho2,rfl⟩ noFill_tuple_add seq_tuple_add PySem.F.slot_tuple_add PySem.F.entry_tuple_add (PySem.F.args_tuple_add_2 _ _)
   (tuple_addW2 t b vs.toArray ws.toArray n n2 dd dd2 sl sl2 (by simpa using hv) (by simpa using hw) (by rw [List.size_toArray,List.size_toArray];exact hsz)) ⟨ho,ho2,?_⟩
  rw [e]
  exact h2 hw
def sIx (n d:Nat):Option Int→Nat
 | none=>d
 | some v=>if v<0 then (v+(n:Int)).toNat else min v.toNat n
theorem a7h (n d:Nat):sIx n d none=d:=rfl
theorem a9y (n d k:Nat):sIx n d (some (k:Int))=min k n:=by
 show (if (k:Int)<0 then ((k:Int)+(n:Int)).toNat else min (k:Int).toNat n)=min k n
 rw [if_neg (by omega),Int.toNat_natCast]
theorem a9z (n d:Nat) (hd:d≤n) (o:Option Int):sIx n d o≤n:=by
 cases o with
 | none=>exact hd
 | some v =>
  show (if v<0 then (v+(n:Int)).toNat else min v.toNat n)≤n
  by_cases hv:v<0
  ·rw [if_pos hv];omega
  ·rw [if_neg hv];exact Nat.min_le_right _ _
theorem aa0 (v:Int) (n d:Nat):(if v<0 then max (v+(n:Int)) 0 else min v (n:Int))=((sIx n d (some v):Nat):Int):=by
 show (if v<0 then max (v+(n:Int)) 0 else min v (n:Int))=(((if v<0 then (v+(n:Int)).toNat else min v.toNat n):Nat):Int)
 by_cases hv:v<0
 ·simp only [if_pos hv];omega
 ·simp only [if_neg hv];omega
theorem a8l (lo hi:Option Int) (n:Nat):Builtin.Slice.sliceAdjust lo hi 1 (n:Int)=(((sIx n 0 lo:Nat):Int),((sIx n n hi:Nat):Int)):=by
 have h1:¬ ((1:Int)<0):=by omega
 unfold Builtin.Slice.sliceAdjust
 simp only [h1,if_false]
 refine Prod.ext ?_ ?_
 ·cases lo with
  | none=>rfl
  | some v=>exact aa0 v n 0
 ·cases hi with
  | none=>rfl
  | some v=>exact aa0 v n n
theorem a8m (i j:Nat):Builtin.Slice.slicePlaces (i:Int) (j:Int) 1=j - i:=by
 unfold Builtin.Slice.slicePlaces
 have h1:(1:Int) > 0:=by omega
 simp only [h1,if_true,Int.ediv_one]
 split<;>omega
theorem a2l {v:Value} {o:Option Int} {Q:Option Int→Shared→Prop} (p:IsPart v o) (h:Q o s):wpAny (model prog w) A (Builtin.Slice.slicePartIndex v) Q E s:=by
 cases p with
 | none=>exact slicePart_none h
 | int i t=>exact slicePart_int h
theorem vy {sl:Addr} {vl vu:Value} {lo hi:Option Int} {n:Nat} {Q:Int × Int × Nat→Shared→Prop} (hs:s.heap.IsSliceOf sl vl vu .none) (pl:IsPart vl lo) (pu:IsPart vu hi)
  (h:Q (((sIx n 0 lo:Nat):Int),1,sIx n n hi - sIx n 0 lo) s):wpAny (model prog w) A (Builtin.Slice.sliceApplied (.ref sl) (pure (n:Int))) Q E s:=by
 obtain ⟨os,hos,hcs,hds⟩:=id hs
 unfold Builtin.Slice.sliceApplied Builtin.Slice.sliceFields
 refine wpAny_bind (wpAny_bind (wpAny_field hos hds (x:=vl) rfl (wpAny_bind (wpAny_field hos hds (x:=vu) rfl (wpAny_bind (wpAny_field hos hds (x:=.none) rfl (wpAny_pure ?_)))))))
 refine wpAny_bind (slicePart_none ?_)
 show wpAny _ _ (if ((1:Int) == 0)=true then _ else _) _ _ s
 rw [if_neg (by decide)]
 refine wpAny_bind (a2l pl (wpAny_bind (a2l pu (wpAny_bind (wpAny_pure ?_)))))
 show wpAny _ _ (match Builtin.Slice.sliceAdjust lo hi 1 (n:Int) with | (lo,hi)=>pure (lo,(1:Int),Builtin.Slice.slicePlaces lo hi 1)) _ _ s
 rw [a8l lo hi n]
 show wpAny _ _ (pure (((sIx n 0 lo:Nat):Int),(1:Int),Builtin.Slice.slicePlaces ((sIx n 0 lo:Nat):Int) ((sIx n n hi:Nat):Int) 1)) _ _ s
 rw [a8m]
 exact wpAny_pure h
theorem ad6 (xs:Array Value) (i k:Nat):((List.range k).filterMap fun (m:Nat)=>xs[((i:Int)+(m:Int)*1).toNat]?).toArray=((xs.toList.drop i).take k).toArray:=by
 have e:(fun (m:Nat)=>xs[((i:Int)+(m:Int)*1).toNat]?)=fun m=>xs[i+m]?:=by
  funext m
  have:((i:Int)+(m:Int)*1).toNat=i+m:=by omega
  rw [this]
 rw [e]
 have:=pick_run xs i k
 rw [List.filterMap_map] at this
 have e2:((fun x=>xs[x]?) ∘ fun x=>i+x)=fun m=>xs[i+m]?:=rfl
 rw [e2] at this
 rw [this]
theorem a09 {t sl:Addr} {items:Array Value} {vl vu:Value} {lo hi:Option Int} {Q:Value→Shared→Prop} (ht:IsTup s.heap t items) (hs:s.heap.IsSliceOf sl vl vu .none) (pl:IsPart vl lo) (pu:IsPart vu hi)
  (hw:¬ (sIx items.size 0 lo=0∧sIx items.size items.size hi=items.size))
  (h:Q (.ref s.heap.objs.size) { s with heap:=s.heap.push { cls:=.type "tuple",data:=.seq ((items.toList.drop (sIx items.size 0 lo)).take (sIx items.size items.size hi - sIx items.size 0 lo)).toArray } })
  (hsz:items.size≤sizeLine):wpAny (model prog w) A (getItem (.ref t) (.ref sl)) Q E s:=by
 have htake:sizeOk (.seq ((items.toList.drop (sIx items.size 0 lo)).take (sIx items.size items.size hi - sIx items.size 0 lo)).toArray):=by
  show ((items.toList.drop (sIx items.size 0 lo)).take (sIx items.size items.size hi - sIx items.size 0 lo)).toArray.size≤sizeLine
  rw [List.size_toArray,List.length_take,List.length_drop,Array.length_toList]
  omega
 have hj:sIx items.size items.size hi≤items.size:=a9z _ _ (Nat.le_refl _) hi
 obtain ⟨os,hos,hcs,hds⟩:=id hs
 have hTs:s.TypeIs (.ref sl) "slice":=⟨os,hos,hcs⟩
 unfold getItem
 try with_reducible refine wpAny_holding ?_
 first | refine wpAny_bind (wpAny_pure ?_) | skip
 refine wpAny_bind (wpAny_sequenceKey ht.typeIs (by decide) ?_)
 refine wpAny_bind (wpAny_callSpecial?_slot (name:=Str.ofString "__getitem__") ht.typeIs PyProof.Rows.slot_tuple_getitem
  (wpAny_call_entry PyProof.Rows.slot_tuple_getitem ht.typeIs entry_tuple_getitem ?_ (args_tuple_getitem _ _)))
 show wpAny _ _ (Builtin.Tuple.tupleItemsOf (.ref t)>>=_) _ _ s
 refine wpAny_bind (tupleItemsOf_ ht ?_)
 refine wpAny_bind (wpAny_typeOf hTs ?_)
 rw [if_pos (by decide)]
 refine wpAny_bind (vy hs pl pu ?_)
 have hno:¬ ((((sIx items.size 0 lo:Nat):Int) == 0 && (1:Int) == 1 && (sIx items.size items.size hi - sIx items.size 0 lo) == items.size)=true):=by
  intro q
  rw [Bool.and_eq_true,Bool.and_eq_true] at q
  have q1:((sIx items.size 0 lo:Nat):Int)=0:=eq_of_beq q.1.1
  have q2:sIx items.size items.size hi - sIx items.size 0 lo=items.size:=eq_of_beq q.2
  exact hw ⟨by omega,by omega⟩
 show wpAny _ _ (if (((sIx items.size 0 lo:Nat):Int) == 0 && (1:Int) == 1 && (sIx items.size items.size hi - sIx items.size 0 lo) == items.size)=true then _ else _) _ _ s
 rw [if_neg hno,ad6]
 first
  | exact wpAny_bind (m:=Builtin.Tuple.tupleExact _) (wpAny_newObj_type (wpAny_pure ⟨_,rfl,wpAny_pure h⟩) htake)
  | exact wpAny_bind (m:=Builtin.Tuple.tupleExact _) (wpAny_newObj_type (wpAny_bind (wpAny_pure (wpAny_pure ⟨_,rfl,wpAny_pure h⟩))) htake)
  | exact wpAny_bind (wpAny_bind (m:=Builtin.Tuple.tupleExact _) (wpAny_newObj_type (wpAny_pure (wpAny_pure ⟨_,rfl,wpAny_pure h⟩)) htake))
  | exact wpAny_bind (wpAny_bind (m:=Builtin.Tuple.tupleExact _) (wpAny_newObj_type (wpAny_pure ⟨_,rfl,wpAny_pure h⟩) htake))
end
end HT
namespace L2
open PySem PySem.Spec PyProof.Rows
abbrev TO:=St→Hp→(Option Int→Hp→Prop)→Prop
def PO (X:Cx) (e:Option Expr) (t:TO):Prop :=
 ∀ (pins:List (Addr × Obj)) (s:Shared) (σ:St) (H:Hp) (Q:Option Int→Hp→Prop),Inv X pins σ H s→t σ H Q →
  wpAny (model X.prog X.w) X.A (evalPart e X.env) (fun u s'=>∃ o H',Inv X pins σ H' s'∧IsPart u o∧Q o H') X.xe s
def ah4:TO:=fun _ H Q=>Q none H
def aoa (t:TE):TO:=fun σ H Q=>t σ H fun x H1=>∃ i,x = .int i∧Q (some i) H1
theorem intsAre_of {ns:List Int}:∀ {us:List Value},Vals (ns.map V.int) us→IntsAre us ns:=by
 induction ns with
 | nil=>intro us r;rw [List.map_nil] at r;cases r;exact .nil
 | cons n ns ih =>
  intro us r
  rw [List.map_cons] at r
  cases r with
  | cons r1 r2 =>
   obtain ⟨t,e⟩:=r1
   subst e
   exact .cons n t (ih r2)
section
variable {X:Cx} {e:Expr} {te:TE} {lo hi:Option Expr} {tl th:TO} {pos p2:Pos}
theorem ah5:PO X none ah4:=by
 intro pins s σ H Q I h
 rw [evalPart_none]
 exact wpAny_pure ⟨none,H,I, .none,h⟩
theorem ah6 (h:PE X e te):PO X (some e) (aoa te):=by
 intro pins s σ H Q I hw
 rw [evalPart_some]
 refine thn (h pins s σ H _ I hw) fun u s1 ⟨x,H1,I1,r1,q1⟩=>?_
 obtain ⟨i,rfl,q⟩:=q1
 obtain ⟨t,rfl⟩:=r1
 exact ⟨some i,H1,I1, .int i t,q⟩
def SlR (X:Cx) (r:V→Option Int→Option Int→Hp→VK→Prop):Prop :=
 ∀ (pins:List (Addr × Obj)) (s:Shared) (σ:St) (H:Hp) (x:V) (v vl vu:Value) (lo hi:Option Int) (sl:Addr) (Q:VK),Inv X pins σ H s→RelV x v→s.heap.IsSliceOf sl vl vu .none→IsPart vl lo→IsPart vu hi→r x lo hi H Q →
  ∃ T id,typeLookup (.type T) "__getitem__" = pure (some (.builtin id))∧s.TypeIs v T∧wpAny (model X.prog X.w) X.A (getItem v (.ref sl)) (EP X pins σ Q) X.xe s
theorem SlR.or {r r':V→Option Int→Option Int→Hp→VK→Prop} (h:SlR X r) (h':SlR X r'):SlR X (fun x lo hi H Q=>r x lo hi H Q∨r' x lo hi H Q):=by
 intro pins s σ H x v vl vu lo hi sl Q I rx hs pl pu q
 rcases q with q | q
 ·exact h pins s σ H x v vl vu lo hi sl Q I rx hs pl pu q
 ·exact h' pins s σ H x v vl vu lo hi sl Q I rx hs pl pu q
def tSl (r:V→Option Int→Option Int→Hp→VK→Prop) (te:TE) (tl th:TO):TE:=fun σ H Q=>te σ H fun x H1=>tl σ H1 fun l H2=>th σ H2 fun u H3=>r x l u H3 Q
theorem ad7 {r:V→Option Int→Option Int→Hp→VK→Prop} (hr:SlR X r) (he:PE X e te) (hl:PO X lo tl) (hu:PO X hi th):PE X (.Subscript e (.Slice lo hi none p2) pos) (tSl r te tl th):=by
 intro pins s σ H Q I h
 refine Subscript_ (thn (he pins s σ H _ I h) fun v s1 ⟨x,H1,I1,r1,q1⟩=>?_)
 refine wpAny_Slice (thn (hl pins s1 σ H1 _ I1 q1) fun vl s2 ⟨l,H2,I2,pl,q2⟩=>thn (hu pins s2 σ H2 _ I2 q2) fun vu s3 ⟨u,H3,I3,pu,q3⟩=>?_)
 rw [evalPart_none]
 refine wpAny_pure ?_
 have I4:Inv X pins σ H3 { s3 with heap:=s3.heap.push { cls:=.type "slice",data:=.fields #[vl,vu, .none] } }:=I3.kept (t':=s3.toks) fun b ob q=>Heap.get?_push_of_some _ q
 obtain ⟨T,id,hT,ht,hg⟩:=hr pins { s3 with heap:=s3.heap.push { cls:=.type "slice",data:=.fields #[vl,vu, .none] } } σ H3 x v vl vu l u s3.heap.objs.size Q I4 r1 (Heap.IsSliceOf.new ..) pl pu q3
 show wpAny (model X.prog X.w) X.A (subscriptTail e (.Slice lo hi none p2) v (.ref s3.heap.objs.size)) (EP X pins σ Q) X.xe { s3 with heap:=s3.heap.push { cls:=.type "slice",data:=.fields #[vl,vu, .none] } }
 exact tail_any (ops:=[.ref s3.heap.objs.size,v]) ht hT hg (by with_unfolding_all rfl)
def afo (xs:List V) (lo hi:Option Int):List V:=(xs.drop (HT.sIx xs.length 0 lo)).take (HT.sIx xs.length xs.length hi - HT.sIx xs.length 0 lo)
theorem a1i (xs:List V) (lo hi:Option Int):(afo xs lo hi).length≤xs.length:=by
 unfold afo
 rw [List.length_take,List.length_drop]
 omega
def aob (K:PySem.W.Frag):V→Option Int→Option Int→Hp→VK→Prop:=fun x lo hi H Q=>∃ a xs,x = .ref a∧SqT K H a xs ∧
 ¬ (HT.sIx xs.length 0 lo=0∧HT.sIx xs.length xs.length hi=xs.length)∧∀ p,H p=none→Q (.ref p) (upd H p (.tup (afo xs lo hi)))
theorem aki:SlR X (aob X.K):=by
 intro pins s σ H x v vl vu lo hi sl Q I rx hs pl pu h
 obtain ⟨a,xs,rfl,hx,hw,q⟩:=h
 cases rx
 obtain ⟨its,r,ht,hz⟩:=I.tuple hx
 have hlen:its.toArray.size=xs.length:=by rw [List.size_toArray];exact r.length.symm
 refine ⟨"tuple",_,PyProof.Rows.slot_tuple_getitem.lookup,ht.typeIs,?_⟩
 refine HT.a09 ht hs pl pu (by rw [hlen];exact hw) ?_ (by rw [hlen];exact hz)
 rw [hlen]
 refine ⟨.ref s.heap.objs.size,_,I.laid (t':=s.toks) (o:=.tup (afo xs lo hi)) (fun b ob q=>Heap.get?_push_of_some _ q) (Nat.le_refl _) ?_,rfl,q _ (I.hok.fresh (Nat.le_refl _))⟩
 exact ⟨Nat.le_trans (a1i xs lo hi) hz,_,(r.drop (HT.sIx xs.length 0 lo)).take (HT.sIx xs.length xs.length hi - HT.sIx xs.length 0 lo),IsTup.new _ _⟩
def akj (K:PySem.W.Frag):R2:=fun x y H Q=>∃ a b xs ys,x = .ref a∧y = .ref b∧SqT K H a xs∧SqT K H b ys∧xs≠[]∧xs.length+ys.length≤sizeLine ∧
 (ys=[]→Q (.ref a) H)∧(ys≠[]→∀ p,H p=none→Q (.ref p) (upd H p (.tup (xs++ys))))
theorem Vals.nil_iff {xs:List V} {us:List Value} (r:Vals xs us):us=[]↔xs=[]:=by
 cases r with
 | nil=>simp
 | cons _ _=>simp
theorem ah7:OpR X (binaryOp .Add) (akj X.K):=by
 intro pins s σ H x y v u Q I rx ry h
 obtain ⟨a,b,xs,ys,rfl,rfl,ha,hb,hx,hz,q1,q2⟩:=h
 cases rx
 cases ry
 obtain ⟨its,r1,p1,_⟩:=I.tuple ha
 obtain ⟨its2,r2,p2,_⟩:=I.tuple hb
 refine HT.ah3 p1 p2 (fun z=>hx (r1.nil_iff.mp z)) (fun z=>⟨.ref a,H,I,rfl,q1 (r2.nil_iff.mp z)⟩) (fun z=>?_) (by rw [← r1.length,← r2.length];exact hz)
 refine ⟨.ref s.heap.objs.size,_,I.laid (t':=s.toks) (o:=.tup (xs++ys)) (fun b ob q=>Heap.get?_push_of_some _ q) (Nat.le_refl _) ?_,rfl,q2 (fun w=>z (r2.nil_iff.mpr w)) _ (I.hok.fresh (Nat.le_refl _))⟩
 exact ⟨by rw [List.length_append];exact hz,_,r1.append r2,IsTup.new _ _⟩
end
end L2
namespace L2
open PySem PySem.Spec PyProof.Rows
def ixN (n:Nat) (i:Int):Option Nat:=if 0≤i then (if i<n then some i.toNat else none) else if -(n:Int)≤i then some (i+n).toNat else none
def atI {α:Type} (xs:List α) (i:Int):Option α:=(ixN xs.length i).bind fun j=>xs[j]?
theorem a6r {n:Nat} {i:Int} {j:Nat} (h:ixN n i=some j):seqIndex? i n=some j∧j<n ∧ -(n:Int)≤i∧i<n:=by
 unfold ixN at h
 by_cases h0:0≤i
 ·rw [if_pos h0] at h
  by_cases h1:i<n
  ·rw [if_pos h1] at h
   have e:i.toNat=j:=Option.some.inj h
   exact ⟨by rw [seqIndex_of h0 h1,e],by omega,by omega,h1⟩
  ·rw [if_neg h1] at h;cases h
 ·rw [if_neg h0] at h
  by_cases h1 : -(n:Int)≤i
  ·rw [if_pos h1] at h
   have e:(i+n).toNat=j:=Option.some.inj h
   exact ⟨by rw [seqIndex_neg (by omega) h1,e],by omega,h1,by omega⟩
  ·rw [if_neg h1] at h;cases h
theorem a3g {α:Type} {xs:List α} {i:Int} {v:α} (h:atI xs i=some v):∃ j,seqIndex? i xs.length=some j∧xs[j]? = some v∧j<xs.length ∧ -(xs.length:Int)≤i∧i<xs.length:=by
 unfold atI at h
 cases e:ixN xs.length i with
 | none=>rw [e] at h;cases h
 | some j =>
  rw [e] at h
  obtain ⟨h1,h2,h3,h4⟩:=a6r e
  exact ⟨j,h1,h,h2,h3,h4⟩
theorem n6 {α:Type} {xs:List α} {j:Nat} {v:α} (h:xs[j]? = some v):atI xs (j:Int)=some v:=by
 have hj:j<xs.length:=(List.getElem?_eq_some_iff.mp h).1
 have e:ixN xs.length (j:Int)=some j:=by
  unfold ixN
  rw [if_pos (by omega),if_pos (by omega)];simp
 unfold atI;rw [e];exact h
def a6s (b:Expr):Prop:=∀ o i,subscripted b false o i=operate [o,i] (getItem o i)
def IxR (X:Cx) (r:R2):Prop :=
 ∀ (value slice:Expr) (pins:List (Addr × Obj)) (s:Shared) (σ:St) (H:Hp) (x y:V) (v u:Value) (Q:VK),Inv X pins σ H s→RelV x v→RelV y u→r x y H Q →
  subscripted slice false v u=operate [v,u] (getItem v u)→wpAny (model X.prog X.w) X.A (subscriptTail value slice v u) (EP X pins σ Q) X.xe s
def MtR (X:Cx) (id:String) (r:V→List V→Hp→VK→Prop):Prop :=
 ∀ (pins:List (Addr × Obj)) (s:Shared) (σ:St) (H:Hp) (x:V) (xs:List V) (v:Value) (us:List Value) (Q:VK),Inv X pins σ H s→RelV x v→Vals xs us→r x xs H Q →
  wpAny (model X.prog X.w) X.A (call (.builtin id) (v::us)) (EP X pins σ Q) X.xe s
section
variable {X:Cx} {a b:Expr} {ta tb:TE} {pos:Pos}
theorem IxR.or {r r':R2} (h:IxR X r) (h':IxR X r'):IxR X (fun x y H Q=>r x y H Q∨r' x y H Q):=by
 intro value slice pins s σ H x y v u Q I rx ry q hs
 rcases q with q | q
 ·exact h value slice pins s σ H x y v u Q I rx ry q hs
 ·exact h' value slice pins s σ H x y v u Q I rx ry q hs
theorem aoc {r:R2} (hr:IxR X r) (ha:PE X a ta) (hb:PE X b tb) (hs:a6s b):PE X (.Subscript a b pos) (tOp r ta tb):=by
 intro pins s σ H Q I h
 exact Subscript_ (ao2 ha hb I h fun v u s2 x y H2 I2 rx ry q=>hr a b pins s2 σ H2 x y v u Q I2 rx ry q (hs _ _))
def amz (K:PySem.W.Frag):R2:=fun x y H Q=>∃ p xs i v,x = .ref p∧y = .int i∧SqL K H p xs∧atI xs i=some v∧Q v H
def apb (K:PySem.W.Frag):R2:=fun x y H Q=>∃ p xs i v,x = .ref p∧y = .int i∧SqT K H p xs∧atI xs i=some v∧Q v H
def apc:R2:=fun x y H Q=>∃ z i c,x = .str z∧y = .int i∧z.length≤sizeLine∧atI z.cps.toList i=some c∧Q (.str ⟨#[c]⟩) H
theorem ah8:IxR X (amz X.K):=by
 intro value slice pins s σ H x y v u Q I rx ry h hs
 obtain ⟨p,xs,i,z,rfl,rfl,hq,he,q⟩:=h
 cases rx
 obtain ⟨t,rfl⟩:=ry
 obtain ⟨its,r,pl,hz⟩:=I.list hq
 obtain ⟨j,h1,h2,h3,h4,h5⟩:=a3g he
 obtain ⟨w,ew,rw'⟩:=r.get h2
 have hl:=r.length
 have hn:=a0i
 have fin:EP X pins σ Q w s:=⟨z,H,I,rw',q⟩
 by_cases h0:0≤i
 ·have hj:i.toNat=j:=by
   rw [seqIndex_of h0 h5] at h1
   exact Option.some.inj h1
  exact item_listR pl.isList h0 (by omega) (by rw [hj];simpa using ew) fin hs
 ·have hj:(i+(its.toArray.size:Int)).toNat=j:=by
   rw [seqIndex_neg (by omega) h4] at h1
   rw [List.size_toArray,← hl]
   exact Option.some.inj h1
  exact subscriptTail_builtinR (x:=w) pl.isList.typeIs slot_list_getitem.lookup
   (wpAny_getItem_list_neg (Q:=fun r s'=>r=w∧EP X pins σ Q r s') pl.isList (by omega) (by rw [List.size_toArray]<;>omega) (by omega) (by rw [hj];simpa using ew) ⟨rfl,fin⟩) hs
theorem a1j:IxR X (apb X.K):=by
 intro value slice pins s σ H x y v u Q I rx ry h hs
 obtain ⟨p,xs,i,z,rfl,rfl,hq,he,q⟩:=h
 cases rx
 obtain ⟨t,rfl⟩:=ry
 obtain ⟨its,r,pl,hz⟩:=I.tuple hq
 obtain ⟨j,h1,h2,h3,h4,h5⟩:=a3g he
 obtain ⟨w,ew,rw'⟩:=r.get h2
 have hl:=r.length
 have hn:=a0i
 have fin:EP X pins σ Q w s:=⟨z,H,I,rw',q⟩
 exact subscriptTail_builtinR (x:=w) pl.typeIs slot_tuple_getitem.lookup
  (getItem_tuple (j:=j) (Q:=fun r s'=>r=w∧EP X pins σ Q r s') pl (by omega) (by omega) (by rw [List.size_toArray,← hl];exact h1) (by simpa using ew) ⟨rfl,fin⟩) hs
theorem akk:IxR X apc:=by
 intro value slice pins s σ H x y v u Q I rx ry h hs
 obtain ⟨z,i,c,rfl,rfl,hz,he,q⟩:=h
 obtain ⟨t,rfl⟩:=rx
 obtain ⟨t',rfl⟩:=ry
 obtain ⟨j,h1,h2,h3,h4,h5⟩:=a3g he
 have hl:z.cps.toList.length=z.length:=by simp [Str.length]
 rw [hl] at h1 h4 h5
 have hn:=a0i
 exact tail_any (typeIs_str s z t) slot_str_getitem.lookup (getItem_str (c:=c) (by
  have e1:decide (i < -(2 ^ 63:Int))=false:=decide_eq_false (by omega)
  have e2:decide (i≥2 ^ 63)=false:=decide_eq_false (by omega)
  rw [e1,e2,Bool.or_false]) (by rw [h1];simpa using h2) ⟨.str ⟨#[c]⟩,H,I.tok _,⟨_,rfl⟩,q⟩) hs
def rIx (K:PySem.W.Frag):R2:=fun x y H Q=>amz K x y H Q∨apb K x y H Q∨apc x y H Q
theorem akl:IxR X (rIx X.K):=ah8.or (a1j.or akk)
theorem a8n (its:List Value) (n j:Nat) (u:Value):Obj.mapSeq (·.setIfInBounds j u) { cls:=.type "list",data:=.seq its.toArray n }={ cls:=.type "list",data:=.seq (its.set j u).toArray n }:=by
 simp [Obj.mapSeq]
theorem Inv.lst {pins:List (Addr × Obj)} {σ:St} {H:Hp} {s:Shared} {p:Addr} {xs:List V} (I:Inv X pins σ H s) (h:H p=some (.lst xs)) :
  ∃ (its:List Value) (n:Nat),Vals xs its∧s.heap.get? p=some { cls:=.type "list",data:=.seq its.toArray n }∧xs.length≤sizeLine:=by
 obtain ⟨z,its,n,r,e⟩:=I.hok p _ h
 exact ⟨its,n,r,e,z⟩
theorem Inv.lstUpd {pins:List (Addr × Obj)} {σ:St} {H:Hp} {s:Shared} {p:Addr} {xs ys:List V} {its its':List Value} {n n':Nat} {f:Obj→Obj} (I:Inv X pins σ H s) (h:H p=some (.lst xs))
  (ho:s.heap.get? p=some { cls:=.type "list",data:=.seq its.toArray n }) (hf:f { cls:=.type "list",data:=.seq its.toArray n }={ cls:=.type "list",data:=.seq its'.toArray n' }) (r:Vals ys its') (hz:ys.length≤sizeLine) (t:Nat) :
  Inv X pins σ (upd H p (.lst ys)) { s with heap:=s.heap.update p f,toks:=t }:=by
 have e:(s.heap.update p f).get? p=some { cls:=.type "list",data:=.seq its'.toArray n' }:=by
  rw [Heap.get?_update_self f ho (by rw [hf]<;>rfl),hf]
 refine I.write (x:=p) (e:=p) (by rw [h];trivial) (.inl rfl) (fun b u hb q=>(Heap.get?_update_other _ _ (Ne.symm hb)).trans q) ⟨_,e⟩ ?_
 exact ⟨hz,its',n',r,e⟩
def akm:V→V→V→Hp→(Hp→Prop)→Prop:=fun o i v H Q=>∃ p xs k j,o = .ref p∧i = .int k∧H p=some (.lst xs)∧ixN xs.length k=some j∧Q (upd H p (.lst (xs.set j v)))
theorem set_list:anw X akm:=by
 intro pins s σ H o i v ov iv u Q I ro ri rv h
 obtain ⟨p,xs,k,j,rfl,rfl,hp,hj,q⟩:=h
 cases ro
 obtain ⟨t,rfl⟩:=ri
 obtain ⟨its,n,r,ho,hz⟩:=I.lst hp
 obtain ⟨h1,h2,h3,h4⟩:=a6r hj
 have hl:=r.length
 have hn:=a0i
 have I':Inv X pins σ (upd H p (.lst (xs.set j v))) { s with heap:=s.heap.update p (Obj.mapSeq (·.setIfInBounds j u)) } :=
  I.lstUpd hp ho (a8n its n j u) (r.set rv j) (by rw [List.length_set];exact hz) s.toks
 by_cases h0:0≤k
 ·have hk:k.toNat=j:=by
   rw [seqIndex_of h0 h4] at h1
   exact Option.some.inj h1
  exact PySem.W.ki_setAt ho h0 (by omega) (by rw [List.size_toArray,← hl];exact h4) (by rw [hk];exact ⟨_,I',q⟩)
 ·have hk:(k+(its.toArray.size:Int)).toNat=j:=by
   rw [seqIndex_neg (by omega) h3] at h1
   rw [List.size_toArray,← hl]
   exact Option.some.inj h1
  exact PySem.W.ki_setBack ho (by omega) (by rw [List.size_toArray,← hl];exact h3) (by omega) (by rw [hk];exact ⟨_,I',q⟩)
theorem a5i (lo hi:Option Int) (n:Nat):(sliceBounds lo hi none n).1=((HT.sIx n 0 lo:Nat):Int)∧(sliceBounds lo hi none n).2.1=((HT.sIx n n hi:Nat):Int)∧(sliceBounds lo hi none n).2.2=1:=by
 refine ⟨?_,?_,rfl⟩
 ·cases lo with
  | none=>simp [sliceBounds,HT.sIx]
  | some i =>
   simp only [sliceBounds,HT.sIx,Option.getD_none,show (1:Int) > 0 by decide,if_true]
   by_cases h:i<0
   ·simp only [h,if_true]<;>omega
   ·simp only [h,if_false]<;>omega
 ·cases hi with
  | none=>simp [sliceBounds,HT.sIx]
  | some i =>
   simp only [sliceBounds,HT.sIx,Option.getD_none,show (1:Int) > 0 by decide,if_true]
   by_cases h:i<0
   ·simp only [h,if_true]<;>omega
   ·simp only [h,if_false]<;>omega
theorem a3h (its:List Value) (lo hi:Option Int):slicePick its.toArray lo hi none=((its.drop (HT.sIx its.length 0 lo)).take (HT.sIx its.length its.length hi - HT.sIx its.length 0 lo)).toArray:=by
 obtain ⟨h1,h2,h3⟩:=a5i lo hi its.toArray.size
 unfold slicePick
 rw [h1,h2,h3]
 simp only [sliceRange_one,pick_run,List.size_toArray]<;>rfl
def aod (K:PySem.W.Frag):V→Option Int→Option Int→Hp→VK→Prop:=fun x lo hi H Q=>∃ a xs,x = .ref a∧SqL K H a xs∧∀ p,H p=none→Q (.ref p) (upd H p (.lst (afo xs lo hi)))
theorem ah9:SlR X (aod X.K):=by
 intro pins s σ H x v vl vu lo hi sl Q I rx hs pl pu h
 obtain ⟨a,xs,rfl,hx,q⟩:=h
 cases rx
 obtain ⟨its,r,ht,hz⟩:=I.list hx
 have hlen:=r.length
 refine ⟨"list",_,slot_list_getitem.lookup,ht.isList.typeIs,?_⟩
 refine wpAny_getItem_list_slice ht.isList hs pl pu .none (by simp) ?_ (by rw [List.size_toArray]<;>omega)
 rw [a3h,← hlen]
 refine ⟨.ref s.heap.objs.size,_,I.laid (t':=s.toks) (o:=.lst (afo xs lo hi)) (fun b ob q=>Heap.get?_push_of_some _ q) (Nat.le_refl _) ?_,rfl,q _ (I.hok.fresh (Nat.le_refl _))⟩
 exact ⟨Nat.le_trans (a1i xs lo hi) hz,_,0,(r.drop (HT.sIx xs.length 0 lo)).take (HT.sIx xs.length xs.length hi - HT.sIx xs.length 0 lo),Heap.get?_push_size _ rfl⟩
def yt:V→Bool
 | .non=>true
 | .bl _=>true
 | .int _=>true
 | .str _=>true
 | _=>false
def eqV:V→V→Bool
 | .non, .non=>true
 | .bl a, .bl b=>a == b
 | .bl a, .int b=>(if a then 1 else 0) == b
 | .int a, .bl b=>a == (if b then 1 else 0)
 | .int a, .int b=>a == b
 | .str a, .str b=>a == b
 | _,_=>false
theorem aa1 {A:Around} {s:Shared} {y x:V} {u v:Value} (ry:RelV y u) (rx:RelV x v) (fy:yt y=true) (fx:yt x=true):SeqAt.EqAt A s u v (eqV y x):=by
 cases y with
 | non =>
  cases ry
  cases x with
  | non=>cases rx;exact SeqAt.EqAt.same _
  | bl b=>cases rx;exact SeqAt.EqAt.none_bool b
  | int b=>obtain ⟨t,rfl⟩:=rx;exact SeqAt.EqAt.none_int b t
  | str b=>obtain ⟨t,rfl⟩:=rx;exact SeqAt.EqAt.none_str b t
  | _=>exact absurd (show false=true from fx) Bool.false_ne_true
 | bl a =>
  cases ry
  cases x with
  | non=>cases rx;exact SeqAt.EqAt.bool_none a
  | bl b=>cases rx;exact SeqAt.EqAt.bool_bool a b
  | int b=>obtain ⟨t,rfl⟩:=rx;exact SeqAt.EqAt.bool_int a b t
  | str b=>obtain ⟨t,rfl⟩:=rx;exact SeqAt.EqAt.bool_str a b t
  | _=>exact absurd (show false=true from fx) Bool.false_ne_true
 | int a =>
  obtain ⟨t',rfl⟩:=ry
  cases x with
  | non=>cases rx;exact SeqAt.EqAt.int_none a t'
  | bl b=>cases rx;exact SeqAt.EqAt.int_bool a t' b
  | int b=>obtain ⟨t,rfl⟩:=rx;exact SeqAt.EqAt.int_int a t' b t
  | str b=>obtain ⟨t,rfl⟩:=rx;exact SeqAt.EqAt.int_str a t' b t
  | _=>exact absurd (show false=true from fx) Bool.false_ne_true
 | str a =>
  obtain ⟨t',rfl⟩:=ry
  cases x with
  | non=>cases rx;exact SeqAt.EqAt.str_none a t'
  | bl b=>cases rx;exact SeqAt.EqAt.str_bool a t' b
  | int b=>obtain ⟨t,rfl⟩:=rx;exact SeqAt.EqAt.str_int a t' b t
  | str b=>obtain ⟨t,rfl⟩:=rx;exact SeqAt.EqAt.str_str a t' b t
  | _=>exact absurd (show false=true from fx) Bool.false_ne_true
 | _=>exact absurd (show false=true from fy) Bool.false_ne_true
def eqU (x:V) (u:Value):Bool:=match u with
 | .none=>eqV .non x
 | .bool b=>eqV (.bl b) x
 | .int i _=>eqV (.int i) x
 | .str z _=>eqV (.str z) x
 | _=>false
theorem afp {x y:V} {u:Value} (r:RelV y u) (f:yt y=true):eqU x u=eqV y x:=by
 cases y with
 | non=>cases r;rfl
 | bl b=>cases r;rfl
 | int i=>obtain ⟨t,rfl⟩:=r;rfl
 | str z=>obtain ⟨t,rfl⟩:=r;rfl
 | _=>exact absurd (show false=true from f) Bool.false_ne_true
theorem a1k {x:V}:∀ {xs:List V} {us:List Value},Vals xs us→xs.all yt=true→us.any (eqU x)=xs.any fun y=>eqV y x
 | _,_, .nil,_=>rfl
 | y::xs,u::us, .cons r t,f=>by
  rw [List.all_cons,Bool.and_eq_true] at f
  rw [List.any_cons,List.any_cons,afp r f.1,a1k t f.2]
theorem zj {A:Around} {s:Shared} {x:V} {v:Value} (rx:RelV x v) (fx:yt x=true):∀ {xs:List V} {us:List Value},Vals xs us→xs.all yt=true→∀ u∈us,SeqAt.EqAt A s u v (eqU x u)
 | _,_, .nil,_=>fun u hu=>by cases hu
 | y::xs,u::us, .cons r t,f=>fun u' hu=>by
  rw [List.all_cons,Bool.and_eq_true] at f
  rcases List.mem_cons.mp hu with rfl | hu
  ·rw [afp r f.1];exact aa1 r rx f.1 fx
  ·exact zj rx fx t f.2 u' hu
def inV (x:V) (xs:List V):Bool:=xs.any fun y=>eqV y x
def rIn (K:PySem.W.Frag) (neg:Bool):R2:=fun x y H Q=>∃ p xs,y = .ref p∧(SqL K H p xs∨SqT K H p xs)∧yt x=true∧xs.all yt=true∧Q (.bl (if neg then !inV x xs else inV x xs)) H
theorem aa2:OpR X (compareOp .In) (rIn X.K false):=by
 intro pins s σ H x y v u Q I rx ry h
 obtain ⟨p,xs,rfl,hq,fx,fs,q⟩:=h
 cases ry
 rcases hq with hq | hq
 ·obtain ⟨its,r,pl,hz⟩:=I.list hq
  refine SeqAt.in_listAt (eqU x) pl.isList (fun w hw=>zj rx fx r fs w (by simpa using hw)) ⟨.bl _,H,I,rfl,?_⟩
  rw [show its.toArray.any (eqU x)=its.any (eqU x) by simp,a1k r fs]
  exact q
 ·obtain ⟨its,r,pl,hz⟩:=I.tuple hq
  refine SeqAt.in_tupleAt (eqU x) pl (fun w hw=>zj rx fx r fs w (by simpa using hw)) ⟨.bl _,H,I,rfl,?_⟩
  rw [show its.toArray.any (eqU x)=its.any (eqU x) by simp,a1k r fs]
  exact q
theorem a0k:OpR X (compareOp .NotIn) (rIn X.K true):=by
 intro pins s σ H x y v u Q I rx ry h
 obtain ⟨p,xs,rfl,hq,fx,fs,q⟩:=h
 cases ry
 rcases hq with hq | hq
 ·obtain ⟨its,r,pl,hz⟩:=I.list hq
  refine SeqAt.notIn_listAt (eqU x) pl.isList (fun w hw=>zj rx fx r fs w (by simpa using hw)) ⟨.bl _,H,I,rfl,?_⟩
  rw [show its.toArray.any (eqU x)=its.any (eqU x) by simp,a1k r fs]
  exact q
 ·obtain ⟨its,r,pl,hz⟩:=I.tuple hq
  refine SeqAt.notIn_tupleAt (eqU x) pl (fun w hw=>zj rx fx r fs w (by simpa using hw)) ⟨.bl _,H,I,rfl,?_⟩
  rw [show its.toArray.any (eqU x)=its.any (eqU x) by simp,a1k r fs]
  exact q
theorem gf:CallR X (.builtin "len") (fun xs H Q=>∃ p ys,xs=[.ref p]∧(SqL X.K H p ys∨SqT X.K H p ys)∧Q (.int ys.length) H):=by
 intro pins s σ H xs us Q I r h
 obtain ⟨p,ys,rfl,hq,q⟩:=h
 obtain ⟨u,rfl,rx⟩:=vals1 r
 cases rx
 have hn:=a0i
 rcases hq with hq | hq
 ·obtain ⟨its,r',pl,hz⟩:=I.list hq
  have hlen:=r'.length
  exact Calls.call_len_list pl.isList (by simp only [List.size_toArray]<;>omega) ⟨.int ys.length,H,I.tok _,⟨s.toks+1,by rw [List.size_toArray,hlen]⟩,q⟩
 ·obtain ⟨its,r',pl,hz⟩:=I.tuple hq
  have hlen:=r'.length
  exact len_tuple pl (by simp only [List.size_toArray]<;>omega) ⟨.int ys.length,H,I.tok _,⟨s.toks+1,by rw [List.size_toArray,hlen]⟩,q⟩
theorem gh:CallR X (.builtin "len") (fun xs H Q=>∃ z,xs=[.str z]∧z.length≤sizeLine∧Q (.int z.length) H):=by
 intro pins s σ H xs us Q I r h
 obtain ⟨z,rfl,hz,q⟩:=h
 obtain ⟨u,rfl,t,rfl⟩:=vals1 r
 have hn:=a0i
 exact len_str (by omega) ⟨.int z.length,H,I.tok _,⟨_,rfl⟩,q⟩
theorem CallR.or {f:Value} {r r':List V→Hp→VK→Prop} (h:CallR X f r) (h':CallR X f r'):CallR X f (fun xs H Q=>r xs H Q∨r' xs H Q):=by
 intro pins s σ H xs us Q I rs q
 rcases q with q | q
 ·exact h pins s σ H xs us Q I rs q
 ·exact h' pins s σ H xs us Q I rs q
theorem uz:CallR X (.type "tuple") (fun xs H Q=>∃ p ys,xs=[.ref p]∧((SqL X.K H p ys∧∀ l,H l=none→Q (.ref l) (upd H l (.tup ys)))∨(SqT X.K H p ys∧Q (.ref p) H))):=by
 intro pins s σ H xs us Q I r h
 obtain ⟨p,ys,rfl,h⟩:=h
 obtain ⟨u,rfl,rx⟩:=vals1 r
 cases rx
 rcases h with ⟨hq,q⟩ | ⟨hq,q⟩
 ·obtain ⟨its,r',pl,hz⟩:=I.list hq
  have hlen:=r'.length
  refine call_tuple_list pl.isList (fun h' kp=>?_) (by simp only [List.size_toArray]<;>omega)
  have I1:Inv X pins σ H { s with heap:=h' }:=I.kept (t':=s.toks) kp
  have I2:Inv X pins σ (upd H h'.objs.size (.tup ys)) { s with heap:=h'.push { cls:=.type "tuple",data:=.seq its.toArray } } :=
   I1.laid (t':=s.toks) (fun b o e=>Heap.get?_push_of_some _ e) (Nat.le_refl _) (show ObjOk X.prog X.w _ _ _ (.tup ys) from ⟨hz,its,r',IsTup.new _ _⟩)
  exact ⟨.ref h'.objs.size,_,I2,rfl,q _ (I1.hok.fresh (Nat.le_refl _))⟩
 ·obtain ⟨its,r',pl,hz⟩:=I.tuple hq
  exact call_tuple_same pl ⟨.ref p,H,I,rfl,q⟩
def tyV (K:PySem.W.Frag) (T:String) (x:V) (H:Hp):Prop:=match x with
 | .str _=>T = "str"
 | .int _=>T = "int"
 | .ref p=>(T = "list"∧∃ xs,SqL K H p xs)∨(T = "tuple"∧∃ o,K.lookup p=some o∧o.cls = .type "tuple"∧o.dict=none) ∨
   (T = "dict"∧((∃ kvs,H p=some (.dK kvs))∨∃ kvs,H p=some (.dT kvs)))∨(T = "set"∧∃ S n,H p=some (.set S n))
 | _=>False
theorem afq {pins:List (Addr × Obj)} {σ:St} {H:Hp} {s:Shared} {T:String} {x:V} {v:Value} (I:Inv X pins σ H s) (r:RelV x v) (ty:tyV X.K T x H) :
  s.TypeIs v T∧∀ a,v = .ref a→∃ ob,s.heap.get? a=some ob∧ob.dict=none:=by
 cases x with
 | str z =>
  obtain ⟨t,rfl⟩:=r
  cases (show T = "str" from ty)
  exact ⟨typeIs_str s z t,fun _ e=>nomatch e⟩
 | int i =>
  obtain ⟨t,rfl⟩:=r
  cases (show T = "int" from ty)
  exact ⟨typeIs_int s i t,fun _ e=>nomatch e⟩
 | ref p =>
  cases r
  rcases ty with ⟨rfl,xs,hq⟩ | ⟨rfl,o,hk,hc,hd⟩ | ⟨rfl,hk⟩ | ⟨rfl,S,n,hk⟩
  ·obtain ⟨its,_,pl,_⟩:=I.list hq
   refine ⟨pl.isList.typeIs,fun a e=>?_⟩
   cases e
   obtain ⟨o,n,e,c,hd,_⟩:=pl
   exact ⟨o,e,hd⟩
  ·refine ⟨⟨o,I.kIn p o hk,hc⟩,fun a e=>?_⟩
   cases e
   exact ⟨o,I.kIn _ o hk,hd⟩
  ·have z:∃ o,s.heap.get? p=some o∧o.ExactDict:=by
    rcases hk with ⟨kvs,hk⟩ | ⟨kvs,hk⟩
    ·obtain ⟨_,_,_,_,o,_,_,e,ex,_⟩:=I.hok p _ hk
     exact ⟨o,e,ex⟩
    ·obtain ⟨_,_,_,_,o,_,_,e,ex,_⟩:=I.hok p _ hk
     exact ⟨o,e,ex⟩
   obtain ⟨o,e,ex⟩:=z
   refine ⟨⟨o,e,ex.1⟩,fun a e2=>?_⟩
   cases e2
   exact ⟨o,e,ex.2.1⟩
  ·obtain ⟨o,_,_,_,e,ex,_⟩:=I.hok p _ hk
   refine ⟨⟨o,e,ex.1⟩,fun a e2=>?_⟩
   cases e2
   exact ⟨o,e,ex.2.1⟩
 | _=>exact False.elim ty
def tBM (K:PySem.W.Frag) (T:String) (r:V→List V→Hp→VK→Prop) (to:TE) (t:TA):TE:=fun σ H Q=>to σ H fun x H1=>tyV K T x H1∧t σ H1 fun xs H2=>r x xs H2 Q
variable {o e:Expr} {es:List Expr} {to:TE} {t:TA} {name:Str} {apos cpos:Pos} {T id:String} {r:V→List V→Hp→VK→Prop}
theorem aoe (pa:PlainAttrs T) (slot:Slot T name id) (hty:typeOf (.builtin id)=pure (.type "method_descriptor")) (hm:MtR X id r) (ho:PE X o to) (ha:PA X (e::es) t)
  (hbase:attributeBase o name X.env (eval o X.env)=eval o X.env:=by rfl)
  (hfew:((backTo cpos (starEach (e::es) X.env)).all (fun x => !x.1) && (backToKw cpos (keywordEach [] X.env)).all (fun x=>x.1.isSome)
   && decide ((e::es).length+([]:List Keyword).length+(if ([]:List Keyword).isEmpty then 0 else 1)<30))=true:=by rfl)
  (hline:(apos.endLine == cpos.line)=true:=by rfl) (hs:starEach (e::es) X.env=(false,eval e X.env)::starEach es X.env:=by rfl) (hplain:(backTo cpos (starEach es X.env)).any (·.1)=false:=by rfl) :
  PE X (.Call (.Attribute o name apos) (e::es) [] cpos) (tBM X.K T r to t):=by
 intro pins s σ H Q I h
 refine wpAny_Call_method_late hbase hfew hline rfl (thn (ho pins s σ H _ I h) fun v s1 ⟨x,H1,I1,r1,ty,q1⟩=>?_)
 obtain ⟨h1,h2⟩:=afq I1 r1 ty
 refine ⟨T,id,pa,slot,hty,h1,h2,?_⟩
 have hA:=ha cpos pins s1 σ H1 _ I1 q1
 rw [hs] at hA ⊢
 refine Calls.callWith_builtin (by show (false || (backTo cpos (starEach es X.env)).any (·.1))=false;rw [hplain]<;>rfl) (Calls.evalArgs_plain ?_)
 exact thn hA fun us s2 ⟨vs,H2,I2,r2,q2⟩=>hm pins s2 σ H2 x vs v us Q I2 r1 r2 q2
end
end L2
namespace L2
open PySem PySem.Spec PyProof.Rows
def MtM (X:Cx) (id:String) (r:V→List V→Hp→VK→Prop):Prop :=
 ∀ (pins:List (Addr × Obj)) (s:Shared) (σ:St) (H:Hp) (x:V) (xs:List V) (v:Value) (us:List Value) (Q:VK),Inv X pins σ H s→RelV x v→Vals xs us→r x xs H Q →
  wpAny (model X.prog X.w) X.A (call (.builtin id) (v::us)) (EP X pins σ Q) X.xe s
theorem Vals.one:∀ {x:V} {us:List Value},Vals [x] us→∃ u,us=[u]∧RelV x u
 | _,_, .cons r .nil=>⟨_,rfl,r⟩
theorem Vals.eraseIdx:∀ {xs:List V} {us:List Value} (i:Nat),Vals xs us→Vals (xs.eraseIdx i) (us.eraseIdx i)
 | _,_,_, .nil=>.nil
 | _,_,0, .cons _ t=>t
 | _,_,i+1, .cons r t=>.cons r (Vals.eraseIdx i t)
theorem Vals.rep {xs:List V} {us:List Value} (h:Vals xs us):∀ k:Nat,Vals (List.replicate k xs).flatten (List.replicate k us).flatten
 | 0=>.nil
 | k+1=>by
  rw [List.replicate_succ,List.replicate_succ,List.flatten_cons,List.flatten_cons]
  exact Vals.append h (Vals.rep h k)
theorem a5j {α:Type}:∀ (l:List α) (i:Nat),(l.eraseIdx i).length≤l.length
 | [],_=>Nat.le_refl _
 | _::_,0=>Nat.le_succ _
 | _::r,i+1=>Nat.succ_le_succ (a5j r i)
theorem foldl_rep (its:List Value):∀ (k:Nat) (acc:List Value),
  List.foldl (fun x1 x2=>x1++x2) acc.toArray (List.replicate k its.toArray)=(acc++(List.replicate k its).flatten).toArray
 | 0,acc=>by simp
 | k+1,acc=>by
  have e:acc.toArray++its.toArray=(acc++its).toArray:=by simp
  have e2:(acc++its)++(List.replicate k its).flatten=acc++(List.replicate (k+1) its).flatten:=by
   rw [List.replicate_succ,List.flatten_cons,List.append_assoc]
  rw [← e2,← foldl_rep its k (acc++its),← e,List.replicate_succ,List.foldl_cons]
section
variable {X:Cx} {pins:List (Addr × Obj)} {σ:St} {H:Hp} {s:Shared} {l b:Addr} {xs ys zs:List V}
theorem Inv.lset {its its':List Value} {n:Nat} {f:Array Value→Array Value} {t':Nat} (I:Inv X pins σ H s) (hH:H l=some (.lst xs))
  (e:s.heap.get? l=some { cls:=.type "list",data:=.seq its.toArray n }) (hf:f its.toArray=its'.toArray) (hv:Vals ys its') (hz:ys.length≤sizeLine) :
  Inv X pins σ (upd H l (.lst ys)) { s with heap:=s.heap.update l (Obj.mapSeq f),toks:=t' }:=by
 have q:=PySem.IsL.update e f
 rw [hf] at q
 refine I.write (x:=l) (e:=l) (by rw [hH];exact trivial) (.inl rfl) (fun b' u hb hu=>(Heap.get?_update_other s.heap (Obj.mapSeq f) (Ne.symm hb)).trans hu) ⟨_,q⟩ ?_
 exact ⟨hz,its',_,hv,q⟩
theorem Inv.lnew {its:List Value} {t':Nat} (I:Inv X pins σ H s) (hv:Vals ys its) (hz:ys.length≤sizeLine) :
  Inv X pins σ (upd H s.heap.objs.size (.lst ys)) { s with heap:=s.heap.push { cls:=.type "list",data:=.seq its.toArray },toks:=t' } :=
 I.laid (fun _ _ q=>Heap.get?_push_of_some _ q) (Nat.le_refl _) ⟨hz,its,0,hv,Heap.get?_push_size _ rfl⟩
theorem Inv.fresh (I:Inv X pins σ H s):H s.heap.objs.size=none:=I.hok.fresh (Nat.le_refl _)
theorem Inv.lstM (I:Inv X pins σ H s) (hH:H l=some (.lst xs)):xs.length≤sizeLine∧∃ (its:List Value) (n:Nat),Vals xs its∧xs.length=its.length∧s.heap.get? l=some { cls:=.type "list",data:=.seq its.toArray n }:=by
 obtain ⟨z,its,n,r,e⟩:=I.hok l _ hH
 exact ⟨z,its,n,r,r.length,e⟩
theorem ad8 {n:Nat} (h:n≤sizeLine):Builtin.List.listTooLong n=false:=by
 unfold Builtin.List.listTooLong
 exact decide_eq_false (by omega)
end
section
variable {X:Cx}
def aa3:V→List V→Hp→VK→Prop:=fun x vs H Q=>∃ l xs y,x = .ref l∧vs=[y]∧H l=some (.lst xs)∧xs.length<sizeLine∧Q .non (upd H l (.lst (xs++[y])))
theorem qw:MtM X "list.append" aa3:=by
 intro pins s σ H x vs v us Q I rx rv h
 obtain ⟨l,xs,y,rfl,rfl,hH,hz,q⟩:=h
 cases rx
 obtain ⟨u,rfl,ru⟩:=rv.one
 obtain ⟨z,its,n,r,hl,e⟩:=I.lstM hH
 refine call_meets F.slot_list_append ⟨_,e,rfl⟩ F.entry_list_append (F.args_list_append_2 _ _) (PySem.list_append l its.toArray n u (by rw [List.size_toArray];omega)) ⟨e,?_⟩
 refine ⟨.non,_,I.lset (its':=its++[u]) hH e (by simp) (r.append (.cons ru .nil)) ?_,rfl,q⟩
 rw [List.length_append,List.length_singleton]
 omega
def afr:V→List V→Hp→VK→Prop:=fun x vs H Q=>∃ l xs i k y,x = .ref l∧vs=[.int i]∧H l=some (.lst xs) ∧ -(2 ^ 63)≤i∧i<2 ^ 63∧seqIndex? i xs.length=some k∧xs[k]? = some y∧Q y (upd H l (.lst (xs.eraseIdx k)))
theorem ad9:MtM X "list.pop" afr:=by
 intro pins s σ H x vs v us Q I rx rv h
 obtain ⟨l,xs,i,k,y,rfl,rfl,hH,h1,h2,hk,hy,q⟩:=h
 cases rx
 obtain ⟨u,rfl,ru⟩:=rv.one
 obtain ⟨t,rfl⟩:=ru
 obtain ⟨z,its,n,r,hl,e⟩:=I.lstM hH
 obtain ⟨w,hw,rw'⟩:=r.get hy
 refine call_meets F.slot_list_pop ⟨_,e,rfl⟩ F.entry_list_pop (F.args_list_pop_2 _ _)
  (MeetsSeq.list_pop_at l its.toArray n i t k w (fitsIndex_both h1 h2) (by rw [List.size_toArray,← hl];exact hk) (by rw [← Array.getElem?_toList];exact hw) (by rw [List.size_toArray];omega)) ⟨e,?_⟩
 refine ⟨y,_,I.lset (its':=its.eraseIdx k) hH e ?_ (r.eraseIdx k) ?_,rw',q⟩
 ·show its.toArray.eraseIdxIfInBounds k=(its.eraseIdx k).toArray
  rw [List.eraseIdxIfInBounds_toArray]
 ·have:=a5j xs k
  omega
theorem len_rep {α:Type} (xs:List α) (k:Nat):(List.replicate k xs).flatten.length=k*xs.length:=by
 induction k with
 | zero=>simp
 | succ k ih=>rw [List.replicate_succ,List.flatten_cons,List.length_append,ih,Nat.succ_mul,Nat.add_comm]
end
end L2
namespace Att
open PySem PySem.W PySem.Calls PyProof.Rows
theorem a1l {P:Params} {h:Heap}:∀ (ns:List Int) (vs:List Value),WellAll P h vs (ns.map WData.int)→IntsAre vs ns:=by
 intro ns
 induction ns with
 | nil =>
  intro vs w
  rw [List.map_nil] at w
  cases w
  exact .nil
 | cons n ns ih =>
  intro vs w
  rw [List.map_cons] at w
  cases w with
  | cons a b =>
   cases a
   exact .cons _ _ (ih _ b)
theorem aa4 {l:OpenLaw} {n:Nat} (hn:l.most=some n) {P:Params} {h:Heap} {args:List WData} {vals:List Value}
  (hpre:l.row.toRowW.claim.pre args=true) (hwl:WellAll P h vals args) :
  ∃ a vs ns,vals=[Value.ref a]∧args=[WData.list (ns.map WData.int)]∧h.get? a=some { cls:=.type "list",data:=.seq vs.toArray }∧IntsAre vs ns∧ns.length≤n:=by
 have hsh:WShape.hasAll [] args [.list .int]=true:=(pre_splitW hpre).1
 have hc:l.pre.holds [] { args:=args }=true:=(pre_splitW hpre).2
 obtain ⟨d,r,rfl,h1,h2⟩:=hasAllW_cons hsh
 obtain rfl:=hasAllW_nil h2
 obtain ⟨xs,rfl,h3⟩:=hasW_list h1
 obtain ⟨ns,rfl⟩:=items_int h3
 have hlen:ns.length≤n:=by
  unfold OpenLaw.pre at hc
  have h4:(WTm.not (.lt (.lit (.int (n:Int))) (.len (.arg 0)))).holds [] { args:=[.list (ns.map .int)] }=true:=by
   have h4:=(holds_andW hc).1
   rw [hn] at h4
   exact h4
  have h5:=condW_of h4 (w_not (w_lt w_lit (w_len_list (w_arg rfl))))
  rw [List.length_map] at h5
  refine Nat.le_of_not_lt fun q=>?_
  have q':(n:Int)<((ns.length:Nat):Int):=by omega
  first
   | (rw [decide_eq_true q'] at h5;exact absurd h5 (by decide))
   | (simp at h5;omega)
 cases hwl with
 | cons w1 w2 =>
  cases w2
  cases w1 with
  | list ho hall=>exact ⟨_,_,ns,rfl,rfl,ho,a1l ns _ hall,hlen⟩
theorem aa5 (l:OpenLaw) (args:List WData):l.row.toRowW.claim.post args (.bool true) args=true :=
 postW_of (r:=l.row.toRowW) (X:=(true == true))
  (show WShape.has [] (.bool true) .bool=true by first | rfl | decide | simp [WShape.has,WShape.arms,WShape.armsAll])
  (show (WTm.eq .res (.lit (.bool true))).value [] { args:=args,res:=some (.bool true),after:=args }=some (.bool (true == true)) from w_eq_bool (w_res rfl) w_lit) rfl
theorem a6t {l:OpenLaw} {n:Nat} {q:Program} {loose:List Str} {XP:(Str→Option Value)→Heap→Prop} {YP:World→Heap→Prop} {d:DefRec}
  (hn:l.most=some n) (hdf:d.params.defaults=[])
  (call:∀ (w:World) (s₀ s₁:Shared) (mg mb:Str→Option Value) (fa:Addr) (o:Obj) (pm cd doc:Value) (a:Addr) (vs:List Value) (ns:List Int),
   Ground q loose [] XP w s₀ mg mb s₁.heap→YP w s₁.heap →
   s₁.heap.get? fa=some o→o.data = .func (docDef d.name d.params d.body d.scope pm cd doc)→s₁.heap.CodeRec cd d.name→mg d.name=some (.ref fa) →
   s₁.heap.get? a=some { cls:=.type "list",data:=.seq vs.toArray }→IntsAre vs ns→ns.length≤n→s₁.gens = #[] →
   codeAny (model l.prog w) callerA (.call (.ref fa) ⟨[.ref a],[]⟩) (fun r s'=>r = .ok (.ret (.bool true))∧OldK s₁.heap s'.heap∧s'.os=s₁.os∧AllBare s'.gens) s₁) :
  WalkO q loose XP YP l.row.toRowW d [] (fun f vs=>PySem.call f vs):=by
 intro w s₀ s₁ mg mb G Y fa o pm cd doc dV kV ho hd hcd hD hmg hg args vals as hpre hlay hrd hwl hlo
 obtain rfl:dV = .none:=Dflts.none hD hdf
 obtain rfl:kV = .none:=Dflts.noKw hD
 obtain ⟨a,vs,ns,rfl,rfl,hobj,hints,hlen⟩:=aa4 hn hpre hwl
 refine enter_call (codeAny_mono (call w s₀ s₁ mg mb fa o pm cd doc a vs ns G Y ho (fd_plain hd) hcd hmg hobj hints hlen hg) fun r s' hq=>?_)
 obtain ⟨rfl,h2,h3,h4⟩:=hq
 exact ⟨.inl ⟨.bool true, .bool true,[],rfl,fun _=>rfl, .bool true,aa5 l _,fun _=>⟨List.Pairwise.nil,fun _ hm=>(nomatch hm)⟩⟩,h2,h3,h4⟩
end Att
namespace L2
open PySem PySem.Spec PyProof.Rows
theorem a1m:∀ {vs:List Value} {ns:List Int},IntsAre vs ns→Vals (ns.map V.int) vs
 | _,_, .nil=>.nil
 | _,_, .cons n t h=>.cons ⟨t,rfl⟩ (a1m h)
def Only (H:Hp):Prop:=∀ b,H b=none∨∃ o xs,H b=some (.frz o (.lst xs))
theorem ada {P:Program} {w:World} {K:PySem.W.Frag} {mg mb:Str→Option Value} {CX:CXT} {k:Nat} {fa a:Addr} {fd:FuncData} {x:Str} {sp:Sp} {s₁:Shared} {vs:List Value} {ns:List Int}
  (KX:K.In s₁.heap) (hns:s₁.heap.Ns mainGlobals mg) (hb:s₁.heap.Ns builtinsNs mb) (hbb:∀ x:Str,x ≠ "__name__"→mb x=bootBuiltins x) (hlim:s₁.heap.NoLimit) (hg:s₁.gens = #[])
  (ha:s₁.heap.get? a=some { cls:=.type "list",data:=.seq vs.toArray }) (hi:IntsAre vs ns) (hl:ns.length≤sizeLine) (hr:Room k callerA)
  (F:∀ base:Heap,K.In base→base.Ns mainGlobals mg→FnOk P w K mg base CX k fa fd [x] sp) (hbind:∀ (s:Shared) (u:Value),BindsTo s fd ⟨[u],[]⟩ [(x,u)])
  (hsp:∀ H:Hp,Only H→SqL K H a (ns.map V.int)→sp [.ref a] H (fun v _=>v = .bl true) fun _ _ _=>False)
  (hCX:∀ H e s',CX [] H s₁ (fun _ _ _=>False) e s'→False) :
  codeAny (model P w) callerA (.call (.ref fa) ⟨[.ref a],[]⟩) (fun r s'=>r = .ok (.ret (.bool true))∧OldK s₁.heap s'.heap∧s'.os=s₁.os∧AllBare s'.gens) s₁:=by
 have rv:=a1m hi
 have lenV:=hi.length
 have core:∀ H:Hp,Only H→SqL K H a (ns.map V.int)→HOk P w H s₁.heap→(∀ b,H b≠none→b=a)→(H a≠none→K.lookup a=none) →
   codeAny (model P w) callerA (.call (.ref fa) ⟨[.ref a],[]⟩) (fun r s'=>r = .ok (.ret (.bool true))∧OldK s₁.heap s'.heap∧s'.os=s₁.os∧AllBare s'.gens) s₁:=by
  intro H hO hS hok hA hK
  have base_of:∀ {b:Addr} {o:Obj},s₁.heap.get? b=some o→H b=none→(acv s₁.heap H).get? b=some o:=fun e n=>acw e n
  have noA:∀ {b:Addr} {o:Obj} {es:Array DictEntry} {ep:Nat},s₁.heap.get? b=some o→o.data = .dict es ep→H b=none:=fun {b o es ep} e d=>by
   cases q:H b with
   | none=>rfl
   | some u =>
    have e':b=a:=hA b (by rw [q];simp)
    subst e'
    rw [ha] at e;cases e
    have d':Data.seq vs.toArray _=Data.dict es ep:=d
    cases d'
  have nsK:∀ {b:Addr} {m:Str→Option Value},s₁.heap.Ns b m→(acv s₁.heap H).Ns b m:=fun {b m} ⟨o,es,ep,e,d,r⟩=>⟨o,es,ep,base_of e (noA e d),d,r⟩
  have hKb:K.In (acv s₁.heap H):=fun b o e=>base_of (KX b o e) (by
   cases q:H b with
   | none=>rfl
   | some u =>
    have e':b=a:=hA b (by rw [q];simp)
    subst e'
    rw [hK (by rw [q];simp)] at e;cases e)
  have hM:Mod K mg (acv s₁.heap H):=⟨hKb,nsK hns,⟨mb,nsK hb,hbb⟩,let ⟨mc,h1,h2⟩:=hlim; ⟨mc,nsK h1,h2⟩⟩
  have e0:Env0 P w K mg (acv s₁.heap H) callerA [] s₁ H:=⟨rfl,hM,fun b o e=>agq e,Nat.le_of_eq (a9h _ _),trivial,fun b hb=>absurd (show b∈([]:List Addr) from hb) (by simp),hok, .of_eq hg⟩
  refine codeAny_mono ((F _ hKb (nsK hns)).run callerA [] s₁ H ⟨[.ref a],[]⟩ [.ref a] [.ref a] _ _ hr e0 (hbind s₁ (.ref a)) (.cons rfl .nil) (hsp H hO hS)) fun r s' h=>?_
  cases r with
  | error e=>exact (hCX H e s' h).elim
  | ok fl =>
   cases fl with
   | next=>exact False.elim h
   | brk=>exact False.elim h
   | cont=>exact False.elim h
   | ret u =>
    obtain ⟨v,H',os,bare,un,hok',r',q⟩:=h
    have q':v = .bl true:=q
    subst q'
    obtain rfl:u=Value.bool true:=r'
    refine ⟨rfl,OldK.of_keep fun b o e=>?_,os,bare⟩
    cases q:H b with
    | none=>exact un.keep b o e q (by intro z;exact absurd (show b∈([]:List Addr) from z) (by simp)) (by simp)
    | some u =>
     rcases hO b with z | ⟨ob,xs,z⟩
     ·rw [q] at z;cases z
     ·have z2:=un.frzs b ob _ z
      obtain ⟨e1,_⟩:=hok b _ z
      obtain ⟨e2,_⟩:=hok' b _ z2
      rw [e] at e1;cases e1
      exact e2
 cases hk:K.lookup a with
 | some o =>
  have e:=KX a o hk
  rw [ha] at e
  cases e
  refine core (fun _=>none) (fun _=>.inl rfl) (.inr ⟨_,vs.toArray,_,hk,rfl,rfl,rfl,by rw [List.size_toArray,lenV];exact hl,by simpa using rv⟩) (fun b u z=>by have z':(none:Option HO)=some u:=z;cases z') (fun b z=>absurd rfl z) fun z=>absurd rfl z
 | none =>
  refine core (fun b=>if b=a then some (.frz { cls:=.type "list",data:=.seq vs.toArray } (.lst (ns.map V.int))) else none) (fun b=>?_) (.inl (.inr ⟨{ cls:=.type "list",data:=.seq vs.toArray },if_pos rfl⟩)) (fun b u z=>?_) (fun b z=>?_) fun _=>hk
  ·by_cases hb:b=a
   ·exact .inr ⟨_,_,if_pos hb⟩
   ·exact .inl (if_neg hb)
  ·by_cases hb:b=a
   ·have z':=(if_pos hb).symm.trans z
    cases z'
    subst hb
    exact ⟨ha,by rw [List.length_map];exact hl,vs,_,rv,ha⟩
   ·have z':=(if_neg hb).symm.trans z
    cases z'
  ·by_cases hb:b=a
   ·exact hb
   ·exact absurd (if_neg hb) z
end L2
namespace L2
open PySem PySem.Spec PyProof.Rows
theorem aha {l:PySem.W.OpenLaw} {n k:Nat} {q:Program} {loose:List Str} {XP:(Str→Option Value)→Heap→Prop} {YP:World→Heap→Prop} {d:DefRec} {K:Params→PySem.W.Frag} {CX:World→CXT} {sp:World→Sp} {x:Str}
  (hn:l.most=some n) (hn2:n≤sizeLine) (hdf:d.params.defaults=[]) (hr:Room k callerA)
  (hY:∀ (w:World) (h:Heap),YP w h→(K w.params).In h)
  (F:∀ (w:World) (mg:Str→Option Value) (fa:Addr) (h:Heap),(K w.params).In h→h.Ns mainGlobals mg→mg d.name=some (.ref fa) →
   ∃ fd:FuncData,(∀ (s:Shared) (u:Value),BindsTo s fd ⟨[u],[]⟩ [(x,u)]) ∧
    ∀ base:Heap,(K w.params).In base→base.Ns mainGlobals mg→FnOk l.prog w (K w.params) mg base (CX w) k fa fd [x] (sp w))
  (hsp:∀ (w:World) (H:Hp) (a:Addr) (ns:List Int),ns.length≤n→Only H→SqL (K w.params) H a (ns.map V.int)→sp w [.ref a] H (fun v _=>v = .bl true) fun _ _ _=>False)
  (hCX:∀ (w:World) (H:Hp) (s:Shared) (e:Value) (s':Shared),CX w [] H s (fun _ _ _=>False) e s'→False) :
  PySem.W.WalkO q loose XP YP l.row.toRowW d [] (fun f vs=>PySem.call f vs):=by
 refine Att.a6t hn hdf fun w s₀ s₁ mg mb fa o pm cd doc a vs ns G Y ho hd hcd hmg hobj hints hlen hg=>?_
 have KX:=hY w _ Y
 obtain ⟨fd,hb,hF⟩:=F w mg fa _ KX G.T.g hmg
 exact ada KX G.T.g G.T.b G.T.builtins G.T.nolimit hg hobj hints (Nat.le_trans hlen hn2) hr hF hb (fun H hO hS=>hsp w H a ns hlen hO hS) fun H e s'=>hCX w H s₁ e s'
end L2
namespace L2
open PySem PySem.Spec PyProof.Rows
def a0a (s:Stmt):Arguments:=match s with
 | .FunctionDef _ a _ _ _ _ _ _ _ _=>a
 | _=>{ posonlyargs:=[],args:=[],vararg:=none,kwonlyargs:=[],kw_defaults:=[],kwarg:=none,defaults:=[] }
def dz (s:Stmt):List Stmt:=match s with
 | .FunctionDef _ _ b _ _ _ _ _ _ _=>b
 | _=>[]
def aq (s:Stmt):Scope:=match s with
 | .FunctionDef _ _ _ _ _ _ sc _ _ _=>sc
 | _=>{ kind:=.function,names:=[],isGenerator:=false,isCoroutine:=false }
abbrev CX0:CXT:=fun _ _ _ _ _ _=>False
abbrev E0:XK:=fun _ _ _=>False
theorem ahb {X:Cx}:a1g CX0 X E0:=fun _ _ _ _ _ _ _ h=>h.elim
structure Fun (K:PySem.W.Frag) (x qual:Str) (st:Stmt) (f:Addr) (fd:FuncData):Prop where
 ex:∃ (oc:Value) (od:Option Addr) (kV doc pm:Value) (an:Option Addr) (cdv ct:Value) (osl:Array (Option Value)),
  fd=PySem.W.fnOf x qual (a0a st) (dz st) (aq st) .none kV doc pm an cdv ct∧K.lookup f=some ⟨oc,od, .func fd,osl⟩∧PySem.W.codeIn K cdv qual=true
 kp:PySem.W.keepIn K (.ref f)=true
section
variable {P:Program} {w:World} {K:PySem.W.Frag} {mg:Str→Option Value} {base:Heap}
theorem Fun.ok {x qual:Str} {st:Stmt} {f:Addr} {fd:FuncData} {N ps:List Str} {k:Nat} {sp:Sp} (F:Fun K x qual st f fd) (S:FnScope N ps (aq st)) (len:∀ vs H Q E,sp vs H Q E→vs.length=ps.length)
  (hbody:∀ (cdv:Value) (A:Around) (outer:List Env) (s:Shared) (H:Hp) (vs:List V) (Q:VK) (E:XK),Room k (A.deeper (envOfC qual (aq st) s.heap.objs.size f cdv))→sp vs H Q E →
   ∃ t,PSs (a0j CX0 P w K mg base N qual (aq st) f cdv A outer s H E).nox (dz st) t∧t { nx:=fun _ H'=>Q .non H',rt:=Q } (start N vs) H):FnOk P w K mg base CX0 (k+1) f fd ps sp:=by
 obtain ⟨oc,od,kV,doc,pm,an,cdv,ct,osl,rfl,lk,hcd⟩:=F.ex
 refine akh lk hcd S len fun A outer s H vs Q E hr hsp=>?_
 obtain ⟨t,h,q⟩:=hbody cdv A outer s H vs Q E hr hsp
 exact ⟨t,h.nox,q⟩
theorem Fun.binds {x qual:Str} {st:Stmt} {f:Addr} {fd:FuncData} {ps:List Str} (F:Fun K x qual st f fd)
  (h:∀ (kV doc pm:Value) (an:Option Addr) (cdv ct:Value) (us:List Value),us.length=ps.length→bindArgs (PySem.W.fnOf x qual (a0a st) (dz st) (aq st) .none kV doc pm an cdv ct) ⟨us,[]⟩=pure (ps.zip us)):Binds K fd ps []:=by
 obtain ⟨oc,od,kV,doc,pm,an,cdv,ct,osl,rfl,lk,hcd⟩:=F.ex
 exact .all (h kV doc pm an cdv ct)
theorem m8 {x qual:Str} {st:Stmt} {f:Addr} {oc:Value} {od an:Option Addr} {osl:Array (Option Value)} {kV doc pm cdv ct:Value} (l:K.lookup f=some ⟨oc,od, .func (PySem.W.fnOf x qual (a0a st) (dz st) (aq st) .none kV doc pm an cdv ct),osl⟩)
  (c:PySem.W.codeIn K cdv qual=true) (k:PySem.W.keepIn K (.ref f)=true):Fun K x qual st f (PySem.W.fnOf x qual (a0a st) (dz st) (aq st) .none kV doc pm an cdv ct):=⟨⟨oc,od,kV,doc,pm,an,cdv,ct,osl,rfl,l,c⟩,k⟩
end
end L2
namespace L2
open PySem PySem.Spec PyProof.Rows
section
variable {κ:Type} [DecidableEq κ]
def an0 (kvs:List (κ × V)) (k:κ):Option V:=(kvs.find? fun kv=>decide (kv.1=k)).map (·.2)
def putK (kvs:List (κ × V)) (k:κ) (v:V):List (κ × V) :=
 if (kvs.any fun kv=>decide (kv.1=k))=true then kvs.map (fun kv=>if kv.1=k then (kv.1,v) else kv) else kvs++[(k,v)]
theorem RelO.getD {o:Option V} {u:Option Value} {d:V} {d':Value} (r:RelO o u) (rd:RelV d d'):RelV (o.getD d) (u.getD d'):=by
 cases o with
 | none=>cases u with
  | none=>exact rd
  | some _=>exact (show False from r).elim
 | some _=>cases u with
  | none=>exact (show False from r).elim
  | some _=>exact r
end
abbrev KT (H:Hp):List (List Key × V)→List (List Key × Addr × Value)→Prop:=Paired fun p q=>p.1=q.1∧H q.2.1=some (.tup (p.1.map kV))∧RelV p.2 q.2.2
theorem KT.keeps {H H':Hp} {kvs:List (List Key × V)} {xs:List (List Key × Addr × Value)} (r:KT H kvs xs) (ht:∀ b ys,H b=some (.tup ys)→H' b=some (.tup ys)):KT H' kvs xs :=
 Paired.mapP r fun _ _ z=>⟨z.1,ht _ _ z.2.1,z.2.2⟩
def DGet (H:Hp) (a:Addr) (y:V) (r:Option V):Prop :=
 (∃ kvs k,Rd H a (.dK kvs)∧y=kV k∧r=an0 kvs k)∨∃ kvs k b,Rd H a (.dT kvs)∧y = .ref b∧H b=some (.tup (k.map kV))∧r=an0 kvs k
def DPut (H:Hp) (a:Addr) (y v:V) (H':Hp):Prop :=
 (∃ kvs k,H a=some (.dK kvs)∧y=kV k∧kvs.length<sizeLine∧H'=upd H a (.dK (putK kvs k v))) ∨
 ∃ kvs k b,H a=some (.dT kvs)∧y = .ref b∧H b=some (.tup (k.map kV))∧kvs.length<sizeLine∧H'=upd H a (.dT (putK kvs k v))
theorem DGet.k {H:Hp} {a:Addr} {kvs:List (Key × V)} {k:Key} (e:H a=some (.dK kvs)):DGet H a (kV k) (an0 kvs k):=.inl ⟨kvs,k, .inl e,rfl,rfl⟩
theorem DGet.t {H:Hp} {a b:Addr} {kvs:List (List Key × V)} {k:List Key} (e:H a=some (.dT kvs)) (eb:H b=some (.tup (k.map kV))):DGet H a (.ref b) (an0 kvs k):=.inr ⟨kvs,k,b, .inl e,rfl,eb,rfl⟩
theorem DPut.k {H:Hp} {a:Addr} {kvs:List (Key × V)} {k:Key} {v:V} (e:H a=some (.dK kvs)) (hl:kvs.length<sizeLine):DPut H a (kV k) v (upd H a (.dK (putK kvs k v))):=.inl ⟨kvs,k,e,rfl,hl,rfl⟩
theorem DPut.t {H:Hp} {a b:Addr} {kvs:List (List Key × V)} {k:List Key} {v:V} (e:H a=some (.dT kvs)) (eb:H b=some (.tup (k.map kV))) (hl:kvs.length<sizeLine) :
  DPut H a (.ref b) v (upd H a (.dT (putK kvs k v))):=.inr ⟨kvs,k,b,e,rfl,eb,hl,rfl⟩
end L2
set_option maxHeartbeats 4000000
namespace L2
open PySem PySem.Spec PyProof.Rows
section
variable {X:Cx}
theorem a1n:OpR X (compareOp .IsNot) (fun x y H Q=>∃ i j,x = .bl i∧y = .bl j∧Q (.bl (i != j)) H):=by
 intro pins s σ H x y v u Q I rx ry h
 obtain ⟨i,j,rfl,rfl,q⟩:=h
 cases rx
 cases ry
 exact isnot_bool (a2j I q rfl)
theorem aa6:OpR X (compareOp .LtE) (fun x y H Q=>∃ i j,x = .str i∧y = .str j∧Q (.bl (!decide (j.cps.toList<i.cps.toList))) H):=by
 intro pins s σ H x y v u Q I rx ry h
 obtain ⟨i,j,rfl,rfl,q⟩:=h
 obtain ⟨t,rfl⟩:=rx
 obtain ⟨t',rfl⟩:=ry
 exact PySem.P.le_str (a2j I q rfl)
def a3i {α:Type} (xs:List α) (lo hi:Option Int):List α:=(xs.drop (HT.sIx xs.length 0 lo)).take (HT.sIx xs.length xs.length hi - HT.sIx xs.length 0 lo)
def aof:V→Option Int→Option Int→Hp→VK→Prop:=fun x lo hi H Q=>∃ z,x = .str z∧z.length≤sizeLine∧Q (.str ⟨(a3i z.cps.toList lo hi).toArray⟩) H
theorem akn (lo hi:Option Int) (n:Nat):Builtin.Str.strSliceIndices lo hi 1 n=(List.range (HT.sIx n n hi - HT.sIx n 0 lo)).map fun k=>HT.sIx n 0 lo+k:=by
 have e1:Builtin.Str.strSliceIndices lo hi 1 n=sliceRange ((HT.sIx n 0 lo:Nat):Int) ((HT.sIx n n hi:Nat):Int) 1:=by
  unfold Builtin.Str.strSliceIndices
  dsimp only
  congr 1
  ·cases lo with
   | none=>simp [HT.sIx]
   | some i=>simp only [HT.sIx,show (1:Int) > 0 by decide,if_true];split<;>omega
  ·cases hi with
   | none=>simp [HT.sIx]
   | some i=>simp only [HT.sIx,show (1:Int) > 0 by decide,if_true];split<;>omega
 rw [e1]
 exact sliceRange_one _ _
theorem ako {α:Type} (xs:List α) (a:Nat):∀ k,a+k≤xs.length→((List.range k).map fun j=>a+j).filterMap (xs[·]?)=(xs.drop a).take k
 | 0,_=>by simp
 | k+1,h=>by
  rw [List.range_succ,List.map_append,List.filterMap_append,ako xs a k (by omega)]
  have hk:a+k<xs.length:=by omega
  rw [List.take_succ]
  congr 1
  simp [List.getElem?_drop,hk]
theorem akp:SlR X aof:=by
 intro pins s σ H x v vl vu lo hi sl Q I rx hs pl pu h
 obtain ⟨z,rfl,hz,q⟩:=h
 obtain ⟨t,rfl⟩:=rx
 refine ⟨"str",_,PyProof.Rows.slot_str_getitem.lookup,typeIs_str s z t,?_⟩
 have hl:z.cps.toList.length=z.length:=by simp [Str.length]
 have fin:∀ (l u:Option (Int × Tok)),vl=partValue l→vu=partValue u→l.map (·.1)=lo→u.map (·.1)=hi→wpAny (model X.prog X.w) X.A (getItem (.str z t) (.ref sl)) (EP X pins σ Q) X.xe s:=by
  intro l u e1 e2 e3 e4
  subst e1 e2
  refine wpAny_getItem_str_slice (l:=l) (u:=u) (st:=none) hs rfl ?_
  have hp:slicePicked z l u none=(List.range (HT.sIx z.length z.length hi - HT.sIx z.length 0 lo)).map fun k=>HT.sIx z.length 0 lo+k:=by
   unfold slicePicked
   rw [e3,e4]
   exact akn lo hi z.length
  have hb1:HT.sIx z.length z.length hi≤z.length:=HT.a9z _ _ (Nat.le_refl _) _
  have hb2:HT.sIx z.length 0 lo≤z.length:=HT.a9z _ _ (Nat.zero_le _) _
  unfold sliceMade
  split
  ·rename_i c
   simp only [Bool.and_eq_true,beq_iff_eq] at c
   obtain ⟨_,c⟩:=c
   rw [hp,List.length_map,List.length_range] at c
   have e:(⟨(a3i z.cps.toList lo hi).toArray⟩:Str)=z:=by
    unfold a3i
    rw [hl]
    have z1:HT.sIx z.length 0 lo=0:=by omega
    have z2:HT.sIx z.length z.length hi=z.length:=by omega
    rw [z1,z2,List.drop_zero,Nat.sub_zero,List.take_of_length_le (by omega)]
   rw [e] at q
   exact ⟨.str z,H,I,⟨_,rfl⟩,q⟩
  ·have e:(⟨(a3i z.cps.toList lo hi).toArray⟩:Str)=⟨((slicePicked z l u none).filterMap (z.cps[·]?)).toArray⟩:=by
    rw [hp]
    unfold a3i
    rw [hl]
    by_cases hc:HT.sIx z.length 0 lo≤HT.sIx z.length z.length hi
    ·rw [← ako z.cps.toList _ _ (by omega)]
     simp only [Array.getElem?_toList]
    ·rw [show HT.sIx z.length z.length hi - HT.sIx z.length 0 lo=0 by omega]
     simp
   rw [e] at q
   refine ⟨?_, .str _,H,I.tok _,⟨_,rfl⟩,q⟩
   rw [← e]
   show (a3i z.cps.toList lo hi).toArray.size≤sizeLine
   rw [List.size_toArray]
   unfold a3i
   rw [List.length_take,List.length_drop,hl]
   omega
 cases pl with
 | none=>cases pu with
  | none=>exact fin none none rfl rfl rfl rfl
  | int j t'=>exact fin none (some (j,t')) rfl rfl rfl rfl
 | int i t'=>cases pu with
  | none=>exact fin (some (i,t')) none rfl rfl rfl rfl
  | int j t''=>exact fin (some (i,t')) (some (j,t'')) rfl rfl rfl rfl
theorem n8:CallR X (.builtin "isinstance") (fun xs H Q=>∃ x T t b,xs=[x, .ty T]∧TyOf X.K H x t∧PySem.W.kitOne X.K t (.type T)=some b∧Q (.bl b) H):=by
 intro pins s σ H xs us Q I r h
 obtain ⟨x,T,t,b,rfl,ty,e,q⟩:=h
 obtain ⟨u,w',rfl,rx,rt⟩:=vals2 r
 cases rt
 exact a9v I rx ty e fun tk=>⟨.bl b,H,I.tok tk,rfl,q⟩
theorem a5k (bs:List Bool):((List.range bs.length).all fun i=>(bs[i]?).getD true)=bs.all id:=by
 have e:(List.range bs.length).map (fun i=>(bs[i]?).getD true)=bs:=by
  apply List.ext_getElem (by simp)
  intro i h1 h2
  simp [h2]
 have f:((List.range bs.length).map fun i=>(bs[i]?).getD true).all id=bs.all id:=by rw [e]
 rw [← f,List.all_map]
 rfl
theorem a6u (hc:X.calm=true):CallR X (.builtin "all") (fun xs H Q=>∃ (p:Addr) (bs:List Bool),xs=[.ref p]∧SqL X.K H p (bs.map V.bl)∧Q (.bl (bs.all id)) H):=by
 intro pins s σ H xs us Q I r h
 obtain ⟨p,bs,rfl,hq,q⟩:=h
 obtain ⟨u,rfl,rx⟩:=vals1 r
 cases rx
 obtain ⟨its,r',pl,hz⟩:=I.list hq
 have hl:=r'.length
 rw [List.length_map] at hl
 have hlt:p<s.heap.objs.size:=by obtain ⟨_,e,_⟩:=pl.isList;exact Heap.lt_size e
 refine call_all_walk (wpAny_pyIter_list pl.isList ?_)
 refine ⟨s.heap.objs.size,[s.heap.objs.size,p],[s.heap.objs.size],its.toArray.size,_,_,fun i=>(bs[i]?).getD true,rfl,Walks.list (A:=X.A.in1) (I.ok.hd hc) _ p (Nat.ne_of_lt hlt) its.toArray,
  ⟨⟨_,Heap.get?_push_size _ rfl,rfl,rfl⟩,pl.isList.push _⟩,fun i v s' Q' E' hP hQ=>?_,fun h' tk hk=>?_⟩
 ·have hP':its[i]? = some v:=by simpa using hP
  have hi:i<bs.length:=by
   have:=(List.getElem?_eq_some_iff.mp hP').1
   omega
  obtain ⟨u,e,ru⟩:=r'.get (i:=i) (x:=.bl bs[i]) (by simp [hi])
  rw [hP'] at e
  cases e
  cases ru
  simp only [List.getElem?_eq_getElem hi,Option.getD_some] at hQ
  exact wpAny_truthy_bool hQ
 ·have e:((List.range its.toArray.size).all fun i=>(bs[i]?).getD true)=bs.all id:=by
   rw [List.size_toArray,← hl];exact a5k bs
  rw [e]
  exact ⟨.bl _,H,I.kept fun b x e=>hk b x (fun hm=>by rw [List.mem_singleton.mp hm] at e;exact Nat.lt_irrefl _ (Heap.lt_size e)) (Heap.get?_push_of_some _ e),rfl,q⟩
def vz (x:Str):List V:=x.cps.toList.map fun c=>V.str ⟨#[c]⟩
theorem a8o {x:Str} {acc:Array Value} (h:ItemsOf (SignAt x) acc x.cps.size):Vals (vz x) acc.toList:=by
 obtain ⟨hs,ha⟩:=h
 have key:∀ (cs:List Nat) (us:List Value),us.length=cs.length→(∀ (j:Nat) (v:Value),us[j]? = some v→∃ c u,cs[j]? = some c∧v = .str ⟨#[c]⟩ u)→Vals (cs.map fun c=>V.str ⟨#[c]⟩) us:=by
  intro cs
  induction cs with
  | nil=>intro us hl _;cases us with | nil=>exact .nil | cons _ _=>simp at hl
  | cons c cs ih =>
   intro us hl hp
   cases us with
   | nil=>simp at hl
   | cons u us =>
    refine .cons ?_ (ih us (by simpa using hl) fun j v e=>hp (j+1) v (by simpa using e))
    obtain ⟨c',t,e1,e2⟩:=hp 0 u rfl
    simp at e1
    subst e1
    exact ⟨t,e2⟩
 refine key _ _ (by simp [hs]) fun j v e=>?_
 obtain ⟨c,u,e1,e2⟩:=ha j v (by simpa using e)
 exact ⟨c,u,by simpa using e1,e2⟩
theorem wu (hc:X.calm=true):CallR X (.type "tuple") (fun xs H Q=>∃ z,xs=[.str z]∧z.length≤sizeLine∧∀ l,H l=none→Q (.ref l) (upd H l (.tup (vz z)))):=by
 intro pins s σ H xs us Q I r h
 obtain ⟨z,rfl,hz,q⟩:=h
 obtain ⟨u,rfl,t,rfl⟩:=vals1 r
 refine PySem.call_tuple_str (I.ok.hd hc) z t (fun h' tk acc kp hi=>?_) (by simpa [Str.length] using hz)
 have I1:Inv X pins σ H { s with heap:=h',toks:=tk }:=I.kept kp
 have I2:Inv X pins σ (upd H h'.objs.size (.tup (vz z))) { s with heap:=h'.push { cls:=.type "tuple",data:=.seq acc },toks:=tk } :=
  I1.laid (t':=tk) (fun b o e=>Heap.get?_push_of_some _ e) (Nat.le_refl _) (show ObjOk X.prog X.w _ _ _ (.tup (vz z)) from ⟨by simpa [vz,Str.length] using hz,acc.toList,a8o hi,by simpa using IsTup.new h' acc⟩)
 exact ⟨.ref h'.objs.size,_,I2,rfl,q _ (I1.hok.fresh (Nat.le_refl _))⟩
end
def Its (x:Str):It:=⟨fun i _=>i<x.cps.size,fun i H v H'=>H'=H∧∃ c,x.cps.toList[i]? = some c∧v = .str ⟨#[c]⟩,fun i _=>i=x.cps.size⟩
theorem a7i {P:Program} {w:World} {K:PySem.W.Frag} {tg:Expr} (it:Addr) (x:Str) (t:Tok) (ty:String)
  (hty:["enumerate", "zip", "dict_itemiterator", "dict_reverseitemiterator", "odict_iterator", "itertools.zip_longest", "itertools.pairwise"].contains ty=false)
  (W:∀ A':Around,A'.handled=none→Walks P w A' it [it] [it] x.cps.size (SignAt x) (fun i h=>h.IsStrIter it ty x t i))
  (slf:∀ (A:Around) (i:Nat) (s:Shared) (Q:Value→Shared→Prop) (E:Value→Shared→Prop),s.heap.IsStrIter it ty x t i→Q (.ref it) s→wpAny (model P w) A (pyIter (.ref it)) Q E s) :
  Turn P w K tg (Its x) [it] it (fun i h=>h.IsStrIter it ty x t i) where
 mem:=by simp
 obj:=fun i h st b hb=>by
  have e:b=it:=by simpa using hb
  subst e
  obtain ⟨o,e,c,d⟩:=st
  exact ⟨o,e,fun v z=>by rw [d] at z;cases z⟩
 keep:=fun i h h' st k=>by
  obtain ⟨o,e,c,d⟩:=st
  exact ⟨o,k it (by simp) o e,c,d⟩
 item:=by
  intro X hP hw hK hc i pins s σ H E I hf st hg
  subst hP hw hK
  obtain ⟨f0,f1,f2,f3,f4,f5⟩:=hf it (by simp)
  refine (W X.A (I.ok.hd hc)).item i s _ _ hg st fun v h' tk hv st' kk=>?_
  obtain ⟨c,u,hx,rfl⟩:=hv
  have I1:Inv X pins σ H { s with heap:=h',toks:=tk }:=I.turned (fun b o hb e=>kk b o (by simpa using hb) e) f0 f1 f3 f4 f5
  obtain ⟨o,e,oc,d⟩:=id st'
  exact ⟨_,rfl,ad1 (s:={ s with heap:=h',toks:=tk }) e oc d hty ⟨.str ⟨#[c]⟩,H,I1,⟨_,rfl⟩,⟨rfl,c,by simpa using hx,rfl⟩,st',fun b hb=>(hf b hb).1⟩⟩
 done:=by
  intro X hP hw hK hc i pins s σ H E I hf st hg
  subst hP hw hK
  obtain ⟨f0,f1,f2,f3,f4,f5⟩:=hf it (by simp)
  have hg':i=x.cps.size:=hg
  subst hg'
  exact (W X.A (I.ok.hd hc)).done s _ _ st fun h' tk eb=>⟨rfl,I.turned (fun b o hb e=>eb b o (by simpa using hb) e) f0 f1 f3 f4 f5⟩
 self:=slf
section
variable {X:Cx} {tg:Expr}
def aqg (tl:TE):TI:=fun σ H R=>tl σ H fun x H1=>∃ z,x = .str z∧R (Its z) H1
theorem afs {l:Expr} {tl:TE} (hl:PE X l tl):PI X tg l (aqg tl):=by
 intro pins s σ H R I h
 refine thn (hl pins s σ H _ I h) fun v s1 ⟨x,H1,I1,r1,q1⟩=>?_
 obtain ⟨z,e,q⟩:=q1
 subst e
 obtain ⟨t,rfl⟩:=r1
 have fp:∀ b∈[s1.heap.objs.size],a6o X pins H1 b:=fun b hb=>by
  have e:b=s1.heap.objs.size:=by simpa using hb
  subst e
  exact I1.fpOk (Nat.le_refl _) (I1.hok.fresh (Nat.le_refl _))
 cases ha:z.cps.all (· < 128)
 ·exact wpAny_pyIter_wide ha ⟨s1.heap.objs.size,[s1.heap.objs.size],_,_,H1,rfl,I1.kept (t':=s1.toks) fun b o e=>Heap.get?_push_of_some _ e,
   a7i _ z t "str_iterator" (by decide) (fun A' hA=>Walks.strWide hA _ z t) (fun _ _ _ _ _ st h=>wpAny_pyIter_striter_wide st h),⟨_,Heap.get?_push_size _ rfl,rfl,rfl⟩,fp,q⟩
 ·exact wpAny_pyIter_ascii ha ⟨s1.heap.objs.size,[s1.heap.objs.size],_,_,H1,rfl,I1.kept (t':=s1.toks) fun b o e=>Heap.get?_push_of_some _ e,
   a7i _ z t "str_ascii_iterator" (by decide) (fun A' hA=>Walks.strAscii hA _ z t) (fun _ _ _ _ _ st h=>wpAny_pyIter_striter_ascii st h),⟨_,Heap.get?_push_size _ rfl,rfl,rfl⟩,fp,q⟩
end
end L2
namespace L2
open PySem PySem.Spec PyProof.Rows
def cxC (X:Cx) (N:List Str) (scope:Scope) (cl:List (Str × Addr)) (C:Addr) (fp:List Addr) (s:Shared) (H:Hp):Cx where
 prog:=X.prog
 w:=X.w
 K:=X.K
 mg:=X.mg
 base:=X.base
 A:=X.A
 N:=N
 s₀:=s
 H₀:=H
 env:=compEnvC scope cl C X.env
 outer:=X.stack
 stack:=X.stack
 ex:=fp
 fn:=fun _=>false
 calm:=X.calm
 pn:=[]
 xe:=fun _ _=>False
structure CSc (X:Cx) (scope:Scope) (cl:List (Str × Addr)) (ts fr:List Str) (ix:List Nat):Prop where
 clos:closureFor scope X.env=pure cl
 kind:scope.kind = .function
 nocell:∀ y∈scope.names,y.2≠.cell
 names:∀ y∈scope.names,y.2 = .local→scope.names.lookup y.1=some .local
 sub:∀ y c,cl.lookup y=some c→X.env.cells.lookup y=some c
 has:∀ y,((relabel scope X.env).names.lookup y=some .cell∨(relabel scope X.env).names.lookup y=some .free)→∃ c,cl.lookup y=some c
 nofn:∀ y∈ts,(relabel scope X.env).names.lookup y=some .local
 len:ix.length=fr.length
 vis:∀ (j:Nat) (y:Str),fr[j]? = some y→∃ i:Nat,ix[j]? = some i∧X.N[i]? = some y∧(X.env.kindOf y=some .cell∨X.env.kindOf y=some .free)∧((relabel scope X.env).names.lookup y=some .cell∨(relabel scope X.env).names.lookup y=some .free)
def Ext (a b:St):Prop:=b.length=a.length∧∀ (i:Nat) v,a[i]? = some (some v)→b[i]? = some (some v)
def lu (nt:Nat) (ix:List Nat) (σ:St):St:=List.replicate nt none++ix.map fun i=>(σ[i]?).join
def akq (J:It) (s0:St) (g:TG) (te:TE) (Q:VK) (H1:Hp):Prop:=∃ W:Nat→Nat→List V→Hp→Prop,(∃ m,W 0 m [] H1)∧∀ i m ys H,W i m ys H →
 (J.stop i H∧∀ p,H p=none→Q (.ref p) (upd H p (.lst ys))) ∨
 (J.go i H∧ys.length<sizeLine∧∀ x H',J.yld i H x H'→g x s0 H' fun σ2 H2=>Ext s0 σ2∧te σ2 H2 fun y H3=>∃ m',m'<m∧W (i+1) m' (ys++[y]) H3)
def adb (wi:TI) (s0:St→St) (g:TG) (te:TE):TE:=fun σ H Q=>wi σ H fun J H1=>akq J (s0 σ) g te Q H1
theorem aa7 {prog:Program} {w:World} {A:Around} {R:Result→Shared→Prop} {s:Shared} {elt target iter:Expr} {scope:Scope} {pos:Pos} {it acc:Value} {env:Env} (J:Nat→Shared→Prop)
  (step:∀ m z,J m z→wpAny (model prog w) A (pyNext it) (fun got z1=>match got with
   | none=>R (.ok .next) z1
   | some v=>wpAny (model prog w) A (letOwnedTupleGo target it v) (fun _ z2=>wpAny (model prog w) A (assign target env v) (fun _ z3=>wpAny (model prog w) A (eval elt env) (fun x z4 =>
     wpAny (model prog w) A (call (.builtin "list.append") [acc,x]) (fun _ z5=>∃ m',m'<m∧J m' z5) (fun _ _=>False) z4)
     (fun _ _=>False) z3) (fun _ _=>False) z2) (fun _ _=>False) z1) (fun _ _=>False) z)
  (m:Nat) (j0:J m s):codeAny (model prog w) A (.compLoop (.ListComp elt [⟨target,iter,[],0⟩] scope pos) 0 it acc env) R s:=by
 refine codeAny_loop rfl J (fun m z hj=>(wpAny_noted ?_:wpAny _ _ ((compTurn (.ListComp elt [⟨target,iter,[],0⟩] scope pos) 0 it acc env).onRaise _) _ _ z)) m j0
 rw [compTurn_list1]
 refine wpAny_bind (wpAny_standAt (wpAny_bind (wpAny_mono (step m z hj) (fun got z1 h1=>?_) fun _ _ no=>no.elim)))
 match got,h1 with
 | none,h1=>exact wpAny_pure h1
 | some v,h1 =>
  refine wpAny_bind (wpAny_mono h1 (fun _ z2 h2=>wpAny_bind (wpAny_mono h2 (fun _ z3 h3=>?_) fun _ _ no=>no.elim)) fun _ _ no=>no.elim)
  refine wpAny_bind (wpAny_bind (wpAny_mono h3 (fun x z4 h4=>?_) fun _ _ no=>no.elim))
  exact wpAny_bind (wpAny_mono h4 (fun _ z5 h5=>wpAny_pure (wpAny_pure ⟨rfl,h5⟩)) fun _ _ no=>no.elim)
section
variable {X:Cx}
theorem a5l {pins:List (Addr × Obj)} {σ:St} {H:Hp} {s:Shared} {scope:Scope} {cl:List (Str × Addr)} {ts fr:List Str} {ix:List Nat} {C:Addr} {fp:List Addr} (S:CSc X scope cl ts fr ix) (I:Inv X pins σ H s)
  (hf:∀ b∈fp,a6o X pins H b) (hb:∀ b∈fp,b<s.heap.objs.size) (hC:s.heap.objs.size≤C):(cxC X (ts++fr) scope cl C fp s H).Ok where
 mod:=I.ok.mod
 kind:=S.kind
 glob:=I.ok.glob
 blt:=I.ok.blt
 above:=hC
 inj:=fun x y c h1 h2=>I.ok.inj x y c (S.sub x c h1) (S.sub y c h2)
 has:=S.has
 cab:=fun _ _ z=>nomatch z
 hd:=I.ok.hd
 frames:=I.ok.frames
 stk:=.inl rfl
 exf:=fun b hb'=>⟨Nat.ne_of_lt (Nat.lt_of_lt_of_le (hb b hb') hC),fun x c e=>(hf b hb').2.2.2.2.1 x c (S.sub x c e)⟩
 bs:=fun b o e=>I.bs b o e
 bsz:=Nat.le_trans I.ok.bsz I.sz
 noex:=fun b o e hb'=>by
  rcases (hf b hb').2.2.2.1 with z | z
  ·exact I.ok.noex b o e z
  ·exact absurd (Nat.lt_of_lt_of_le (Heap.lt_size e) (Nat.le_trans I.ok.bsz z)) (Nat.lt_irrefl _)
 exfs:=fun b hb' z=>by
  rcases List.mem_cons.mp (I.stkSub b z) with e | e
  ·exact (hf b hb').2.1 e
  ·exact (hf b hb').2.2.1 e
 funs:=I.stack
 frf:=fun b hb'=>I.stkFree b hb'
theorem a8p {nt:Nat} {ix:List Nat} {σ:St}:(lu nt ix σ).length=nt+ix.length:=by
 unfold lu;rw [List.length_append,List.length_replicate,List.length_map]
theorem aa8 {pins:List (Addr × Obj)} {σ:St} {H:Hp} {s s4:Shared} {scope:Scope} {cl:List (Str × Addr)} {ts fr:List Str} {ix:List Nat} {C:Addr} {fp:List Addr} {m:Str→Option Value} (S:CSc X scope cl ts fr ix) (I:Inv X pins σ H s)
  (hf:∀ b∈fp,a6o X pins H b) (hb:∀ b∈fp,b<s.heap.objs.size) (hC:s.heap.objs.size≤C)
  (k:∀ b o,s.heap.get? b=some o→s4.heap.get? b=some o) (hn:s4.heap.Ns C m) (ho:s4.os=s.os) (hg:s4.gens=s.gens) :
  Inv (cxC X (ts++fr) scope cl C fp s H) [] (lu ts.length ix σ) H s4 where
 ok:=a5l S I hf hb hC
 os:=ho
 bare:=by rw [hg];exact I.bare
 base:=Un.kept k
 loc:=by
  refine ⟨m,hn,fun i x v e1 e2 e3=>?_⟩
  have e1:(ts++fr)[i]? = some x:=e1
  by_cases hi:i<ts.length
  ·unfold lu at e2
   rw [List.getElem?_append_left (by simpa using hi),List.getElem?_replicate,if_pos hi] at e2
   cases e2
  ·rw [List.getElem?_append_right (by omega)] at e1
   unfold lu at e2
   rw [List.getElem?_append_right (by simpa using hi),List.length_replicate,List.getElem?_map] at e2
   obtain ⟨j,h1,h2,h3,h4⟩:=S.vis _ x e1
   rw [h1] at e2
   have e2':(σ[j]?).join=some v:=Option.some.inj e2
   have e5:σ[j]? = some (some v):=by
    cases q:σ[j]? with
    | none=>rw [q] at e2';cases e2'
    | some o=>rw [q] at e2';simp at e2';rw [e2']
   obtain ⟨m0,_,hl⟩:=I.loc
   have vis:Vis X.env.scope x:=h3.elim (fun z=>.inr (.inl z)) fun z=>.inr (.inr z)
   obtain ⟨u,ru,l⟩:=hl j x v h2 e5 vis
   refine ⟨u,ru,?_⟩
   rcases l with ⟨z,_⟩ | ⟨_,c,hc,hcell⟩
   ·rcases h3 with h3 | h3<;>rw [h3] at z<;>cases z
   ·obtain ⟨c',hc'⟩:=S.has x h4
    have e6:c'=c:=Option.some.inj ((S.sub x c' hc').symm.trans hc)
    subst e6
    obtain ⟨o,ho,hd⟩:=hcell
    exact .inr ⟨h4,c',hc',o,k _ _ ho,hd⟩
 cell:=fun x c e=>by
  obtain ⟨v,o,ho,hd⟩:=I.cell x c (S.sub x c e)
  exact ⟨v,o,k _ _ ho,hd⟩
 free:=I.hok.fresh hC
 freeC:=fun x c e=>I.freeC x c (S.sub x c e)
 pin:=fun p hp=>absurd (show p∈([]:List (Addr × Obj)) from hp) (by simp)
 hok:=I.hok.kept k
 len:=by
  rw [a8p]
  show _=(ts++fr).length
  rw [List.length_append,S.len]
theorem Inv.unpinned' {pins:List (Addr × Obj)} {σ:St} {H:Hp} {s:Shared} (I:Inv X pins σ H s):Inv X [] σ H s:=I.pins_of fun _ hp=>nomatch hp
theorem comp_back {pins:List (Addr × Obj)} {σ σ':St} {H H':Hp} {s s':Shared} {scope:Scope} {cl:List (Str × Addr)} {N:List Str} {C acc:Addr} {fp:List Addr} {h':Heap} {ys:List V} {its:List Value} {n:Nat} (I:Inv X pins σ H s)
  (hf:∀ b∈fp,a6o X pins H b) (hC:s.heap.objs.size≤C) (hacc:s.heap.objs.size≤acc) (hCa:C≠acc)
  (J:Inv (cxC X N scope cl C fp s H) [] σ' H' s') (hn:H' acc=none) (ha:s'.heap.get? acc=some { cls:=.type "list",data:=.seq its.toArray n }) (rv:Vals ys its) (hz:ys.length≤sizeLine) (sb:Heap.SameBut C s'.heap h') :
  Inv X pins σ (upd H' acc (.lst ys)) { s' with heap:=h' }:=by
 have k:∀ b o,b≠C→s'.heap.get? b=some o→h'.get? b=some o:=fun b o hb e=>sb.extBut b o hb e
 have old:∀ b o,s.heap.get? b=some o→b≠C∧b≠acc:=fun b o e=>⟨Nat.ne_of_lt (Nat.lt_of_lt_of_le (Heap.lt_size e) hC),Nat.ne_of_lt (Nat.lt_of_lt_of_le (Heap.lt_size e) hacc)⟩
 have u0:Un (frs X.stack) fp H H' s.heap s'.heap:=J.base
 have fC:H' C=none:=J.free
 have u:Un (frs X.stack) fp H (upd H' acc (.lst ys)) s.heap h':=by
  refine ⟨fun b o e n' hb hx=>k b o (old b o e).1 (u0.keep b o e n' hb hx),fun b o e n' hb hx=>?_,fun b o e n' hx=>?_,fun b o e hx=>?_,fun b xs e=>?_,fun b o v e=>?_,fun b ps e=>?_⟩
  ·obtain ⟨sl,e1⟩:=u0.slot b o e n' hb hx
   exact ⟨sl,k b _ (old b o e).1 e1⟩
  ·rw [dw (old b o e).2];exact u0.free b o e n' hx
  ·obtain ⟨o',e1⟩:=u0.there b o e hx
   exact ⟨o',k b _ (old b o e).1 e1⟩
  ·rw [dw (dj (u0.tups b xs e) hn)];exact u0.tups b xs e
  ·rw [dw (dj (u0.frzs b o v e) hn)];exact u0.frzs b o v e
  ·obtain ⟨more,e1⟩:=u0.tbls b ps e
   exact ⟨more,by rw [dw (dj e1 hn)];exact e1⟩
 have hok:HOk X.prog X.w (upd H' acc (.lst ys)) h':=fun b o e=>by
  by_cases hb:b=acc
  ·subst hb;rw [kj] at e;cases e
   exact ⟨hz,its,n,rv,k _ _ (Ne.symm hCa) ha⟩
  ·rw [dw hb] at e
   refine (J.hok b o e).stay (fun c v hc q=>k c v ?_ q) (fun c q=>by rw [dw (dj q hn)];exact q) fun c xs q=>by rw [dw (dj q hn)];exact q
   rcases hc with z | z
   ·rw [z];exact dj e fC
   ·exact dj z fC
 have J':=I.call (g':=s'.gens) (t':=s'.toks) (d':=s'.drawn) (ch:=fp) u hok J.bare fun b hb=>⟨(hf b hb).2.2.2.1,(hf b hb).2.1,(hf b hb).2.2.2.2.1,(hf b hb).2.2.2.2.2⟩
 have eo:s'.os=s.os:=J.os
 obtain ⟨hp,g,d,t,o⟩:=s'
 have eo':o=s.os:=eo
 subst eo'
 exact J'
def a3j (X:Cx) (pins:List (Addr × Obj)) (σ:St) (use:Option (Value→Sem Unit)) (Q:VK) (Qf:Value→Shared→Prop):Prop :=
 ∀ (acc C:Addr) (s6:Shared) (H6:Hp) (m6:Str→Option Value),s6.heap.Ns C m6→a6o X pins H6 C→(∀ h',Heap.SameBut C s6.heap h'→Inv X pins σ H6 { s6 with heap:=h' })→Q (.ref acc) H6 →
  compPost (model X.prog X.w) X.A X.xe use Qf (.ref acc) C (.ok .next) s6
theorem adc {pins:List (Addr × Obj)} {σ:St} {Q:VK}:a3j X pins σ none Q (EP X pins σ Q):=fun acc C s6 H6 m6 hn _ k q=>⟨m6,hn,fun h' sb=>⟨.ref acc,H6,k h' sb,rfl,q⟩⟩
theorem a7j {pins:List (Addr × Obj)} {σ:St} {D:Ends} {i:Nat} {x:Str} {pos':Pos} (hN:X.N.Nodup) (hi:X.N[i]? = some x) (hx:Loc X.env.scope x) (hf:X.fn x=true∨X.env.scope.names.lookup x=some .local) :
  a3j X pins σ (some (assign (.Name x pos') X.env)) (fun v H1=>a8f i v σ H1 D.nx) (fun _ s'=>SP X pins D .next s'):=by
 intro acc C s6 H6 m6 hn fp k q
 obtain ⟨f1,f2,f3,f4,f5,f6⟩:=fp
 have I6:Inv X pins σ H6 s6:=k s6.heap (Heap.SameBut.refl _ _)
 refine wpAny_assign_Name (a5b (v:=.ref acc) I6 hN hi hx rfl (fun s' I' ⟨a,sb,ha⟩=>⟨m6,hn.sameBut sb ?_,fun h' sb'=>⟨_,H6,I'.turned (t':=s'.toks) (it:=C) (fun b o hb e=>sb'.extBut b o hb e) f1 f2 f4 f5 f6,q⟩⟩) hf)
 rcases ha with ha | ha
 ·rw [ha];exact f2
 ·exact fun z=>f5 x a ha z.symm
theorem a5m {elt tg iter:Expr} {scope:Scope} {pos ppos:Pos} {cl:List (Str × Addr)} {ts fr:List Str} {ix:List Nat} {wi:TI} {g:TG} {te:TE} (hc:X.calm=true) (S:CSc X scope cl ts fr ix) (hi:PI X tg iter wi)
  (hg:∀ C fp s H,PG (cxC X (ts++fr) scope cl C fp s H) tg g) (he:∀ C fp s H,PE (cxC X (ts++fr) scope cl C fp s H) elt te) (hs:∀ x,foldedSetIterable iter X.env x=pure x)
  (use:Option (Value→Sem Unit)) {pins:List (Addr × Obj)} {s:Shared} {σ:St} {H:Hp} {Q:VK} {Qf:Value→Shared→Prop} (I:Inv X pins σ H s) (h:adb wi (lu ts.length ix) g te σ H Q) (fin:a3j X pins σ use Q Qf) :
  wpAny (model X.prog X.w) X.A (comprehension (.ListComp elt [⟨tg,iter,[],0⟩] scope pos) scope X.env ppos (newList []) false (eval iter X.env) use) Qf X.xe s:=by
 refine wpAny_comprehension_free (use:=use) rfl hs S.clos S.kind S.names (thn (hi pins s σ H _ I h) fun v s1 h1=>thn h1 fun itv s2 h2=>?_)
 obtain ⟨it,fp,tn,J,H2,e,I2,T,st2,f2,W,⟨m0,w0⟩,turn⟩:=h2
 subst e
 have hob:∀ b∈fp,b<s2.heap.objs.size:=fun b hb=>let ⟨o,e,_⟩:=T.obj _ _ st2 b hb;Heap.lt_size e
 refine wpAny_newObj_type (wpAny_newFunctionEnv S.nocell (by intro y hy;simp at hy) (fun h4 hns4 hsb4=>?_) S.kind)
 dsimp only at hns4 hsb4 ⊢
 generalize hH2:s2.heap.push { cls:=.type "list",dict:=none,data:=.seq ([]:List Value).toArray }=G at hns4 hsb4 ⊢
 have hCs:G.objs.size=s2.heap.objs.size+1:=by rw [← hH2,Heap.size_push]
 have hCle:s2.heap.objs.size≤G.objs.size:=by omega
 have hne:G.objs.size≠s2.heap.objs.size:=by omega
 have old:∀ b o,s2.heap.get? b=some o→h4.get? b=some o:=fun b o e=>by
  have hlt:=Heap.lt_size e
  exact hsb4.extBut b o (Nat.ne_of_lt (Nat.lt_of_lt_of_le hlt hCle)) (Heap.get?_push_of_some _ (hH2 ▸ Heap.get?_push_of_some _ e))
 have hacc:h4.get? s2.heap.objs.size=some { cls:=.type "list",data:=.seq ([]:List Value).toArray 0 } :=
  hsb4.extBut _ _ (Ne.symm hne) (Heap.get?_push_of_some _ (hH2 ▸ Heap.get?_push_size _ rfl))
 have K0:Inv (cxC X (ts++fr) scope cl G.objs.size fp s2 H2) [] (lu ts.length ix σ) H2 { s2 with heap:=h4,toks:=s2.toks+([]:List (Str × Value)).length } :=
  aa8 S I2 f2 hob hCle old hns4 rfl rfl
 have st4:tn 0 h4:=T.keep _ _ _ st2 fun b _ o e=>old b o e
 have accF:s2.heap.objs.size ∉ fp:=fun z=>Nat.lt_irrefl _ (hob _ z)
 have stat:∀ {H':Hp},(∀ b∈fp,H' b=none)→∀ b∈fp,a6o (cxC X (ts++fr) scope cl G.objs.size fp s2 H2) [] H' b:=fun hn b hb =>
  ⟨hn b hb,fun z=>by have h1:=hob b hb;have z':b=G.objs.size:=z;exact Nat.ne_of_lt (Nat.lt_of_lt_of_le h1 hCle) z',fun z=>(a5l S I2 f2 hob hCle).exfs b hb z, .inl hb,fun x c e=>(f2 b hb).2.2.2.2.1 x c (S.sub x c e),fun p hp=>absurd (show p∈([]:List (Addr × Obj)) from hp) (by simp)⟩
 have statA:∀ {H':Hp},H' s2.heap.objs.size=none→a6o (cxC X (ts++fr) scope cl G.objs.size fp s2 H2) [] H' s2.heap.objs.size:=fun hn =>
  ⟨hn,fun z=>hne (show G.objs.size=s2.heap.objs.size from z.symm),fun z=>by
   obtain ⟨_,o,ho,_⟩:=(a5l S I2 f2 hob hCle).funs.mem z
   exact Nat.lt_irrefl _ (Heap.lt_size ho), .inr (Nat.le_refl _),fun x c e z=>by
   obtain ⟨v,o,ho,_⟩:=I2.cell x c (S.sub x c e)
   rw [z] at ho
   exact Nat.lt_irrefl _ (Heap.lt_size ho),fun p hp=>absurd (show p∈([]:List (Addr × Obj)) from hp) (by simp)⟩
 have loop:∀ s4:Shared,s4={ s2 with heap:=h4,toks:=s2.toks+([]:List (Str × Value)).length } →
   codeAny (model X.prog X.w) X.A (.compLoop (.ListComp elt [⟨tg,iter,[],0⟩] scope pos) 0 (.ref it) (.ref s2.heap.objs.size) (compEnvC scope cl G.objs.size X.env))
    (compPost (model X.prog X.w) X.A X.xe use Qf (.ref s2.heap.objs.size) G.objs.size) s4:=by
  rintro s4 rfl
  refine aa7 (fun n s'=>∃ i σ' H' ys its k,Inv (cxC X (ts++fr) scope cl G.objs.size fp s2 H2) [] σ' H' s'∧Ext (lu ts.length ix σ) σ'∧tn i s'.heap∧(∀ b∈fp,H' b=none)∧H' s2.heap.objs.size=none ∧
   s'.heap.get? s2.heap.objs.size=some { cls:=.type "list",data:=.seq its.toArray k }∧Vals ys its∧ys.length≤sizeLine∧W i n ys H') ?_ m0
   ⟨0,_,H2,[],[],0,K0,⟨rfl,fun _ _ z=>z⟩,st4,fun b hb=>(f2 b hb).1,I2.hok.fresh (Nat.le_refl _),hacc, .nil,Nat.zero_le _,w0⟩
  rintro n s5 ⟨i,σ5,H5,ys,its,k5,I5,x5,st5,fr5,fa5,ac5,rv5,hz5,w5⟩
  have I5':Inv (cxC X (ts++fr) scope cl G.objs.size fp s2 H2) [] (lu ts.length ix σ) H5 s5:=I5.weak x5.1.symm x5.2
  rcases turn i n ys H5 w5 with ⟨stop,qn⟩ | ⟨go,hlt,step⟩
  ·refine thn (T.done (cxC X (ts++fr) scope cl G.objs.size fp s2 H2) rfl rfl rfl hc i [(s2.heap.objs.size,{ cls:=.type "list",data:=.seq its.toArray k5 })] s5 _ H5 _ (I5'.pins_of fun p hp=>?_) (fun b hb=>?_) st5 stop) fun r s6 ⟨hr,I6⟩=>?_
   ·have e:p=(s2.heap.objs.size,{ cls:=.type "list",data:=.seq its.toArray k5 }):=by simpa using hp
    subst e
    obtain ⟨a0,a1,a2,_⟩:=statA fa5
    exact ⟨ac5,a0,a1,a2,fun v z=>by cases z⟩
   ·obtain ⟨b0,b1,b2,b3,b4,b5⟩:=stat fr5 b hb
    refine ⟨b0,b1,b2,b3,b4,fun p hp=>?_⟩
    have e:p=(s2.heap.objs.size,{ cls:=.type "list",data:=.seq its.toArray k5 }):=by
     have hp':p∈[(s2.heap.objs.size,_)]:=hp
     simpa using hp'
    subst e
    exact fun z=>accF (by have z':s2.heap.objs.size=b:=z;rw [z'];exact hb)
   ·subst hr
    have e6:=(I6.pin (s2.heap.objs.size,{ cls:=.type "list",data:=.seq its.toArray k5 }) (by show _∈[]++[_];simp)).1
    obtain ⟨m6,hn6,_⟩:=I6.loc
    exact fin _ _ s6 _ m6 hn6 (I2.fpOk hCle (by rw [dw hne];exact I6.free)) (fun h' sb=>comp_back I2 f2 hCle (Nat.le_refl _) hne I6.unpinned' fa5 e6 rv5 hz5 sb) (qn _ fa5)
  ·refine thn (T.item (cxC X (ts++fr) scope cl G.objs.size fp s2 H2) rfl rfl rfl hc i [(s2.heap.objs.size,{ cls:=.type "list",data:=.seq its.toArray k5 })] s5 _ H5 _ (I5'.pins_of fun p hp=>?_) (fun b hb=>?_) st5 go) fun r s6 ⟨u,hr,h6⟩=>?_
   ·have e:p=(s2.heap.objs.size,{ cls:=.type "list",data:=.seq its.toArray k5 }):=by simpa using hp
    subst e
    obtain ⟨a0,a1,a2,_⟩:=statA fa5
    exact ⟨ac5,a0,a1,a2,fun v z=>by cases z⟩
   ·obtain ⟨b0,b1,b2,b3,b4,b5⟩:=stat fr5 b hb
    refine ⟨b0,b1,b2,b3,b4,fun p hp=>?_⟩
    have e:p=(s2.heap.objs.size,{ cls:=.type "list",data:=.seq its.toArray k5 }):=by
     have hp':p∈[(s2.heap.objs.size,_)]:=hp
     simpa using hp'
    subst e
    exact fun z=>accF (by have z':s2.heap.objs.size=b:=z;rw [z'];exact hb)
   ·subst hr
    refine thn h6 fun _ s7 ⟨x,H7,I7,r7,y7,st7,fr7⟩=>?_
    have fa7:H7 s2.heap.objs.size=none:=(I7.pin (s2.heap.objs.size,{ cls:=.type "list",data:=.seq its.toArray k5 }) (by show _∈[]++[_];simp)).2.1
    have ac7:=(I7.pin (s2.heap.objs.size,{ cls:=.type "list",data:=.seq its.toArray k5 }) (by show _∈[]++[_];simp)).1
    have I7':Inv (cxC X (ts++fr) scope cl G.objs.size fp s2 H2) ([]++a2i (s2.heap.objs.size::fp) s7.heap) (lu ts.length ix σ) H7 s7:=by
     refine Inv.pinned I7.unpinned' (fun b hb=>?_) fun b hb=>?_
     ·rcases List.mem_cons.mp hb with e | e
      ·subst e;exact statA fa7
      ·exact stat fr7 b e
     ·rcases List.mem_cons.mp hb with e | e
      ·subst e;exact ⟨_,ac7,fun v z=>by cases z⟩
      ·exact T.obj _ _ st7 b e
    refine thn (hg G.objs.size fp s2 H2 _ s7 _ H7 x u _ I7' r7 (step x H7 y7)) fun _ s8 ⟨σ8,H8,I8,x8,q8⟩=>?_
    refine thn (he G.objs.size fp s2 H2 _ s8 _ H8 _ I8 q8) fun yv s9 ⟨y,H9,I9,r9,m',hm',w9⟩=>?_
    obtain ⟨ac9,fa9,_⟩:=I9.pin (s2.heap.objs.size,{ cls:=.type "list",data:=.seq its.toArray k5 }) (by show _∈[]++([]++_);simp;exact lq List.mem_cons_self ac7)
    have keep9:∀ b∈fp,∀ o,s7.heap.get? b=some o→s9.heap.get? b=some o∧H9 b=none:=fun b hb o e=>by
     obtain ⟨z1,z2,_⟩:=I9.pin (b,o) (by show _∈[]++([]++_);simp;exact lq (List.mem_cons_of_mem _ hb) e)
     exact ⟨z1,z2⟩
    have hl:=rv5.length
    refine call_meets F.slot_list_append ⟨_,ac9,rfl⟩ F.entry_list_append (F.args_list_append_2 _ _) (PySem.list_append s2.heap.objs.size its.toArray k5 yv (by rw [List.size_toArray];omega)) ⟨ac9,?_⟩
    have q:=PySem.IsL.update ac9 (fun a=>a.push yv)
    have qo:∀ b o,b≠s2.heap.objs.size→s9.heap.get? b=some o→(s9.heap.update s2.heap.objs.size (Obj.mapSeq (fun a=>a.push yv))).get? b=some o:=fun b o hb e=>(Heap.get?_update_other s9.heap _ (Ne.symm hb)).trans e
    have q':∃ k,(s9.heap.update s2.heap.objs.size (Obj.mapSeq (fun a=>a.push yv))).get? s2.heap.objs.size=some { cls:=.type "list",data:=.seq (its++[yv]).toArray k }:=⟨_,by rw [q];simp;rfl⟩
    obtain ⟨k9,q9⟩:=q'
    obtain ⟨a0,a1,a2,a3,a4,a5⟩:=statA (show H9 s2.heap.objs.size=none from fa9)
    refine ⟨m',hm',i+1,σ8,H9,ys++[y],its++[yv],k9,(I9.unpinned').turned qo a0 a1 a3 a4 a5,x8,?_,?_,fa9,q9,rv5.append (.cons r9 .nil),?_,w9⟩
    ·refine T.keep _ _ _ st7 fun b hb o e=>qo b o (fun z=>accF (z ▸ hb)) (keep9 b hb o e).1
    ·intro b hb
     obtain ⟨o,e,_⟩:=T.obj _ _ st7 b hb
     exact (keep9 b hb o e).2
    ·rw [List.length_append,List.length_singleton];omega
 exact codeAny_compStart_list (loop _ rfl) (T.self _ 0 _ _ _ st4 (loop _ rfl))
theorem ade {elt tg iter:Expr} {scope:Scope} {pos:Pos} {cl:List (Str × Addr)} {ts fr:List Str} {ix:List Nat} {wi:TI} {g:TG} {te:TE} (hc:X.calm=true) (S:CSc X scope cl ts fr ix) (hi:PI X tg iter wi)
  (hg:∀ C fp s H,PG (cxC X (ts++fr) scope cl C fp s H) tg g) (he:∀ C fp s H,PE (cxC X (ts++fr) scope cl C fp s H) elt te)
  (hs:∀ x,foldedSetIterable iter X.env x=pure x:=by intro _;rfl) :
  PE X (.ListComp elt [⟨tg,iter,[],0⟩] scope pos) (adb wi (lu ts.length ix) g te):=by
 intro pins s σ H Q I h
 rw [eval_ListComp]
 exact a5m hc S hi hg he hs none I h adc
theorem adf {elt tg iter:Expr} {scope:Scope} {pos:Pos} {cl:List (Str × Addr)} {ts fr:List Str} {ix:List Nat} {wi:TI} {g:TG} {te:TE} {i:Nat} {x:Str} {pos' spos:Pos} (hN:X.N.Nodup) (hi':X.N[i]? = some x) (hx:Loc X.env.scope x) (hc:X.calm=true) (S:CSc X scope cl ts fr ix) (hi:PI X tg iter wi)
  (hg:∀ C fp s H,PG (cxC X (ts++fr) scope cl C fp s H) tg g) (he:∀ C fp s H,PE (cxC X (ts++fr) scope cl C fp s H) elt te)
  (hs:∀ x,foldedSetIterable iter X.env x=pure x:=by intro _;rfl) (hsw:swapsWith (.ListComp elt [⟨tg,iter,[],0⟩] scope pos) (some (.Name x pos')) spos.line X.env=pure true:=by rfl) (hf:X.fn x=true∨X.env.scope.names.lookup x=some .local:=by first | exact .inl rfl | exact .inr rfl | assumption) :
  PS X (.Assign [.Name x pos'] (.ListComp elt [⟨tg,iter,[],0⟩] scope pos) spos) (amx (adb wi (lu ts.length ix) g te) (a8f i)):=by
 intro pins s σ H D I h
 rw [exec_Assign_Name_used _ _ _ _ hsw]
 refine wpAny_bind (wpAny_standAt (wpAny_bind ?_))
 refine wpAny_bind (wpAny_mono (a5m hc S hi hg he hs (some (assign (.Name x pos') X.env)) I h (a7j hN hi' hx hf)) (fun _ s' hq=>wpAny_pure (wpAny_pure hq)) fun _ _ e=>e)
end
end L2
namespace L2
open PySem PySem.Spec PyProof.Rows
end L2
namespace L2
open PySem PySem.Spec
theorem w6:bootBuiltins "len" = some (.builtin "len"):=PySem.boot_len
theorem ik:bootBuiltins "isinstance" = some (.builtin "isinstance"):=by first | exact PySem.boot_isinstance | exact PyProof.Rows.boot_isinstance
theorem akr:bootBuiltins "str" = some (.type "str"):=by first | exact PySem.boot_str | exact PyProof.Rows.boot_str
theorem aks:bootBuiltins "all" = some (.builtin "all"):=by first | exact PySem.boot_all | exact PyProof.Rows.boot_all
theorem akt:bootBuiltins "abs" = some (.builtin "abs"):=by first | exact PySem.boot_abs | exact PyProof.Rows.boot_abs
theorem aft:bootBuiltins "int" = some (.type "int"):=by first | exact PySem.boot_int | exact PyProof.Rows.boot_int
theorem ahc:bootBuiltins "list" = some (.type "list"):=by first | exact PySem.boot_list | exact PyProof.Rows.boot_list
theorem zp:bootBuiltins "tuple" = some (.type "tuple"):=by first | exact PySem.boot_tuple | exact PyProof.Rows.boot_tuple
structure Dn (P:Program) (w:World) (K:PySem.W.Frag) (mg:Str→Option Value) (base:Heap) (k:Nat) (x:Str) (ps:List Str) (sp:Sp) (f:Addr) (fd:FuncData):Prop where
 ok:FnOk P w K mg base CX0 k f fd ps sp
 m:mg x=some (.ref f)
 kp:PySem.W.keepIn K (.ref f)=true
 b:Binds K fd ps []
theorem aog:sizeLine=16777216:=sizeLine_eq
theorem a6v {n:Nat} (h:n≤16777216):n≤sizeLine:=by rw [sizeLine_eq];exact h
end L2
namespace L2
open PySem PySem.Spec
theorem CSc.noFree {X:Cx} {scope:Scope} {ts:List Str} (kind:scope.kind = .function) (h:∀ y∈scope.names,y.2≠.cell∧y.2≠.free) (names:∀ y∈scope.names,y.2 = .local→scope.names.lookup y.1=some .local)
  (ht:∀ y∈ts,scope.names.lookup y=some .local):CSc X scope [] ts [] []:=by
 have e:(relabel scope X.env).names=scope.names:=by
  show scope.names.map _=_
  refine map_eq_self fun y hy=>?_
  obtain ⟨n,k⟩:=y
  have:(k == NameKind.free)=false:=by simpa using (h _ hy).2
  simp [this]
 refine ⟨closureFor_none fun y hy=>(h y hy).2,kind,fun y hy=>(h y hy).1,names,(fun _ _ z=>nomatch z),fun y z=>?_,fun y hy=>by rw [e];exact ht y hy,rfl,(fun _ _ z=>by simp at z)⟩
 rw [e] at z
 rcases z with z | z
 ·exact absurd rfl (h _ (PySem.mem_of_lookup z)).1
 ·exact absurd rfl (h _ (PySem.mem_of_lookup z)).2
theorem aoh (x y:Str):(x++y).cps.toList=x.cps.toList++y.cps.toList:=by
 show (x.cps++y.cps).toList=_
 simp
theorem aa9 {α:Type} (xs:List α) (k:Nat):a3i xs none (some (k:Int))=xs.take k:=by
 unfold a3i
 rw [HT.a7h,HT.a9y,List.drop_zero,Nat.sub_zero]
 by_cases h:k≤xs.length
 ·rw [Nat.min_eq_left h]
 ·rw [Nat.min_eq_right (by omega),List.take_of_length_le (Nat.le_refl _),List.take_of_length_le (by omega)]
theorem aaa {α:Type} (xs:List α) (k:Nat):a3i xs (some (k:Int)) none=xs.drop k:=by
 unfold a3i
 rw [HT.a7h,HT.a9y]
 by_cases h:k≤xs.length
 ·rw [Nat.min_eq_left h,List.take_of_length_le (by rw [List.length_drop];omega)]
 ·rw [Nat.min_eq_right (by omega),List.drop_eq_nil_of_le (Nat.le_refl _),List.drop_eq_nil_of_le (by omega),List.take_nil]
end L2
namespace L2
open PySem PySem.Spec PyProof.Rows
def aab (J:It) (s0:St) (g:TG) (tc:TT) (te:TE) (Q:VK) (H1:Hp):Prop:=∃ W:Nat→Nat→List V→Hp→Prop,(∃ m,W 0 m [] H1)∧∀ i m ys H,W i m ys H →
 (J.stop i H∧∀ p,H p=none→Q (.ref p) (upd H p (.lst ys))) ∨
 (J.go i H∧ys.length<sizeLine∧∀ x H',J.yld i H x H'→g x s0 H' fun σ2 H2=>Ext s0 σ2∧tc σ2 H2 fun ok H2'=>if ok=true then te σ2 H2' (fun y H3=>∃ m',m'<m∧W (i+1) m' (ys++[y]) H3) else ∃ m',m'<m∧W (i+1) m' ys H2')
def a6w (wi:TI) (s0:St→St) (g:TG) (tc:TT) (te:TE):TE:=fun σ H Q=>wi σ H fun J H1=>aab J (s0 σ) g tc te Q H1
theorem a1o (elt target iter cnd:Expr) (scope:Scope) (pos:Pos) (it acc:Value) (env:Env) :
  compTurn (.ListComp elt [⟨target,iter,[cnd],0⟩] scope pos) 0 it acc env=(standAt iter.pos>>=fun _=>pyNext it>>=fun r=>match r with
   | none=>pure (.done .next)
   | some v=>letOwnedTupleGo target it v>>=fun _=>assign target env v>>=fun _=>isTrue cnd env (eval cnd env)>>=fun ok =>
    (if ok=true then (eval elt env>>=fun x=>call (.builtin "list.append") [acc,x]>>=fun _=>pure ()) else pure ())>>=fun _ =>
     again (.compLoop (.ListComp elt [⟨target,iter,[cnd],0⟩] scope pos) 0 it acc env)):=by
 first
  | rfl
  | (unfold compTurn;simp only [List.getElem?_cons_zero];rfl)
  | (show (standAt iter.pos>>=fun _=>pyNext it>>=fun r=>_)=_
     congr 1;funext _;congr 1;funext r
     cases r with
     | none=>rfl
     | some v =>
      show (letOwnedTupleGo target it v>>=fun _=>assign target env v>>=fun _=>_)=(letOwnedTupleGo target it v>>=fun _=>assign target env v>>=fun _=>_)
      congr 1;funext _;congr 1;funext _
      simp
      congr 1;funext ok
      cases ok with
      | false=>rw [if_neg Bool.false_ne_true,if_neg Bool.false_ne_true,pure_bind]
      | true =>
       rw [if_pos rfl,if_pos rfl,bind_assoc]
       congr 1;funext x
       rw [map_eq_pure_bind,bind_assoc]
       congr 1)
theorem a8q {prog:Program} {w:World} {A:Around} {R:Result→Shared→Prop} {s:Shared} {elt target iter cnd:Expr} {scope:Scope} {pos:Pos} {it acc:Value} {env:Env} (J:Nat→Shared→Prop)
  (step:∀ m z,J m z→wpAny (model prog w) A (pyNext it) (fun got z1=>match got with
   | none=>R (.ok .next) z1
   | some v=>wpAny (model prog w) A (letOwnedTupleGo target it v) (fun _ z2=>wpAny (model prog w) A (assign target env v) (fun _ z3=>wpAny (model prog w) A (isTrue cnd env (eval cnd env)) (fun ok z3'=>if ok=true then wpAny (model prog w) A (eval elt env) (fun x z4 =>
     wpAny (model prog w) A (call (.builtin "list.append") [acc,x]) (fun _ z5=>∃ m',m'<m∧J m' z5) (fun _ _=>False) z4)
     (fun _ _=>False) z3' else ∃ m',m'<m∧J m' z3') (fun _ _=>False) z3) (fun _ _=>False) z2) (fun _ _=>False) z1) (fun _ _=>False) z)
  (m:Nat) (j0:J m s):codeAny (model prog w) A (.compLoop (.ListComp elt [⟨target,iter,[cnd],0⟩] scope pos) 0 it acc env) R s:=by
 refine codeAny_loop rfl J (fun m z hj=>(wpAny_noted ?_:wpAny _ _ ((compTurn (.ListComp elt [⟨target,iter,[cnd],0⟩] scope pos) 0 it acc env).onRaise _) _ _ z)) m j0
 rw [a1o]
 refine wpAny_bind (wpAny_standAt (wpAny_bind (wpAny_mono (step m z hj) (fun got z1 h1=>?_) fun _ _ no=>no.elim)))
 match got,h1 with
 | none,h1=>exact wpAny_pure h1
 | some v,h1 =>
  refine wpAny_bind (wpAny_mono h1 (fun _ z2 h2=>wpAny_bind (wpAny_mono h2 (fun _ z3 h3=>wpAny_bind (wpAny_mono h3 (fun ok z3' h3'=>?_) fun _ _ no=>no.elim)) fun _ _ no=>no.elim)) fun _ _ no=>no.elim)
  match ok,h3' with
  | true,h3' =>
   rw [if_pos rfl] at h3'
   refine wpAny_bind (wpAny_bind (wpAny_mono h3' (fun x z4 h4=>?_) fun _ _ no=>no.elim))
   exact wpAny_bind (wpAny_mono h4 (fun _ z5 h5=>wpAny_pure (wpAny_pure ⟨rfl,h5⟩)) fun _ _ no=>no.elim)
  | false,h3' =>
   rw [if_neg Bool.false_ne_true] at h3'
   exact wpAny_bind (wpAny_pure (wpAny_pure ⟨rfl,h3'⟩))
section
variable {X:Cx}
theorem a6x {elt tg iter cnd:Expr} {scope:Scope} {pos ppos:Pos} {cl:List (Str × Addr)} {ts fr:List Str} {ix:List Nat} {wi:TI} {g:TG} {tc:TT} {te:TE} (hc:X.calm=true) (S:CSc X scope cl ts fr ix) (hi:PI X tg iter wi)
  (hg:∀ C fp s H,PG (cxC X (ts++fr) scope cl C fp s H) tg g) (he:∀ C fp s H,PE (cxC X (ts++fr) scope cl C fp s H) elt te) (ht:∀ C fp s H,PT (cxC X (ts++fr) scope cl C fp s H) cnd tc) (hs:∀ x,foldedSetIterable iter X.env x=pure x)
  (use:Option (Value→Sem Unit)) {pins:List (Addr × Obj)} {s:Shared} {σ:St} {H:Hp} {Q:VK} {Qf:Value→Shared→Prop} (I:Inv X pins σ H s) (h:a6w wi (lu ts.length ix) g tc te σ H Q) (fin:a3j X pins σ use Q Qf) :
  wpAny (model X.prog X.w) X.A (comprehension (.ListComp elt [⟨tg,iter,[cnd],0⟩] scope pos) scope X.env ppos (newList []) false (eval iter X.env) use) Qf X.xe s:=by
 refine wpAny_comprehension_free (use:=use) rfl hs S.clos S.kind S.names (thn (hi pins s σ H _ I h) fun v s1 h1=>thn h1 fun itv s2 h2=>?_)
 obtain ⟨it,fp,tn,J,H2,e,I2,T,st2,f2,W,⟨m0,w0⟩,turn⟩:=h2
 subst e
 have hob:∀ b∈fp,b<s2.heap.objs.size:=fun b hb=>let ⟨o,e,_⟩:=T.obj _ _ st2 b hb;Heap.lt_size e
 refine wpAny_newObj_type (wpAny_newFunctionEnv S.nocell (by intro y hy;simp at hy) (fun h4 hns4 hsb4=>?_) S.kind)
 dsimp only at hns4 hsb4 ⊢
 generalize hH2:s2.heap.push { cls:=.type "list",dict:=none,data:=.seq ([]:List Value).toArray }=G at hns4 hsb4 ⊢
 have hCs:G.objs.size=s2.heap.objs.size+1:=by rw [← hH2,Heap.size_push]
 have hCle:s2.heap.objs.size≤G.objs.size:=by omega
 have hne:G.objs.size≠s2.heap.objs.size:=by omega
 have old:∀ b o,s2.heap.get? b=some o→h4.get? b=some o:=fun b o e=>by
  have hlt:=Heap.lt_size e
  exact hsb4.extBut b o (Nat.ne_of_lt (Nat.lt_of_lt_of_le hlt hCle)) (Heap.get?_push_of_some _ (hH2 ▸ Heap.get?_push_of_some _ e))
 have hacc:h4.get? s2.heap.objs.size=some { cls:=.type "list",data:=.seq ([]:List Value).toArray 0 } :=
  hsb4.extBut _ _ (Ne.symm hne) (Heap.get?_push_of_some _ (hH2 ▸ Heap.get?_push_size _ rfl))
 have K0:Inv (cxC X (ts++fr) scope cl G.objs.size fp s2 H2) [] (lu ts.length ix σ) H2 { s2 with heap:=h4,toks:=s2.toks+([]:List (Str × Value)).length } :=
  aa8 S I2 f2 hob hCle old hns4 rfl rfl
 have st4:tn 0 h4:=T.keep _ _ _ st2 fun b _ o e=>old b o e
 have accF:s2.heap.objs.size ∉ fp:=fun z=>Nat.lt_irrefl _ (hob _ z)
 have stat:∀ {H':Hp},(∀ b∈fp,H' b=none)→∀ b∈fp,a6o (cxC X (ts++fr) scope cl G.objs.size fp s2 H2) [] H' b:=fun hn b hb =>
  ⟨hn b hb,fun z=>by have h1:=hob b hb;have z':b=G.objs.size:=z;exact Nat.ne_of_lt (Nat.lt_of_lt_of_le h1 hCle) z',fun z=>(a5l S I2 f2 hob hCle).exfs b hb z, .inl hb,fun x c e=>(f2 b hb).2.2.2.2.1 x c (S.sub x c e),fun p hp=>absurd (show p∈([]:List (Addr × Obj)) from hp) (by simp)⟩
 have statA:∀ {H':Hp},H' s2.heap.objs.size=none→a6o (cxC X (ts++fr) scope cl G.objs.size fp s2 H2) [] H' s2.heap.objs.size:=fun hn =>
  ⟨hn,fun z=>hne (show G.objs.size=s2.heap.objs.size from z.symm),fun z=>by
   obtain ⟨_,o,ho,_⟩:=(a5l S I2 f2 hob hCle).funs.mem z
   exact Nat.lt_irrefl _ (Heap.lt_size ho), .inr (Nat.le_refl _),fun x c e z=>by
   obtain ⟨v,o,ho,_⟩:=I2.cell x c (S.sub x c e)
   rw [z] at ho
   exact Nat.lt_irrefl _ (Heap.lt_size ho),fun p hp=>absurd (show p∈([]:List (Addr × Obj)) from hp) (by simp)⟩
 have loop:∀ s4:Shared,s4={ s2 with heap:=h4,toks:=s2.toks+([]:List (Str × Value)).length } →
   codeAny (model X.prog X.w) X.A (.compLoop (.ListComp elt [⟨tg,iter,[cnd],0⟩] scope pos) 0 (.ref it) (.ref s2.heap.objs.size) (compEnvC scope cl G.objs.size X.env))
    (compPost (model X.prog X.w) X.A X.xe use Qf (.ref s2.heap.objs.size) G.objs.size) s4:=by
  rintro s4 rfl
  refine a8q (fun n s'=>∃ i σ' H' ys its k,Inv (cxC X (ts++fr) scope cl G.objs.size fp s2 H2) [] σ' H' s'∧Ext (lu ts.length ix σ) σ'∧tn i s'.heap∧(∀ b∈fp,H' b=none)∧H' s2.heap.objs.size=none ∧
   s'.heap.get? s2.heap.objs.size=some { cls:=.type "list",data:=.seq its.toArray k }∧Vals ys its∧ys.length≤sizeLine∧W i n ys H') ?_ m0
   ⟨0,_,H2,[],[],0,K0,⟨rfl,fun _ _ z=>z⟩,st4,fun b hb=>(f2 b hb).1,I2.hok.fresh (Nat.le_refl _),hacc, .nil,Nat.zero_le _,w0⟩
  rintro n s5 ⟨i,σ5,H5,ys,its,k5,I5,x5,st5,fr5,fa5,ac5,rv5,hz5,w5⟩
  have I5':Inv (cxC X (ts++fr) scope cl G.objs.size fp s2 H2) [] (lu ts.length ix σ) H5 s5:=I5.weak x5.1.symm x5.2
  rcases turn i n ys H5 w5 with ⟨stop,qn⟩ | ⟨go,hlt,step⟩
  ·refine thn (T.done (cxC X (ts++fr) scope cl G.objs.size fp s2 H2) rfl rfl rfl hc i [(s2.heap.objs.size,{ cls:=.type "list",data:=.seq its.toArray k5 })] s5 _ H5 _ (I5'.pins_of fun p hp=>?_) (fun b hb=>?_) st5 stop) fun r s6 ⟨hr,I6⟩=>?_
   ·have e:p=(s2.heap.objs.size,{ cls:=.type "list",data:=.seq its.toArray k5 }):=by simpa using hp
    subst e
    obtain ⟨a0,a1,a2,_⟩:=statA fa5
    exact ⟨ac5,a0,a1,a2,fun v z=>by cases z⟩
   ·obtain ⟨b0,b1,b2,b3,b4,b5⟩:=stat fr5 b hb
    refine ⟨b0,b1,b2,b3,b4,fun p hp=>?_⟩
    have e:p=(s2.heap.objs.size,{ cls:=.type "list",data:=.seq its.toArray k5 }):=by
     have hp':p∈[(s2.heap.objs.size,_)]:=hp
     simpa using hp'
    subst e
    exact fun z=>accF (by have z':s2.heap.objs.size=b:=z;rw [z'];exact hb)
   ·subst hr
    have e6:=(I6.pin (s2.heap.objs.size,{ cls:=.type "list",data:=.seq its.toArray k5 }) (by show _∈[]++[_];simp)).1
    obtain ⟨m6,hn6,_⟩:=I6.loc
    exact fin _ _ s6 _ m6 hn6 (I2.fpOk hCle (by rw [dw hne];exact I6.free)) (fun h' sb=>comp_back I2 f2 hCle (Nat.le_refl _) hne I6.unpinned' fa5 e6 rv5 hz5 sb) (qn _ fa5)
  ·refine thn (T.item (cxC X (ts++fr) scope cl G.objs.size fp s2 H2) rfl rfl rfl hc i [(s2.heap.objs.size,{ cls:=.type "list",data:=.seq its.toArray k5 })] s5 _ H5 _ (I5'.pins_of fun p hp=>?_) (fun b hb=>?_) st5 go) fun r s6 ⟨u,hr,h6⟩=>?_
   ·have e:p=(s2.heap.objs.size,{ cls:=.type "list",data:=.seq its.toArray k5 }):=by simpa using hp
    subst e
    obtain ⟨a0,a1,a2,_⟩:=statA fa5
    exact ⟨ac5,a0,a1,a2,fun v z=>by cases z⟩
   ·obtain ⟨b0,b1,b2,b3,b4,b5⟩:=stat fr5 b hb
    refine ⟨b0,b1,b2,b3,b4,fun p hp=>?_⟩
    have e:p=(s2.heap.objs.size,{ cls:=.type "list",data:=.seq its.toArray k5 }):=by
     have hp':p∈[(s2.heap.objs.size,_)]:=hp
     simpa using hp'
    subst e
    exact fun z=>accF (by have z':s2.heap.objs.size=b:=z;rw [z'];exact hb)
   ·subst hr
    refine thn h6 fun _ s7 ⟨x,H7,I7,r7,y7,st7,fr7⟩=>?_
    have fa7:H7 s2.heap.objs.size=none:=(I7.pin (s2.heap.objs.size,{ cls:=.type "list",data:=.seq its.toArray k5 }) (by show _∈[]++[_];simp)).2.1
    have ac7:=(I7.pin (s2.heap.objs.size,{ cls:=.type "list",data:=.seq its.toArray k5 }) (by show _∈[]++[_];simp)).1
    have I7':Inv (cxC X (ts++fr) scope cl G.objs.size fp s2 H2) ([]++a2i (s2.heap.objs.size::fp) s7.heap) (lu ts.length ix σ) H7 s7:=by
     refine Inv.pinned I7.unpinned' (fun b hb=>?_) fun b hb=>?_
     ·rcases List.mem_cons.mp hb with e | e
      ·subst e;exact statA fa7
      ·exact stat fr7 b e
     ·rcases List.mem_cons.mp hb with e | e
      ·subst e;exact ⟨_,ac7,fun v z=>by cases z⟩
      ·exact T.obj _ _ st7 b e
    refine thn (hg G.objs.size fp s2 H2 _ s7 _ H7 x u _ I7' r7 (step x H7 y7)) fun _ s8 ⟨σ8,H8,I8,x8,q8⟩=>?_
    refine thn (ht G.objs.size fp s2 H2 _ s8 _ H8 _ I8 q8) fun ok s8' ⟨H8',I8',q8'⟩=>?_
    cases ok with
    | false =>
     rw [if_neg Bool.false_ne_true] at q8' ⊢
     obtain ⟨m',hm',w9⟩:=q8'
     obtain ⟨ac9,fa9,_⟩:=I8'.pin (s2.heap.objs.size,{ cls:=.type "list",data:=.seq its.toArray k5 }) (by show _∈[]++([]++_);simp;exact lq List.mem_cons_self ac7)
     have keep9:∀ b∈fp,∀ o,s7.heap.get? b=some o→s8'.heap.get? b=some o∧H8' b=none:=fun b hb o e=>by
      obtain ⟨z1,z2,_⟩:=I8'.pin (b,o) (by show _∈[]++([]++_);simp;exact lq (List.mem_cons_of_mem _ hb) e)
      exact ⟨z1,z2⟩
     refine ⟨m',hm',i+1,σ8,H8',ys,its,k5,I8'.unpinned',x8,?_,?_,fa9,ac9,rv5,hz5,w9⟩
     ·exact T.keep _ _ _ st7 fun b hb o e=>(keep9 b hb o e).1
     ·intro b hb
      obtain ⟨o,e,_⟩:=T.obj _ _ st7 b hb
      exact (keep9 b hb o e).2
    | true =>
     rw [if_pos rfl] at q8' ⊢
     refine thn (he G.objs.size fp s2 H2 _ s8' _ H8' _ I8' q8') fun yv s9 ⟨y,H9,I9,r9,m',hm',w9⟩=>?_
     obtain ⟨ac9,fa9,_⟩:=I9.pin (s2.heap.objs.size,{ cls:=.type "list",data:=.seq its.toArray k5 }) (by show _∈[]++([]++_);simp;exact lq List.mem_cons_self ac7)
     have keep9:∀ b∈fp,∀ o,s7.heap.get? b=some o→s9.heap.get? b=some o∧H9 b=none:=fun b hb o e=>by
      obtain ⟨z1,z2,_⟩:=I9.pin (b,o) (by show _∈[]++([]++_);simp;exact lq (List.mem_cons_of_mem _ hb) e)
      exact ⟨z1,z2⟩
     have hl:=rv5.length
     refine call_meets F.slot_list_append ⟨_,ac9,rfl⟩ F.entry_list_append (F.args_list_append_2 _ _) (PySem.list_append s2.heap.objs.size its.toArray k5 yv (by rw [List.size_toArray];omega)) ⟨ac9,?_⟩
     have q:=PySem.IsL.update ac9 (fun a=>a.push yv)
     have qo:∀ b o,b≠s2.heap.objs.size→s9.heap.get? b=some o→(s9.heap.update s2.heap.objs.size (Obj.mapSeq (fun a=>a.push yv))).get? b=some o:=fun b o hb e=>(Heap.get?_update_other s9.heap _ (Ne.symm hb)).trans e
     have q':∃ k,(s9.heap.update s2.heap.objs.size (Obj.mapSeq (fun a=>a.push yv))).get? s2.heap.objs.size=some { cls:=.type "list",data:=.seq (its++[yv]).toArray k }:=⟨_,by rw [q];simp;rfl⟩
     obtain ⟨k9,q9⟩:=q'
     obtain ⟨a0,a1,a2,a3,a4,a5⟩:=statA (show H9 s2.heap.objs.size=none from fa9)
     refine ⟨m',hm',i+1,σ8,H9,ys++[y],its++[yv],k9,(I9.unpinned').turned qo a0 a1 a3 a4 a5,x8,?_,?_,fa9,q9,rv5.append (.cons r9 .nil),?_,w9⟩
     ·refine T.keep _ _ _ st7 fun b hb o e=>qo b o (fun z=>accF (z ▸ hb)) (keep9 b hb o e).1
     ·intro b hb
      obtain ⟨o,e,_⟩:=T.obj _ _ st7 b hb
      exact (keep9 b hb o e).2
     ·rw [List.length_append,List.length_singleton];omega
 exact codeAny_compStart_list (loop _ rfl) (T.self _ 0 _ _ _ st4 (loop _ rfl))
theorem a8r {elt tg iter cnd:Expr} {scope:Scope} {pos:Pos} {cl:List (Str × Addr)} {ts fr:List Str} {ix:List Nat} {wi:TI} {g:TG} {tc:TT} {te:TE} {i:Nat} {x:Str} {pos' spos:Pos} (hN:X.N.Nodup) (hi':X.N[i]? = some x) (hx:Loc X.env.scope x) (hc:X.calm=true) (S:CSc X scope cl ts fr ix) (hi:PI X tg iter wi)
  (hg:∀ C fp s H,PG (cxC X (ts++fr) scope cl C fp s H) tg g) (he:∀ C fp s H,PE (cxC X (ts++fr) scope cl C fp s H) elt te) (ht:∀ C fp s H,PT (cxC X (ts++fr) scope cl C fp s H) cnd tc)
  (hs:∀ x,foldedSetIterable iter X.env x=pure x:=by intro _;rfl) (hsw:swapsWith (.ListComp elt [⟨tg,iter,[cnd],0⟩] scope pos) (some (.Name x pos')) spos.line X.env=pure true:=by rfl) (hf:X.fn x=true∨X.env.scope.names.lookup x=some .local:=by first | exact .inl rfl | exact .inr rfl | assumption) :
  PS X (.Assign [.Name x pos'] (.ListComp elt [⟨tg,iter,[cnd],0⟩] scope pos) spos) (amx (a6w wi (lu ts.length ix) g tc te) (a8f i)):=by
 intro pins s σ H D I h
 rw [exec_Assign_Name_used _ _ _ _ hsw]
 refine wpAny_bind (wpAny_standAt (wpAny_bind ?_))
 refine wpAny_bind (wpAny_mono (a6x hc S hi hg he ht hs (some (assign (.Name x pos') X.env)) I h (a7j hN hi' hx hf)) (fun _ s' hq=>wpAny_pure (wpAny_pure hq)) fun _ _ e=>e)
end
end L2
namespace L2
open PySem PySem.Spec PyProof.Rows
section
variable {X:Cx}
def zq (T:Str) (c:Nat):Int:=Txt.find T ⟨#[c]⟩
theorem a6y (s sub:Str) (hi limit:Nat):∀ (l:List Nat) (st:Array Nat × Nat) (k:Nat),k∈(forIn l st (StrLaws.occBody s sub hi limit)).run.fst.toList→k∈st.fst.toList∨(k+sub.length≤hi∧Builtin.Str.subAt s sub k=true)
 | [],st,k,h=>.inl h
 | a::l,st,k,h=>by
  rw [List.forIn_cons] at h
  unfold StrLaws.occBody at h
  split at h
  ·rename_i c
   rcases a6y s sub hi limit l _ k h with z | z
   ·simp at z
    rcases z with z | z
    ·exact .inl (by simpa using z)
    ·subst z;exact .inr ⟨c.1.2,c.2⟩
   ·exact .inr z
  ·rcases a6y s sub hi limit l _ k h with z | z
   ·exact .inl z
   ·exact .inr z
theorem a7k {T:Str} {c:Nat} (h:c∈T.cps.toList):∃ i:Nat,zq T c=(i:Int)∧T.cps.toList[i]? = some c∧∃ rest,Builtin.Str.occurrences T ⟨#[c]⟩ 0 T.length 1=i::rest:=by
 have h1:=StrLaws.found_one T c
 rw [decide_eq_true h] at h1
 cases ho:Builtin.Str.occurrences T ⟨#[c]⟩ 0 T.length 1 with
 | nil=>rw [ho] at h1;cases h1
 | cons i rest =>
  refine ⟨i,by simp [zq,Txt.find,ho],?_,rest,rfl⟩
  rw [StrLaws.occ_eq] at ho
  have hm:=a6y T ⟨#[c]⟩ T.length 1 (List.range' 0 (T.length+1 - 0)) (#[],0) i (by rw [ho];exact List.mem_cons_self)
  rcases hm with z | z
  ·simp at z
  ·exact (StrLaws.subAt_one T c i).mp z
theorem ahd:OpR X (compareOp .In) (fun x y H Q=>∃ c T,x = .str ⟨#[c]⟩∧y = .str T∧Q (.bl (decide (c∈T.cps.toList))) H):=by
 intro pins s σ H x y v u Q I rx ry h
 obtain ⟨c,T,rfl,rfl,q⟩:=h
 exact a9q pins s σ H _ _ v u Q I rx ry ⟨_,_,rfl,rfl,by rw [StrLaws.found_one];exact q⟩
theorem a2m:OpR X (compareOp .NotIn) (fun x y H Q=>∃ c T,x = .str ⟨#[c]⟩∧y = .str T∧Q (.bl (!decide (c∈T.cps.toList))) H):=by
 intro pins s σ H x y v u Q I rx ry h
 obtain ⟨c,T,rfl,rfl,q⟩:=h
 exact a5c pins s σ H _ _ v u Q I rx ry ⟨_,_,rfl,rfl,by rw [StrLaws.found_one];exact q⟩
theorem ahe:MtR X "str.find" (fun x xs H Q=>∃ T c,x = .str T∧xs=[.str ⟨#[c]⟩]∧Q (.int (zq T c)) H):=by
 intro pins s σ H x xs v us Q I rx rs h
 obtain ⟨T,c,rfl,rfl,q⟩:=h
 obtain ⟨t,rfl⟩:=rx
 obtain ⟨u,rfl,t',rfl⟩:=vals1 rs
 exact call_meets F.slot_str_find (typeIs_str _ _ _) F.entry_str_find (F.args_str_find_2 _ _) (gives_str_find _ _ _ _).meets ⟨.int (zq T c),H,I.tok _,⟨_,rfl⟩,q⟩
theorem adg:MtR X "str.index" (fun x xs H Q=>∃ T c,x = .str T∧xs=[.str ⟨#[c]⟩]∧c∈T.cps.toList∧Q (.int (zq T c)) H):=by
 intro pins s σ H x xs v us Q I rx rs h
 obtain ⟨T,c,rfl,rfl,hc,q⟩:=h
 obtain ⟨t,rfl⟩:=rx
 obtain ⟨u,rfl,t',rfl⟩:=vals1 rs
 obtain ⟨i,e1,e2,rest,ho⟩:=a7k hc
 refine call_meets F.slot_str_index (typeIs_str _ _ _) F.entry_str_index (F.args_str_index_2 _ _) (gives_str_index _ _ _ _ i rest ho).meets ⟨.int (zq T c),H,I.tok _,⟨_,by rw [e1]⟩,q⟩
theorem ahf {zs:List Str}:∀ {us:List Value},Vals (zs.map V.str) us→StrsAre us zs:=by
 induction zs with
 | nil=>intro us r;rw [List.map_nil] at r;cases r;exact .nil
 | cons z zs ih =>
  intro us r
  rw [List.map_cons] at r
  cases r with
  | cons r1 r2 =>
   obtain ⟨t,e⟩:=r1
   subst e
   exact .cons z t (ih r2)
theorem ahg:MtR X "str.join" (fun x xs H Q=>∃ sep p zs,x = .str sep∧xs=[.ref p]∧SqL X.K H p (zs.map V.str)∧(zs.map (·.length)).sum+zs.length*sep.length≤16777216∧Q (.str (Txt.join sep zs)) H):=by
 intro pins s σ H x xs v us Q I rx rs h
 obtain ⟨sep,p,zs,rfl,rfl,hp,hz,q⟩:=h
 obtain ⟨t,rfl⟩:=rx
 obtain ⟨u,rfl,ru⟩:=vals1 rs
 cases ru
 obtain ⟨its,r,pl,_⟩:=I.list hp
 exact join_list pl.isList (by simpa using ahf r) hz fun t' k=>⟨.str _,H,I.tok _,⟨_,rfl⟩,q⟩
end
theorem CSc.of {X:Cx} {scope:Scope} {cl:List (Str × Addr)} {ts fr:List Str} {ix:List Nat} (clos:closureFor scope X.env=pure cl) (kind:scope.kind = .function)
  (nocell:(scope.names.all fun p=>p.2 != .cell)=true) (names:(scope.names.all fun p=>p.2 != .local || scope.names.lookup p.1 == some .local)=true) (sub:∀ p∈cl,X.env.cells.lookup p.1=some p.2)
  (has:((relabel scope X.env).names.all fun p => !(p.2 == .cell || p.2 == .free) || (cl.lookup p.1).isSome)=true) (nofn:(ts.all fun y=>(relabel scope X.env).names.lookup y == some .local)=true)
  (len:ix.length=fr.length) (vis:((fr.zip ix).all fun p=>X.N[p.2]? == some p.1 && (X.env.kindOf p.1 == some .cell || X.env.kindOf p.1 == some .free) && ((relabel scope X.env).names.lookup p.1 == some .cell || (relabel scope X.env).names.lookup p.1 == some .free))=true) :
  CSc X scope cl ts fr ix:=by
 refine ⟨clos,kind,fun y hy=>?_,fun y hy e=>?_,fun y c e=>sub _ (PySem.mem_of_lookup e),fun y z=>?_,fun y hy=>?_,len,fun j y e=>?_⟩
 ·have:=List.all_eq_true.mp nocell y hy
  simpa using this
 ·have:=List.all_eq_true.mp names y hy
  rw [e] at this
  simpa using this
 ·have key:∀ k,(relabel scope X.env).names.lookup y=some k→(k == .cell || k == .free)=true→∃ c,cl.lookup y=some c:=fun k e hk=>by
   have:=List.all_eq_true.mp has _ (PySem.mem_of_lookup e)
   rw [hk] at this
   exact Option.isSome_iff_exists.mp (by simpa using this)
  rcases z with z | z
  ·exact key _ z rfl
  ·exact key _ z rfl
 ·have:=List.all_eq_true.mp nofn y hy
  simpa using this
 ·obtain ⟨hj,_⟩:=List.getElem?_eq_some_iff.mp e
  have hj2:j<ix.length:=by omega
  have hm:(y,ix[j])∈fr.zip ix:=by
   rw [List.mem_iff_getElem?]
   exact ⟨j,by rw [List.getElem?_zip_eq_some];exact ⟨e,List.getElem?_eq_getElem hj2⟩⟩
  have:=List.all_eq_true.mp vis _ hm
  simp only [Bool.and_eq_true,Bool.or_eq_true,beq_iff_eq] at this
  exact ⟨ix[j],List.getElem?_eq_getElem hj2,this.1.1,this.1.2,this.2⟩
end L2
namespace HT
open PySem PySem.Spec PyProof.Rows
end HT
namespace L2
open PySem PySem.Spec PyProof.Rows
end L2
namespace L2
open PySem PySem.Spec PyProof.Rows
def tSM (r:V→List V→Hp→VK→Prop) (to:TE) (t:TA):TE:=fun σ H Q=>to σ H fun x H1=>(∃ z,x = .str z)∧t σ H1 fun xs H2=>r x xs H2 Q
theorem aoi {X:Cx} {o e:Expr} {es:List Expr} {to:TE} {t:TA} {name:Str} {apos cpos:Pos} {id:String} {r:V→List V→Hp→VK→Prop} (slot:Slot "str" name id) (hty:typeOf (.builtin id)=pure (.type "method_descriptor")) (hm:MtR X id r) (ho:PE X o to) (ha:PA X (e::es) t)
  (hbase:attributeBase o name X.env (eval o X.env)=eval o X.env:=by rfl)
  (hfew:((backTo cpos (starEach (e::es) X.env)).all (fun x => !x.1) && (backToKw cpos (keywordEach [] X.env)).all (fun x=>x.1.isSome)
   && decide ((e::es).length+([]:List Keyword).length+(if ([]:List Keyword).isEmpty then 0 else 1)<30))=true:=by rfl)
  (hline:(apos.endLine == cpos.line)=true:=by rfl) (hs:starEach (e::es) X.env=(false,eval e X.env)::starEach es X.env:=by rfl) (hplain:(backTo cpos (starEach es X.env)).any (·.1)=false:=by rfl) :
  PE X (.Call (.Attribute o name apos) (e::es) [] cpos) (tSM r to t):=by
 intro pins s σ H Q I h
 refine wpAny_Call_method_late hbase hfew hline rfl (thn (ho pins s σ H _ I h) fun v s1 ⟨x,H1,I1,r1,⟨z,hz⟩,q1⟩=>?_)
 subst hz
 obtain ⟨h1,h2⟩:=afq (T := "str") I1 r1 rfl
 refine ⟨"str",id,PySem.F.plainAttrs_str,slot,hty,h1,h2,?_⟩
 have hA:=ha cpos pins s1 σ H1 _ I1 q1
 rw [hs] at hA ⊢
 refine Calls.callWith_builtin (by show (false || (backTo cpos (starEach es X.env)).any (·.1))=false;rw [hplain]<;>rfl) (Calls.evalArgs_plain ?_)
 exact thn hA fun us s2 ⟨vs,H2,I2,r2,q2⟩=>hm pins s2 σ H2 _ vs v us Q I2 r1 r2 q2
end L2
namespace L2
open PySem PySem.Spec PyProof.Rows
section
variable {X:Cx}
theorem a8s (hc:X.calm=true):CallR X (.builtin "sum") (fun xs H Q=>∃ (p:Addr) (ns:List Int),xs=[.ref p]∧SqL X.K H p (ns.map V.int)∧Q (.int ns.sum) H):=by
 intro pins s σ H xs us Q I r h
 obtain ⟨p,ns,rfl,hq,q⟩:=h
 obtain ⟨u,rfl,rx⟩:=vals1 r
 cases rx
 obtain ⟨its,r',pl,hz⟩:=I.list hq
 have hInts:IntsAre its ns:=intsAre_of r'
 obtain ⟨prs,ep⟩:=hInts.allInts.items
 refine sum_intListG (xs:=prs) (I.ok.hd hc) (ep ▸ pl.isList) fun h' tk t' hk=>⟨.int ns.sum,H,I.kept hk,⟨t',?_⟩,q⟩
 have nums:prs.toList.map (·.1)=ns:=by
  rw [← nums_intItems,← ep]
  exact hInts.numsOf
 have tot:preSum (numAt prs) prs.size=ns.sum:=by
  rw [preSum_eq,← nums]
  congr 1
  exact List.take_of_length_le (by simp)
 rw [tot]
end
end L2
namespace SHP
open PySem L2
end SHP
namespace L2
open PySem PySem.Spec PyProof.Rows
end L2
namespace L2
open PySem PySem.Spec PyProof.Rows
end L2
namespace SHP
open PySem L2
end SHP
namespace MI
open PySem L2
inductive D where
 | non | bl (b:Bool) | int (i:Int) | str (x:Str) | ty (n:String) | tup (xs:List D) | rol (xs:List D) | ref (i:Nat) | scr (xs:List D) | rod (ks:List Key) (xs:List D) | rdT (ks:List (List Key)) (xs:List D) | exc (c:Str)
inductive O where
 | lst (xs:List D) | dK (kvs:List (Key × D)) | dT (kvs:List (List Key × D))
abbrev Hd:=List O
abbrev Sd:=List (Option D)
inductive R (α:Type) where
 | ok (a:α) (h:Hd) | ex (c:Str) (h:Hd) | no
def R.bind {α β:Type}:R α→(α→Hd→R β)→R β
 | .ok a h,k=>k a h
 | .ex c h,_=>.ex c h
 | .no,_=>.no
inductive Fl where
 | nx (σ:Sd) (h:Hd) | rt (d:D) (h:Hd) | bk (σ:Sd) (h:Hd) | ct (σ:Sd) (h:Hd) | ex (c:Str) (h:Hd) | no
def R.fl {α:Type}:R α→(α→Hd→Fl)→Fl
 | .ok a h,k=>k a h
 | .ex c h,_=>.ex c h
 | .no,_=>.no
abbrev SE:=Sd→Hd→R D
abbrev ST:=Sd→Hd→R Bool
abbrev SA:=Sd→Hd→R (List D)
abbrev SS:=Sd→Hd→Fl
def SqF (K:PySem.W.Frag) (H:Hp) (a:Addr) (vs:List V):Prop:=(∃ o,H a=some (.frz o (.lst vs)))∨SqL K (fun _=>none) a vs
theorem SqF.l {K:PySem.W.Frag} {H:Hp} {a:Addr} {vs:List V} (h:SqF K H a vs):SqL K H a vs:=by
 rcases h with ⟨o,h⟩ | h
 ·exact .inl (.inr ⟨o,h⟩)
 ·rcases h with (h | ⟨o,h⟩) | h
  ·cases h
  ·cases h
  ·exact .inr h
def SqZ (H:Hp) (a:Addr) (vs:List V):Prop:=∃ o,H a=some (.frz o (.lst vs))
theorem SqZ.l {K:PySem.W.Frag} {H:Hp} {a:Addr} {vs:List V} (h:SqZ H a vs):SqL K H a vs:=let ⟨o,e⟩:=h; .inl (.inr ⟨o,e⟩)
def exO (a:Addr):HO:=.ext fun h=>∃ o,h.get? a=some o
mutual
inductive Rep (K:PySem.W.Frag) (ι:List Addr) (H:Hp):V→D→Prop
 | non:Rep K ι H .non .non
 | bl (b:Bool):Rep K ι H (.bl b) (.bl b)
 | int (i:Int):Rep K ι H (.int i) (.int i)
 | str (x:Str):Rep K ι H (.str x) (.str x)
 | ty (n:String):Rep K ι H (.ty n) (.ty n)
 | tup {a:Addr} {vs:List V} {xs:List D} (h:H a=some (.tup vs)) (r:Reps K ι H vs xs):Rep K ι H (.ref a) (.tup xs)
 | rol {a:Addr} {vs:List V} {xs:List D} (h:SqZ H a vs) (r:Reps K ι H vs xs):Rep K ι H (.ref a) (.rol xs)
 | scr {a:Addr} {vs:List V} {xs:List D} (h:SqF K H a vs) (r:Reps K ι H vs xs):Rep K ι H (.ref a) (.scr xs)
 | ref {a:Addr} {i:Nat} (h:ι[i]? = some a):Rep K ι H (.ref a) (.ref i)
 | rod {a:Addr} {o:Obj} {us:List (Key × V)} {ks:List Key} {xs:List D} (h:H a=some (.frz o (.dK us))) (e:us.map (·.1)=ks) (r:Reps K ι H (us.map (·.2)) xs):Rep K ι H (.ref a) (.rod ks xs)
 | rdT {a:Addr} {o:Obj} {us:List (List Key × V)} {ks:List (List Key)} {xs:List D} (h:H a=some (.frz o (.dT us))) (e:us.map (·.1)=ks) (r:Reps K ι H (us.map (·.2)) xs):Rep K ι H (.ref a) (.rdT ks xs)
 | exc {a C:Addr} {o:Obj} {c:Str} (h:H a=some (.frz o (exO a))) (hc:o.cls = .ref C) (hn:PySem.W.nsIn K mainGlobals c=some (some (.ref C))):Rep K ι H (.ref a) (.exc c)
inductive Reps (K:PySem.W.Frag) (ι:List Addr) (H:Hp):List V→List D→Prop
 | nil:Reps K ι H [] []
 | cons {v:V} {d:D} {vs:List V} {ds:List D} (r:Rep K ι H v d) (rs:Reps K ι H vs ds):Reps K ι H (v::vs) (d::ds)
end
structure Gw (ι:List Addr) (H:Hp) (ι':List Addr) (H':Hp):Prop where
 pre:∃ m,ι'=ι++m
 tup:∀ a vs,H a=some (.tup vs)→H' a=some (.tup vs)
 frz:∀ a o u,H a=some (.frz o u)→H' a=some (.frz o u)
structure Gr (ι:List Addr) (H:Hp) (ι':List Addr) (H':Hp):Prop where
 pre:∃ m,ι'=ι++m∧∀ a∈m,H a=none
 tup:∀ a vs,H a=some (.tup vs)→H' a=some (.tup vs)
 frz:∀ a o u,H a=some (.frz o u)→H' a=some (.frz o u)
 oth:∀ a u,H a=some u→a ∉ ι→H' a=some u
 kp:∀ a u,H a=some u→∃ u',H' a=some u'
theorem Gr.w {ι ι':List Addr} {H H':Hp} (g:Gr ι H ι' H'):Gw ι H ι' H':=⟨let ⟨m,e,_⟩:=g.pre; ⟨m,e⟩,g.tup,g.frz⟩
theorem Gr.refl (ι:List Addr) (H:Hp):Gr ι H ι H:=⟨⟨[],by simp,by simp⟩,fun _ _ h=>h,fun _ _ _ h=>h,fun _ _ h _=>h,fun _ u h=>⟨u,h⟩⟩
theorem Gr.trans {ι ι1 ι2:List Addr} {H H1 H2:Hp} (a:Gr ι H ι1 H1) (b:Gr ι1 H1 ι2 H2):Gr ι H ι2 H2:=by
 obtain ⟨m,rfl,hm⟩:=a.pre
 obtain ⟨n,rfl,hn⟩:=b.pre
 refine ⟨⟨m++n,by simp,fun x hx=>?_⟩,fun x vs h=>b.tup x vs (a.tup x vs h),fun x o u h=>b.frz x o u (a.frz x o u h),fun x u h hx=>?_,fun x u h=>?_⟩
 ·rcases List.mem_append.mp hx with hx | hx
  ·exact hm x hx
  ·cases e:H x with
   | none=>rfl
   | some u =>
    obtain ⟨u',e'⟩:=a.kp x u e
    rw [hn x hx] at e';cases e'
 ·refine b.oth x u (a.oth x u h hx) fun z=>?_
  rcases List.mem_append.mp z with z | z
  ·exact hx z
  ·rw [hm x z] at h;cases h
 ·obtain ⟨u',e⟩:=a.kp x u h
  exact b.kp x u' e
theorem Gw.at {ι ι':List Addr} {H H':Hp} (g:Gw ι H ι' H') {i:Nat} {a:Addr} (h:ι[i]? = some a):ι'[i]? = some a:=by
 obtain ⟨m,rfl⟩:=g.pre
 rw [List.getElem?_append_left (List.getElem?_eq_some_iff.mp h).1]
 exact h
theorem Gr.at {ι ι':List Addr} {H H':Hp} (g:Gr ι H ι' H') {i:Nat} {a:Addr} (h:ι[i]? = some a):ι'[i]? = some a:=g.w.at h
theorem SqF.monoW {K:PySem.W.Frag} {ι ι':List Addr} {H H':Hp} (g:Gw ι H ι' H') {a:Addr} {vs:List V} (h:SqF K H a vs):SqF K H' a vs:=by
 rcases h with ⟨o,h⟩ | h
 ·exact .inl ⟨o,g.frz _ _ _ h⟩
 ·exact .inr h
theorem SqZ.monoW {ι ι':List Addr} {H H':Hp} (g:Gw ι H ι' H') {a:Addr} {vs:List V} (h:SqZ H a vs):SqZ H' a vs:=let ⟨o,e⟩:=h; ⟨o,g.frz _ _ _ e⟩
theorem SqZ.mono {ι ι':List Addr} {H H':Hp} (g:Gr ι H ι' H') {a:Addr} {vs:List V} (h:SqZ H a vs):SqZ H' a vs:=h.monoW g.w
mutual
theorem Rep.monoW {K:PySem.W.Frag} {ι ι':List Addr} {H H':Hp} (g:Gw ι H ι' H'):∀ {v:V} {d:D},Rep K ι H v d→Rep K ι' H' v d
 | _,_, .non=>.non
 | _,_, .bl b=>.bl b
 | _,_, .int i=>.int i
 | _,_, .str x=>.str x
 | _,_, .ty n=>.ty n
 | _,_, .tup h r=>.tup (g.tup _ _ h) (Reps.monoW g r)
 | _,_, .rol h r=>.rol (h.monoW g) (Reps.monoW g r)
 | _,_, .scr h r=>.scr (h.monoW g) (Reps.monoW g r)
 | _,_, .ref h=>.ref (g.at h)
 | _,_, .rod h e r=>.rod (g.frz _ _ _ h) e (Reps.monoW g r)
 | _,_, .rdT h e r=>.rdT (g.frz _ _ _ h) e (Reps.monoW g r)
 | _,_, .exc h hc hn=>.exc (g.frz _ _ _ h) hc hn
theorem Reps.monoW {K:PySem.W.Frag} {ι ι':List Addr} {H H':Hp} (g:Gw ι H ι' H'):∀ {vs:List V} {ds:List D},Reps K ι H vs ds→Reps K ι' H' vs ds
 | _,_, .nil=>.nil
 | _,_, .cons r rs=>.cons (Rep.monoW g r) (Reps.monoW g rs)
end
theorem Rep.mono {K:PySem.W.Frag} {ι ι':List Addr} {H H':Hp} (g:Gr ι H ι' H') {v:V} {d:D} (r:Rep K ι H v d):Rep K ι' H' v d:=r.monoW g.w
theorem Reps.mono {K:PySem.W.Frag} {ι ι':List Addr} {H H':Hp} (g:Gr ι H ι' H') {vs:List V} {ds:List D} (r:Reps K ι H vs ds):Reps K ι' H' vs ds:=r.monoW g.w
section
variable {K:PySem.W.Frag} {ι:List Addr} {H:Hp}
theorem Reps.len {vs:List V} {ds:List D}:Reps K ι H vs ds→vs.length=ds.length
 | .nil=>rfl
 | .cons _ rs=>by rw [List.length_cons,List.length_cons,rs.len]
theorem Reps.get:∀ {vs:List V} {ds:List D} {i:Nat} {d:D},Reps K ι H vs ds→ds[i]? = some d→∃ v,vs[i]? = some v∧Rep K ι H v d
 | _,_,_,_, .nil,e=>by simp at e
 | _,_,0,_, .cons r _,e=>by simp at e;subst e;exact ⟨_,rfl,r⟩
 | _,_,i+1,d, .cons _ rs,e=>by
  obtain ⟨u,h1,h2⟩:=Reps.get (i:=i) (d:=d) rs (by simpa using e)
  exact ⟨u,by simpa using h1,h2⟩
theorem Reps.app:∀ {vs us:List V} {ds es:List D},Reps K ι H vs ds→Reps K ι H us es→Reps K ι H (vs++us) (ds++es)
 | _,_,_,_, .nil,s=>s
 | _,_,_,_, .cons r rs,s=>.cons r (Reps.app rs s)
theorem Reps.set {v:V} {d:D} (q:Rep K ι H v d):∀ {vs:List V} {ds:List D} (i:Nat),Reps K ι H vs ds→Reps K ι H (vs.set i v) (ds.set i d)
 | _,_,_, .nil=>.nil
 | _,_,0, .cons _ rs=>.cons q rs
 | _,_,i+1, .cons r rs=>.cons r (Reps.set q i rs)
theorem Reps.take:∀ {vs:List V} {ds:List D} (n:Nat),Reps K ι H vs ds→Reps K ι H (vs.take n) (ds.take n)
 | _,_,0,_=>.nil
 | _,_,_+1, .nil=>.nil
 | _,_,n+1, .cons r rs=>.cons r (Reps.take n rs)
theorem Reps.drop:∀ {vs:List V} {ds:List D} (n:Nat),Reps K ι H vs ds→Reps K ι H (vs.drop n) (ds.drop n)
 | _,_,0,r=>r
 | _,_,_+1, .nil=>.nil
 | _,_,n+1, .cons _ rs=>Reps.drop n rs
theorem Reps.erase:∀ {vs:List V} {ds:List D} (n:Nat),Reps K ι H vs ds→Reps K ι H (vs.eraseIdx n) (ds.eraseIdx n)
 | _,_,_, .nil=>.nil
 | _,_,0, .cons _ rs=>rs
 | _,_,n+1, .cons r rs=>.cons r (Reps.erase n rs)
theorem Reps.snoc {vs:List V} {ds:List D} {v:V} {d:D} (r:Reps K ι H vs ds) (q:Rep K ι H v d):Reps K ι H (vs++[v]) (ds++[d]):=r.app (.cons q .nil)
theorem Reps.flat:∀ {vs:List V} {ds:List D} (k:Nat),Reps K ι H vs ds→Reps K ι H (List.replicate k vs).flatten (List.replicate k ds).flatten
 | _,_,0,_=>.nil
 | vs,ds,k+1,r=>by
  rw [List.replicate_succ,List.replicate_succ,List.flatten_cons,List.flatten_cons]
  exact r.app (Reps.flat k r)
end
def KRep {κ:Type} (K:PySem.W.Frag) (ι:List Addr) (H:Hp) (us:List (κ × V)) (kvs:List (κ × D)):Prop:=us.map (·.1)=kvs.map (·.1)∧Reps K ι H (us.map (·.2)) (kvs.map (·.2))
def ORep (K:PySem.W.Frag) (ι:List Addr) (H:Hp) (a:Addr):O→Prop
 | .lst xs=>∃ vs,H a=some (.lst vs)∧Reps K ι H vs xs
 | .dK kvs=>∃ us,H a=some (.dK us)∧KRep K ι H us kvs
 | .dT kvs=>∃ us,H a=some (.dT us)∧KRep K ι H us kvs
structure HRep (K:PySem.W.Frag) (ι:List Addr) (H:Hp) (h:Hd):Prop where
 nd:ι.Nodup
 len:ι.length=h.length
 obj:∀ (i:Nat) (a:Addr) (o:O),ι[i]? = some a→h[i]? = some o→ORep K ι H a o
section
variable {K:PySem.W.Frag} {ι:List Addr} {H:Hp} {h:Hd}
theorem ORep.some {a:Addr} {o:O} (r:ORep K ι H a o):∃ u,H a=some u∧(∀ vs,u≠.tup vs)∧(∀ o' u',u≠.frz o' u'):=by
 cases o with
 | lst xs=>obtain ⟨vs,e,_⟩:=r;exact ⟨_,e,fun _ z=>(by cases z),fun _ _ z=>(by cases z)⟩
 | dK kvs=>obtain ⟨us,e,_⟩:=r;exact ⟨_,e,fun _ z=>(by cases z),fun _ _ z=>(by cases z)⟩
 | dT kvs=>obtain ⟨us,e,_⟩:=r;exact ⟨_,e,fun _ z=>(by cases z),fun _ _ z=>(by cases z)⟩
theorem HRep.at (r:HRep K ι H h) {i:Nat} {a:Addr} (e:ι[i]? = some a):∃ o,h[i]? = some o∧ORep K ι H a o:=by
 have hi:i<h.length:=by rw [← r.len];exact (List.getElem?_eq_some_iff.mp e).1
 exact ⟨h[i],List.getElem?_eq_getElem hi,r.obj i a _ e (List.getElem?_eq_getElem hi)⟩
theorem HRep.addr (r:HRep K ι H h) {i:Nat} {o:O} (e:h[i]? = some o):∃ a,ι[i]? = some a∧ORep K ι H a o:=by
 have hi:i<ι.length:=by rw [r.len];exact (List.getElem?_eq_some_iff.mp e).1
 exact ⟨ι[i],List.getElem?_eq_getElem hi,r.obj i _ o (List.getElem?_eq_getElem hi) e⟩
theorem HRep.notin (r:HRep K ι H h) {p:Addr} (e:H p=none):p ∉ ι:=fun z=>by
 obtain ⟨i,hi⟩:=List.getElem?_of_mem z
 obtain ⟨o,_,q⟩:=r.at hi
 obtain ⟨u,q,_⟩:=q.some
 rw [e] at q;cases q
theorem ORep.monoW {ι':List Addr} {H':Hp} {a:Addr} {o:O} (g:Gw ι H ι' H') (e:H' a=H a) (r:ORep K ι H a o):ORep K ι' H' a o:=by
 cases o with
 | lst xs=>obtain ⟨vs,h1,h2⟩:=r;exact ⟨vs,by rw [e];exact h1,h2.monoW g⟩
 | dK kvs=>obtain ⟨us,h1,h2,h3⟩:=r;exact ⟨us,by rw [e];exact h1,h2,h3.monoW g⟩
 | dT kvs=>obtain ⟨us,h1,h2,h3⟩:=r;exact ⟨us,by rw [e];exact h1,h2,h3.monoW g⟩
theorem ORep.mono {ι':List Addr} {H':Hp} {a:Addr} {o:O} (g:Gr ι H ι' H') (e:H' a=H a) (r:ORep K ι H a o):ORep K ι' H' a o:=r.monoW g.w e
theorem ww {p:Addr} (e:H p=none) (o:HO):Gr ι H ι (upd H p o) :=
 ⟨⟨[],by simp,by simp⟩,fun a vs h=>by rw [dw (dj h e)];exact h,fun a o u h=>by rw [dw (dj h e)];exact h,fun a u h _=>by rw [dw (dj h e)];exact h,fun a u h=>⟨u,by rw [dw (dj h e)];exact h⟩⟩
theorem HRep.aside (r:HRep K ι H h) {p:Addr} (e:H p=none) (o:HO):HRep K ι (upd H p o) h:=by
 refine ⟨r.nd,r.len,fun i a o' e1 e2=>?_⟩
 have q:=r.obj i a o' e1 e2
 obtain ⟨u,hu,_⟩:=q.some
 exact q.mono (ww e o) (dw (dj hu e))
theorem aac {p:Addr} (e:H p=none) (o:HO):Gr ι H (ι++[p]) (upd H p o) :=
 ⟨⟨[p],rfl,by simpa using e⟩,(ww (ι:=ι) e o).tup,(ww (ι:=ι) e o).frz,(ww (ι:=ι) e o).oth,(ww (ι:=ι) e o).kp⟩
theorem HRep.add (r:HRep K ι H h) {p:Addr} (e:H p=none) {o:HO} {ob:O} (q:ORep K (ι++[p]) (upd H p o) p ob):HRep K (ι++[p]) (upd H p o) (h++[ob]):=by
 refine ⟨?_,by simp [r.len],fun i a o' e1 e2=>?_⟩
 ·rw [List.nodup_append]
  exact ⟨r.nd,by simp,fun a ha b hb z=>r.notin e (by rw [List.mem_singleton.mp hb] at z;rw [← z];exact ha)⟩
 ·by_cases hi:i<ι.length
  ·rw [List.getElem?_append_left hi] at e1
   rw [List.getElem?_append_left (by rw [← r.len];exact hi)] at e2
   have q:=r.obj i a o' e1 e2
   obtain ⟨u,hu,_⟩:=q.some
   exact q.mono (aac e o) (dw (dj hu e))
  ·have hi2:i<(ι++[p]).length:=(List.getElem?_eq_some_iff.mp e1).1
   have:i=ι.length:=by simp at hi2;omega
   subst this
   rw [List.getElem?_append_right (Nat.le_refl _)] at e1
   rw [r.len,List.getElem?_append_right (Nat.le_refl _)] at e2
   simp at e1 e2
   subst e1 e2
   exact q
theorem a2n {a:Addr} {i:Nat} (r:HRep K ι H h) (e:ι[i]? = some a) (o:HO):Gr ι H ι (upd H a o):=by
 obtain ⟨_,_,q⟩:=r.at e
 obtain ⟨u,hu,n1,n2⟩:=q.some
 refine ⟨⟨[],by simp,by simp⟩,fun b vs hb=>?_,fun b o' u' hb=>?_,fun b u' hb hn=>?_,fun b u' hb=>?_⟩
 ·rw [dw (fun z=>by subst z;rw [hu] at hb;exact n1 _ (Option.some.inj hb))];exact hb
 ·rw [dw (fun z=>by subst z;rw [hu] at hb;exact n2 _ _ (Option.some.inj hb))];exact hb
 ·rw [dw (fun z=>hn (by subst z;exact List.mem_of_getElem? e))];exact hb
 ·by_cases z:b=a
  ·subst z;exact ⟨o,kj⟩
  ·exact ⟨u',by rw [dw z];exact hb⟩
theorem HRep.put (r:HRep K ι H h) {a:Addr} {i:Nat} (e:ι[i]? = some a) {o:HO} {ob:O} (q:ORep K ι (upd H a o) a ob):HRep K ι (upd H a o) (h.set i ob):=by
 refine ⟨r.nd,by rw [List.length_set];exact r.len,fun j b o' e1 e2=>?_⟩
 by_cases hj:i=j
 ·subst hj
  rw [e] at e1;cases e1
  have hi:i<h.length:=by rw [← r.len];exact (List.getElem?_eq_some_iff.mp e).1
  rw [List.getElem?_set_self hi] at e2;cases e2
  exact q
 ·rw [List.getElem?_set_ne hj] at e2
  have hne:b≠a:=fun z=>by
   subst z
   obtain ⟨h1,g1⟩:=List.getElem?_eq_some_iff.mp e
   obtain ⟨h2,g2⟩:=List.getElem?_eq_some_iff.mp e1
   have np:=List.pairwise_iff_getElem.mp r.nd
   rcases Nat.lt_or_gt_of_ne hj with l | l
   ·exact np i j h1 h2 l (g1.trans g2.symm)
   ·exact np j i h2 h1 l (g2.trans g1.symm)
  exact (r.obj j b o' e1 e2).mono (a2n r e o) (dw hne)
end
structure SRep (K:PySem.W.Frag) (ι:List Addr) (H:Hp) (σ:St) (τ:Sd):Prop where
 len:σ.length=τ.length
 val:∀ (i:Nat) (d:D),τ[i]? = some (some d)→∃ v,σ[i]? = some (some v)∧Rep K ι H v d
theorem SRep.mono {K:PySem.W.Frag} {ι ι':List Addr} {H H':Hp} {σ:St} {τ:Sd} (g:Gr ι H ι' H') (s:SRep K ι H σ τ):SRep K ι' H' σ τ :=
 ⟨s.len,fun i d e=>let ⟨v,h1,h2⟩:=s.val i d e; ⟨v,h1,h2.mono g⟩⟩
theorem SRep.set {K:PySem.W.Frag} {ι:List Addr} {H:Hp} {σ:St} {τ:Sd} (s:SRep K ι H σ τ) {v:V} {d:D} (r:Rep K ι H v d) (i:Nat):SRep K ι H (σ.set i (some v)) (τ.set i (some d)):=by
 refine ⟨by simp [s.len],fun j d' e=>?_⟩
 by_cases hj:i=j
 ·subst hj
  have hi:i<τ.length:=by
   have:=(List.getElem?_eq_some_iff.mp e).1
   simpa using this
  rw [List.getElem?_set_self hi] at e
  cases e
  exact ⟨v,by rw [List.getElem?_set_self (by rw [s.len];exact hi)],r⟩
 ·rw [List.getElem?_set_ne hj] at e ⊢
  exact s.val j d' e
abbrev XD:=Str→List Addr→Hp→Hd→Prop
def out {α β:Type} (K:PySem.W.Frag) (E:XD) (Rp:List Addr→Hp→β→α→Prop) (ι:List Addr) (H:Hp) (r:R α) (Q:β→Hp→Prop):Prop :=
 match r with
 | .ok a h=>∀ ι' H' b,Gr ι H ι' H'→Rp ι' H' b a→HRep K ι' H' h→Q b H'
 | .ex c h=>∀ ι' H',Gr ι H ι' H'→HRep K ι' H' h→E c ι' H' h
 | .no=>False
theorem a3k {α β:Type} {K:PySem.W.Frag} {E:XD} {Rp:List Addr→Hp→β→α→Prop} {ι ι1:List Addr} {H H1:Hp} {r:R α} {Q:β→Hp→Prop} (o:out K E Rp ι H r Q) (g:Gr ι H ι1 H1):out K E Rp ι1 H1 r Q:=by
 cases r with
 | ok a h=>exact fun ι' H' b g'=>o ι' H' b (g.trans g')
 | ex c h=>exact fun ι' H' g'=>o ι' H' (g.trans g')
 | no=>exact o
theorem bx {α β γ δ:Type} {K:PySem.W.Frag} {E:XD} {Rp:List Addr→Hp→β→α→Prop} {Sp:List Addr→Hp→δ→γ→Prop} {ι:List Addr} {H:Hp} {r:R α} {k:α→Hd→R γ} {Q:δ→Hp→Prop} {P:β→Hp→Prop}
  (o:out K E Sp ι H (r.bind k) Q) (hP:∀ a h ι1 H1 b,Gr ι H ι1 H1→Rp ι1 H1 b a→HRep K ι1 H1 h→out K E Sp ι1 H1 (k a h) Q→P b H1):out K E Rp ι H r P:=by
 cases r with
 | ok a h=>exact fun ι' H' b g r' hr=>hP a h ι' H' b g r' hr (a3k o g)
 | ex c h=>exact o
 | no=>exact o
abbrev u9 (K:PySem.W.Frag):List Addr→Hp→V→D→Prop:=fun ι H v d=>Rep K ι H v d
abbrev aqh (K:PySem.W.Frag):List Addr→Hp→List V→List D→Prop:=fun ι H v d=>Reps K ι H v d
abbrev ahh:List Addr→Hp→Bool→Bool→Prop:=fun _ _ a b=>a=b
abbrev aqi:List Addr→Hp→Option Int→Option Int→Prop:=fun _ _ a b=>a=b
def acq (K:PySem.W.Frag) (E:XD) (ι:List Addr) (H:Hp) (r:Fl) (N:Ends):Prop :=
 match r with
 | .nx τ h=>∀ ι' H' σ,Gr ι H ι' H'→SRep K ι' H' σ τ→HRep K ι' H' h→N.nx σ H'
 | .bk τ h=>∀ ι' H' σ,Gr ι H ι' H'→SRep K ι' H' σ τ→HRep K ι' H' h→N.bk σ H'
 | .ct τ h=>∀ ι' H' σ,Gr ι H ι' H'→SRep K ι' H' σ τ→HRep K ι' H' h→N.ct σ H'
 | .rt d h=>∀ ι' H' v,Gr ι H ι' H'→Rep K ι' H' v d→HRep K ι' H' h→N.rt v H'
 | .ex c h=>∀ ι' H',Gr ι H ι' H'→HRep K ι' H' h→E c ι' H' h
 | .no=>False
theorem jx {K:PySem.W.Frag} {E:XD} {ι ι1:List Addr} {H H1:Hp} {r:Fl} {N:Ends} (o:acq K E ι H r N) (g:Gr ι H ι1 H1):acq K E ι1 H1 r N:=by
 cases r with
 | nx τ h=>exact fun ι' H' b g'=>o ι' H' b (g.trans g')
 | bk τ h=>exact fun ι' H' b g'=>o ι' H' b (g.trans g')
 | ct τ h=>exact fun ι' H' b g'=>o ι' H' b (g.trans g')
 | rt d h=>exact fun ι' H' b g'=>o ι' H' b (g.trans g')
 | ex c h=>exact fun ι' H' g'=>o ι' H' (g.trans g')
 | no=>exact o
theorem lw {α β:Type} {K:PySem.W.Frag} {E:XD} {Rp:List Addr→Hp→β→α→Prop} {ι:List Addr} {H:Hp} {r:R α} {k:α→Hd→Fl} {N:Ends} {P:β→Hp→Prop}
  (o:acq K E ι H (r.fl k) N) (hP:∀ a h ι1 H1 b,Gr ι H ι1 H1→Rp ι1 H1 b a→HRep K ι1 H1 h→acq K E ι1 H1 (k a h) N→P b H1):out K E Rp ι H r P:=by
 cases r with
 | ok a h=>exact fun ι' H' b g r' hr=>hP a h ι' H' b g r' hr (jx o g)
 | ex c h=>exact o
 | no=>exact o
def lift {α β:Type} (K:PySem.W.Frag) (E:XD) (Rp:List Addr→Hp→β→α→Prop) (f:Sd→Hd→R α):St→Hp→(β→Hp→Prop)→Prop:=fun σ H Q =>
 ∃ ι τ h,SRep K ι H σ τ∧HRep K ι H h∧out K E Rp ι H (f τ h) Q
def a1p (K:PySem.W.Frag) (E:XD) (f:SS):TS:=fun N σ H=>∃ ι τ h,SRep K ι H σ τ∧HRep K ι H h∧acq K E ι H (f τ h) N
abbrev ME (X:Cx) (E:XD) (e:Expr) (f:SE):Prop:=PE X e (lift X.K E (u9 X.K) f)
abbrev MT (X:Cx) (E:XD) (e:Expr) (f:ST):Prop:=PT X e (lift X.K E ahh f)
abbrev MW (X:Cx) (E:XD) (e:Expr) (f:ST):Prop:=PW X e (lift X.K E ahh f)
abbrev MA (X:Cx) (E:XD) (es:List Expr) (f:SA):Prop:=PA X es (lift X.K E (aqh X.K) f)
abbrev MS (X:Cx) (E:XD) (st:Stmt) (f:SS):Prop:=PS X st (a1p X.K E f)
abbrev MSs (X:Cx) (E:XD) (st:List Stmt) (f:SS):Prop:=PSs X st (a1p X.K E f)
theorem PE.weak {X:Cx} {e:Expr} {t t':TE} (h:PE X e t) (i:∀ σ H Q,t' σ H Q→t σ H Q):PE X e t':=fun pins s σ H Q I q=>h pins s σ H Q I (i _ _ _ q)
theorem PT.weak {X:Cx} {e:Expr} {t t':TT} (h:PT X e t) (i:∀ σ H Q,t' σ H Q→t σ H Q):PT X e t':=fun pins s σ H Q I q=>h pins s σ H Q I (i _ _ _ q)
theorem PW.weak {X:Cx} {e:Expr} {t t':TT} (h:PW X e t) (i:∀ σ H Q,t' σ H Q→t σ H Q):PW X e t':=fun wh pins s σ H Q I q=>h wh pins s σ H Q I (i _ _ _ q)
theorem PA.weak {X:Cx} {e:List Expr} {t t':TA} (h:PA X e t) (i:∀ σ H Q,t' σ H Q→t σ H Q):PA X e t':=fun pos pins s σ H Q I q=>h pos pins s σ H Q I (i _ _ _ q)
theorem PS.weak {X:Cx} {e:Stmt} {t t':TS} (h:PS X e t) (i:∀ N σ H,t' N σ H→t N σ H):PS X e t':=fun pins s σ H N I q=>h pins s σ H N I (i _ _ _ q)
theorem PSs.weak {X:Cx} {e:List Stmt} {t t':TS} (h:PSs X e t) (i:∀ N σ H,t' N σ H→t N σ H):PSs X e t':=fun pins s σ H N I q=>h pins s σ H N I (i _ _ _ q)
end MI
namespace MI
open PySem L2
abbrev LINE:Nat:=16777216
theorem ll {n:Nat} (h:n≤LINE):n≤sizeLine:=a6v h
def sV (i:Nat):SE:=fun τ h=>match τ[i]? with | some (some d)=>.ok d h | _=>.no
def sC (d:D):SE:=fun _ h=>.ok d h
section
variable {X:Cx} {E:XD} {a b c e:Expr} {fa fb fc:SE} {pos:Pos}
theorem bf (i:Nat) {x:Str} {pos:Pos} (hN:X.N[i]? = some x:=by rfl) (hv:Vis X.env.scope x:=by first | exact Or.inl rfl | exact Or.inr (Or.inl rfl) | exact Or.inr (Or.inr rfl)) (hd:(x == ("__debug__" : Str))=false:=by decide)
  (hcd:(x == ("__classdict__" : Str))=false:=by decide):ME X E (.Name x pos) (sV i):=by
 refine PE.weak (a9i hN hv hd hcd) fun σ H Q ⟨ι,τ,h,S,Rh,o⟩=>?_
 unfold sV at o
 split at o
 ·rename_i d e
  obtain ⟨v,h1,h2⟩:=S.val i d e
  exact ⟨v,h1,o ι H v (.refl _ _) h2 Rh⟩
 ·exact o.elim
theorem aku {v:V} {d:D} (h:PE X e (tC v)) (r:∀ ι H,Rep X.K ι H v d):ME X E e (sC d) :=
 PE.weak h fun σ H Q ⟨ι,τ,h,S,Rh,o⟩=>o ι H v (.refl _ _) (r ι H) Rh
theorem au {i j pos}:ME X E (.Constant (.int i) j pos) (sC (.int i)):=aku ajl fun _ _=>.int i
theorem aad {i j pos}:ME X E (.Constant (.bool i) j pos) (sC (.bl i)):=aku anp fun _ _=>.bl i
theorem a5n {i j pos}:ME X E (.Constant (.str i) j pos) (sC (.str i)):=aku ajn fun _ _=>.str i
theorem a5o {j pos}:ME X E (.Constant .none j pos) (sC .non):=aku ajm fun _ _=>.non
theorem a8t {x:Str} {n:String} {pos:Pos} (hg:Gl X x) (hm:X.mg x=none) (hv:bootBuiltins x=some (.type n)) (hn:x ≠ "__name__":=by decide) (hd:(x == ("__debug__" : Str))=false:=by decide):ME X E (.Name x pos) (sC (.ty n)) :=
 aku (a9j (v:=.ty n) hg hm hv rfl hn hd) fun _ _=>.ty n
def s2 (g:D→D→Hd→R D) (fa fb:SE):SE:=fun τ h=>(fa τ h).bind fun x h1=>(fb τ h1).bind fun y h2=>g x y h2
def s1 (g:D→Hd→R D) (fa:SE):SE:=fun τ h=>(fa τ h).bind g
def a0l (K:PySem.W.Frag) (g:D→D→Hd→R D) (r:R2):Prop:=∀ (E:XD) ι H h x y dx dy Q,Rep K ι H x dx→Rep K ι H y dy→HRep K ι H h→out K E (u9 K) ι H (g dx dy h) Q→r x y H Q
def aqj (K:PySem.W.Frag) (g:D→Hd→R D) (r:V→Hp→VK→Prop):Prop:=∀ (E:XD) ι H h x dx Q,Rep K ι H x dx→HRep K ι H h→out K E (u9 K) ι H (g dx h) Q→r x H Q
def a9e (K:PySem.W.Frag) (g:List D→Hd→R D) (r:List V→Hp→VK→Prop):Prop:=∀ (E:XD) ι H h xs ds Q,Reps K ι H xs ds→HRep K ι H h→out K E (u9 K) ι H (g ds h) Q→r xs H Q
theorem ana {g:D→D→Hd→R D} {r:R2} {K:PySem.W.Frag} (hs:a0l K g r) {σ:St} {H:Hp} {Q:VK} (q:lift K E (u9 K) (s2 g fa fb) σ H Q):tOp r (lift K E (u9 K) fa) (lift K E (u9 K) fb) σ H Q:=by
 obtain ⟨ι,τ,h,S,Rh,o⟩:=q
 refine ⟨ι,τ,h,S,Rh,bx o fun d h1 ι1 H1 v g1 r1 hr1 o1=>?_⟩
 refine ⟨ι1,τ,h1,S.mono g1,hr1,bx o1 fun d2 h2 ι2 H2 u g2 r2 hr2 o2=>?_⟩
 exact hs E ι2 H2 h2 v u d d2 Q (r1.mono g2) r2 hr2 o2
theorem a8u {op:Operator} {r:R2} {g:D→D→Hd→R D} (ho:OpR X (binaryOp op) r) (hs:a0l X.K g r) (ha:ME X E a fa) (hb:ME X E b fb):ME X E (.BinOp a op b pos) (s2 g fa fb) :=
 PE.weak (ao3 ho ha hb) fun σ H Q q=>ana hs q
theorem aae {op:CmpOp} {r:R2} {g:D→D→Hd→R D} (ho:OpR X (compareOp op) r) (hs:a0l X.K g r) (ha:ME X E a fa) (hb:ME X E b fb) (hm:behindInMarks op b=false):ME X E (.Compare a [op] [b] pos) (s2 g fa fb) :=
 PE.weak (agz ho ha hb hm) fun σ H Q q=>ana hs q
theorem aoj {op:UnaryOp} {r:V→Hp→VK→Prop} {g:D→Hd→R D} (ho:UnR X (unaryOp op) r) (hs:aqj X.K g r) (ha:ME X E a fa):ME X E (.UnaryOp op a pos) (s1 g fa):=by
 refine PE.weak (ao4 ho ha) fun σ H Q ⟨ι,τ,h,S,Rh,o⟩=>?_
 exact ⟨ι,τ,h,S,Rh,bx o fun d h1 ι1 H1 v g1 r1 hr1 o1=>hs E ι1 H1 h1 v d Q r1 hr1 o1⟩
theorem aok {r:R2} {g:D→D→Hd→R D} (ho:IxR X r) (hs:a0l X.K g r) (ha:ME X E a fa) (hb:ME X E b fb) (hp:a6s b):ME X E (.Subscript a b pos) (s2 g fa fb) :=
 PE.weak (aoc ho ha hb hp) fun σ H Q q=>ana hs q
def asB (d:D) (h:Hd):R Bool:=match d with | .bl b=>.ok b h | _=>.no
def sT (f:SE):ST:=fun τ h=>(f τ h).bind asB
theorem ahi {K:PySem.W.Frag} {t:TE} {f:SE} (hi:∀ σ H Q,lift K E (u9 K) f σ H Q→t σ H Q) {σ:St} {H:Hp} {Q:Bool→Hp→Prop} (q:lift K E ahh (sT f) σ H Q):akb t σ H Q:=by
 refine hi σ H _ ?_
 obtain ⟨ι,τ,h,S,Rh,o⟩:=q
 refine ⟨ι,τ,h,S,Rh,bx o fun d h1 ι1 H1 v g1 r1 hr1 o1=>?_⟩
 cases r1 with
 | bl b=>exact ⟨b,rfl,o1 ι1 H1 b (.refl _ _) rfl hr1⟩
 | _=>exact o1.elim
theorem gq {op:CmpOp} {r:R2} {g:D→D→Hd→R D} (ho:OpR X (compareOp op) r) (hs:a0l X.K g r) (ha:ME X E a fa) (hb:ME X E b fb) (hm:behindInMarks op b=false):MT X E (.Compare a [op] [b] pos) (sT (s2 g fa fb)) :=
 PT.weak (ah0 ho ha hb hm) fun σ H Q q=>ahi (fun _ _ _=>ana hs) q
def sCh (g g':D→D→Hd→R D) (fa fb fc:SE):SE:=fun τ h=>(fa τ h).bind fun x h1=>(fb τ h1).bind fun y h2=>(g x y h2).bind fun z h3=>match z with
 | .bl true=>(fc τ h3).bind fun w h4=>g' y w h4
 | .bl false=>.ok (.bl false) h3
 | _=>.no
def tru (d:D) (h:Hd):R Bool:=match d with
 | .non=>.ok false h
 | .bl b=>.ok b h
 | .int i=>.ok (i != 0) h
 | .str x=>if x.length≤LINE then .ok ((x.length:Int) != 0) h else .no
 | .tup xs=>.ok (!xs.isEmpty) h
 | .rol xs=>.ok (!xs.isEmpty) h
 | .ref i=>match h[i]? with
  | some (.lst xs)=>.ok (!xs.isEmpty) h
  | some (.dK kvs)=>.ok (!kvs.isEmpty) h
  | _=>.no
 | _=>.no
theorem Reps.emp {K:PySem.W.Frag} {ι:List Addr} {H:Hp} {vs:List V} {ds:List D} (r:Reps K ι H vs ds):vs.isEmpty=ds.isEmpty:=by cases r<;>rfl
theorem KRep.emp {κ:Type} {K:PySem.W.Frag} {ι:List Addr} {H:Hp} {us:List (κ × V)} {kvs:List (κ × D)} (r:KRep K ι H us kvs):us.isEmpty=kvs.isEmpty:=by
 have:=congrArg List.length r.1
 cases us<;>cases kvs<;>simp at this ⊢
theorem ahj {K:PySem.W.Frag} {ι:List Addr} {H:Hp} {h:Hd} {x:V} {d:D} {Q:Bool→Hp→Prop} (r:Rep K ι H x d) (hr:HRep K ι H h) (o:out K E ahh ι H (tru d h) Q):∃ k,ao8 K x H k∧Q k H:=by
 cases r with
 | non=>exact ⟨false,rfl,o ι H _ (.refl _ _) rfl hr⟩
 | bl b=>exact ⟨b,rfl,o ι H _ (.refl _ _) rfl hr⟩
 | int i=>exact ⟨_,rfl,o ι H _ (.refl _ _) rfl hr⟩
 | str x =>
  by_cases hl:x.length≤LINE
  ·simp only [tru,if_pos hl] at o
   exact ⟨_,⟨ll hl,rfl⟩,o ι H _ (.refl _ _) rfl hr⟩
  ·simp only [tru,if_neg hl] at o
   exact o.elim
 | ty n=>exact o.elim
 | rod _ _ _=>exact o.elim
 | scr _ _=>exact o.elim
 | rdT _ _ _=>exact o.elim
 | exc _ _ _=>exact o.elim
 | tup e rs=>exact ⟨_, .inr (.inl ⟨_,SqT.of e,rfl⟩),by rw [rs.emp];exact o ι H _ (.refl _ _) rfl hr⟩
 | rol e rs=>exact ⟨_, .inl ⟨_,e.l,rfl⟩,by rw [rs.emp];exact o ι H _ (.refl _ _) rfl hr⟩
 | @ref a i e =>
  obtain ⟨ob,h1,h2⟩:=hr.at e
  simp only [tru,h1] at o
  cases ob with
  | lst xs =>
   obtain ⟨vs,h3,h4⟩:=h2
   exact ⟨_, .inl ⟨_,SqL.of h3,rfl⟩,by rw [h4.emp];exact o ι H _ (.refl _ _) rfl hr⟩
  | dK kvs =>
   obtain ⟨us,h3,h4⟩:=h2
   exact ⟨_, .inr (.inr ⟨_,h3,rfl⟩),by rw [h4.emp];exact o ι H _ (.refl _ _) rfl hr⟩
  | dT kvs=>exact o.elim
def a3l (f:SE):ST:=fun τ h=>(f τ h).bind tru
theorem wy (ha:ME X E a fa) (he:∀ whole,isTrue a X.env whole=(do let v ← whole;standAt a.pos;holding [v] (truthy v)):=by intro _;rfl):MT X E a (a3l fa):=by
 refine PT.weak (ad3 ha he) fun σ H Q ⟨ι,τ,h,S,Rh,o⟩=>?_
 exact ⟨ι,τ,h,S,Rh,bx o fun d h1 ι1 H1 v g1 r1 hr1 o1=>ahj r1 hr1 o1⟩
def a8v (f g:ST):ST:=fun τ h=>(f τ h).bind fun b h1=>if b=true then g τ h1 else .ok false h1
def sOr (f g:ST):ST:=fun τ h=>(f τ h).bind fun b h1=>if b=true then .ok true h1 else g τ h1
def a3m (f:ST):ST:=fun τ h=>(f τ h).bind fun b h1=>.ok (!b) h1
variable {ga gb:ST}
theorem a6z (ha:MT X E a ga):MW X E (.BoolOp .And [a] pos) ga:=ags ha
theorem a5p (ha:MT X E a ga):MW X E (.BoolOp .Or [a] pos) ga:=ajo ha
theorem aaf {rest:List Expr} (ha:MT X E a ga) (hb:MW X E (.BoolOp .And (b::rest) pos) gb):MW X E (.BoolOp .And (a::b::rest) pos) (a8v ga gb):=by
 refine PW.weak (ajp ha hb) fun σ H Q ⟨ι,τ,h,S,Rh,o⟩=>?_
 refine ⟨ι,τ,h,S,Rh,bx o fun d h1 ι1 H1 v g1 r1 hr1 o1=>?_⟩
 cases r1
 cases d with
 | true=>exact ⟨ι1,τ,h1,S.mono g1,hr1,o1⟩
 | false=>exact o1 ι1 H1 false (.refl _ _) rfl hr1
theorem a70 {rest:List Expr} (ha:MT X E a ga) (hb:MW X E (.BoolOp .Or (b::rest) pos) gb):MW X E (.BoolOp .Or (a::b::rest) pos) (sOr ga gb):=by
 refine PW.weak (anq ha hb) fun σ H Q ⟨ι,τ,h,S,Rh,o⟩=>?_
 refine ⟨ι,τ,h,S,Rh,bx o fun d h1 ι1 H1 v g1 r1 hr1 o1=>?_⟩
 cases r1
 cases d with
 | true=>exact o1 ι1 H1 true (.refl _ _) rfl hr1
 | false=>exact ⟨ι1,τ,h1,S.mono g1,hr1,o1⟩
theorem zr (ha:MT X E a ga):MT X E (.UnaryOp .Not a pos) (a3m ga):=by
 refine PT.weak (ajq ha) fun σ H Q ⟨ι,τ,h,S,Rh,o⟩=>?_
 refine ⟨ι,τ,h,S,Rh,bx o fun d h1 ι1 H1 v g1 r1 hr1 o1=>?_⟩
 cases r1
 exact o1 ι1 H1 _ (.refl _ _) rfl hr1
def zu (f g:SE):SE:=fun τ h=>(f τ h).bind fun d h1=>match d with | .bl true=>g τ h1 | .bl false=>.ok (.bl false) h1 | _=>.no
def anb (f g:SE):SE:=fun τ h=>(f τ h).bind fun d h1=>match d with | .bl true=>.ok (.bl true) h1 | .bl false=>g τ h1 | _=>.no
def adh (f:SE):SE:=fun τ h=>(f τ h).bind fun d h1=>match d with | .bl b=>.ok (.bl (!b)) h1 | _=>.no
theorem aag {op} (ha:ME X E a fa):ME X E (.BoolOp op [a] pos) fa:=ajr ha
theorem aah {rest:List Expr} (ha:ME X E a fa) (hb:ME X E (.BoolOp .And (b::rest) pos) fb):ME X E (.BoolOp .And (a::b::rest) pos) (zu fa fb):=by
 refine PE.weak (ajs ha hb) fun σ H Q ⟨ι,τ,h,S,Rh,o⟩=>?_
 refine ⟨ι,τ,h,S,Rh,bx o fun d h1 ι1 H1 v g1 r1 hr1 o1=>?_⟩
 cases r1 with
 | bl k =>
  refine ⟨k,rfl,?_⟩
  cases k with
  | true=>exact ⟨ι1,τ,h1,S.mono g1,hr1,o1⟩
  | false=>exact o1 ι1 H1 _ (.refl _ _) (.bl _) hr1
 | _=>exact o1.elim
def aai (c:ST) (f g:SE):SE:=fun τ h=>(c τ h).bind fun b h1=>if b=true then f τ h1 else g τ h1
theorem afu (hc:MT X E c ga) (ha:ME X E a fa) (hb:ME X E b fb):ME X E (.IfExp c a b pos) (aai ga fa fb):=by
 refine PE.weak (acx hc ha hb) fun σ H Q ⟨ι,τ,h,S,Rh,o⟩=>?_
 refine ⟨ι,τ,h,S,Rh,bx o fun d h1 ι1 H1 v g1 r1 hr1 o1=>?_⟩
 cases r1
 cases d with
 | true=>exact ⟨ι1,τ,h1,S.mono g1,hr1,o1⟩
 | false=>exact ⟨ι1,τ,h1,S.mono g1,hr1,o1⟩
def dg:SA:=fun _ h=>.ok [] h
def ak (f:SE) (g:SA):SA:=fun τ h=>(f τ h).bind fun d h1=>(g τ h1).bind fun ds h2=>.ok (d::ds) h2
variable {es:List Expr} {ka:SA}
theorem az:MA X E [] dg:=PA.weak a5d fun σ H Q ⟨ι,τ,h,S,Rh,o⟩=>o ι H [] (.refl _ _) .nil Rh
theorem aj (ha:ME X E e fa) (hr:MA X E es ka) (hs:starEach (e::es) X.env=(false,eval e X.env)::starEach es X.env:=by rfl):MA X E (e::es) (ak fa ka):=by
 refine PA.weak (um ha hr hs) fun σ H Q ⟨ι,τ,h,S,Rh,o⟩=>?_
 refine ⟨ι,τ,h,S,Rh,bx o fun d h1 ι1 H1 v g1 r1 hr1 o1=>?_⟩
 refine ⟨ι1,τ,h1,S.mono g1,hr1,bx o1 fun d2 h2 ι2 H2 u g2 r2 hr2 o2=>?_⟩
 exact o2 ι2 H2 _ (.refl _ _) (.cons (r1.mono g2) r2) hr2
def a0v (ds:List D) (h:Hd):R D:=if ds.length≤LINE then .ok (.tup ds) h else .no
def a71 (ds:List D) (h:Hd):R D:=if ds.length≤LINE then .ok (.ref h.length) (h++[.lst ds]) else .no
def sA (g:List D→Hd→R D) (k:SA):SE:=fun τ h=>(k τ h).bind g
theorem yu {K:PySem.W.Frag} {ι:List Addr} {H:Hp} {h:Hd} {vs:List V} {ds:List D} {Q:VK} (r:Reps K ι H vs ds) (hr:HRep K ι H h) (o:out K E (u9 K) ι H (.ok (.tup ds) h) Q):∀ p,H p=none→Q (.ref p) (upd H p (.tup vs)):=fun p hp =>
 o ι _ _ (ww hp _) (.tup kj (r.mono (ww hp _))) (hr.aside hp _)
theorem v4 {K:PySem.W.Frag} {ι:List Addr} {H:Hp} {h:Hd} {vs:List V} {ds:List D} {Q:VK} (r:Reps K ι H vs ds) (hr:HRep K ι H h) (o:out K E (u9 K) ι H (.ok (.ref h.length) (h++[.lst ds])) Q):∀ p,H p=none→Q (.ref p) (upd H p (.lst vs)):=fun p hp =>
 o (ι++[p]) _ _ (aac hp _) (.ref (by rw [List.getElem?_append_right (by rw [hr.len];exact Nat.le_refl _),hr.len];simp)) (hr.add hp ⟨_,kj,r.mono (aac hp _)⟩)
theorem aaj {K:PySem.W.Frag} {ι:List Addr} {H:Hp} {h:Hd} {i:Nat} {a:Addr} {vs:List V} {ds:List D} {d:D} {v:V} {Q:VK} (r:Reps K ι H vs ds) (hr:HRep K ι H h) (hi:ι[i]? = some a) (rd:Rep K ι H v d) (o:out K E (u9 K) ι H (.ok d (h.set i (.lst ds))) Q):Q v (upd H a (.lst vs)) :=
 o ι _ _ (a2n hr hi _) (rd.mono (a2n hr hi _)) (hr.put hi ⟨_,kj,r.mono (a2n hr hi _)⟩)
theorem yp {x1} (h:MA X E es ka):ME X E (.Tuple es x1 pos) (sA a0v ka):=by
 refine PE.weak (afm h) fun σ H Q ⟨ι,τ,h,S,Rh,o⟩=>?_
 refine ⟨ι,τ,h,S,Rh,bx o fun d h1 ι1 H1 v g1 r1 hr1 o1=>?_⟩
 unfold a0v at o1
 split at o1
 ·rename_i hl
  exact ⟨ll (by rw [r1.len];exact hl),yu r1 hr1 o1⟩
 ·exact o1.elim
theorem a1q (h:MA X E es ka):ME X E (.List es pos) (sA a71 ka):=by
 refine PE.weak (ake h) fun σ H Q ⟨ι,τ,h,S,Rh,o⟩=>?_
 refine ⟨ι,τ,h,S,Rh,bx o fun d h1 ι1 H1 v g1 r1 hr1 o1=>?_⟩
 unfold a71 at o1
 split at o1
 ·rename_i hl
  exact ⟨ll (by rw [r1.len];exact hl),v4 r1 hr1 o1⟩
 ·exact o1.elim
theorem qx {x:Str} {p:Pos} {id:String} {r:List V→Hp→VK→Prop} {g:List D→Hd→R D} (hc:CallR X (.builtin id) r) (hs:a9e X.K g r) (hg:Gl X x) (hm:X.mg x=none) (hv:bootBuiltins x=some (.builtin id)) (ha:MA X E (e::es) ka) (hn:x ≠ "__name__":=by decide) (hdb:(x == ("__debug__" : Str))=false:=by decide)
  (he:starEach (e::es) X.env=(false,eval e X.env)::starEach es X.env:=by rfl) (hpl:(backTo pos (starEach es X.env)).any (·.1)=false:=by rfl):ME X E (.Call (.Name x p) (e::es) [] pos) (sA g ka):=by
 refine PE.weak (a3f hc hg hm hv ha hn hdb he hpl) fun σ H Q ⟨ι,τ,h,S,Rh,o⟩=>?_
 exact ⟨ι,τ,h,S,Rh,bx o fun d h1 ι1 H1 v g1 r1 hr1 o1=>hs E ι1 H1 h1 v d Q r1 hr1 o1⟩
theorem a3n {x:Str} {p:Pos} {id:String} {r:List V→Hp→VK→Prop} {g:List D→Hd→R D} (hc:CallR X (.type id) r) (hs:a9e X.K g r) (hg:Gl X x) (hm:X.mg x=none) (hv:bootBuiltins x=some (.type id)) (ha:MA X E (e::es) ka) (hn:x ≠ "__name__":=by decide) (hdb:(x == ("__debug__" : Str))=false:=by decide)
  (he:starEach (e::es) X.env=(false,eval e X.env)::starEach es X.env:=by rfl) (hpl:(backTo pos (starEach es X.env)).any (·.1)=false:=by rfl):ME X E (.Call (.Name x p) (e::es) [] pos) (sA g ka):=by
 refine PE.weak (a9x hc hg hm hv ha hn hdb he hpl) fun σ H Q ⟨ι,τ,h,S,Rh,o⟩=>?_
 exact ⟨ι,τ,h,S,Rh,bx o fun d h1 ι1 H1 v g1 r1 hr1 o1=>hs E ι1 H1 h1 v d Q r1 hr1 o1⟩
end
end MI
namespace MI
open PySem L2
def du (f g:SS):SS:=fun τ h=>match f τ h with | .nx τ1 h1=>g τ1 h1 | r=>r
def sNx:SS:=fun τ h=>.nx τ h
def uc (f:SE):SS:=fun τ h=>(f τ h).fl fun d h1=>.rt d h1
def p7 (f:SE):SS:=fun τ h=>(f τ h).fl fun _ h1=>.nx τ h1
def sIf (c:ST) (f g:SS):SS:=fun τ h=>(c τ h).fl fun b h1=>if b=true then f τ h1 else g τ h1
def j7 (i:Nat) (f:SE):SS:=fun τ h=>(f τ h).fl fun d h1=>.nx (τ.set i (some d)) h1
def acr (i:Nat) (g:D→D→Hd→R D) (f:SE):SS:=fun τ h=>match τ[i]? with
 | some (some x)=>(f τ h).fl fun y h1=>(g x y h1).fl fun z h2=>.nx (τ.set i (some z)) h2
 | _=>.no
section
variable {X:Cx} {E:XD} {e o:Expr} {es:List Expr} {fa fb fc:SE} {ga:ST} {st:Stmt} {sts a b:List Stmt} {f g:SS} {pos:Pos}
theorem j6:MSs X E [] sNx:=PSs.weak agt fun N σ H ⟨ι,τ,h,S,Rh,o⟩=>o ι H σ (.refl _ _) S Rh
theorem akv {K:PySem.W.Frag} {N:Ends} {σ:St} {H:Hp} (q:a1p K E (du f g) N σ H):a1p K E f { N with nx:=a1p K E g N } σ H:=by
 obtain ⟨ι,τ,h,S,Rh,o⟩:=q
 refine ⟨ι,τ,h,S,Rh,?_⟩
 unfold du at o
 cases hf:f τ h with
 | nx τ1 h1 =>
  rw [hf] at o
  exact fun ι1 H1 σ1 g1 S1 R1=>⟨ι1,τ1,h1,S1,R1,jx o g1⟩
 | _=>rw [hf] at o;exact o
theorem ao (h1:MS X E st f) (h2:MSs X E sts g):MSs X E (st::sts) (du f g):=PSs.weak (acy h1 h2) fun N σ H q=>akv q
theorem bz (h1:MS X E st f):MSs X E [st] f:=agu h1
theorem jd (he:ME X E e fa):MS X E (.Return (some e) pos) (uc fa):=by
 refine PS.weak (ajt he) fun N σ H ⟨ι,τ,h,S,Rh,o⟩=>?_
 exact ⟨ι,τ,h,S,Rh,lw o fun d h1 ι1 H1 v g1 r1 hr1 o1=>o1 ι1 H1 v (.refl _ _) r1 hr1⟩
theorem v5 (he:ME X E e fa) (hs:swapsWith e none pos.line X.env=pure false:=by rfl):MS X E (.Expr e pos) (p7 fa):=by
 refine PS.weak (agv he hs) fun N σ H ⟨ι,τ,h,S,Rh,o⟩=>?_
 exact ⟨ι,τ,h,S,Rh,lw o fun d h1 ι1 H1 v g1 r1 hr1 o1=>o1 ι1 H1 σ (.refl _ _) (S.mono g1) hr1⟩
theorem ud {c:Expr} (hc:MT X E c ga) (ha:MSs X E a f) (hb:MSs X E b g):MS X E (.If c a b pos) (sIf ga f g):=by
 refine PS.weak (anv hc ha hb) fun N σ H ⟨ι,τ,h,S,Rh,o⟩=>?_
 refine ⟨ι,τ,h,S,Rh,lw o fun d h1 ι1 H1 v g1 r1 hr1 o1=>?_⟩
 cases r1
 cases d with
 | true=>exact ⟨ι1,τ,h1,S.mono g1,hr1,o1⟩
 | false=>exact ⟨ι1,τ,h1,S.mono g1,hr1,o1⟩
theorem dh {i:Nat} {x:Str} {pos':Pos} (hN:X.N.Nodup) (hi:X.N[i]? = some x) (hx:Loc X.env.scope x) (he:ME X E e fa) (hs:swapsWith e (some (.Name x pos')) pos.line X.env=pure false:=by rfl) (hf:X.fn x=true∨X.env.scope.names.lookup x=some .local:=by first | exact .inl rfl | exact .inr rfl | assumption) :
  MS X E (.Assign [.Name x pos'] e pos) (j7 i fa):=by
 refine PS.weak (ajy hN hi hx he hs hf) fun N σ H ⟨ι,τ,h,S,Rh,o⟩=>?_
 exact ⟨ι,τ,h,S,Rh,lw o fun d h1 ι1 H1 v g1 r1 hr1 o1=>o1 ι1 H1 _ (.refl _ _) ((S.mono g1).set r1 i) hr1⟩
theorem afv {i:Nat} {x:Str} {op:Operator} {r:R2} {gg:D→D→Hd→R D} {pos':Pos} (hN:X.N.Nodup) (hi:X.N[i]? = some x) (hx:Loc X.env.scope x) (ho:OpR X (inplaceOp op) r) (hs:a0l X.K gg r) (he:ME X E e fa) (hf:X.fn x=true∨X.env.scope.names.lookup x=some .local:=by first | exact .inl rfl | exact .inr rfl | assumption) :
  MS X E (.AugAssign (.Name x pos') op e pos) (acr i gg fa):=by
 refine PS.weak (ajz hN hi hx he ho hf) fun N σ H ⟨ι,τ,h,S,Rh,o⟩=>?_
 unfold acr at o
 split at o
 ·rename_i d ed
  obtain ⟨v,h1,h2⟩:=S.val i d ed
  refine ⟨v,h1,ι,τ,h,S,Rh,lw o fun d2 h3 ι1 H1 u g1 r1 hr1 o1=>?_⟩
  refine hs E ι1 H1 h3 v u d d2 _ (h2.mono g1) r1 hr1 (lw o1 fun d3 h4 ι2 H2 z g2 r2 hr2 o2=>?_)
  exact o2 ι2 H2 _ (.refl _ _) (((S.mono g1).mono g2).set r2 i) hr2
 ·exact o.elim
def put (o k v:D) (h:Hd):Option Hd:=match o,k with
 | .ref i, .int j=>match h[i]? with
  | some (.lst xs)=>match ixN xs.length j with
   | some m=>some (h.set i (.lst (xs.set m v)))
   | none=>none
  | _=>none
 | _,_=>none
theorem aak {K:PySem.W.Frag} {ι:List Addr} {H:Hp} {h h':Hd} {o k v:V} {od kd vd:D} {Q:Hp→Prop} (r1:Rep K ι H o od) (r2:Rep K ι H k kd) (r3:Rep K ι H v vd) (hr:HRep K ι H h) (e:put od kd vd h=some h')
  (q:∀ H',Gr ι H ι H'→HRep K ι H' h'→Q H'):akm o k v H Q:=by
 cases r1 with
 | @ref a i ha =>
  cases r2 with
  | int j =>
   obtain ⟨ob,h1,h2⟩:=hr.at ha
   cases ob with
   | lst xs =>
    obtain ⟨vs,h3,h4⟩:=h2
    simp only [put,h1] at e
    cases hm:ixN xs.length j with
    | none=>rw [hm] at e;cases e
    | some m =>
     rw [hm] at e
     cases e
     exact ⟨a,vs,j,m,rfl,rfl,h3,by rw [h4.len];exact hm,q _ (a2n hr ha _) (hr.put ha ⟨_,kj,(h4.set r3 m).mono (a2n hr ha _)⟩)⟩
   | dK _=>simp only [put,h1] at e;cases e
   | dT _=>simp only [put,h1] at e;cases e
  | _=>cases e
 | _=>cases e
def ahk (fe fo fi:SE):SS:=fun τ h=>(fe τ h).fl fun v h1=>(fo τ h1).fl fun o h2=>(fi τ h2).fl fun k h3=>match put o k v h3 with | some h4=>.nx τ h4 | none=>.no
theorem afw {i:Expr} {pos':Pos} (he:ME X E e fa) (ho:ME X E o fb) (hi:ME X E i fc)
  (hs:swapsWithSole [.Subscript o i pos'] e pos.line X.env=pure false:=by rfl) (hw:swappedStores [.Subscript o i pos'] e X.env=pure none:=by rfl)
  (h1:(assignEach [.Subscript o i pos'] X.env).map (·.2)=[assign (.Subscript o i pos') X.env]:=by rfl)
  (ha:∀ v,assign (.Subscript o i pos') X.env v=(do
   let ov ← holding [v] (eval o X.env)
   let iv ← holding [v,ov] (eval i X.env)
   standAt pos'
   holding [v,ov,iv] (setItem ov iv v)
   release [v,ov,iv] []):=by intro _;rfl):MS X E (.Assign [.Subscript o i pos'] e pos) (ahk fa fb fc):=by
 refine PS.weak (afl he (ajx ho hi set_list ha) hs hw h1) fun N σ H ⟨ι,τ,h,S,Rh,oo⟩=>?_
 refine ⟨ι,τ,h,S,Rh,lw oo fun d h1 ι1 H1 v g1 r1 hr1 o1=>?_⟩
 refine ⟨ι1,τ,h1,S.mono g1,hr1,lw o1 fun d2 h2 ι2 H2 u g2 r2 hr2 o2=>?_⟩
 refine ⟨ι2,τ,h2,(S.mono g1).mono g2,hr2,lw o2 fun d3 h3 ι3 H3 w g3 r3 hr3 o3=>?_⟩
 cases hp:put d2 d3 d h3 with
 | none=>rw [hp] at o3;exact o3.elim
 | some h4 =>
  rw [hp] at o3
  exact aak (r2.mono g3) r3 ((r1.mono g2).mono g3) hr3 hp fun H' g4 hr4=>o3 ι3 H' σ g4 ((((S.mono g1).mono g2).mono g3).mono g4) hr4
def sWh (c:ST) (f:SS):Nat→SS
 | 0,_,_=>.no
 | n+1,τ,h=>(c τ h).fl fun b h1=>if b=true then (match f τ h1 with | .nx τ2 h2=>sWh c f n τ2 h2 | .ct τ2 h2=>sWh c f n τ2 h2 | .bk τ2 h2=>.nx τ2 h2 | r=>r) else .nx τ h1
theorem a3o (n:Nat) {c:Expr} (hp:PassesOwn (model X.prog X.w) X.A X.env X.xe) (hc:MT X E c ga) (hb:MSs X E a f):MS X E (.While c a [] pos) (sWh ga f n):=by
 refine PS.weak (ad0 hp hc hb) fun N σ H q=>?_
 refine ⟨fun m σ H=>a1p X.K E (sWh ga f m) N σ H,⟨n,q⟩,?_⟩
 rintro m σ1 H1 ⟨ι,τ,h,S,Rh,o⟩
 cases m with
 | zero=>exact o.elim
 | succ m =>
  refine ⟨ι,τ,h,S,Rh,lw o fun d h1 ι1 H1 v g1 r1 hr1 o1=>?_⟩
  cases r1
  cases d with
  | false=>exact o1 ι1 H1 _ (.refl _ _) (S.mono g1) hr1
  | true =>
   refine ⟨fun σ' H'=>a1p X.K E (sWh ga f m) N σ' H',fun σ' H' q=>⟨m,Nat.lt_succ_self m,q⟩,ι1,τ,h1,S.mono g1,hr1,?_⟩
   rw [if_pos rfl] at o1
   cases hf:f τ h1 with
   | nx τ2 h2=>rw [hf] at o1;exact fun ι2 H2 σ2 g2 S2 R2=>⟨ι2,τ2,h2,S2,R2,jx o1 g2⟩
   | ct τ2 h2=>rw [hf] at o1;exact fun ι2 H2 σ2 g2 S2 R2=>⟨ι2,τ2,h2,S2,R2,jx o1 g2⟩
   | bk τ2 h2=>rw [hf] at o1;exact o1
   | rt d h2=>rw [hf] at o1;exact o1
   | ex c h2=>rw [hf] at o1;exact o1
   | no=>rw [hf] at o1;exact o1.elim
end
abbrev SG:=D→Sd→Hd→Fl
def ahl (K:PySem.W.Frag) (E:XD) (g:SG):TG:=fun v σ H Q=>∃ ι τ h d,Rep K ι H v d∧SRep K ι H σ τ∧HRep K ι H h∧acq K E ι H (g d τ h) { nx:=Q,rt:=fun _ _=>False }
abbrev MG (X:Cx) (E:XD) (tg:Expr) (g:SG):Prop:=PG X tg (ahl X.K E g)
abbrev SGs:=List D→Sd→Hd→Fl
def aal (K:PySem.W.Frag) (E:XD) (g:SGs):TGs:=fun vs σ H Q=>∃ ι τ h ds,Reps K ι H vs ds∧SRep K ι H σ τ∧HRep K ι H h∧acq K E ι H (g ds τ h) { nx:=Q,rt:=fun _ _=>False }
abbrev MGs (X:Cx) (E:XD) (tg:List Expr) (g:SGs):Prop:=PGs X tg (aal X.K E g)
theorem PG.weak {X:Cx} {e:Expr} {t t':TG} (h:PG X e t) (i:∀ v σ H Q,t' v σ H Q→t v σ H Q):PG X e t':=fun pins s σ H v u Q I r q=>h pins s σ H v u Q I r (i _ _ _ _ q)
theorem PGs.weak {X:Cx} {e:List Expr} {t t':TGs} (h:PGs X e t) (i:∀ v σ H Q,t' v σ H Q→t v σ H Q):PGs X e t':=fun pins s σ H v u Q I r q=>h pins s σ H v u Q I r (i _ _ _ _ q)
def kN (i:Nat):SG:=fun d τ h=>.nx (τ.set i (some d)) h
def a7l:SGs:=fun ds τ h=>match ds with | []=>.nx τ h | _=>.no
def mq (g:SG) (k:SGs):SGs:=fun ds τ h=>match ds with | d::r=>(match g d τ h with | .nx τ1 h1=>k r τ1 h1 | _=>.no) | []=>.no
def a72 (n:Nat) (k:SGs):SG:=fun d τ h=>match d with | .tup ds=>if ds.length=n then k ds τ h else .no | _=>.no
section
variable {X:Cx} {E:XD} {e:Expr} {es:List Expr} {fa:SE} {pos:Pos} {g:SG} {ks:SGs}
theorem jn {i:Nat} {x:Str} (hN:X.N.Nodup) (hi:X.N[i]? = some x) (hx:Loc X.env.scope x) (hf:X.fn x=true∨X.env.scope.names.lookup x=some .local:=by first | exact .inl rfl | exact .inr rfl | assumption):MG X E (.Name x pos) (kN i) :=
 PG.weak (qd hN hi hx hf) fun v σ H Q ⟨ι,τ,h,d,r,S,Rh,o⟩=>o ι H _ (.refl _ _) (S.set r i) Rh
theorem a3p:MGs X E [] a7l:=by
 refine PGs.weak agw fun vs σ H Q ⟨ι,τ,h,ds,r,S,Rh,o⟩=>?_
 cases r with
 | nil=>exact ⟨rfl,o ι H σ (.refl _ _) S Rh⟩
 | cons _ _=>exact o.elim
theorem adi {K:PySem.W.Frag} {vs:List V} {σ:St} {H:Hp} {Q:St→Hp→Prop} (q:aal K E (mq g ks) vs σ H Q):ajv (ahl K E g) (aal K E ks) vs σ H Q:=by
 obtain ⟨ι,τ,h,ds,r,S,Rh,o⟩:=q
 cases r with
 | nil=>exact o.elim
 | @cons v d vs ds r rs =>
  refine ⟨v,vs,rfl,ι,τ,h,d,r,S,Rh,?_⟩
  simp only [mq] at o
  cases hg:g d τ h with
  | nx τ1 h1 =>
   rw [hg] at o
   exact fun ι1 H1 σ1 g1 S1 R1=>⟨ι1,τ1,h1,ds,rs.mono g1,S1,R1,jx o g1⟩
  | _=>rw [hg] at o;exact o.elim
theorem a7m {k n:Nat} (hc:X.calm=true) (h:MGs X E es ks) (hn:(assignEach es X.env).length=n:=by rfl) (hst:(assignEach es X.env).findIdx? (·.1)=none:=by rfl):MG X E (.Tuple es k pos) (a72 n ks):=by
 refine PG.weak (ajw hc h hn hst) fun v σ H Q ⟨ι,τ,h,d,r,S,Rh,o⟩=>?_
 cases r with
 | @tup a vs xs e rs =>
  simp only [a72] at o
  by_cases hl:xs.length=n
  ·rw [if_pos hl] at o
   exact ⟨a,vs,rfl,SqT.of e,by rw [rs.len];exact hl,ι,τ,h,xs,rs,S,Rh,o⟩
  ·rw [if_neg hl] at o;exact o.elim
 | _=>exact o.elim
def a8w (f:SE) (g:SG):SS:=fun τ h=>(f τ h).fl fun d h1=>match g d τ h1 with | .nx τ2 h2=>.nx τ2 h2 | _=>.no
theorem aam {tg:Expr} (he:ME X E e fa) (hg:MG X E tg g) (hs:swapsWithSole [tg] e pos.line X.env=pure false:=by rfl) (hw:swappedStores [tg] e X.env=pure none:=by rfl)
  (h1:(assignEach [tg] X.env).map (·.2)=[assign tg X.env]:=by rfl):MS X E (.Assign [tg] e pos) (a8w fa g):=by
 refine PS.weak (afl he hg hs hw h1) fun N σ H ⟨ι,τ,h,S,Rh,o⟩=>?_
 refine ⟨ι,τ,h,S,Rh,lw o fun d h1 ι1 H1 v g1 r1 hr1 o1=>⟨ι1,τ,h1,d,r1,S.mono g1,hr1,?_⟩⟩
 cases hg:g d τ h1 with
 | nx τ1 h1=>rw [hg] at o1;exact o1
 | _=>rw [hg] at o1;exact o1.elim
end
structure Itm where
 xs:List D
 ck:Hd→Prop
def aja (K:PySem.W.Frag) (ι0:List Addr) (H0:Hp) (J:It) (it:Itm):Prop:=∀ ι H h,Gr ι0 H0 ι H→HRep K ι H h→it.ck h →
 (∀ (i:Nat) (d:D),it.xs[i]? = some d→J.go i H∧∀ x H',J.yld i H x H'→Gr ι H ι H'∧Rep K ι H' x d∧HRep K ι H' h)∧J.stop it.xs.length H
abbrev aol (K:PySem.W.Frag):List Addr→Hp→It→Itm→Prop:=fun ι H J it=>aja K ι H J it
abbrev SI:=Sd→Hd→R Itm
abbrev MI (X:Cx) (E:XD) (tg iter:Expr) (f:SI):Prop:=PI X tg iter (lift X.K E (aol X.K) f)
def uv (x:Str):List D:=x.cps.toList.map fun c=>D.str ⟨#[c]⟩
def adk (d:D) (h:Hd):R Itm:=match d with
 | .tup xs=>.ok ⟨xs,fun _=>True⟩ h
 | .rol xs=>.ok ⟨xs,fun _=>True⟩ h
 | .str x=>.ok ⟨uv x,fun _=>True⟩ h
 | .ref i=>match h[i]? with
  | some (.lst xs)=>.ok ⟨xs,fun h=>h[i]? = some (.lst xs)⟩ h
  | _=>.no
 | _=>.no
def sIt (f:SE):SI:=fun τ h=>(f τ h).bind adk
theorem afx {K:PySem.W.Frag} {ι0:List Addr} {H0:Hp} {a:Addr} {xs:List D} {ck:Hd→Prop} (hl:∀ ι H h,Gr ι0 H0 ι H→HRep K ι H h→ck h→∃ vs,SqL K H a vs∧Reps K ι H vs xs):aja K ι0 H0 (Itl K a) ⟨xs,ck⟩:=by
 intro ι H h g hr c
 obtain ⟨vs,h1,h2⟩:=hl ι H h g hr c
 refine ⟨fun i d e=>?_,⟨vs,h1,by rw [h2.len];exact Nat.le_refl _⟩⟩
 obtain ⟨v,e1,r⟩:=h2.get e
 refine ⟨⟨vs,v,h1,e1⟩,fun x H' y=>?_⟩
 obtain ⟨rfl,y⟩:=y
 have:=y vs h1
 rw [e1] at this;cases this
 exact ⟨.refl _ _,r,hr⟩
theorem uw {X:Cx} {E:XD} {tg l:Expr} {f:SE} (hl:ME X E l f):MI X E tg l (sIt f):=by
 intro pins s σ H Rr I ⟨ι,τ,h,S,Rh,o⟩
 unfold sIt at o
 cases hf:f τ h with
 | no=>rw [hf] at o;exact o.elim
 | ex c h1 =>
  rw [hf] at o
  exact afs hl pins s σ H Rr I ⟨ι,τ,h,S,Rh,by rw [hf];exact o⟩
 | ok d h1 =>
  rw [hf] at o
  cases d with
  | tup xs =>
   refine ak1 hl pins s σ H Rr I ⟨ι,τ,h,S,Rh,?_⟩
   rw [hf]
   intro ι1 H1 v g1 r1 hr1
   cases r1 with
   | @tup a vs _ e rs =>
    refine ⟨a,rfl,⟨vs,SqT.of e⟩,o ι1 H1 _ g1 ?_ hr1⟩
    intro ι2 H2 h2 g2 hr2 _
    have e2:=g2.tup _ _ e
    have rs2:=rs.mono g2
    refine ⟨fun i d ed=>?_,⟨vs,SqT.of e2,by rw [rs2.len];exact Nat.le_refl _⟩⟩
    obtain ⟨v,e1,r⟩:=rs2.get ed
    refine ⟨⟨vs,v,SqT.of e2,e1⟩,fun x H' y=>?_⟩
    obtain ⟨rfl,y⟩:=y
    have:=y vs (SqT.of e2)
    rw [e1] at this;cases this
    exact ⟨.refl _ _,r,hr2⟩
  | rol xs =>
   refine a9l hl pins s σ H Rr I ⟨ι,τ,h,S,Rh,?_⟩
   rw [hf]
   intro ι1 H1 v g1 r1 hr1
   cases r1 with
   | @rol a vs _ e rs =>
    refine ⟨a,rfl,⟨vs,e.l⟩,o ι1 H1 _ g1 ?_ hr1⟩
    exact afx (fun ι2 H2 h2 g2 hr2 _=>⟨vs,(e.mono g2).l,rs.mono g2⟩)
  | str x =>
   refine afs hl pins s σ H Rr I ⟨ι,τ,h,S,Rh,?_⟩
   rw [hf]
   intro ι1 H1 v g1 r1 hr1
   cases r1
   refine ⟨x,rfl,o ι1 H1 _ g1 ?_ hr1⟩
   intro ι2 H2 h2 g2 hr2 _
   refine ⟨fun i d ed=>?_,by show (uv x).length=_;simp [uv]⟩
   simp only [uv,List.getElem?_map,Option.map_eq_some_iff] at ed
   obtain ⟨c,ec,rfl⟩:=ed
   refine ⟨by show i<x.cps.size;have:=(List.getElem?_eq_some_iff.mp ec).1;simpa using this,fun y H' q=>?_⟩
   obtain ⟨rfl,c',ec',rfl⟩:=q
   rw [ec] at ec';cases ec'
   exact ⟨.refl _ _, .str _,hr2⟩
  | ref i =>
   simp only [R.bind,adk] at o
   cases ho:h1[i]? with
   | none=>rw [ho] at o;exact o.elim
   | some ob =>
    rw [ho] at o
    cases ob with
    | dK _=>exact o.elim
    | dT _=>exact o.elim
    | lst xs =>
     refine a9l hl pins s σ H Rr I ⟨ι,τ,h,S,Rh,?_⟩
     rw [hf]
     intro ι1 H1 v g1 r1 hr1
     cases r1 with
     | @ref a _ e =>
      obtain ⟨vs,e1,rs⟩:=hr1.obj i a _ e ho
      refine ⟨a,rfl,⟨vs,SqL.of e1⟩,o ι1 H1 _ g1 ?_ hr1⟩
      refine afx (fun ι2 H2 h2 g2 hr2 c=>?_)
      obtain ⟨us,e3,rs3⟩:=hr2.obj i a _ (g2.at e) c
      exact ⟨us,SqL.of e3,rs3⟩
  | _=>exact o.elim
def rng (lo:Int) (n:Nat):List D:=(List.range n).map fun i=>D.int (lo+(i:Nat))
def B62 (j:Int):Prop := -(2 ^ 62)≤j∧j<2 ^ 62
instance (j:Int):Decidable (B62 j):=by unfold B62;exact inferInstance
def a0r (ds:List D) (h:Hd):R Itm:=match ds with
 | [.int j]=>if B62 j then .ok ⟨rng 0 j.toNat,fun _=>True⟩ h else .no
 | _=>.no
def a3q (ds:List D) (h:Hd):R Itm:=match ds with
 | [.int i, .int j]=>if B62 i∧B62 j then .ok ⟨rng i (j - i).toNat,fun _=>True⟩ h else .no
 | _=>.no
def sRg (g:List D→Hd→R Itm) (k:SA):SI:=fun τ h=>(k τ h).bind g
theorem afy {K:PySem.W.Frag} {ι0:List Addr} {H0:Hp} (lo:Int) (n:Nat):aja K ι0 H0 (Itr lo n) ⟨rng lo n,fun _=>True⟩:=by
 intro ι H h g hr _
 refine ⟨fun i d ed=>?_,by show n≤(rng lo n).length;simp [rng]⟩
 simp only [rng,List.getElem?_map,Option.map_eq_some_iff] at ed
 obtain ⟨j,ej,rfl⟩:=ed
 obtain ⟨hj,e⟩:=List.getElem?_eq_some_iff.mp ej
 simp at e hj
 subst e
 refine ⟨hj,fun y H' q=>?_⟩
 obtain ⟨rfl,rfl⟩:=q
 exact ⟨.refl _ _, .int _,hr⟩
theorem a3r {X:Cx} {E:XD} {tg a:Expr} {k:SA} {p pos:Pos} (hg:Gl X "range") (hm:X.mg "range" = none) (ha:MA X E [a] k) (hs:starEach [a] X.env=[(false,eval a X.env)]:=by rfl):MI X E tg (.Call (.Name "range" p) [a] [] pos) (sRg a0r k):=by
 intro pins s σ H Rr I ⟨ι,τ,h,S,Rh,o⟩
 refine a9m hg hm ha hs pins s σ H Rr I ⟨ι,τ,h,S,Rh,bx o fun ds h1 ι1 H1 vs g1 r1 hr1 o1=>?_⟩
 unfold a0r at o1
 split at o1
 ·rename_i j
  cases r1 with
  | cons r rs =>
   cases r;cases rs
   by_cases hb:B62 j
   ·rw [if_pos hb] at o1
    exact ⟨j,rfl,hb.1,hb.2,o1 ι1 H1 _ (.refl _ _) (afy 0 j.toNat) hr1⟩
   ·rw [if_neg hb] at o1;exact o1.elim
 ·exact o1.elim
theorem aan {X:Cx} {E:XD} {tg a b:Expr} {k:SA} {p pos:Pos} (hg:Gl X "range") (hm:X.mg "range" = none) (ha:MA X E [a,b] k) (hs:starEach [a,b] X.env=[(false,eval a X.env),(false,eval b X.env)]:=by rfl) (hs2:starEach [b] X.env=[(false,eval b X.env)]:=by rfl):MI X E tg (.Call (.Name "range" p) [a,b] [] pos) (sRg a3q k):=by
 intro pins s σ H Rr I ⟨ι,τ,h,S,Rh,o⟩
 refine a9n hg hm ha hs hs2 pins s σ H Rr I ⟨ι,τ,h,S,Rh,bx o fun ds h1 ι1 H1 vs g1 r1 hr1 o1=>?_⟩
 unfold a3q at o1
 split at o1
 ·rename_i i j
  cases r1 with
  | cons r rs =>
   cases r
   cases rs with
   | cons r rs =>
   cases r;cases rs
   by_cases hb:B62 i∧B62 j
   ·rw [if_pos hb] at o1
    exact ⟨i,j,rfl,⟨hb.1.1,hb.1.2,hb.2.1,hb.2.2⟩,o1 ι1 H1 _ (.refl _ _) (afy i _) hr1⟩
   ·rw [if_neg hb] at o1;exact o1.elim
 ·exact o1.elim
open Classical in
noncomputable def forL (ck:Hd→Prop) (g:SG) (b:SS):List D→Sd→Hd→Fl
 | [],τ,h=>if ck h then .nx τ h else .no
 | x::xs,τ,h=>if ck h then (match g x τ h with
   | .nx τ1 h1=>(match b τ1 h1 with
    | .nx τ2 h2=>forL ck g b xs τ2 h2
    | .ct τ2 h2=>forL ck g b xs τ2 h2
    | .bk τ2 h2=>.nx τ2 h2
    | r=>r)
   | _=>.no) else .no
noncomputable def a5q (f:SI) (g:SG) (b:SS):SS:=fun τ h=>(f τ h).fl fun it h1=>forL it.ck g b it.xs τ h1
theorem ahm {K:PySem.W.Frag} {E:XD} {ι0:List Addr} {H0:Hp} {J:It} {it:Itm} {g:SG} {b:SS} {N:Ends} {σ0:St} {τ0:Sd} {h0:Hd} (ir:aja K ι0 H0 J it) (S:SRep K ι0 H0 σ0 τ0) (Rh:HRep K ι0 H0 h0) (o:acq K E ι0 H0 (forL it.ck g b it.xs τ0 h0) N) :
  ∃ W:Nat→Nat→St→Hp→Prop,(∃ m,W 0 m σ0 H0)∧∀ i m σ H,W i m σ H →
   (J.stop i H∧N.nx σ H)∨(J.go i H∧∃ M:St→Hp→Prop,(∀ σ' H',M σ' H'→∃ m',m'<m∧W (i+1) m' σ' H')∧∀ x H',J.yld i H x H'→ahl K E g x σ H' fun σ2 H2=>a1p K E b { N with nx:=M,ct:=M,bk:=N.nx } σ2 H2):=by
 refine ⟨fun i m σ H=>m=it.xs.length - i∧i≤it.xs.length∧∃ ι τ h,Gr ι0 H0 ι H∧SRep K ι H σ τ∧HRep K ι H h∧acq K E ι H (forL it.ck g b (it.xs.drop i) τ h) N,⟨_,rfl,Nat.zero_le _,ι0,τ0,h0, .refl _ _,S,Rh,o⟩,?_⟩
 rintro i m σ H ⟨rfl,hi,ι,τ,h,g0,S,Rh,o⟩
 by_cases hlt:i<it.xs.length
 ·rw [List.drop_eq_getElem_cons hlt,forL] at o
  by_cases hc:it.ck h
  ·rw [if_pos hc] at o
   obtain ⟨go,yl⟩:=(ir ι H h g0 Rh hc).1 i _ (List.getElem?_eq_getElem hlt)
   refine .inr ⟨go,fun σ' H'=>it.xs.length - (i+1)<it.xs.length - i∧∃ ι τ h,Gr ι0 H0 ι H'∧SRep K ι H' σ' τ∧HRep K ι H' h∧acq K E ι H' (forL it.ck g b (it.xs.drop (i+1)) τ h) N,fun σ' H' q=>⟨_,q.1,rfl,hlt,q.2⟩,fun x H' y=>?_⟩
   obtain ⟨g1,r1,hr1⟩:=yl x H' y
   refine ⟨ι,τ,h,_,r1,S.mono g1,hr1,?_⟩
   have o':=jx o g1
   cases hg:g it.xs[i] τ h with
   | nx τ1 h1 =>
    rw [hg] at o'
    dsimp only at o'
    intro ι2 H2 σ2 g2 S2 R2
    refine ⟨ι2,τ1,h1,S2,R2,?_⟩
    have o2:=jx o' g2
    have gg:=(g0.trans g1).trans g2
    cases hb:b τ1 h1 with
    | nx τ2 h2=>rw [hb] at o2;exact fun ι3 H3 σ3 g3 S3 R3=>⟨by omega,ι3,τ2,h2,gg.trans g3,S3,R3,jx o2 g3⟩
    | ct τ2 h2=>rw [hb] at o2;exact fun ι3 H3 σ3 g3 S3 R3=>⟨by omega,ι3,τ2,h2,gg.trans g3,S3,R3,jx o2 g3⟩
    | bk τ2 h2=>rw [hb] at o2;exact o2
    | rt d h2=>rw [hb] at o2;exact o2
    | ex c h2=>rw [hb] at o2;exact o2
    | no=>rw [hb] at o2;exact o2.elim
   | _=>rw [hg] at o';exact o'.elim
  ·rw [if_neg hc] at o;exact o.elim
 ·have e:i=it.xs.length:=by omega
  subst e
  rw [List.drop_eq_nil_of_le (Nat.le_refl _),forL] at o
  by_cases hc:it.ck h
  ·rw [if_pos hc] at o
   exact .inl ⟨(ir ι H h g0 Rh hc).2,o ι H σ (.refl _ _) S Rh⟩
  ·rw [if_neg hc] at o;exact o.elim
theorem zx {X:Cx} {E:XD} {tg iter:Expr} {body:List Stmt} {f:SI} {g:SG} {b:SS} {pos:Pos} (hp:PassesOwn (model X.prog X.w) X.A X.env X.xe) (hc:X.calm=true) (hi:MI X E tg iter f) (hg:MG X E tg g) (hb:MSs X E body b) (hs:∀ x,foldedSetIterable iter X.env x=pure x:=by intro _;rfl):MS X E (.For tg iter body [] pos) (a5q f g b):=by
 refine PS.weak (ak2 hp hc hi hg hb hs) fun N σ H ⟨ι,τ,h,S,Rh,o⟩=>?_
 exact ⟨ι,τ,h,S,Rh,lw o fun it h1 ι1 H1 J g1 r1 hr1 o1=>ahm r1 (S.mono g1) hr1 o1⟩
end MI
namespace MI
open PySem PySem.Spec L2
theorem R.bind_assoc {α β γ:Type} (r:R α) (f:α→Hd→R β) (g:β→Hd→R γ):(r.bind f).bind g=r.bind fun a h=>(f a h).bind g:=by cases r<;>rfl
open Classical in
noncomputable def mapR (ck:Hd→Prop) (f:D→Hd→R D):List D→Hd→R (List D)
 | [],h=>if ck h then .ok [] h else .no
 | x::xs,h=>if ck h then (f x h).bind fun y h1=>(mapR ck f xs h1).bind fun ys h2=>.ok (y::ys) h2 else .no
open Classical in
noncomputable def acs (ck:Hd→Prop) (f:D→Hd→R (Option D)):List D→Hd→R (List D)
 | [],h=>if ck h then .ok [] h else .no
 | x::xs,h=>if ck h then (f x h).bind fun y h1=>(acs ck f xs h1).bind fun ys h2=>.ok (y.toList++ys) h2 else .no
def frs' (ix:List Nat) (τ:Sd):Sd:=ix.map fun i=>(τ[i]?).join
def t1 (d:D):Option Sd:=some [some d]
def a2b (t:D→Option Sd) (fe:SE) (rest:Sd) (x:D) (h:Hd):R D:=match t x with | some ts=>fe (ts++rest) h | none=>.no
def a73 (t:D→Option Sd) (c:ST) (fe:SE) (rest:Sd) (x:D) (h:Hd):R (Option D):=match t x with
 | some ts=>(c (ts++rest) h).bind fun b h1=>if b=true then (fe (ts++rest) h1).bind fun y h2=>.ok (some y) h2 else .ok none h1
 | none=>.no
def a7n (yd zs:List D) (h:Hd):R D:=.ok (.ref h.length) (h++[.lst (yd++zs)])
theorem akx (r:R D) (m:Hd→R (List D)) (yd:List D):(r.bind fun y h1=>(m h1).bind fun ys h2=>.ok (y::ys) h2).bind (a7n yd)=r.bind fun y h1=>(m h1).bind (a7n (yd++[y])):=by
 cases r with
 | ok y h1 =>
  show ((m h1).bind _).bind _=(m h1).bind _
  cases m h1 with
  | ok ys h2=>simp [R.bind,a7n]
  | _=>rfl
 | _=>rfl
theorem aom (r:R (Option D)) (m:Hd→R (List D)) (yd:List D):(r.bind fun y h1=>(m h1).bind fun ys h2=>.ok (y.toList++ys) h2).bind (a7n yd)=r.bind fun y h1=>(m h1).bind (a7n (yd++y.toList)):=by
 cases r with
 | ok y h1 =>
  show ((m h1).bind _).bind _=(m h1).bind _
  cases m h1 with
  | ok ys h2=>simp [R.bind,a7n]
  | _=>rfl
 | _=>rfl
noncomputable def jo (fi:SI) (t:D→Option Sd) (fe:SE) (ix:List Nat):SE:=fun τ h=>(fi τ h).bind fun it h1=>if it.xs.length≤LINE then (mapR it.ck (a2b t fe (frs' ix τ)) it.xs h1).bind (a7n []) else .no
noncomputable def a1r (fi:SI) (t:D→Option Sd) (c:ST) (fe:SE) (ix:List Nat):SE:=fun τ h=>(fi τ h).bind fun it h1=>if it.xs.length≤LINE then (acs it.ck (a73 t c fe (frs' ix τ)) it.xs h1).bind (a7n []) else .no
def afz (K:PySem.W.Frag) (n:Nat) (g:TG) (t:D→Option Sd):Prop:=∀ ι H v d ts (r:St) (Q:St→Hp→Prop),Rep K ι H v d→t d=some ts→(∀ us:St,us.length=n→SRep K ι H us ts→Q (us++r) H)→g v (List.replicate n none++r) H Q
theorem a7o {K:PySem.W.Frag} {ι:List Addr} {H:Hp}:SRep K ι H [] []:=⟨rfl,fun i d e=>by simp at e⟩
theorem a5r {K:PySem.W.Frag} {ι:List Addr} {H:Hp} {v:V} {d:D} {σ:St} {τ:Sd} (r:Rep K ι H v d) (s:SRep K ι H σ τ):SRep K ι H (some v::σ) (some d::τ):=by
 refine ⟨by simp [s.len],fun i d' e=>?_⟩
 cases i with
 | zero=>simp at e;subst e;exact ⟨v,rfl,r⟩
 | succ i=>simpa using s.val i d' (by simpa using e)
theorem a0w {K:PySem.W.Frag} {ι:List Addr} {H:Hp} {σ σ':St} {τ τ':Sd} (s:SRep K ι H σ τ) (s':SRep K ι H σ' τ'):SRep K ι H (σ++σ') (τ++τ'):=by
 refine ⟨by simp [s.len,s'.len],fun i d e=>?_⟩
 by_cases hi:i<τ.length
 ·rw [List.getElem?_append_left hi] at e
  rw [List.getElem?_append_left (by rw [s.len];exact hi)]
  exact s.val i d e
 ·rw [List.getElem?_append_right (by omega)] at e
  rw [List.getElem?_append_right (by rw [s.len];omega),s.len]
  exact s'.val _ d e
theorem a3s {K:PySem.W.Frag} {ι:List Addr} {H:Hp} {σ:St} {τ:Sd} (s:SRep K ι H σ τ) (ix:List Nat):SRep K ι H (ix.map fun i=>(σ[i]?).join) (frs' ix τ):=by
 refine ⟨by simp [frs'],fun j d e=>?_⟩
 simp only [frs',List.getElem?_map,Option.map_eq_some_iff] at e
 obtain ⟨i,hi,e⟩:=e
 have:τ[i]? = some (some d):=by
  cases q:τ[i]? with
  | none=>rw [q] at e;cases e
  | some o=>rw [q] at e;simp at e;rw [e]
 obtain ⟨v,h1,h2⟩:=s.val i d this
 exact ⟨v,by simp [hi,h1],h2⟩
theorem wz {K:PySem.W.Frag}:afz K 1 (a8f 0) t1:=fun ι H v d ts r Q hr e q=>by
 cases e
 exact q [some v] rfl (a5r hr a7o)
theorem aao {n:Nat} {us r:St} (h:us.length=n):L2.Ext (List.replicate n none++r) (us++r):=by
 refine ⟨by simp [h],fun i v e=>?_⟩
 by_cases hi:i<n
 ·rw [List.getElem?_append_left (by simpa using hi),List.getElem?_replicate,if_pos hi] at e
  cases e
 ·rw [List.getElem?_append_right (by simpa using hi),List.length_replicate] at e
  rw [List.getElem?_append_right (by omega),h]
  exact e
theorem a7p {K:PySem.W.Frag} {E:XD} {ι0:List Addr} {H0:Hp} {J:It} {it:Itm} {g:TG} {t:D→Option Sd} {fe:SE} {n:Nat} {r:St} {rd:Sd} {h0:Hd} {Q:VK} (ir:aja K ι0 H0 J it) (tg:afz K n g t) (S:SRep K ι0 H0 r rd) (Rh:HRep K ι0 H0 h0) (hl:it.xs.length≤LINE)
  (o:out K E (u9 K) ι0 H0 ((mapR it.ck (a2b t fe rd) it.xs h0).bind (a7n [])) Q):akq J (List.replicate n none++r) g (lift K E (u9 K) fe) Q H0:=by
 refine ⟨fun i m ys H=>m=it.xs.length - i∧i≤it.xs.length∧ys.length≤i∧∃ ι h yd,Gr ι0 H0 ι H∧HRep K ι H h∧Reps K ι H ys yd∧out K E (u9 K) ι H ((mapR it.ck (a2b t fe rd) (it.xs.drop i) h).bind (a7n yd)) Q,
  ⟨_,rfl,Nat.zero_le _,Nat.zero_le _,ι0,h0,[], .refl _ _,Rh, .nil,o⟩,?_⟩
 rintro i m ys H ⟨rfl,hi,hy,ι,h,yd,g0,Rh,ry,o⟩
 by_cases hlt:i<it.xs.length
 ·rw [List.drop_eq_getElem_cons hlt,mapR] at o
  by_cases hc:it.ck h
  ·rw [if_pos hc,akx] at o
   obtain ⟨go,yl⟩:=(ir ι H h g0 Rh hc).1 i _ (List.getElem?_eq_getElem hlt)
   refine .inr ⟨go,Nat.lt_of_le_of_lt hy (Nat.lt_of_lt_of_le hlt (ll hl)),fun x H' y=>?_⟩
   obtain ⟨g1,r1,hr1⟩:=yl x H' y
   have o':=a3k o g1
   cases ht:t it.xs[i] with
   | none=>simp only [a2b,ht] at o';exact o'.elim
   | some ts =>
    simp only [a2b,ht] at o'
    refine tg ι H' x _ ts r _ r1 ht fun us hus su=>⟨aao hus,ι,ts++rd,h,a0w su (S.mono (g0.trans g1)),hr1,bx o' fun d2 h2 ι2 H2 u g2 r2 hr2 o2=>?_⟩
    refine ⟨it.xs.length - (i+1),by omega,rfl,hlt,by simp;omega,ι2,h2,yd++[d2],(g0.trans g1).trans g2,hr2,((ry.mono g1).mono g2).snoc r2,o2⟩
  ·rw [if_neg hc] at o;exact o.elim
 ·have e:i=it.xs.length:=by omega
  subst e
  rw [List.drop_eq_nil_of_le (Nat.le_refl _),mapR] at o
  by_cases hc:it.ck h
  ·rw [if_pos hc] at o
   refine .inl ⟨(ir ι H h g0 Rh hc).2,v4 (E:=E) ry Rh ?_⟩
   simpa [R.bind,a7n] using o
  ·rw [if_neg hc] at o;exact o.elim
theorem aap {K:PySem.W.Frag} {E:XD} {ι0:List Addr} {H0:Hp} {J:It} {it:Itm} {g:TG} {t:D→Option Sd} {c:ST} {fe:SE} {n:Nat} {r:St} {rd:Sd} {h0:Hd} {Q:VK} (ir:aja K ι0 H0 J it) (tg:afz K n g t) (S:SRep K ι0 H0 r rd) (Rh:HRep K ι0 H0 h0) (hl:it.xs.length≤LINE)
  (o:out K E (u9 K) ι0 H0 ((acs it.ck (a73 t c fe rd) it.xs h0).bind (a7n [])) Q):aab J (List.replicate n none++r) g (lift K E ahh c) (lift K E (u9 K) fe) Q H0:=by
 refine ⟨fun i m ys H=>m=it.xs.length - i∧i≤it.xs.length∧ys.length≤i∧∃ ι h yd,Gr ι0 H0 ι H∧HRep K ι H h∧Reps K ι H ys yd∧out K E (u9 K) ι H ((acs it.ck (a73 t c fe rd) (it.xs.drop i) h).bind (a7n yd)) Q,
  ⟨_,rfl,Nat.zero_le _,Nat.zero_le _,ι0,h0,[], .refl _ _,Rh, .nil,o⟩,?_⟩
 rintro i m ys H ⟨rfl,hi,hy,ι,h,yd,g0,Rh,ry,o⟩
 by_cases hlt:i<it.xs.length
 ·rw [List.drop_eq_getElem_cons hlt,acs] at o
  by_cases hc:it.ck h
  ·rw [if_pos hc,aom] at o
   obtain ⟨go,yl⟩:=(ir ι H h g0 Rh hc).1 i _ (List.getElem?_eq_getElem hlt)
   refine .inr ⟨go,Nat.lt_of_le_of_lt hy (Nat.lt_of_lt_of_le hlt (ll hl)),fun x H' y=>?_⟩
   obtain ⟨g1,r1,hr1⟩:=yl x H' y
   have o':=a3k o g1
   cases ht:t it.xs[i] with
   | none=>simp only [a73,ht] at o';exact o'.elim
   | some ts =>
    simp only [a73,ht] at o'
    rw [R.bind_assoc] at o'
    refine tg ι H' x _ ts r _ r1 ht fun us hus su=>⟨aao hus,ι,ts++rd,h,a0w su (S.mono (g0.trans g1)),hr1,bx o' fun b h1 ι1 H1 b' g2 rb hrb ob=>?_⟩
    have su1:SRep K ι1 H1 (us++r) (ts++rd):=(a0w su (S.mono (g0.trans g1))).mono g2
    cases rb
    cases b with
    | true =>
     rw [if_pos rfl] at ob ⊢
     rw [R.bind_assoc] at ob
     refine ⟨ι1,ts++rd,h1,su1,hrb,bx ob fun d2 h2 ι2 H2 u g3 r2 hr2 o2=>?_⟩
     refine ⟨it.xs.length - (i+1),by omega,rfl,hlt,by simp;omega,ι2,h2,yd++[d2],((g0.trans g1).trans g2).trans g3,hr2,(((ry.mono g1).mono g2).mono g3).snoc r2,?_⟩
     simpa [R.bind] using o2
    | false =>
     rw [if_neg Bool.false_ne_true] at ob ⊢
     refine ⟨it.xs.length - (i+1),by omega,rfl,hlt,by omega,ι1,h1,yd,(g0.trans g1).trans g2,hrb,(ry.mono g1).mono g2,?_⟩
     simpa [R.bind] using ob
  ·rw [if_neg hc] at o;exact o.elim
 ·have e:i=it.xs.length:=by omega
  subst e
  rw [List.drop_eq_nil_of_le (Nat.le_refl _),acs] at o
  by_cases hc:it.ck h
  ·rw [if_pos hc] at o
   refine .inl ⟨(ir ι H h g0 Rh hc).2,v4 (E:=E) ry Rh ?_⟩
   simpa [R.bind,a7n] using o
  ·rw [if_neg hc] at o;exact o.elim
section
variable {X:Cx} {E:XD} {elt tg iter cnd:Expr} {scope:Scope} {pos:Pos} {cl:List (Str × Addr)} {ts fr:List Str} {ix:List Nat} {fi:SI} {g:TG} {t:D→Option Sd} {fe:SE} {fc:ST}
theorem a0b (hc:X.calm=true) (S:CSc X scope cl ts fr ix) (hi:MI X E tg iter fi) (hg:∀ C fp s H,PG (cxC X (ts++fr) scope cl C fp s H) tg g) (ht:afz X.K ts.length g t) (he:∀ C fp s H,ME (cxC X (ts++fr) scope cl C fp s H) E elt fe)
  (hs:∀ x,foldedSetIterable iter X.env x=pure x:=by intro _;rfl):ME X E (.ListComp elt [⟨tg,iter,[],0⟩] scope pos) (jo fi t fe ix):=by
 refine PE.weak (ade (te:=lift X.K E (u9 X.K) fe) hc S hi hg he hs) fun σ H Q ⟨ι,τ,h,Sr,Rh,o⟩=>?_
 refine ⟨ι,τ,h,Sr,Rh,bx o fun it h1 ι1 H1 J g1 r1 hr1 o1=>?_⟩
 by_cases hl:it.xs.length≤LINE
 ·rw [if_pos hl] at o1
  exact a7p r1 ht (a3s (Sr.mono g1) ix) hr1 hl o1
 ·rw [if_neg hl] at o1;exact o1.elim
end
mutual
def clo (n:Nat):D→Prop
 | .tup xs=>clos n xs
 | .rol xs=>clos n xs
 | .rod _ xs=>clos n xs
 | .scr xs=>clos n xs
 | .rdT _ xs=>clos n xs
 | .ref i=>i<n
 | _=>True
def clos (n:Nat):List D→Prop
 | []=>True
 | x::xs=>clo n x∧clos n xs
end
mutual
theorem Rep.clo {K:PySem.W.Frag} {ι:List Addr} {H:Hp}:∀ {v:V} {d:D},Rep K ι H v d→clo ι.length d
 | _,_, .non=>by simp [MI.clo]
 | _,_, .bl b=>by simp [MI.clo]
 | _,_, .int i=>by simp [MI.clo]
 | _,_, .str x=>by simp [MI.clo]
 | _,_, .ty n=>by simp [MI.clo]
 | _,_, .tup h r=>by simp only [MI.clo];exact Reps.clo r
 | _,_, .rol h r=>by simp only [MI.clo];exact Reps.clo r
 | _,_, .ref h=>by simp only [MI.clo];exact (List.getElem?_eq_some_iff.mp h).1
 | _,_, .rod h e r=>by simp only [MI.clo];exact Reps.clo r
 | _,_, .scr h r=>by simp only [MI.clo];exact Reps.clo r
 | _,_, .rdT h e r=>by simp only [MI.clo];exact Reps.clo r
 | _,_, .exc h hc hn=>by simp [MI.clo]
theorem Reps.clo {K:PySem.W.Frag} {ι:List Addr} {H:Hp}:∀ {vs:List V} {ds:List D},Reps K ι H vs ds→clos ι.length ds
 | _,_, .nil=>by simp [MI.clos]
 | _,_, .cons r rs=>by simp only [MI.clos];exact ⟨Rep.clo r,Reps.clo rs⟩
end
mutual
theorem Rep.cut {K:PySem.W.Frag} {ι:List Addr} {H:Hp} {n:Nat}:∀ {v:V} {d:D},Rep K ι H v d→clo n d→Rep K (ι.take n) H v d
 | _,_, .non,_=>.non
 | _,_, .bl b,_=>.bl b
 | _,_, .int i,_=>.int i
 | _,_, .str x,_=>.str x
 | _,_, .ty n,_=>.ty n
 | _,_, .tup h r,c=>.tup h (Reps.cut r (by simpa only [MI.clo] using c))
 | _,_, .rol h r,c=>.rol h (Reps.cut r (by simpa only [MI.clo] using c))
 | _,_, .ref h,c=>.ref (by simp only [MI.clo] at c;rw [List.getElem?_take,if_pos c];exact h)
 | _,_, .rod h e r,c=>.rod h e (Reps.cut r (by simpa only [MI.clo] using c))
 | _,_, .scr h r,c=>.scr h (Reps.cut r (by simpa only [MI.clo] using c))
 | _,_, .rdT h e r,c=>.rdT h e (Reps.cut r (by simpa only [MI.clo] using c))
 | _,_, .exc h hc hn,_=>.exc h hc hn
theorem Reps.cut {K:PySem.W.Frag} {ι:List Addr} {H:Hp} {n:Nat}:∀ {vs:List V} {ds:List D},Reps K ι H vs ds→clos n ds→Reps K (ι.take n) H vs ds
 | _,_, .nil,_=>.nil
 | _,_, .cons r rs,c=>by simp only [MI.clos] at c;exact .cons (Rep.cut r c.1) (Reps.cut rs c.2)
end
def a07 (n:Nat):O→Prop
 | .lst xs=>clos n xs
 | .dK kvs=>clos n (kvs.map (·.2))
 | .dT kvs=>clos n (kvs.map (·.2))
def aky (n:Nat) (h:Hd):Prop:=∀ o∈h,a07 n o
theorem ORep.clo {K:PySem.W.Frag} {ι:List Addr} {H:Hp} {a:Addr} {o:O} (r:ORep K ι H a o):a07 ι.length o:=by
 cases o with
 | lst xs=>obtain ⟨vs,_,r⟩:=r;exact r.clo
 | dK kvs=>obtain ⟨us,_,_,r⟩:=r;exact r.clo
 | dT kvs=>obtain ⟨us,_,_,r⟩:=r;exact r.clo
theorem ORep.cut {K:PySem.W.Frag} {ι:List Addr} {H:Hp} {a:Addr} {o:O} {n:Nat} (r:ORep K ι H a o) (c:a07 n o):ORep K (ι.take n) H a o:=by
 cases o with
 | lst xs=>obtain ⟨vs,h,r⟩:=r;exact ⟨vs,h,r.cut c⟩
 | dK kvs=>obtain ⟨us,h,e,r⟩:=r;exact ⟨us,h,e,r.cut c⟩
 | dT kvs=>obtain ⟨us,h,e,r⟩:=r;exact ⟨us,h,e,r.cut c⟩
theorem HRep.clo {K:PySem.W.Frag} {ι:List Addr} {H:Hp} {h:Hd} (r:HRep K ι H h):aky h.length h:=fun o ho=>by
 obtain ⟨i,hi⟩:=List.getElem?_of_mem ho
 obtain ⟨a,_,q⟩:=r.addr hi
 rw [← r.len];exact q.clo
theorem HRep.cut {K:PySem.W.Frag} {ι:List Addr} {H:Hp} {h g:Hd} (r:HRep K ι H (h++g)) (c:aky h.length h):HRep K (ι.take h.length) H h:=by
 refine ⟨r.nd.sublist (List.take_sublist _ _),?_,fun i a o e1 e2=>?_⟩
 ·have:=r.len
  rw [List.length_append] at this
  rw [List.length_take];omega
 ·have hi:i<h.length:=(List.getElem?_eq_some_iff.mp e2).1
  rw [List.getElem?_take,if_pos hi] at e1
  exact (r.obj i a o e1 (by rw [List.getElem?_append_left hi];exact e2)).cut (c o (List.mem_of_getElem? e2))
def X0:XD:=fun _ _ _ _=>False
abbrev SF:=List D→Hd→R D
def ue (K:PySem.W.Frag) (n:Nat) (F:SF):Sp:=fun vs H Q _=>vs.length=n∧∃ ι ds h,Reps K ι H vs ds∧HRep K ι H h∧out K X0 (u9 K) ι H (F ds h) Q
def xf (n:Nat) (ds:List D):Sd:=ds.map some++List.replicate (n - ds.length) none
def jr (b:SS) (n:Nat) (ds:List D) (h:Hd):R D:=match b (xf n ds) h with
 | .rt d h1=>.ok d h1
 | .nx _ h1=>.ok .non h1
 | .ex c h1=>.ex c h1
 | _=>.no
def Rf (n:Nat) (r' r:R D):Prop:=match r with
 | .no=>True
 | .ok d h1=>∃ g,r' = .ok d (h1++g)∧(g=[]∨(n≤h1.length∧clo h1.length d∧aky h1.length h1))
 | .ex c h1=>∃ g,r' = .ex c (h1++g)∧(g=[]∨(n≤h1.length∧aky h1.length h1))
theorem Rf.same {n:Nat} {r' r:R D} (h:r'=r):Rf n r' r:=by
 subst h
 cases r' with
 | ok d h1=>exact ⟨[],by simp, .inl rfl⟩
 | ex c h1=>exact ⟨[],by simp, .inl rfl⟩
 | no=>exact True.intro
theorem a2o {K:PySem.W.Frag} {ι:List Addr} {H:Hp} {vs:List V} {ds:List D} {N:List Str} (r:Reps K ι H vs ds):SRep K ι H (start N vs) (xf N.length ds):=by
 refine a0w ?_ ?_
 ·clear N
  induction r using Reps.rec (motive_1:=fun _ _ _=>True) with
  | nil=>exact a7o
  | cons r rs _ ih=>exact a5r r ih
  | _=>trivial
 ·rw [r.len]
  exact ⟨by simp,fun i d e=>by rw [List.getElem?_replicate] at e;split at e<;>cases e⟩
theorem ag0 {ι ι':List Addr} {H H':Hp} {n:Nat} (g:Gr ι H ι' H') (hn:ι.length≤n):Gr ι H (ι'.take n) H':=by
 obtain ⟨m,rfl,hm⟩:=g.pre
 exact ⟨⟨m.take (n - ι.length),by rw [List.take_append,List.take_of_length_le hn],fun a ha=>hm a (List.mem_of_mem_take ha)⟩,g.tup,g.frz,g.oth,g.kp⟩
section
variable {P:Program} {w:World} {K:PySem.W.Frag} {mg:Str→Option Value} {base:Heap}
theorem akz {x qual:Str} {st:Stmt} {f:Addr} {fd:FuncData} {N ps:List Str} {k:Nat} {b:SS} {F:SF} (Fu:Fun K x qual st f fd) (S:FnScope N ps (aq st))
  (hb:∀ (cdv:Value) (A:Around) (outer:List Env) (s:Shared) (H:Hp) (E:XK),Room k (A.deeper (PyProof.Rows.envOfC qual (aq st) s.heap.objs.size f cdv))→MSs (a0j CX0 P w K mg base N qual (aq st) f cdv A outer s H E).nox X0 (dz st) b)
  (hF:∀ ds h,ds.length=ps.length→clos h.length ds→aky h.length h→Rf h.length (jr b N.length ds h) (F ds h)):FnOk P w K mg base CX0 (k+1) f fd ps (ue K ps.length F):=by
 refine Fu.ok S (fun vs H Q E h=>h.1) fun cdv A outer s H vs Q E hr h=>⟨_,hb cdv A outer s H E hr,?_⟩
 obtain ⟨hl,ι,ds,h,r,hr',o⟩:=h
 refine ⟨ι,xf N.length ds,h,a2o r,hr',?_⟩
 have q:=hF ds h (by rw [← r.len];exact hl) (by rw [← hr'.len];exact r.clo) hr'.clo
 unfold jr at q
 cases hFd:F ds h with
 | no=>rw [hFd] at o;exact o.elim
 | ex c h1 =>
  rw [hFd] at q o
  obtain ⟨g,e,cl⟩:=q
  have fin:∀ ι' H',Gr ι H ι' H'→HRep K ι' H' (h1++g)→X0 c ι' H' (h1++g):=fun ι' H' g1 hr1=>by
   rcases cl with rfl | ⟨hn,c2⟩
   ·rw [List.append_nil] at hr1
    exact o ι' H' g1 hr1
   ·exact o (ι'.take h1.length) H' (ag0 g1 (by rw [hr'.len];exact hn)) (hr1.cut c2)
  cases hbd:b (xf N.length ds) h with
  | ex c' h' =>
   rw [hbd] at e
   injection e with e1 e2
   subst e1 e2
   exact fin
  | _=>rw [hbd] at e;cases e
 | ok d h1 =>
  rw [hFd] at q o
  obtain ⟨g,e,cl⟩:=q
  have fin:∀ ι' H' v,Gr ι H ι' H'→Rep K ι' H' v d→HRep K ι' H' (h1++g)→Q v H':=fun ι' H' v g1 r1 hr1=>by
   rcases cl with rfl | ⟨hn,c1,c2⟩
   ·rw [List.append_nil] at hr1
    exact o ι' H' v g1 r1 hr1
   ·exact o (ι'.take h1.length) H' v (ag0 g1 (by rw [hr'.len];exact hn)) (r1.cut c1) (hr1.cut c2)
  cases hbd:b (xf N.length ds) h with
  | rt d' h' =>
   rw [hbd] at e
   injection e with e1 e2
   subst e1 e2
   exact fin
  | nx τ' h' =>
   rw [hbd] at e
   injection e with e1 e2
   subst e1 e2
   exact fun ι' H' σ' g1 S1 hr1=>fin ι' H' .non g1 .non hr1
  | _=>rw [hbd] at e;cases e
end
end MI
namespace MI
open PySem PySem.Spec L2
section
variable {K:PySem.W.Frag} {E:XD} {ι:List Addr} {H:Hp} {h:Hd} {Q:VK}
theorem ans {d:D} {v:V} (o:out K E (u9 K) ι H (.ok d h) Q) (r:Rep K ι H v d) (hr:HRep K ι H h):Q v H:=o ι H v (.refl _ _) r hr
theorem HRep.lst (hr:HRep K ι H h) {i:Nat} {a:Addr} {xs:List D} (e:ι[i]? = some a) (hi:h[i]? = some (.lst xs)):∃ vs,H a=some (.lst vs)∧Reps K ι H vs xs:=hr.obj i a _ e hi
end
def aqk:D→D→Hd→R D
 | .int i, .int j,h=>.ok (.int (i+j)) h
 | .str x, .str y,h=>if x.length+y.length≤LINE then .ok (.str (x++y)) h else .no
 | .tup xs, .tup ys,h=>if xs≠[]∧xs.length+ys.length≤LINE then .ok (.tup (xs++ys)) h else .no
 | .ref i, .ref j,h=>match h[i]?,h[j]? with
  | some (.lst xs),some (.lst ys)=>if xs.length+ys.length≤LINE then .ok (.ref h.length) (h++[.lst (xs++ys)]) else .no
  | _,_=>.no
 | _,_,_=>.no
def a8g:D→D→Hd→R D
 | .int i, .int j,h=>.ok (.int (i - j)) h
 | _,_,_=>.no
def a6p:D→D→Hd→R D
 | .int i, .int j,h=>if 0<j then .ok (.int (i % j)) h else .no
 | _,_,_=>.no
def acu:D→D→Hd→R D
 | .int i, .int j,h=>if 0<j∧j<1073741824 then .ok (.int (i / j)) h else .no
 | _,_,_=>.no
def a8x:D→D→Hd→R D
 | .int i, .int j,h=>if 0≤j∧j≤1000000∧i.natAbs<2 ^ 64 then .ok (.int (i ^ j.toNat)) h else .no
 | _,_,_=>.no
section
variable {X:Cx} {K:PySem.W.Frag}
theorem ahn:a0l K a8g (rI0 fun i j=>.int (i - j)):=by
 intro E ι H h x y dx dy Q rx ry hr o
 cases rx with
 | int i =>
  cases ry with
  | int j=>exact ⟨i,j,rfl,rfl,ans o (.int _) hr⟩
  | _=>exact o.elim
 | _=>exact o.elim
theorem aho:a0l K a6p (rI (fun _ j=>0<j) fun i j=>.int (i % j)):=by
 intro E ι H h x y dx dy Q rx ry hr o
 cases rx with
 | int i =>
  cases ry with
  | int j =>
   by_cases hc:0<j
   ·simp only [a6p,if_pos hc] at o;exact ⟨i,j,rfl,rfl,hc,ans o (.int _) hr⟩
   ·simp only [a6p,if_neg hc] at o;exact o.elim
  | _=>exact o.elim
 | _=>exact o.elim
theorem aaq:a0l K acu (rI ao6 fun i j=>.int (i / j)):=by
 intro E ι H h x y dx dy Q rx ry hr o
 cases rx with
 | int i =>
  cases ry with
  | int j =>
   by_cases hc:0<j∧j<1073741824
   ·simp only [acu,if_pos hc] at o;exact ⟨i,j,rfl,rfl,hc,ans o (.int _) hr⟩
   ·simp only [acu,if_neg hc] at o;exact o.elim
  | _=>exact o.elim
 | _=>exact o.elim
theorem ahp:a0l K a8x (rI apa fun i j=>.int (i ^ j.toNat)):=by
 intro E ι H h x y dx dy Q rx ry hr o
 cases rx with
 | int i =>
  cases ry with
  | int j =>
   by_cases hc:0≤j∧j≤1000000∧i.natAbs<2 ^ 64
   ·simp only [a8x,if_pos hc] at o;exact ⟨i,j,rfl,rfl,hc,ans o (.int _) hr⟩
   ·simp only [a8x,if_neg hc] at o;exact o.elim
  | _=>exact o.elim
 | _=>exact o.elim
variable {E:XD} {a b e:Expr} {es:List Expr} {fa fb:SE} {ka:SA} {pos:Pos}
theorem ag1 (ha:ME X E a fa) (hb:ME X E b fb):ME X E (.BinOp a .Sub b pos) (s2 a8g fa fb):=a8u ak4 ahn ha hb
theorem a2p (ha:ME X E a fa) (hb:ME X E b fb):ME X E (.BinOp a .Mod b pos) (s2 a6p fa fb):=a8u ak6 aho ha hb
theorem al0 (ha:ME X E a fa) (hb:ME X E b fb):ME X E (.BinOp a .FloorDiv b pos) (s2 acu fa fb):=a8u agy aaq ha hb
theorem aar (ha:ME X E a fa) (hb:ME X E b fb):ME X E (.BinOp a .Pow b pos) (s2 a8x fa fb):=a8u ak7 ahp ha hb
def a8y:D→Hd→R D
 | .int i,h=>.ok (.int (-i)) h
 | _,_=>.no
theorem a7q (ha:ME X E a fa):ME X E (.UnaryOp .USub a pos) (s1 a8y fa):=aoj ak8 (fun E ι H h x dx Q rx hr o=>by
 cases rx with
 | int i=>exact ⟨i,rfl,ans o (.int _) hr⟩
 | _=>exact o.elim) ha
def eqS:D→D→Bool
 | .non, .non=>true
 | .int i, .int j=>decide (i=j)
 | .bl i, .bl j=>decide (i=j)
 | .str i, .str j=>decide (i=j)
 | _,_=>false
def gLt:D→D→Hd→R D
 | .int i, .int j,h=>.ok (.bl (decide (i<j))) h
 | .str i, .str j,h=>.ok (.bl (decide (i.cps.toList<j.cps.toList))) h
 | _,_,_=>.no
def gLe:D→D→Hd→R D
 | .int i, .int j,h=>.ok (.bl (decide (i≤j))) h
 | .str i, .str j,h=>.ok (.bl (!decide (j.cps.toList<i.cps.toList))) h
 | _,_,_=>.no
def gGt:D→D→Hd→R D
 | .int i, .int j,h=>.ok (.bl (decide (j<i))) h
 | _,_,_=>.no
def gGe:D→D→Hd→R D
 | .int i, .int j,h=>.ok (.bl (decide (j≤i))) h
 | _,_,_=>.no
theorem a5s:a0l K gLt (fun x y H Q=>rI0 (fun i j=>.bl (decide (i<j))) x y H Q∨∃ i j,x = .str i∧y = .str j∧Q (.bl (decide (i.cps.toList<j.cps.toList))) H):=by
 intro E ι H h x y dx dy Q rx ry hr o
 cases rx with
 | int i =>
  cases ry with
  | int j=>exact .inl ⟨i,j,rfl,rfl,ans o (.bl _) hr⟩
  | _=>exact o.elim
 | str i =>
  cases ry with
  | str j=>exact .inr ⟨i,j,rfl,rfl,ans o (.bl _) hr⟩
  | _=>exact o.elim
 | _=>exact o.elim
theorem al1:a0l K gLe (fun x y H Q=>rI0 (fun i j=>.bl (decide (i≤j))) x y H Q∨∃ i j,x = .str i∧y = .str j∧Q (.bl (!decide (j.cps.toList<i.cps.toList))) H):=by
 intro E ι H h x y dx dy Q rx ry hr o
 cases rx with
 | int i =>
  cases ry with
  | int j=>exact .inl ⟨i,j,rfl,rfl,ans o (.bl _) hr⟩
  | _=>exact o.elim
 | str i =>
  cases ry with
  | str j=>exact .inr ⟨i,j,rfl,rfl,ans o (.bl _) hr⟩
  | _=>exact o.elim
 | _=>exact o.elim
theorem ag2:a0l K gGt (rI0 fun i j=>.bl (decide (j<i))):=by
 intro E ι H h x y dx dy Q rx ry hr o
 cases rx with
 | int i =>
  cases ry with
  | int j=>exact ⟨i,j,rfl,rfl,ans o (.bl _) hr⟩
  | _=>exact o.elim
 | _=>exact o.elim
theorem ag3:a0l K gGe (rI0 fun i j=>.bl (decide (j≤i))):=by
 intro E ι H h x y dx dy Q rx ry hr o
 cases rx with
 | int i =>
  cases ry with
  | int j=>exact ⟨i,j,rfl,rfl,ans o (.bl _) hr⟩
  | _=>exact o.elim
 | _=>exact o.elim
def a2c:D→Bool
 | .non=>true
 | _=>false
theorem adl {ι:List Addr} {H:Hp} {x:V} {d:D} (r:Rep K ι H x d):decide (x = .non)=a2c d:=by cases r<;>simp [a2c]
def gIs:D→D→Hd→R D
 | x, .non,h=>.ok (.bl (a2c x)) h
 | .bl i, .bl j,h=>.ok (.bl (i == j)) h
 | _,_,_=>.no
def a2q:D→D→Hd→R D
 | x, .non,h=>.ok (.bl (!a2c x)) h
 | .bl i, .bl j,h=>.ok (.bl (i != j)) h
 | _,_,_=>.no
theorem a5t:a0l K a2q (fun x y H Q=>(y = .non∧Q (.bl (!decide (x = .non))) H)∨∃ i j,x = .bl i∧y = .bl j∧Q (.bl (i != j)) H):=by
 intro E ι H h x y dx dy Q rx ry hr o
 cases ry with
 | non=>exact .inl ⟨rfl,by rw [adl rx];simp only [a2q] at o;exact ans o (.bl _) hr⟩
 | bl j =>
  cases rx with
  | bl i=>exact .inr ⟨i,j,rfl,rfl,ans o (.bl _) hr⟩
  | _=>exact o.elim
 | _=>cases rx<;>exact o.elim
def yw:D→Bool
 | .non=>true | .bl _=>true | .int _=>true | .str _=>true
 | _=>false
def eqF:D→D→Bool
 | .non, .non=>true
 | .bl i, .bl j=>i == j
 | .int i, .int j=>i == j
 | .str i, .str j=>i == j
 | .int i, .bl j=>i == (if j then 1 else 0)
 | .bl i, .int j=>(if i then 1 else 0) == j
 | _,_=>false
end
end MI
namespace MI
open PySem PySem.Spec L2
section
variable {X:Cx} {K:PySem.W.Frag} {E:XD} {a b e o:Expr} {es:List Expr} {fa fb:SE} {ka:SA} {pos:Pos}
def xg (d:D) (h:Hd):Option (List D):=match d with
 | .tup xs=>some xs
 | .rol xs=>some xs
 | .ref i=>match h[i]? with | some (.lst xs)=>some xs | _=>none
 | _=>none
def gIx (x y:D) (h:Hd):R D:=match y with
 | .int i=>(match x with
  | .str z=>if z.length≤LINE then (match atI z.cps.toList i with | some c=>.ok (.str ⟨#[c]⟩) h | none=>.no) else .no
  | x=>match xg x h with
   | some xs=>(match atI xs i with | some d=>.ok d h | none=>.no)
   | none=>.no)
 | _=>.no
theorem a7r {ι:List Addr} {H:Hp} {vs:List V} {xs:List D} {i:Int} {d:D} (r:Reps K ι H vs xs) (e:atI xs i=some d):∃ v,atI vs i=some v∧Rep K ι H v d:=by
 unfold atI at e ⊢
 rw [r.len]
 cases hx:ixN xs.length i with
 | none=>rw [hx] at e;cases e
 | some j=>rw [hx] at e;exact r.get e
theorem al2:a0l K gIx (rIx K):=by
 intro E ι H h x y dx dy Q rx ry hr o
 cases ry with
 | int i =>
  have go:∀ {p:Addr} {vs:List V} {xs:List D},Reps K ι H vs xs→out K E (u9 K) ι H (match atI xs i with | some d=>.ok d h | none=>.no) Q→∃ v,atI vs i=some v∧Q v H:=fun {p vs xs} r o=>by
   cases he:atI xs i with
   | none=>rw [he] at o;exact o.elim
   | some d =>
    rw [he] at o
    obtain ⟨v,h1,h2⟩:=a7r r he
    exact ⟨v,h1,ans o h2 hr⟩
  cases rx with
  | str z =>
   by_cases hc:z.length≤LINE
   ·simp only [gIx,if_pos hc] at o
    cases he:atI z.cps.toList i with
    | none=>rw [he] at o;exact o.elim
    | some c=>rw [he] at o;exact .inr (.inr ⟨z,i,c,rfl,rfl,ll hc,he,ans o (.str _) hr⟩)
   ·simp only [gIx,if_neg hc] at o;exact o.elim
  | @tup p vs xs hp r =>
   simp only [gIx,xg] at o
   obtain ⟨v,h1,h2⟩:=go (p:=p) r o
   exact .inr (.inl ⟨p,vs,i,v,rfl,rfl,SqT.of hp,h1,h2⟩)
  | @rol p vs xs hp r =>
   simp only [gIx,xg] at o
   obtain ⟨v,h1,h2⟩:=go (p:=p) r o
   exact .inl ⟨p,vs,i,v,rfl,rfl,hp.l,h1,h2⟩
  | @ref p j hp =>
   obtain ⟨ob,e1,e2⟩:=hr.at hp
   cases ob with
   | lst xs =>
    simp only [gIx,xg,e1] at o
    obtain ⟨vs,h3,h4⟩:=e2
    obtain ⟨v,h1,h2⟩:=go (p:=p) h4 o
    exact .inl ⟨p,vs,i,v,rfl,rfl,SqL.of h3,h1,h2⟩
   | dK _=>simp only [gIx,xg,e1] at o;exact o.elim
   | dT _=>simp only [gIx,xg,e1] at o;exact o.elim
  | _=>exact o.elim
 | _=>exact o.elim
theorem bj (ha:ME X E a fa) (hb:ME X E b fb) (hp:a6s b):ME X E (.Subscript a b pos) (s2 gIx fa fb):=aok akl al2 ha hb hp
abbrev SO:=Sd→Hd→R (Option Int)
abbrev MO (X:Cx) (E:XD) (e:Option Expr) (f:SO):Prop:=PO X e (lift X.K E aqi f)
def oN:SO:=fun _ h=>.ok none h
def oS (f:SE):SO:=fun τ h=>(f τ h).bind fun d h1=>match d with | .int i=>.ok (some i) h1 | _=>.no
theorem PO.weak {e:Option Expr} {t t':St→Hp→(Option Int→Hp→Prop)→Prop} (h:PO X e t) (i:∀ σ H Q,t' σ H Q→t σ H Q):PO X e t':=fun pins s σ H Q I q=>h pins s σ H Q I (i _ _ _ q)
theorem yx:MO X E none oN:=PO.weak ah5 fun σ H Q ⟨ι,τ,h,S,Rh,o⟩=>o ι H none (.refl _ _) rfl Rh
theorem yz (he:ME X E e fa):MO X E (some e) (oS fa):=by
 refine PO.weak (ah6 he) fun σ H Q ⟨ι,τ,h,S,Rh,o⟩=>?_
 refine ⟨ι,τ,h,S,Rh,bx o fun d h1 ι1 H1 v g1 r1 hr1 o1=>?_⟩
 cases r1 with
 | int i=>exact ⟨i,rfl,o1 ι1 H1 _ (.refl _ _) rfl hr1⟩
 | _=>exact o1.elim
def whole (n:Nat) (lo hi:Option Int):Prop:=HT.sIx n 0 lo=0∧HT.sIx n n hi=n
instance (n:Nat) (lo hi:Option Int):Decidable (whole n lo hi):=by unfold whole;exact inferInstance
def gSl (d:D) (lo hi:Option Int) (h:Hd):R D:=match d with
 | .str z=>if z.length≤LINE then .ok (.str ⟨(a3i z.cps.toList lo hi).toArray⟩) h else .no
 | .tup xs=>if ¬ whole xs.length lo hi then .ok (.tup (a3i xs lo hi)) h else .no
 | .rol xs=>.ok (.ref h.length) (h++[.lst (a3i xs lo hi)])
 | .scr xs=>.ok (.ref h.length) (h++[.lst (a3i xs lo hi)])
 | .ref i=>match h[i]? with | some (.lst xs)=>.ok (.ref h.length) (h++[.lst (a3i xs lo hi)]) | _=>.no
 | _=>.no
theorem zy {ι:List Addr} {H:Hp} {vs:List V} {xs:List D} (r:Reps K ι H vs xs) (lo hi:Option Int):Reps K ι H (afo vs lo hi) (a3i xs lo hi):=by
 unfold afo a3i
 rw [r.len]
 exact (r.drop _).take _
theorem a7s {ι:List Addr} {H:Hp} {h:Hd} {x:V} {d:D} {lo hi:Option Int} {Q:VK} (rx:Rep K ι H x d) (hr:HRep K ι H h) (o:out K E (u9 K) ι H (gSl d lo hi h) Q):aof x lo hi H Q∨aob K x lo hi H Q∨aod K x lo hi H Q:=by
 cases rx with
 | str z =>
  by_cases hc:z.length≤LINE
  ·simp only [gSl,if_pos hc] at o;exact .inl ⟨z,rfl,ll hc,ans o (.str _) hr⟩
  ·simp only [gSl,if_neg hc] at o;exact o.elim
 | @tup p vs xs hp r =>
  by_cases hc:¬ whole xs.length lo hi
  ·simp only [gSl,if_pos hc] at o
   exact .inr (.inl ⟨p,vs,rfl,SqT.of hp,by rw [r.len];exact hc,yu (zy r lo hi) hr o⟩)
  ·simp only [gSl,if_neg hc] at o;exact o.elim
 | @rol p vs xs hp r=>exact .inr (.inr ⟨p,vs,rfl,hp.l,v4 (zy r lo hi) hr o⟩)
 | @scr p vs xs hp r=>exact .inr (.inr ⟨p,vs,rfl,hp.l,v4 (zy r lo hi) hr o⟩)
 | @ref p j hp =>
  obtain ⟨ob,e1,e2⟩:=hr.at hp
  cases ob with
  | lst xs =>
   simp only [gSl,e1] at o
   obtain ⟨vs,h3,h4⟩:=e2
   exact .inr (.inr ⟨p,vs,rfl,SqL.of h3,v4 (zy h4 lo hi) hr o⟩)
  | dK _=>simp only [gSl,e1] at o;exact o.elim
  | dT _=>simp only [gSl,e1] at o;exact o.elim
 | _=>exact o.elim
theorem aas {ι:List Addr} {H:Hp} {x:V} {d:D} (r:Rep K ι H x d) (f:yw d=true):yt x=true:=by cases r<;>first | rfl | cases f
theorem al3 {ι:List Addr} {H:Hp} {x y:V} {d c:D} (r:Rep K ι H x d) (q:Rep K ι H y c):yw d=true→yw c=true→eqV x y=eqF d c:=fun f g=>by
 cases r<;>cases q<;>first | rfl | (cases f;done) | (cases g;done)
def inD (x:D) (xs:List D):Bool:=xs.any fun y=>eqF y x
theorem adm {ι:List Addr} {H:Hp} {vs:List V} {xs:List D} (r:Reps K ι H vs xs) (f:xs.all yw=true):vs.all yt=true:=by
 induction r using Reps.rec (motive_1:=fun _ _ _=>True) with
 | nil=>rfl
 | cons r rs _ ih =>
  rw [List.all_cons,Bool.and_eq_true] at f ⊢
  exact ⟨aas r f.1,ih f.2⟩
 | _=>trivial
theorem al4 {ι:List Addr} {H:Hp} {x:V} {d:D} {vs:List V} {xs:List D} (rx:Rep K ι H x d) (fx:yw d=true) (r:Reps K ι H vs xs) (f:xs.all yw=true):inV x vs=inD d xs:=by
 unfold inV inD
 induction r using Reps.rec (motive_1:=fun _ _ _=>True) with
 | nil=>rfl
 | cons r rs _ ih =>
  rw [List.all_cons,Bool.and_eq_true] at f
  rw [List.any_cons,List.any_cons,ih f.2,al3 r rx f.1 fx]
 | _=>trivial
def gIn (neg:Bool) (x y:D) (h:Hd):R D:=match y with
 | .str T=>(match x with
  | .str z=>(match z.cps.toList with | [c]=>.ok (.bl (if neg then !decide (c∈T.cps.toList) else decide (c∈T.cps.toList))) h | _=>.no)
  | _=>.no)
 | y=>match xg y h with
  | some xs=>if yw x=true∧xs.all yw=true then .ok (.bl (if neg then !inD x xs else inD x xs)) h else .no
  | none=>.no
theorem one_sign {z:Str} {c:Nat} (h:z.cps.toList=[c]):z=⟨#[c]⟩:=by
 obtain ⟨cps⟩:=z
 congr
 exact Array.ext' (by simpa using h)
theorem ag4 (neg:Bool) {r1:R2} (h1:∀ c T H (Q:VK),Q (.bl (if neg then !decide (c∈T.cps.toList) else decide (c∈T.cps.toList))) H→r1 (.str ⟨#[c]⟩) (.str T) H Q):a0l K (gIn neg) (fun x y H Q=>r1 x y H Q∨rIn K neg x y H Q):=by
 intro E ι H h x y dx dy Q rx ry hr o
 have go:∀ {p:Addr} {vs:List V} {xs:List D},(SqL K H p vs∨SqT K H p vs)→Reps K ι H vs xs→out K E (u9 K) ι H (if yw dx=true∧xs.all yw=true then .ok (.bl (if neg then !inD dx xs else inD dx xs)) h else .no) Q→rIn K neg x (.ref p) H Q:=fun {p vs xs} sq r o=>by
  split at o
  ·rename_i hc
   exact ⟨p,vs,rfl,sq,aas rx hc.1,adm r hc.2,by rw [al4 rx hc.1 r hc.2];exact ans o (.bl _) hr⟩
  ·exact o.elim
 cases ry with
 | str T =>
  cases rx with
  | str z =>
   simp only [gIn] at o
   split at o
   ·rename_i c hz
    rw [one_sign hz]
    exact .inl (h1 c T H Q (ans o (.bl _) hr))
   ·exact o.elim
  | _=>exact o.elim
 | @tup p vs xs hp r=>simp only [gIn,xg] at o;exact .inr (go (.inr (SqT.of hp)) r o)
 | @rol p vs xs hp r=>simp only [gIn,xg] at o;exact .inr (go (.inl hp.l) r o)
 | @ref p j hp =>
  obtain ⟨ob,e1,e2⟩:=hr.at hp
  cases ob with
  | lst xs =>
   simp only [gIn,xg,e1] at o
   obtain ⟨vs,h3,h4⟩:=e2
   exact .inr (go (.inl (SqL.of h3)) h4 o)
  | dK _=>simp only [gIn,xg,e1] at o;exact o.elim
  | dT _=>simp only [gIn,xg,e1] at o;exact o.elim
 | _=>exact o.elim
theorem ahq:a0l K (gIn false) (fun x y H Q=>(∃ c T,x = .str ⟨#[c]⟩∧y = .str T∧Q (.bl (decide (c∈T.cps.toList))) H)∨rIn K false x y H Q):=ag4 false fun c T H Q q=>⟨c,T,rfl,rfl,q⟩
theorem aat:a0l K (gIn true) (fun x y H Q=>(∃ c T,x = .str ⟨#[c]⟩∧y = .str T∧Q (.bl (!decide (c∈T.cps.toList))) H)∨rIn K true x y H Q):=ag4 true fun c T H Q q=>⟨c,T,rfl,rfl,q⟩
def zb:List D→Hd→R D
 | [.str z],h=>if z.length≤LINE then .ok (.int z.length) h else .no
 | [x],h=>(match xg x h with | some xs=>.ok (.int xs.length) h | none=>.no)
 | _,_=>.no
theorem qe:a9e K zb (fun xs H Q=>(∃ p ys,xs=[.ref p]∧(SqL K H p ys∨SqT K H p ys)∧Q (.int ys.length) H)∨∃ z,xs=[.str z]∧z.length≤sizeLine∧Q (.int z.length) H):=by
 intro E ι H h xs ds Q r hr o
 cases r with
 | nil=>exact o.elim
 | cons r rs =>
  cases rs with
  | cons _ _=>exact (show False by cases r<;>exact o).elim
  | nil =>
   cases r with
   | str z =>
    by_cases hc:z.length≤LINE
    ·simp only [zb,if_pos hc] at o;exact .inr ⟨z,rfl,ll hc,ans o (.int _) hr⟩
    ·simp only [zb,if_neg hc] at o;exact o.elim
   | @tup p vs xs hp r=>simp only [zb,xg] at o;exact .inl ⟨p,vs,rfl, .inr (SqT.of hp),by rw [r.len];exact ans o (.int _) hr⟩
   | @rol p vs xs hp r=>simp only [zb,xg] at o;exact .inl ⟨p,vs,rfl, .inl hp.l,by rw [r.len];exact ans o (.int _) hr⟩
   | @ref p j hp =>
    obtain ⟨ob,e1,e2⟩:=hr.at hp
    cases ob with
    | lst xs =>
     simp only [zb,xg,e1] at o
     obtain ⟨vs,h3,h4⟩:=e2
     exact .inl ⟨p,vs,rfl, .inl (SqL.of h3),by rw [h4.len];exact ans o (.int _) hr⟩
    | dK _=>simp only [zb,xg,e1] at o;exact o.elim
    | dT _=>simp only [zb,xg,e1] at o;exact o.elim
   | _=>exact o.elim
def anc:List D→Hd→R D
 | [.int i],h=>.ok (.int (if i<0 then -i else i)) h
 | _,_=>.no
theorem ahr:a9e K anc (fun xs H Q=>∃ i,xs=[.int i]∧Q (.int (if i<0 then -i else i)) H):=by
 intro E ι H h xs ds Q r hr o
 unfold anc at o
 split at o
 ·cases r with | cons r rs=>cases r;cases rs;exact ⟨_,rfl,ans o (.int _) hr⟩
 ·exact o.elim
def adn:List D→Hd→R D
 | [.int i, .int j],h=>.ok (.int (if j > i then j else i)) h
 | _,_=>.no
def a5u:List D→Hd→R D
 | [.int i, .int j],h=>.ok (.int (if j<i then j else i)) h
 | _,_=>.no
theorem ado:a9e K a5u (fun xs H Q=>∃ i j,xs=[.int i, .int j]∧Q (.int (if j<i then j else i)) H):=by
 intro E ι H h xs ds Q r hr o
 unfold a5u at o
 split at o
 ·cases r with | cons r rs=>cases rs with | cons q rs=>cases r;cases q;cases rs;exact ⟨_,_,rfl,ans o (.int _) hr⟩
 ·exact o.elim
def ahs:List D→Hd→R D
 | [.int i],h=>.ok (.int i) h
 | [.bl k],h=>.ok (.int (if k then 1 else 0)) h
 | _,_=>.no
theorem aht:a9e K ahs (fun xs H Q=>(∃ i,xs=[.int i]∧Q (.int i) H)∨∃ k,xs=[.bl k]∧Q (.int (if k then 1 else 0)) H):=by
 intro E ι H h xs ds Q r hr o
 unfold ahs at o
 split at o
 ·cases r with | cons r rs=>cases r;cases rs;exact .inl ⟨_,rfl,ans o (.int _) hr⟩
 ·cases r with | cons r rs=>cases r;cases rs;exact .inr ⟨_,rfl,ans o (.int _) hr⟩
 ·exact o.elim
def tyD (d:D) (h:Hd):Option String:=match d with
 | .non=>some "NoneType" | .bl _=>some "bool" | .int _=>some "int" | .str _=>some "str" | .tup _=>some "tuple" | .rol _=>some "list"
 | .ref i=>(match h[i]? with | some (.lst _)=>some "list" | some (.dK _)=>some "dict" | _=>none)
 | _=>none
def aau (t T:String):Option Bool :=
 if t∈["NoneType", "bool", "int", "str", "tuple", "list", "dict"]∧T∈["bool", "int", "str", "tuple", "list", "dict"] then some (t == T || (t == "bool" && T == "int")) else none
theorem aav {t T:String} {b:Bool} (e:aau t T=some b):PySem.W.kitOne K (.type t) (.type T)=some b:=by
 unfold aau at e
 split at e
 ·rename_i h
  obtain ⟨h1,h2⟩:=h
  simp only [List.mem_cons,List.not_mem_nil,or_false] at h1 h2
  rcases h1 with rfl | rfl | rfl | rfl | rfl | rfl | rfl<;>rcases h2 with rfl | rfl | rfl | rfl | rfl | rfl<;>(cases e;rfl)
 ·cases e
def adp:List D→Hd→R D
 | [x, .ty T],h=>(match tyD x h with | some t=>(match aau t T with | some b=>.ok (.bl b) h | none=>.no) | none=>.no)
 | _,_=>.no
theorem al5 {ι:List Addr} {H:Hp} {h:Hd} {x:V} {d:D} {t:String} (r:Rep K ι H x d) (hr:HRep K ι H h) (e:tyD d h=some t):TyOf K H x (.type t):=by
 cases r with
 | non=>cases e;exact .non
 | bl b=>cases e;exact .bl b
 | int b=>cases e;exact .int b
 | str b=>cases e;exact .str b
 | ty _=>cases e
 | tup hp r=>cases e;exact .tup hp
 | rol hp r=>cases e;obtain ⟨o,hp⟩:=hp;exact .frz hp
 | scr _ _=>cases e
 | rod _ _ _=>cases e
 | rdT _ _ _=>cases e
 | exc _ _ _=>cases e
 | ref hp =>
  obtain ⟨ob,e1,e2⟩:=hr.at hp
  cases ob with
  | lst xs=>simp only [tyD,e1] at e;cases e;obtain ⟨vs,h3,h4⟩:=e2;exact .lst h3
  | dK _=>simp only [tyD,e1] at e;cases e;obtain ⟨vs,h3,h4⟩:=e2;exact .dK h3
  | dT _=>simp only [tyD,e1] at e;cases e
theorem ahu:a9e K adp (fun xs H Q=>∃ x T t b,xs=[x, .ty T]∧TyOf K H x t∧PySem.W.kitOne K t (.type T)=some b∧Q (.bl b) H):=by
 intro E ι H h xs ds Q r hr o
 unfold adp at o
 split at o
 ·rename_i d T
  cases r with
  | cons r rs =>
   cases rs with
   | cons q rs =>
    cases q;cases rs
    cases ht:tyD d h with
    | none=>rw [ht] at o;exact o.elim
    | some t =>
     rw [ht] at o
     cases hb:aau t T with
     | none=>simp only [hb] at o;exact o.elim
     | some b =>
      simp only [hb] at o
      exact ⟨_,T, .type t,b,rfl,al5 r hr ht,aav hb,ans o (.bl _) hr⟩
 ·exact o.elim
end
end MI
namespace MI
open PySem PySem.Spec L2
section
variable {X:Cx} {K:PySem.W.Frag} {E:XD} {a b e o:Expr} {es:List Expr} {fa fb fo:SE} {ka:SA} {pos apos cpos:Pos} {name:Str} {idn:String}
def ag5 (K:PySem.W.Frag) (g:D→List D→Hd→R D) (r:V→List V→Hp→VK→Prop):Prop:=∀ (E:XD) ι H h x dx xs ds Q,Rep K ι H x dx→Reps K ι H xs ds→HRep K ι H h→out K E (u9 K) ι H (g dx ds h) Q→r x xs H Q
def isL (d:D) (h:Hd):Bool:=match d with | .ref i=>(match h[i]? with | some (.lst _)=>true | _=>false) | .rol _=>true | _=>false
def sML (g:D→List D→Hd→R D) (f:SE) (k:SA):SE:=fun τ h=>(f τ h).bind fun d h1=>if isL d h1=true then (k τ h1).bind fun ds h2=>g d ds h2 else .no
theorem al6 {ι:List Addr} {H:Hp} {h:Hd} {x:V} {d:D} (r:Rep K ι H x d) (hr:HRep K ι H h) (e:isL d h=true):tyV K "list" x H:=by
 cases r with
 | rol hp _=>exact .inl ⟨rfl,_,hp.l⟩
 | ref hp =>
  obtain ⟨ob,e1,e2⟩:=hr.at hp
  cases ob with
  | lst xs=>obtain ⟨vs,h3,_⟩:=e2;exact .inl ⟨rfl,_,SqL.of h3⟩
  | dK _=>simp [isL,e1] at e
  | dT _=>simp [isL,e1] at e
 | _=>cases e
theorem a3t {r:V→List V→Hp→VK→Prop} {g:D→List D→Hd→R D} (slot:Slot "list" name idn) (hty:typeOf (.builtin idn)=pure (.type "method_descriptor")) (hm:MtR X idn r) (hs:ag5 X.K g r) (ho:ME X E o fo) (ha:MA X E (e::es) ka)
  (hbase:attributeBase o name X.env (eval o X.env)=eval o X.env:=by rfl)
  (hfew:((backTo cpos (starEach (e::es) X.env)).all (fun x => !x.1) && (backToKw cpos (keywordEach [] X.env)).all (fun x=>x.1.isSome)
   && decide ((e::es).length+([]:List Keyword).length+(if ([]:List Keyword).isEmpty then 0 else 1)<30))=true:=by rfl)
  (hline:(apos.endLine == cpos.line)=true:=by rfl) (hst:starEach (e::es) X.env=(false,eval e X.env)::starEach es X.env:=by rfl) (hplain:(backTo cpos (starEach es X.env)).any (·.1)=false:=by rfl) :
  ME X E (.Call (.Attribute o name apos) (e::es) [] cpos) (sML g fo ka):=by
 refine PE.weak (aoe PySem.F.plainAttrs_list slot hty hm ho ha hbase hfew hline hst hplain) fun σ H Q ⟨ι,τ,h,S,Rh,o⟩=>?_
 refine ⟨ι,τ,h,S,Rh,bx o fun d h1 ι1 H1 v g1 r1 hr1 o1=>?_⟩
 by_cases hc:isL d h1=true
 ·rw [if_pos hc] at o1
  refine ⟨al6 r1 hr1 hc,ι1,τ,h1,S.mono g1,hr1,bx o1 fun ds h2 ι2 H2 vs g2 r2 hr2 o2=>?_⟩
  exact hs E ι2 H2 h2 v d vs ds Q (r1.mono g2) r2 hr2 o2
 ·rw [if_neg hc] at o1;exact o1.elim
def a3u:D→List D→Hd→R D
 | .ref i,[y],h=>(match h[i]? with | some (.lst xs)=>if xs.length<LINE then .ok .non (h.set i (.lst (xs++[y]))) else .no | _=>.no)
 | _,_,_=>.no
theorem zc:ag5 K a3u aa3:=by
 intro E ι H h x dx xs ds Q rx r hr o
 unfold a3u at o
 split at o
 ·rename_i i y
  cases rx with
  | @ref p _ hp =>
   cases r with
   | cons r1 rs =>
    cases rs
    split at o
    ·rename_i xs hx
     obtain ⟨vs,h3,h4⟩:=hr.lst hp hx
     split at o
     ·rename_i hc
      exact ⟨p,vs,_,rfl,rfl,h3,by rw [h4.len,aog];exact hc,aaj (h4.snoc r1) hr hp .non o⟩
     ·exact o.elim
    ·exact o.elim
 ·exact o.elim
def ari:D→List D→Hd→R D
 | .ref i,[],h=>(match h[i]? with | some (.lst xs)=>(match xs[xs.length - 1]? with | some y=>.ok y (h.set i (.lst xs.dropLast)) | none=>.no) | _=>.no)
 | _,_,_=>.no
def a5v:D→List D→Hd→R D
 | .ref i,[.int j],h=>(match h[i]? with | some (.lst xs)=>(match ixN xs.length j with | some k=>(match xs[k]? with | some y=>if xs.length≤LINE then .ok y (h.set i (.lst (xs.eraseIdx k))) else .no | none=>.no) | none=>.no) | _=>.no)
 | _,_,_=>.no
theorem aaw:ag5 K a5v afr:=by
 intro E ι H h x dx xs ds Q rx r hr o
 unfold a5v at o
 split at o
 ·rename_i i j
  cases rx with
  | @ref p _ hp =>
   cases r with
   | cons r1 rs =>
    cases r1;cases rs
    split at o
    ·rename_i xs hx
     obtain ⟨vs,h3,h4⟩:=hr.lst hp hx
     split at o
     ·rename_i k hk
      split at o
      ·rename_i y hy
       split at o
       ·rename_i hl
        obtain ⟨v,h5,h6⟩:=h4.get hy
        obtain ⟨q1,q2,q3,q4⟩:=a6r hk
        have hl':xs.length≤16777216:=hl
        exact ⟨p,vs,j,k,v,rfl,rfl,h3,by omega,by omega,by rw [h4.len];exact q1,h5,aaj (h4.erase k) hr hp h6 o⟩
       ·exact o.elim
      ·exact o.elim
     ·exact o.elim
    ·exact o.elim
 ·exact o.elim
def sMS (g:D→List D→Hd→R D) (f:SE) (k:SA):SE:=fun τ h=>(f τ h).bind fun d h1=>match d with | .str z=>(k τ h1).bind fun ds h2=>g (.str z) ds h2 | _=>.no
theorem ahv {r:V→List V→Hp→VK→Prop} {g:D→List D→Hd→R D} (slot:Slot "str" name idn) (hty:typeOf (.builtin idn)=pure (.type "method_descriptor")) (hm:MtR X idn r) (hs:ag5 X.K g r) (ho:ME X E o fo) (ha:MA X E (e::es) ka)
  (hbase:attributeBase o name X.env (eval o X.env)=eval o X.env:=by rfl)
  (hfew:((backTo cpos (starEach (e::es) X.env)).all (fun x => !x.1) && (backToKw cpos (keywordEach [] X.env)).all (fun x=>x.1.isSome)
   && decide ((e::es).length+([]:List Keyword).length+(if ([]:List Keyword).isEmpty then 0 else 1)<30))=true:=by rfl)
  (hline:(apos.endLine == cpos.line)=true:=by rfl) (hst:starEach (e::es) X.env=(false,eval e X.env)::starEach es X.env:=by rfl) (hplain:(backTo cpos (starEach es X.env)).any (·.1)=false:=by rfl) :
  ME X E (.Call (.Attribute o name apos) (e::es) [] cpos) (sMS g fo ka):=by
 refine PE.weak (aoi slot hty hm ho ha hbase hfew hline hst hplain) fun σ H Q ⟨ι,τ,h,S,Rh,o⟩=>?_
 refine ⟨ι,τ,h,S,Rh,bx o fun d h1 ι1 H1 v g1 r1 hr1 o1=>?_⟩
 cases r1 with
 | str z=>exact ⟨⟨z,rfl⟩,ι1,τ,h1,S.mono g1,hr1,bx o1 fun ds h2 ι2 H2 vs g2 r2 hr2 o2=>hs E ι2 H2 h2 _ _ vs ds Q (.str z) r2 hr2 o2⟩
 | _=>exact o1.elim
def aax:D→List D→Hd→R D
 | .str T,[.str z],h=>(match z.cps.toList with | [c]=>.ok (.int (zq T c)) h | _=>.no)
 | _,_,_=>.no
theorem adq:ag5 K aax (fun x xs H Q=>∃ T c,x = .str T∧xs=[.str ⟨#[c]⟩]∧Q (.int (zq T c)) H):=by
 intro E ι H h x dx xs ds Q rx r hr o
 unfold aax at o
 split at o
 ·cases rx
  cases r with
  | cons r1 rs =>
   cases r1;cases rs
   split at o
   ·rename_i c hz
    exact ⟨_,c,rfl,by rw [one_sign hz],ans o (.int _) hr⟩
   ·exact o.elim
 ·exact o.elim
def a2r:D→List D→Hd→R D
 | .str T,[.str z],h=>(match z.cps.toList with | [c]=>if c∈T.cps.toList then .ok (.int (zq T c)) h else .no | _=>.no)
 | _,_,_=>.no
theorem aay:ag5 K a2r (fun x xs H Q=>∃ T c,x = .str T∧xs=[.str ⟨#[c]⟩]∧c∈T.cps.toList∧Q (.int (zq T c)) H):=by
 intro E ι H h x dx xs ds Q rx r hr o
 unfold a2r at o
 split at o
 ·cases rx
  cases r with
  | cons r1 rs =>
   cases r1;cases rs
   split at o
   ·rename_i c hz
    split at o
    ·rename_i hc
     exact ⟨_,c,rfl,by rw [one_sign hz],hc,ans o (.int _) hr⟩
    ·exact o.elim
   ·exact o.elim
 ·exact o.elim
def a74:List D→Option (List Str)
 | []=>some []
 | .str z::r=>(a74 r).map (z::·)
 | _::_=>none
theorem a3v {ι:List Addr} {H:Hp}:∀ {vs:List V} {xs:List D} {zs:List Str},Reps K ι H vs xs→a74 xs=some zs→vs=zs.map V.str
 | _,_,_, .nil,e=>by cases e;rfl
 | _,_,zs, .cons (d:=d) r rs,e=>by
  cases r with
  | str z =>
   simp only [a74,Option.map_eq_some_iff] at e
   obtain ⟨ws,h1,rfl⟩:=e
   rw [a3v rs h1];rfl
  | _=>cases e
def aaz:D→List D→Hd→R D
 | .str sep,[.ref i],h=>(match h[i]? with | some (.lst xs)=>(match a74 xs with | some zs=>if (zs.map (·.length)).sum+zs.length*sep.length≤16777216 then .ok (.str (Txt.join sep zs)) h else .no | none=>.no) | _=>.no)
 | .str sep,[.rol xs],h=>(match a74 xs with | some zs=>if (zs.map (·.length)).sum+zs.length*sep.length≤16777216 then .ok (.str (Txt.join sep zs)) h else .no | none=>.no)
 | _,_,_=>.no
theorem adt:ag5 K aaz (fun x xs H Q=>∃ sep p zs,x = .str sep∧xs=[.ref p]∧SqL K H p (zs.map V.str)∧(zs.map (·.length)).sum+zs.length*sep.length≤16777216∧Q (.str (Txt.join sep zs)) H):=by
 intro E ι H h x dx xs ds Q rx r hr o
 unfold aaz at o
 split at o
 ·rename_i sep i
  cases rx
  cases r with
  | cons r1 rs =>
   cases rs
   cases r1 with
   | @ref p _ hp =>
    split at o
    ·rename_i xs hx
     obtain ⟨vs,h3,h4⟩:=hr.lst hp hx
     split at o
     ·rename_i zs hz
      split at o
      ·rename_i hc
       exact ⟨sep,p,zs,rfl,rfl,SqL.of (by rw [h3,a3v h4 hz]),hc,ans o (.str _) hr⟩
      ·exact o.elim
     ·exact o.elim
    ·exact o.elim
 ·rename_i sep xs
  cases rx
  cases r with
  | cons r1 rs =>
   cases rs
   cases r1 with
   | @rol p vs xs hp r =>
    split at o
    ·rename_i zs hz
     split at o
     ·rename_i hc
      exact ⟨sep,p,zs,rfl,rfl,by rw [← a3v r hz];exact hp.l,hc,ans o (.str _) hr⟩
     ·exact o.elim
    ·exact o.elim
 ·exact o.elim
def aql:List D→Hd→R D
 | [.str z],h=>if z.length≤LINE then .ok (.ref h.length) (h++[.lst (uv z)]) else .no
 | [x],h=>(match xg x h with | some xs=>.ok (.ref h.length) (h++[.lst xs]) | none=>.no)
 | _,_=>.no
theorem a2s {ι:List Addr} {H:Hp} (z:Str):Reps K ι H (vz z) (uv z):=by
 unfold vz uv
 induction z.cps.toList with
 | nil=>exact .nil
 | cons c cs ih=>exact .cons (.str _) ih
def qy:List D→Hd→R D
 | [.str z],h=>if z.length≤LINE then .ok (.tup (uv z)) h else .no
 | [x],h=>(match xg x h with | some xs=>.ok (.tup xs) h | none=>.no)
 | _,_=>.no
theorem a1s:a9e K qy (fun xs H Q=>(∃ p ys,xs=[.ref p]∧((SqL K H p ys∧∀ l,H l=none→Q (.ref l) (upd H l (.tup ys)))∨(SqT K H p ys∧Q (.ref p) H)))∨∃ z,xs=[.str z]∧z.length≤sizeLine∧∀ l,H l=none→Q (.ref l) (upd H l (.tup (vz z)))):=by
 intro E ι H h xs ds Q r hr o
 cases r with
 | nil=>exact o.elim
 | cons r rs =>
  cases rs with
  | cons _ _=>exact (show False by cases r<;>exact o).elim
  | nil =>
   cases r with
   | str z =>
    by_cases hc:z.length≤LINE
    ·simp only [qy,if_pos hc] at o;exact .inr ⟨z,rfl,ll hc,yu (a2s z) hr o⟩
    ·simp only [qy,if_neg hc] at o;exact o.elim
   | @tup p vs xs hp r=>simp only [qy,xg] at o;exact .inl ⟨p,vs,rfl, .inr ⟨SqT.of hp,ans o (.tup hp r) hr⟩⟩
   | @rol p vs xs hp r=>simp only [qy,xg] at o;exact .inl ⟨p,vs,rfl, .inl ⟨hp.l,yu r hr o⟩⟩
   | @ref p j hp =>
    obtain ⟨ob,e1,e2⟩:=hr.at hp
    cases ob with
    | lst xs =>
     simp only [qy,xg,e1] at o
     obtain ⟨vs,h3,h4⟩:=e2
     exact .inl ⟨p,vs,rfl, .inl ⟨SqL.of h3,yu h4 hr o⟩⟩
    | dK _=>simp only [qy,xg,e1] at o;exact o.elim
    | dT _=>simp only [qy,xg,e1] at o;exact o.elim
   | _=>exact o.elim
def ahw:List D→Option (List Bool)
 | []=>some []
 | .bl z::r=>(ahw r).map (z::·)
 | _::_=>none
def a3w:List D→Option (List Int)
 | []=>some []
 | .int z::r=>(a3w r).map (z::·)
 | _::_=>none
theorem a75 {ι:List Addr} {H:Hp}:∀ {vs:List V} {xs:List D} {zs:List Bool},Reps K ι H vs xs→ahw xs=some zs→vs=zs.map V.bl
 | _,_,_, .nil,e=>by cases e;rfl
 | _,_,zs, .cons (d:=d) r rs,e=>by
  cases r with
  | bl z =>
   simp only [ahw,Option.map_eq_some_iff] at e
   obtain ⟨ws,h1,rfl⟩:=e
   rw [a75 rs h1];rfl
  | _=>cases e
theorem zz {ι:List Addr} {H:Hp}:∀ {vs:List V} {xs:List D} {zs:List Int},Reps K ι H vs xs→a3w xs=some zs→vs=zs.map V.int
 | _,_,_, .nil,e=>by cases e;rfl
 | _,_,zs, .cons (d:=d) r rs,e=>by
  cases r with
  | int z =>
   simp only [a3w,Option.map_eq_some_iff] at e
   obtain ⟨ws,h1,rfl⟩:=e
   rw [zz rs h1];rfl
  | _=>cases e
theorem adu (bs:List Bool):ahw (bs.map D.bl)=some bs:=by
 induction bs with
 | nil=>rfl
 | cons b bs ih=>simp [ahw,ih]
def ag6:List D→Hd→R D
 | [.ref i],h=>(match h[i]? with | some (.lst xs)=>(match ahw xs with | some bs=>.ok (.bl (bs.all id)) h | none=>.no) | _=>.no)
 | [.rol xs],h=>(match ahw xs with | some bs=>.ok (.bl (bs.all id)) h | none=>.no)
 | _,_=>.no
theorem ahx:a9e K ag6 (fun xs H Q=>∃ (p:Addr) (bs:List Bool),xs=[.ref p]∧SqL K H p (bs.map V.bl)∧Q (.bl (bs.all id)) H):=by
 intro E ι H h xs ds Q r hr o
 unfold ag6 at o
 split at o
 ·cases r with
  | cons r rs =>
   cases rs
   cases r with
   | @ref p _ hp =>
    split at o
    ·rename_i xs hx
     obtain ⟨vs,h3,h4⟩:=hr.lst hp hx
     split at o
     ·rename_i bs hb
      exact ⟨p,bs,rfl,SqL.of (by rw [h3,a75 h4 hb]),ans o (.bl _) hr⟩
     ·exact o.elim
    ·exact o.elim
 ·cases r with
  | cons r rs =>
   cases rs
   cases r with
   | @rol p vs xs hp r =>
    split at o
    ·rename_i bs hb
     exact ⟨p,bs,rfl,by rw [← a75 r hb];exact hp.l,ans o (.bl _) hr⟩
    ·exact o.elim
 ·exact o.elim
def al7:List D→Hd→R D
 | [.ref i],h=>(match h[i]? with | some (.lst xs)=>(match a3w xs with | some bs=>.ok (.int bs.sum) h | none=>.no) | _=>.no)
 | [.rol xs],h=>(match a3w xs with | some bs=>.ok (.int bs.sum) h | none=>.no)
 | _,_=>.no
theorem ahy:a9e K al7 (fun xs H Q=>∃ (p:Addr) (ns:List Int),xs=[.ref p]∧SqL K H p (ns.map V.int)∧Q (.int ns.sum) H):=by
 intro E ι H h xs ds Q r hr o
 unfold al7 at o
 split at o
 ·cases r with
  | cons r rs =>
   cases rs
   cases r with
   | @ref p _ hp =>
    split at o
    ·rename_i xs hx
     obtain ⟨vs,h3,h4⟩:=hr.lst hp hx
     split at o
     ·rename_i bs hb
      exact ⟨p,bs,rfl,SqL.of (by rw [h3,zz h4 hb]),ans o (.int _) hr⟩
     ·exact o.elim
    ·exact o.elim
 ·cases r with
  | cons r rs =>
   cases rs
   cases r with
   | @rol p vs xs hp r =>
    split at o
    ·rename_i bs hb
     exact ⟨p,bs,rfl,by rw [← zz r hb];exact hp.l,ans o (.int _) hr⟩
    ·exact o.elim
 ·exact o.elim
end
end MI
theorem L2.Room.u {k:Nat} {A:PySem.Around} (r:L2.Room k A):A.units+64<PySem.cLine:=r.units
namespace MI
open PySem PySem.Spec L2
mutual
def eqD:D→D→Bool
 | .non, .non=>true
 | .bl a, .bl b=>a == b
 | .bl a, .int b=>(if a then 1 else 0) == b
 | .int a, .bl b=>a == (if b then 1 else 0)
 | .int a, .int b=>a == b
 | .str a, .str b=>a == b
 | .tup xs, .tup ys=>adv xs ys
 | _,_=>false
def adv:List D→List D→Bool
 | [],[]=>true
 | x::xs,y::ys=>eqD x y && adv xs ys
 | _,_=>false
end
def pur:Nat→D→Bool
 | _, .non=>true
 | _, .bl _=>true
 | _, .int _=>true
 | _, .str _=>true
 | n+1, .tup xs=>xs.all (pur n)
 | _,_=>false
theorem apd {n:Nat}:∀ {m:Nat} {d:D},n≤m→pur n d=true→pur m d=true:=by
 induction n with
 | zero=>intro m d _ h;cases d<;>first | (cases m<;>rfl) | (cases h;done)
 | succ n ih =>
  intro m d hm h
  cases m with
  | zero=>omega
  | succ m =>
   cases d with
   | tup xs =>
    simp only [pur,List.all_eq_true] at h ⊢
    exact fun x hx=>ih (by omega) (h x hx)
   | _=>first | rfl | (cases h;done)
def pairE (xs ys:List D) (j:Nat):Bool:=match xs[j]?,ys[j]? with | some x,some y=>eqD x y | _,_=>false
theorem a3x:∀ xs ys:List D,((List.range (min xs.length ys.length)).all (pairE xs ys) && xs.length == ys.length)=adv xs ys
 | [],[]=>by simp [adv]
 | [],_::_=>by simp [adv]
 | _::_,[]=>by simp [adv]
 | x::xs,y::ys=>by
  have ih:=a3x xs ys
  rw [show min (x::xs).length (y::ys).length=min xs.length ys.length+1 by simp only [List.length_cons];omega,List.range_succ_eq_map]
  rw [List.all_cons,List.all_map]
  have e:(pairE (x::xs) (y::ys) ∘ Nat.succ)=pairE xs ys:=by funext j;simp [pairE]
  rw [e]
  simp only [adv]
  rw [← ih]
  have e2:((x::xs).length == (y::ys).length)=(xs.length == ys.length):=by simp
  rw [e2,Bool.and_assoc]
  rfl
section
variable {K:PySem.W.Frag} {ι:List Addr} {H:Hp}
theorem adw:∀ (n:Nat) {v:V} {d e:D},Rep K ι H v d→Rep K ι H v e→pur n d=true→pur n e=true→eqD d e=true:=by
 intro n
 induction n with
 | zero=>intro v d e r q p1 p2;cases r<;>cases q<;>first | (simp [eqD];done) | (cases p1;done) | (cases p2;done)
 | succ n ih =>
  intro v d e r q p1 p2
  cases r with
  | @tup a vs xs h rs =>
   cases q with
   | @tup _ us ys h' qs =>
    rw [h] at h';cases h'
    simp only [eqD]
    simp only [pur,List.all_eq_true] at p1 p2
    clear h
    induction rs using Reps.rec (motive_1:=fun _ _ _=>True) generalizing ys with
    | nil=>cases qs;rfl
    | cons r rs _ ih2 =>
     cases qs with
     | cons q qs =>
      simp only [adv,Bool.and_eq_true]
      exact ⟨ih r q (p1 _ (List.mem_cons_self ..)) (p2 _ (List.mem_cons_self ..)),ih2 qs (fun x hx=>p1 x (List.mem_cons_of_mem _ hx)) (fun x hx=>p2 x (List.mem_cons_of_mem _ hx))⟩
    | _=>trivial
   | _=>cases p2
  | _=>cases q<;>first | (simp [eqD];done) | (cases p1;done) | (cases p2;done)
theorem a0m {n:Nat} {v:V} {d:D} (r:Rep K ι H v d) (p:pur n d=true):(∃ xs,d = .tup xs)∨(yt v=true∧yw d=true):=by
 cases r<;>first | exact .inr ⟨rfl,rfl⟩ | exact .inl ⟨_,rfl⟩ | (cases n<;>cases p)
theorem a3y {x y:V} {d e:D} (r:Rep K ι H x d) (q:Rep K ι H y e) (f:yw d=true) (g:yw e=true):eqV x y=eqD d e:=by
 cases r<;>cases q<;>first | rfl | (simp [eqV,eqD];done) | (cases f;done) | (cases g;done)
open SeqAt in
theorem al8 {P:Program} {w:World} {s:Shared} (hok:HOk P w H s.heap):∀ (n:Nat) (A:Around) {x y:V} {u v:Value} {d e:D},Rep K ι H x d→Rep K ι H y e→RelV x u→RelV y v→pur n d=true→pur n e=true→A.units+n<cLine→EqAt A s u v (eqD d e):=by
 intro n
 induction n with
 | zero =>
  intro A x y u v d e r q rx ry p1 p2 hu
  rcases a0m r p1 with ⟨xs,rfl⟩ | ⟨f1,f2⟩
  ·cases p1
  ·rcases a0m q p2 with ⟨xs,rfl⟩ | ⟨g1,g2⟩
   ·cases p2
   ·rw [← a3y r q f2 g2];exact aa1 rx ry f1 g1
 | succ n ih =>
  intro A x y u v d e r q rx ry p1 p2 hu
  rcases a0m r p1 with ⟨xs,rfl⟩ | ⟨f1,f2⟩
  ·cases r with
   | @tup a vs _ ha rs =>
    cases rx
    obtain ⟨_,its,r1,t1⟩:=(Rd.of ha).ok hok
    rcases a0m q p2 with ⟨ys,rfl⟩ | ⟨g1,g2⟩
    ·cases q with
     | @tup b us _ hb qs =>
      cases ry
      obtain ⟨_,its2,r2,t2⟩:=(Rd.of hb).ok hok
      by_cases hab:a=b
      ·subst hab
       rw [adw (n+1) (.tup ha rs) (.tup hb qs) p1 p2]
       exact EqAt.same _
      ·have l1:its.toArray.size=xs.length:=by rw [List.size_toArray,← r1.length,rs.len]
       have l2:its2.toArray.size=ys.length:=by rw [List.size_toArray,← r2.length,qs.len]
       have:=RcAt.tuples (A:=A) (s:=s) (e:=pairE xs ys) t1 t2 (by omega) (fun j h1 h2=>by
        have j1:j<xs.length:=by omega
        have j2:j<ys.length:=by omega
        obtain ⟨v1,e1,q1⟩:=rs.get (List.getElem?_eq_getElem j1)
        obtain ⟨v2,e2,q2⟩:=qs.get (List.getElem?_eq_getElem j2)
        obtain ⟨u1,e3,q3⟩:=r1.get e1
        obtain ⟨u2,e4,q4⟩:=r2.get e2
        have f1:its.toArray[j]=u1:=by simpa using (List.getElem?_eq_some_iff.mp e3).2
        have f2:its2.toArray[j]=u2:=by simpa using (List.getElem?_eq_some_iff.mp e4).2
        have pe:pairE xs ys j=eqD xs[j] ys[j]:=by simp [pairE,List.getElem?_eq_getElem j1,List.getElem?_eq_getElem j2]
        rw [f1,f2,pe]
        simp only [pur,List.all_eq_true] at p1 p2
        exact ih A.in1 q1 q2 q3 q4 (p1 _ (List.getElem_mem j1)) (p2 _ (List.getElem_mem j2)) (by rw [Around.in1_units];omega))
       rw [l1,l2,a3x] at this
       exact EqAt.of_refs hab this
    ·have e0:eqD (.tup xs) e=false:=by cases e<;>first | rfl | (cases g2;done)
     rw [e0]
     cases y with
     | non=>cases ry;exact EqAt.tuple_none t1 (by omega)
     | bl b=>cases ry;exact EqAt.tuple_bool b t1 (by omega)
     | int b=>obtain ⟨t,rfl⟩:=ry;exact EqAt.tuple_int b t t1 (by omega)
     | str b=>obtain ⟨t,rfl⟩:=ry;exact EqAt.tuple_str b t t1 (by omega)
     | _=>cases g1
  ·rcases a0m q p2 with ⟨ys,rfl⟩ | ⟨g1,g2⟩
   ·cases q with
    | @tup b us _ hb qs =>
     cases ry
     obtain ⟨_,its2,r2,t2⟩:=(Rd.of hb).ok hok
     have e0:eqD d (.tup ys)=false:=by cases d<;>first | rfl | (cases f2;done)
     rw [e0]
     cases x with
     | non=>cases rx;exact EqAt.none_tuple t2 (by omega)
     | bl b=>cases rx;exact EqAt.bool_tuple b t2 (by omega)
     | int b=>obtain ⟨t,rfl⟩:=rx;exact EqAt.int_tuple b t t2 (by omega)
     | str b=>obtain ⟨t,rfl⟩:=rx;exact EqAt.str_tuple b t t2 (by omega)
     | _=>cases f1
   ·rw [← a3y r q f2 g2];exact aa1 rx ry f1 g1
open SeqAt in
theorem al9 {A:Around} {s:Shared} {y x:V} {u v:Value} (ry:RelV y u) (rx:RelV x v) (fy:yt y=true) (fx:yt x=true):RcAt A s u v (eqV y x):=by
 cases y with
 | non =>
  cases ry
  cases x with
  | non=>cases rx;exact RcAt.none_none
  | bl b=>cases rx;exact RcAt.none_bool b
  | int b=>obtain ⟨t,rfl⟩:=rx;exact RcAt.none_int b t
  | str b=>obtain ⟨t,rfl⟩:=rx;exact RcAt.none_str b t
  | _=>cases fx
 | bl a =>
  cases ry
  cases x with
  | non=>cases rx;exact RcAt.bool_none a
  | bl b=>cases rx;exact RcAt.bool_bool a b
  | int b=>obtain ⟨t,rfl⟩:=rx;exact RcAt.bool_int a b t
  | str b=>obtain ⟨t,rfl⟩:=rx;exact RcAt.bool_str a b t
  | _=>cases fx
 | int a =>
  obtain ⟨t',rfl⟩:=ry
  cases x with
  | non=>cases rx;exact RcAt.int_none a t'
  | bl b=>cases rx;exact RcAt.int_bool a t' b
  | int b=>obtain ⟨t,rfl⟩:=rx;exact RcAt.int_int a t' b t
  | str b=>obtain ⟨t,rfl⟩:=rx;exact RcAt.int_str a t' b t
  | _=>cases fx
 | str a =>
  obtain ⟨t',rfl⟩:=ry
  cases x with
  | non=>cases rx;exact RcAt.str_none a t'
  | bl b=>cases rx;exact RcAt.str_bool a t' b
  | int b=>obtain ⟨t,rfl⟩:=rx;exact RcAt.str_int a t' b t
  | str b=>obtain ⟨t,rfl⟩:=rx;exact RcAt.str_str a t' b t
  | _=>cases fx
 | _=>cases fy
open SeqAt in
theorem adx {A:Around} {s:Shared} {y x:V} {u v:Value} (ry:RelV y u) (rx:RelV x v) (fy:yt y=true) (fx:yt x=true):RcNeAt A s u v (!eqV y x):=by
 cases y with
 | non =>
  cases ry
  cases x with
  | non=>cases rx;exact RcNeAt.none_none
  | bl b=>cases rx;exact RcNeAt.none_bool b
  | int b=>obtain ⟨t,rfl⟩:=rx;exact RcNeAt.none_int b t
  | str b=>obtain ⟨t,rfl⟩:=rx;exact RcNeAt.none_str b t
  | _=>cases fx
 | bl a =>
  cases ry
  cases x with
  | non=>cases rx;exact RcNeAt.bool_none a
  | bl b=>cases rx;exact RcNeAt.bool_bool a b
  | int b=>obtain ⟨t,rfl⟩:=rx;exact RcNeAt.bool_int a b t
  | str b=>obtain ⟨t,rfl⟩:=rx;exact RcNeAt.bool_str a b t
  | _=>cases fx
 | int a =>
  obtain ⟨t',rfl⟩:=ry
  cases x with
  | non=>cases rx;exact RcNeAt.int_none a t'
  | bl b=>cases rx;exact RcNeAt.int_bool a t' b
  | int b=>obtain ⟨t,rfl⟩:=rx;exact RcNeAt.int_int a t' b t
  | str b=>obtain ⟨t,rfl⟩:=rx;exact RcNeAt.int_str a t' b t
  | _=>cases fx
 | str a =>
  obtain ⟨t',rfl⟩:=ry
  cases x with
  | non=>cases rx;exact RcNeAt.str_none a t'
  | bl b=>cases rx;exact RcNeAt.str_bool a t' b
  | int b=>obtain ⟨t,rfl⟩:=rx;exact RcNeAt.str_int a t' b t
  | str b=>obtain ⟨t,rfl⟩:=rx;exact RcNeAt.str_str a t' b t
  | _=>cases fx
 | _=>cases fy
open SeqAt in
theorem tops {P:Program} {w:World} {s:Shared} {A:Around} (hok:HOk P w H s.heap) {x y:V} {u v:Value} {d e:D} (r:Rep K ι H x d) (q:Rep K ι H y e) (rx:RelV x u) (ry:RelV y v) (p1:pur 60 d=true) (p2:pur 60 e=true) (hu:A.units+64<cLine) :
  RcAt A s u v (eqD d e)∧RcNeAt A s u v (!eqD d e):=by
 rcases a0m r p1 with ⟨xs,rfl⟩ | ⟨f1,f2⟩
 ·cases r with
  | @tup a vs _ ha rs =>
   cases rx
   obtain ⟨_,its,r1,t1⟩:=(Rd.of ha).ok hok
   rcases a0m q p2 with ⟨ys,rfl⟩ | ⟨g1,g2⟩
   ·cases q with
    | @tup b us _ hb qs =>
     cases ry
     obtain ⟨_,its2,r2,t2⟩:=(Rd.of hb).ok hok
     have l1:its.toArray.size=xs.length:=by rw [List.size_toArray,← r1.length,rs.len]
     have l2:its2.toArray.size=ys.length:=by rw [List.size_toArray,← r2.length,qs.len]
     have step:∀ j (h1:j<its.toArray.size) (h2:j<its2.toArray.size),EqAt A.in1 s its.toArray[j] its2.toArray[j] (pairE xs ys j):=fun j h1 h2=>by
      have j1:j<xs.length:=by omega
      have j2:j<ys.length:=by omega
      obtain ⟨v1,e1,q1⟩:=rs.get (List.getElem?_eq_getElem j1)
      obtain ⟨v2,e2,q2⟩:=qs.get (List.getElem?_eq_getElem j2)
      obtain ⟨u1,e3,q3⟩:=r1.get e1
      obtain ⟨u2,e4,q4⟩:=r2.get e2
      have f1:its.toArray[j]=u1:=by simpa using (List.getElem?_eq_some_iff.mp e3).2
      have f2:its2.toArray[j]=u2:=by simpa using (List.getElem?_eq_some_iff.mp e4).2
      have pe:pairE xs ys j=eqD xs[j] ys[j]:=by simp [pairE,List.getElem?_eq_getElem j1,List.getElem?_eq_getElem j2]
      rw [f1,f2,pe]
      simp only [pur,List.all_eq_true] at p1 p2
      exact al8 hok 59 A.in1 q1 q2 q3 q4 (p1 _ (List.getElem_mem j1)) (p2 _ (List.getElem_mem j2)) (by rw [Around.in1_units];omega)
     have c1:=RcAt.tuples (A:=A) (s:=s) (e:=pairE xs ys) t1 t2 (by omega) step
     have c2:=RcNeAt.tuples (A:=A) (s:=s) (e:=pairE xs ys) t1 t2 (by omega) step
     rw [l1,l2,a3x] at c1 c2
     exact ⟨c1,c2⟩
   ·have e0:eqD (.tup xs) e=false:=by cases e<;>first | rfl | (cases g2;done)
    rw [e0]
    cases y with
    | non=>cases ry;exact ⟨RcAt.tuple_none t1 (by omega),RcNeAt.tuple_none t1 (by omega)⟩
    | bl b=>cases ry;exact ⟨RcAt.tuple_bool b t1 (by omega),RcNeAt.tuple_bool b t1 (by omega)⟩
    | int b=>obtain ⟨t,rfl⟩:=ry;exact ⟨RcAt.tuple_int b t t1 (by omega),RcNeAt.tuple_int b t t1 (by omega)⟩
    | str b=>obtain ⟨t,rfl⟩:=ry;exact ⟨RcAt.tuple_str b t t1 (by omega),RcNeAt.tuple_str b t t1 (by omega)⟩
    | _=>cases g1
 ·rcases a0m q p2 with ⟨ys,rfl⟩ | ⟨g1,g2⟩
  ·cases q with
   | @tup b us _ hb qs =>
    cases ry
    obtain ⟨_,its2,r2,t2⟩:=(Rd.of hb).ok hok
    have e0:eqD d (.tup ys)=false:=by cases d<;>first | rfl | (cases f2;done)
    rw [e0]
    cases x with
    | non=>cases rx;exact ⟨RcAt.none_tuple t2 (by omega),RcNeAt.none_tuple t2 (by omega)⟩
    | bl b=>cases rx;exact ⟨RcAt.bool_tuple b t2 (by omega),RcNeAt.bool_tuple b t2 (by omega)⟩
    | int b=>obtain ⟨t,rfl⟩:=rx;exact ⟨RcAt.int_tuple b t t2 (by omega),RcNeAt.int_tuple b t t2 (by omega)⟩
    | str b=>obtain ⟨t,rfl⟩:=rx;exact ⟨RcAt.str_tuple b t t2 (by omega),RcNeAt.str_tuple b t t2 (by omega)⟩
    | _=>cases f1
  ·rw [← a3y r q f2 g2];exact ⟨al9 rx ry f1 g1,adx rx ry f1 g1⟩
def ape (K:PySem.W.Frag):R2:=fun x y H Q=>∃ ι d e,Rep K ι H x d∧Rep K ι H y e∧pur 60 d=true∧pur 60 e=true∧Q (.bl (eqD d e)) H
def apf (K:PySem.W.Frag):R2:=fun x y H Q=>∃ ι d e,Rep K ι H x d∧Rep K ι H y e∧pur 60 d=true∧pur 60 e=true∧Q (.bl (!eqD d e)) H
theorem a0n {X:Cx} (hu:X.A.units+64<cLine):OpR X (compareOp .Eq) (ape X.K):=by
 intro pins s σ H x y v u Q I rx ry h
 obtain ⟨ι,d,e,r,q,p1,p2,hq⟩:=h
 exact (tops (A:=X.A) I.hok r q rx ry p1 p2 hu).1 X.prog X.w X.xe _ ⟨.bl _,H,I,rfl,hq⟩
theorem a2t {X:Cx} (hu:X.A.units+64<cLine):OpR X (compareOp .NotEq) (apf X.K):=by
 intro pins s σ H x y v u Q I rx ry h
 obtain ⟨ι,d,e,r,q,p1,p2,hq⟩:=h
 exact (tops (A:=X.A) I.hok r q rx ry p1 p2 hu).2 X.prog X.w X.xe _ ⟨.bl _,H,I,rfl,hq⟩
def hEq (x y:D) (h:Hd):R D:=if pur 60 x=true∧pur 60 y=true then .ok (.bl (eqD x y)) h else .no
def hNe (x y:D) (h:Hd):R D:=if pur 60 x=true∧pur 60 y=true then .ok (.bl (!eqD x y)) h else .no
theorem xj:a0l K hEq (ape K):=by
 intro E ι H h x y dx dy Q rx ry hr o
 unfold hEq at o
 split at o
 ·rename_i hc;exact ⟨ι,dx,dy,rx,ry,hc.1,hc.2,ans o (.bl _) hr⟩
 ·exact o.elim
theorem a0c:a0l K hNe (apf K):=by
 intro E ι H h x y dx dy Q rx ry hr o
 unfold hNe at o
 split at o
 ·rename_i hc;exact ⟨ι,dx,dy,rx,ry,hc.1,hc.2,ans o (.bl _) hr⟩
 ·exact o.elim
end
section
variable {X:Cx} {E:XD} {K:PySem.W.Frag}
def a1t:D→D→Hd→R D
 | .int i, .int j,h=>.ok (.int (i+j)) h
 | .str x, .str y,h=>if x.length+y.length≤LINE then .ok (.str (x++y)) h else .no
 | _,_,_=>.no
theorem a0x:a0l K a1t (fun x y H Q=>rI0 (fun i j=>.int (i+j)) x y H Q∨∃ i j,x = .str i∧y = .str j∧i.length+j.length≤sizeLine∧Q (.str (i++j)) H):=by
 intro E ι H h x y dx dy Q rx ry hr o
 cases rx with
 | int i =>
  cases ry with
  | int j=>exact .inl ⟨i,j,rfl,rfl,ans o (.int _) hr⟩
  | _=>exact o.elim
 | str i =>
  cases ry with
  | str j =>
   by_cases hc:i.length+j.length≤LINE
   ·simp only [a1t,if_pos hc] at o;exact .inr ⟨i,j,rfl,rfl,ll hc,ans o (.str _) hr⟩
   ·simp only [a1t,if_neg hc] at o;exact o.elim
  | _=>exact o.elim
 | _=>exact o.elim
theorem ala:bootBuiltins "min" = some (.builtin "min"):=by first | exact PySem.boot_min | exact PyProof.Rows.boot_min
theorem ahz:bootBuiltins "bool" = some (.type "bool"):=by first | exact PySem.boot_bool | exact PyProof.Rows.boot_bool
theorem alb:bootBuiltins "sum" = some (.builtin "sum"):=by first | exact PySem.boot_sum | exact PyProof.Rows.boot_sum
theorem qj {e:Expr} {es:List Expr} {g:SG} {ks:SGs} (h1:MG X E e g) (h2:MGs X E es ks) (hs:(assignEach (e::es) X.env).map (·.2)=assign e X.env::(assignEach es X.env).map (·.2):=by rfl):MGs X E (e::es) (mq g ks) :=
 PGs.weak (acz h1 h2 hs) fun vs σ H Q q=>adi q
end
end MI
namespace ZP
open PySem PySem.Spec PySem.Builtin PySem.Builtin.SmallTypes
section
variable {prog:Program} {w:World} {A:Around} {E:Value→Shared→Prop} {s:Shared}
theorem ai0 {α:Type} {Q:α→Shared→Prop} (hh:A.handled=none) (q:∀ h' e,(∀ b o,s.heap.get? b=some o→h'.get? b=some o)→(∃ o,h'.get? e=some o∧o.cls = .type "StopIteration")→E (.ref e) { s with heap:=h' }) :
  wpAny (model prog w) A (stopIteration:Sem α) Q E s:=by
 have none_first:firstArgMember (.type "StopIteration") []=pure Value.none:=by first | rfl | (simp only [firstArgMember];rfl)
 rw [stopIteration]
 apply wpAny_bind
 rw [newExc,newTuple]
 apply wpAny_bind
 apply wpAny_newObj_type _ (by size_fits)
 rw [none_first,pure_bind]
 apply wpAny_newObj_type _ (by size_fits)
 apply wpAny_raiseNew_none hh
 exact q _ _ (fun b o z=>Heap.get?_push_of_some _ (Heap.get?_push_of_some _ z)) ⟨_,Heap.get?_push_size _ rfl,rfl⟩
theorem ady {it t:Addr} {i:Nat} {items:Array Value} {x:Value} {Q:Value→Shared→Prop} (hi:s.heap.IsTupleIter it t i) (ht:s.heap.IsTuple t items) (hx:items[i]? = some x)
  (q:∀ h',h'.IsTupleIter it t (i+1)→Heap.SameBut it s.heap h'→Q x { s with heap:=h' }):wpAny (model prog w) A (nextOf (.ref it)) Q E s:=by
 have ty:=hi.typeIs
 obtain ⟨o,e1,e2,e3⟩:=id hi
 obtain ⟨p,f1,f2,n,f3⟩:=ht
 rw [nextOf]
 apply wpAny_bind
 apply wpAny_callSpecial?_slot (name:=Str.ofString "__next__") ty F.slot_tuple_iterator_next
 apply wpAny_call_entry F.slot_tuple_iterator_next ty F.entry_tuple_iterator_next _ (F.args_tuple_iterator_next_1 _)
 change wpAny (model prog w) A.in1 (field (.ref it) 0>>=_) _ _ _
 apply wpAny_bind;apply wpAny_field e1 e3 (x:=.ref t) rfl
 change wpAny (model prog w) A.in1 (field (.ref it) 1>>=_) _ _ _
 apply wpAny_bind;apply wpAny_field e1 e3 (x:=.int i 0) rfl
 change wpAny (model prog w) A.in1 (seqItems? (.ref t)>>=_) _ _ _
 apply wpAny_bind;apply wpAny_seqItems f1 f3
 dsimp only
 rw [Int.toNat_natCast,hx]
 apply wpAny_bind
 obtain ⟨c,dd,dt,sl⟩:=o
 simp only at e2 e3
 subst e2 e3
 apply wpAny_setField e1 rfl (Nat.lt_succ_self 1)
 apply wpAny_pure
 exact ⟨x,rfl,wpAny_pure (q _ ⟨_,Heap.get?_update_self _ e1 rfl,rfl,rfl⟩ (Heap.SameBut.update ..))⟩
theorem ai1 {it t:Addr} {i:Nat} {items:Array Value} {Q:Value→Shared→Prop} (hh:A.handled=none) (hi:s.heap.IsTupleIter it t i) (ht:s.heap.IsTuple t items) (hx:items[i]? = none)
  (q:∀ h' e,Heap.ExtBut it s.heap h'→(∃ o,h'.get? e=some o∧o.cls = .type "StopIteration")→E (.ref e) { s with heap:=h' }):wpAny (model prog w) A (nextOf (.ref it)) Q E s:=by
 have ty:=hi.typeIs
 obtain ⟨o,e1,e2,e3⟩:=id hi
 obtain ⟨p,f1,f2,n,f3⟩:=ht
 rw [nextOf]
 apply wpAny_bind
 apply wpAny_callSpecial?_slot (name:=Str.ofString "__next__") ty F.slot_tuple_iterator_next
 apply wpAny_call_entry F.slot_tuple_iterator_next ty F.entry_tuple_iterator_next _ (F.args_tuple_iterator_next_1 _)
 change wpAny (model prog w) A.in1 (field (.ref it) 0>>=_) _ _ _
 apply wpAny_bind;apply wpAny_field e1 e3 (x:=.ref t) rfl
 change wpAny (model prog w) A.in1 (field (.ref it) 1>>=_) _ _ _
 apply wpAny_bind;apply wpAny_field e1 e3 (x:=.int i 0) rfl
 change wpAny (model prog w) A.in1 (seqItems? (.ref t)>>=_) _ _ _
 apply wpAny_bind;apply wpAny_seqItems f1 f3
 dsimp only
 rw [Int.toNat_natCast,hx]
 dsimp only
 obtain ⟨c,dd,dt,sl⟩:=o
 simp only at e2 e3
 subst e2 e3
 apply wpAny_bind;apply wpAny_rule
 apply wpAny_bind;apply wpAny_setField e1 rfl (Nat.succ_pos 1)
 apply ai0 (show A.in1.handled=none from hh)
 exact fun h' e k z=>q h' e (fun b o nb eb=>k b o ((Heap.SameBut.update ..).extBut b o nb eb)) z
theorem ab0 {prog:Program} {w:World} {A:Around} (hh:A.handled=none) (it t:Addr) (ne:t≠it) (items:Array Value):Draws prog w A it [it,t] items.size (fun i v=>items[i]? = some v) (fun i h=>h.IsTupleIter it t i∧h.IsTuple t items) where
 live:=fun _ _ st=>let ⟨o,e,_⟩:=st.1; ⟨o,e⟩
 frame:=fun _ _ _ st k=>⟨let ⟨o,e,r⟩:=st.1; ⟨o,k it (by simp) o e,r⟩,let ⟨o,e,r⟩:=st.2; ⟨o,k t (by simp) o e,r⟩⟩
 item:=fun i s Q E hi st q=>ady st.1 st.2 (Array.getElem?_eq_getElem hi) fun h' a b=>q _ h' s.toks (Array.getElem?_eq_getElem hi) ⟨a,st.2.extBut b.extBut ne⟩ b
 done:=fun s Q E st q=>ai1 hh st.1 st.2 (by simp) q
end
end ZP
namespace ZP
open PySem PySem.Spec PySem.Builtin PySem.Builtin.SmallTypes
end ZP
namespace ZP
open PySem PySem.Spec PySem.Builtin PySem.Builtin.SmallTypes L2
inductive Srk where
 | tup (a:Addr) | lst (a:Addr) | str (x:Str)
def Srk.v:Srk→V
 | .tup a=>.ref a
 | .lst a=>.ref a
 | .str x=>.str x
def its (H:Hp):Srk→Option (List V)
 | .tup a=>match H a with | some (.tup vs)=>some vs | _=>none
 | .lst a=>match H a with | some (.lst vs)=>some vs | some (.frz _ (.lst vs))=>some vs | _=>none
 | .str x=>some (vz x)
def own (it:Addr) (t:Tok):Srk→Nat→Heap→Prop
 | .tup a,i,h=>h.IsTupleIter it a i
 | .lst a,i,h=>h.IsListIter it a i
 | .str x,i,h=>h.IsStrIter it (strIterType x) x t i
def iob (t:Tok):Srk→Obj
 | .tup a=>{ cls:=.type "tuple_iterator",data:=.fields #[.ref a, .int 0 0] }
 | .lst a=>{ cls:=.type "list_iterator",data:=.fields #[.ref a, .int 0 0] }
 | .str x=>{ cls:=.type (strIterType x),data:=.fields #[.str x t, .int 0 0] }
def val (t:Tok):Srk→Value
 | .tup a=>.ref a
 | .lst a=>.ref a
 | .str x=>.str x t
def cont (h:Heap):Srk→List Value→Prop
 | .tup a,us=>h.IsTuple a us.toArray
 | .lst a,us=>h.IsList a us.toArray
 | .str x,us=>True
theorem aqm {it:Addr} {t:Tok} {k:Srk} {h:Heap} (e:h.get? it=some (iob t k)):own it t k 0 h:=by
 cases k with
 | tup a=>exact ⟨_,e,rfl,rfl⟩
 | lst a=>exact ⟨_,e,rfl,rfl⟩
 | str x=>exact ⟨_,e,rfl,rfl⟩
theorem ab1 {it:Addr} {t:Tok} {k:Srk} {i:Nat} {h:Heap} (o:own it t k i h):∃ ob,h.get? it=some ob∧∀ v,ob.data≠.cell v:=by
 cases k with
 | tup a=>obtain ⟨ob,e,_,d⟩:=o;exact ⟨ob,e,fun v z=>by rw [d] at z;cases z⟩
 | lst a=>obtain ⟨ob,e,_,d⟩:=o;exact ⟨ob,e,fun v z=>by rw [d] at z;cases z⟩
 | str x=>obtain ⟨ob,e,_,d⟩:=o;exact ⟨ob,e,fun v z=>by rw [d] at z;cases z⟩
theorem a7t {it:Addr} {t:Tok} {k:Srk} {i:Nat} {h h':Heap} (o:own it t k i h) (kk:∀ ob,h.get? it=some ob→h'.get? it=some ob):own it t k i h':=by
 cases k with
 | tup a=>obtain ⟨ob,e,r⟩:=o;exact ⟨ob,kk _ e,r⟩
 | lst a=>obtain ⟨ob,e,r⟩:=o;exact ⟨ob,kk _ e,r⟩
 | str x=>obtain ⟨ob,e,r⟩:=o;exact ⟨ob,kk _ e,r⟩
section
variable {P:Program} {w:World} {H:Hp} {s:Shared}
theorem a76 {X:Cx} {pins:List (Addr × Obj)} {σ:St} (I:Inv X pins σ H s) {k:Srk} {xs:List V} (e:its H k=some xs):∃ us,cont s.heap k us∧((∀ x,k≠.str x)→Vals xs us):=by
 cases k with
 | tup a =>
  cases q:H a with
  | none=>simp [its,q] at e
  | some o =>
   cases o with
   | tup vs =>
    simp [its,q] at e;subst e
    obtain ⟨us,r,t,_⟩:=I.tuple (SqT.of q)
    exact ⟨us,t,fun _=>r⟩
   | _=>simp [its,q] at e
 | lst a =>
  cases q:H a with
  | none=>simp [its,q] at e
  | some o =>
   cases o with
   | lst vs =>
    simp [its,q] at e;subst e
    obtain ⟨us,r,t,_⟩:=I.list (SqL.of q)
    exact ⟨us,t.isList,fun _=>r⟩
   | frz ob u =>
    cases u with
    | lst vs =>
     simp [its,q] at e;subst e
     obtain ⟨us,r,t,_⟩:=I.list (.inl (.inr ⟨_,q⟩))
     exact ⟨us,t.isList,fun _=>r⟩
    | _=>simp [its,q] at e
   | _=>simp [its,q] at e
 | str x=>exact ⟨[],True.intro,fun n=>absurd rfl (n x)⟩
theorem ab2 {X:Cx} {pins:List (Addr × Obj)} {σ:St} (I:Inv X pins σ H s) {k:Srk} {xs:List V} {it:Addr} {t:Tok} (e:its H k=some xs) (hn:H it=none) :
  ∃ (cs:List Addr) (P1:Nat→Value→Prop) (S1:Nat→Heap→Prop),(∀ A:Around,A.handled=none→Draws X.prog X.w A it (it::cs) xs.length P1 S1)∧(∀ i,own it t k i s.heap→S1 i s.heap)∧(∀ i h,S1 i h→own it t k i h)∧(∀ c∈cs,H c≠none) ∧
   ∀ i v,P1 i v→∃ x,xs[i]? = some x∧RelV x v:=by
 cases k with
 | tup a =>
  obtain ⟨us,c,r⟩:=a76 I e
  have r:=r (by intro x z;cases z)
  have ha:H a≠none:=fun z=>by simp [its,z] at e
  have l:us.toArray.size=xs.length:=by rw [List.size_toArray,r.length]
  refine ⟨[a],fun i v=>us.toArray[i]? = some v,fun i h=>h.IsTupleIter it a i∧h.IsTuple a us.toArray,fun A hA=>?_,fun i o=>⟨o,c⟩,fun i h z=>z.1,fun c hc=>by rw [List.mem_singleton.mp hc];exact ha,fun i v z=>?_⟩
  ·have:=ab0 (prog:=X.prog) (w:=X.w) hA it a (fun y=>ha (y ▸ hn)) us.toArray
   rw [l] at this;exact this
  ·have z':us[i]? = some v:=by simpa using z
   have hi:i<xs.length:=by rw [r.length];exact (List.getElem?_eq_some_iff.mp z').1
   obtain ⟨u,e1,e2⟩:=r.get (List.getElem?_eq_getElem hi)
   rw [z'] at e1;cases e1
   exact ⟨_,List.getElem?_eq_getElem hi,e2⟩
 | lst a =>
  obtain ⟨us,c,r⟩:=a76 I e
  have r:=r (by intro x z;cases z)
  have ha:H a≠none:=fun z=>by simp [its,z] at e
  have l:us.toArray.size=xs.length:=by rw [List.size_toArray,r.length]
  refine ⟨[a],fun i v=>us.toArray[i]? = some v,fun i h=>h.IsListIter it a i∧h.IsList a us.toArray,fun A hA=>?_,fun i o=>⟨o,c⟩,fun i h z=>z.1,fun c hc=>by rw [List.mem_singleton.mp hc];exact ha,fun i v z=>?_⟩
  ·have:=Draws.list (prog:=X.prog) (w:=X.w) hA it a (fun y=>ha (y ▸ hn)) us.toArray
   rw [l] at this;exact this
  ·have z':us[i]? = some v:=by simpa using z
   have hi:i<xs.length:=by rw [r.length];exact (List.getElem?_eq_some_iff.mp z').1
   obtain ⟨u,e1,e2⟩:=r.get (List.getElem?_eq_getElem hi)
   rw [z'] at e1;cases e1
   exact ⟨_,List.getElem?_eq_getElem hi,e2⟩
 | str x =>
  cases e
  have l:(vz x).length=x.cps.size:=by simp [vz]
  refine ⟨[],fun i v=>∃ c u,x.cps[i]? = some c∧v = .str ⟨#[c]⟩ u,fun i h=>h.IsStrIter it (strIterType x) x t i,fun A hA=>?_,fun i o=>o,fun i h z=>z,fun c hc=>(by cases hc),fun i v z=>?_⟩
  ·rw [l]
   cases ha:x.cps.all (· < 128)
   ·have:=Draws.strWide (prog:=X.prog) (w:=X.w) hA it x t
    simpa [strIterType,ha] using this
   ·have:=Draws.strAscii (prog:=X.prog) (w:=X.w) hA it x t
    simpa [strIterType,ha] using this
  ·obtain ⟨c,u,e1,rfl⟩:=z
   exact ⟨.str ⟨#[c]⟩,by simp [vz,e1],⟨_,rfl⟩⟩
end
theorem ab3 {X:Cx} {pins:List (Addr × Obj)} {σ:St} {H:Hp} {s:Shared} {h':Heap} {t':Nat} {ch:List Addr} (I:Inv X pins σ H s) (hf:∀ b∈ch,a6o X pins H b) (k:∀ b o,b ∉ ch→s.heap.get? b=some o→h'.get? b=some o) :
  Inv X pins σ H { s with heap:=h',toks:=t' }:=by
 have nit:∀ b u,H b=some u→b ∉ ch:=fun b u e z=>by rw [(hf b z).1] at e;cases e
 refine I.step (g':=s.gens) (d':=s.drawn) (ch:=ch) (fun b hb=>?_) (fun b o _ _ hc e _=>k b o hc e) (fun b o _ _ hc e _=>⟨o.slots,k b o hc e⟩) (fun _ _ _ _ n=>n) (fun b o hc e=>⟨o,k b o hc e⟩) (fun _ _ e=>e) (fun _ _ _ e=>e)
  (fun b ps e=>⟨#[],by rw [e];simp⟩) (fun m hm=>?_) (fun b u e=>?_) I.bare
 ·obtain ⟨_,f1,_,f3,f4,f5⟩:=hf b hb
  exact ⟨f3,f1,f4,f5⟩
 ·obtain ⟨o,es,ep,ho,r⟩:=hm
  exact ⟨o,es,ep,k _ o (fun z=>(hf _ z).2.1 rfl) ho,r⟩
 ·refine (I.hok b u e).stay (fun c v hc q=>k c v ?_ q) (fun _ q=>q) fun _ _ q=>q
  rcases hc with z | z
  ·rw [z];exact nit b u e
  ·exact nit c _ z
end ZP
namespace ZP
open PySem PySem.Spec PySem.Builtin PySem.Builtin.SmallTypes L2
theorem a3z {prog:Program} {w:World} {A:Around} {E:Value→Shared→Prop} {s:Shared} {k:Srk} {t:Tok} {us:List Value} {Q:Value→Shared→Prop} (c:cont s.heap k us) (q:Q (.ref s.heap.objs.size) { s with heap:=s.heap.push (iob t k) }) :
  wpAny (model prog w) A (pyIter (val t k)) Q E s:=by
 cases k with
 | tup a=>exact wpAny_pyIter_tuple c q
 | lst a=>exact wpAny_pyIter_list c q
 | str x=>exact wpAny_pyIter_strU q
section
variable {X:Cx} {elts:List Expr} {x1:Nat} {tpos:Pos}
theorem alc {k:Srk} {u:Value} (r:RelV k.v u):∃ t,u=val t k:=by
 cases k with
 | tup a=>cases r;exact ⟨0,rfl⟩
 | lst a=>cases r;exact ⟨0,rfl⟩
 | str x=>obtain ⟨t,rfl⟩:=r;exact ⟨t,rfl⟩
end
end ZP
namespace MI
open PySem PySem.Spec L2 ZP
def srcOf (d:D) (h:Hd):Option (List D × (Hd→Prop)):=match d with
 | .tup xs=>some (xs,fun _=>True)
 | .rol xs=>some (xs,fun _=>True)
 | .str x=>some (uv x,fun _=>True)
 | .ref i=>(match h[i]? with | some (.lst xs)=>some (xs,fun h=>h[i]? = some (.lst xs)) | _=>none)
 | _=>none
def aon (x y:D) (h:Hd):R Itm:=match srcOf x h,srcOf y h with
 | some (xs,c1),some (ys,c2)=>.ok ⟨(xs.zip ys).map fun p=>.tup [p.1,p.2],fun h=>c1 h∧c2 h⟩ h
 | _,_=>.no
def apg (f g:SE):SI:=fun τ h=>(f τ h).bind fun x h1=>(g τ h1).bind fun y h2=>aon x y h2
theorem ald {K:PySem.W.Frag} {ι:List Addr} {H:Hp} {h:Hd} {v:V} {d:D} {xs:List D} {ck:Hd→Prop} (r:Rep K ι H v d) (hr:HRep K ι H h) (e:srcOf d h=some (xs,ck)) :
  ∃ k:Srk,v=k.v∧ck h∧∀ ι' H' h',Gr ι H ι' H'→HRep K ι' H' h'→ck h'→∃ vs,its H' k=some vs∧Reps K ι' H' vs xs:=by
 cases r with
 | @tup a vs ys ha rs =>
  cases e
  exact ⟨.tup a,rfl,True.intro,fun ι' H' h' g _ _=>⟨vs,by simp [its,g.tup _ _ ha],rs.mono g⟩⟩
 | @rol a vs ys ha rs =>
  cases e
  refine ⟨.lst a,rfl,True.intro,fun ι' H' h' g _ _=>⟨vs,?_,rs.mono g⟩⟩
  obtain ⟨o,q⟩:=ha.mono g
  simp [its,q]
 | str x =>
  cases e
  exact ⟨.str x,rfl,True.intro,fun ι' H' h' g _ _=>⟨_,rfl,a2s x⟩⟩
 | @ref a i ha =>
  obtain ⟨ob,e1,e2⟩:=hr.at ha
  cases ob with
  | lst zs =>
   simp only [srcOf,e1] at e
   cases e
   refine ⟨.lst a,rfl,e1,fun ι' H' h' g hr' c=>?_⟩
   obtain ⟨us,q1,q2⟩:=hr'.obj i a _ (g.at ha) c
   exact ⟨us,by simp [its,q1],q2⟩
  | dK _=>simp only [srcOf,e1] at e;cases e
  | dT _=>simp only [srcOf,e1] at e;cases e
 | _=>cases e
end MI
namespace MI
open PySem PySem.Spec L2
end MI
namespace MI
open PySem PySem.Spec L2
def FrzOf (L:List Addr) (H H2:Hp):Prop:=∀ a,(a ∉ L→H2 a=H a)∧(a∈L→∃ o u,H a=some u∧H2 a=some (.frz o u))
def a5w (H:Hp) (L:List Addr):Prop:=∀ a∈L,(∃ xs,H a=some (.lst xs))∨(∃ kvs,H a=some (.dK kvs))∨∃ kvs,H a=some (.dT kvs)
def still:HO→Prop
 | .lst _=>False | .dK _=>False | .dT _=>False
 | _=>True
theorem FrzOf.still {L:List Addr} {H H2:Hp} (f:FrzOf L H H2) (ab:a5w H L) {a:Addr} {u:HO} (e:H a=some u) (st:MI.still u):H2 a=some u:=by
 rw [(f a).1 fun z=>?_]
 ·exact e
 ·rcases ab a z with ⟨_,q⟩ | ⟨_,q⟩ | ⟨_,q⟩<;>(rw [e] at q;cases q;exact st)
theorem Inv.frz {X:Cx} {pins:List (Addr × Obj)} {σ:St} {H:Hp} {s:Shared} {L:List Addr} (I:Inv X pins σ H s) (ab:a5w H L):∃ H2,FrzOf L H H2∧Inv X pins σ H2 s:=by
 have obj:∀ a∈L,∀ u,H a=some u→∃ o,s.heap.get? a=some o:=fun a ha u e=>by
  rcases ab a ha with ⟨_,q⟩ | ⟨_,q⟩ | ⟨_,q⟩
  ·obtain ⟨_,_,_,_,z⟩:=I.hok a _ q;exact ⟨_,z⟩
  ·obtain ⟨_,_,_,_,z⟩:=I.hok a _ q
   obtain ⟨o,_,_,z,_⟩:=z
   exact ⟨o,z⟩
  ·obtain ⟨_,_,_,_,o,_,_,z,_⟩:=I.hok a _ q;exact ⟨o,z⟩
 let H2:Hp:=fun a=>if a∈L then (match s.heap.get? a,H a with | some o,some u=>some (.frz o u) | _,w=>w) else H a
 have f:FrzOf L H H2:=fun a=>⟨fun h=>by simp [H2,h],fun h=>by
  obtain ⟨u,e⟩:∃ u,H a=some u:=by
   rcases ab a h with ⟨_,q⟩ | ⟨_,q⟩ | ⟨_,q⟩<;>exact ⟨_,q⟩
  obtain ⟨o,eo⟩:=obj a h u e
  exact ⟨o,u,e,by simp [H2,h,e,eo]⟩⟩
 refine ⟨H2,f,?_⟩
 have mv:∀ a u,ObjOk X.prog X.w H s.heap a u→ObjOk X.prog X.w H2 s.heap a u:=fun a u x=>x.stay (fun b v _ q=>q) (fun c q=>f.still ab q True.intro) fun c xs q=>f.still ab q True.intro
 have ok:HOk X.prog X.w H2 s.heap:=fun a u e=>by
  by_cases hl:a∈L
  ·obtain ⟨u0,e0⟩:∃ u,H a=some u:=by
    rcases ab a hl with ⟨_,q⟩ | ⟨_,q⟩ | ⟨_,q⟩<;>exact ⟨_,q⟩
   obtain ⟨o,eo⟩:=obj a hl u0 e0
   have e':H2 a=some (.frz o u0):=by simp [H2,hl,e0,eo]
   rw [e'] at e
   cases e
   exact ⟨eo,mv a u0 (I.hok a u0 e0)⟩
  ·rw [(f a).1 hl] at e
   exact mv a u (I.hok a u e)
 have fn:∀ b,H b=none→H2 b=none:=fun b n=>by
  rw [(f b).1 fun z=>?_]
  ·exact n
  ·rcases ab b z with ⟨_,q⟩ | ⟨_,q⟩ | ⟨_,q⟩<;>(rw [n] at q;cases q)
 have un:Un X.fs [] H H2 s.heap s.heap:=⟨fun b o q _ _ _=>q,fun b o q _ _ _=>⟨o.slots,q⟩,fun b o _ n _=>fn b n,fun b o q _=>⟨o,q⟩,fun b xs q=>f.still ab q True.intro,fun b o u q=>f.still ab q True.intro,fun b ps q=>⟨#[],by rw [f.still ab q True.intro];simp⟩⟩
 exact I.un (t':=s.toks) un ok
theorem a2u {X:Cx} {e:Expr} {t:TE} (h:PE X e t):PE X e (fun σ H Q=>t σ H fun v H1=>∃ L,a5w H1 L∧∀ H2,FrzOf L H1 H2→Q v H2):=fun pins s σ H Q I q =>
 thn (h pins s σ H _ I q) fun u s' ⟨v,H1,I1,r,L,ab,k⟩=>let ⟨H2,f,I2⟩:=Inv.frz I1 ab; ⟨v,H2,I2,r,k H2 f⟩
def wg {α β:Type} (f:α→Option β):List α→Option (List β)
 | []=>some []
 | x::xs=>match f x,wg f xs with | some y,some ys=>some (y::ys) | _,_=>none
open Classical in
noncomputable def a00 (n:Nat) (h:Hd):Nat→D→Option D
 | 0,_=>none
 | k+1,d=>if clo n d then some d else match d with
  | .tup xs=>(wg (a00 n h k) xs).map .tup
  | .rol xs=>(wg (a00 n h k) xs).map .rol
  | .scr xs=>(wg (a00 n h k) xs).map .scr
  | .rod ks xs=>(wg (a00 n h k) xs).map (.rod ks)
  | .rdT ks xs=>(wg (a00 n h k) xs).map (.rdT ks)
  | .ref i=>match h[i]? with
   | some (.lst xs)=>(wg (a00 n h k) xs).map .rol
   | some (.dK kvs)=>(wg (a00 n h k) (kvs.map (·.2))).map (.rod (kvs.map (·.1)))
   | some (.dT kvs)=>(wg (a00 n h k) (kvs.map (·.2))).map (.rdT (kvs.map (·.1)))
   | none=>none
  | _=>none
open Classical in
noncomputable def ale (n:Nat) (h:Hd) (k:Nat) (o:O):Option O:=if a07 n o then some o else match o with
 | .lst xs=>(wg (a00 n h k) xs).map .lst
 | .dK kvs=>(wg (a00 n h k) (kvs.map (·.2))).map fun ys=>.dK ((kvs.map (·.1)).zip ys)
 | .dT kvs=>(wg (a00 n h k) (kvs.map (·.2))).map fun ys=>.dT ((kvs.map (·.1)).zip ys)
abbrev FU:Nat:=20
noncomputable def a7u (n:Nat):R D→R D
 | .ok d h1=>match a00 n h1 FU d,wg (ale n h1 FU) (h1.take n) with | some d',some g=>.ok d' g | _,_=>.no
 | _=>.no
open Classical in
noncomputable def ajb (n:Nat):R D→R D
 | .ok (.ref i) h1=>(match h1[i]? with
   | some o=>if n≤i∧a07 n o∧∀ u∈h1.take n,a07 n u then .ok (.ref n) (h1.take n++[o]) else .no
   | none=>.no)
 | _=>.no
section
variable {K:PySem.W.Frag} {ι ι':List Addr} {H H' H2:Hp} {h1:Hd} {n:Nat} {L:List Addr}
theorem a7v (f:FrzOf L H' H2) (ab:a5w H' L) (κ:List Addr):Gw κ H' κ H2:=⟨⟨[],by simp⟩,fun a vs e=>f.still ab e True.intro,fun a o u e=>f.still ab e True.intro⟩
theorem jf {K:PySem.W.Frag} {ι κ:List Addr} {H H2:Hp} {f:D→Option D} (ih:∀ {v d d'},Rep K ι H v d→f d=some d'→Rep K κ H2 v d'):∀ {vs:List V} {ds ds':List D},Reps K ι H vs ds→wg f ds=some ds'→Reps K κ H2 vs ds'
 | _,_,_, .nil,e=>by cases e;exact .nil
 | _,x::xs,_, .cons r rs,e=>by
  unfold wg at e
  split at e
  ·rename_i y ys h1 h2
   cases e
   exact .cons (ih r h1) (jf ih rs h2)
  ·cases e
theorem a4a (hr:HRep K ι' H' h1) (hL:∀ (i:Nat) a,ι'[i]? = some a→n≤i→a∈L) (f:FrzOf L H' H2) (ab:a5w H' L):∀ (k:Nat) {v:V} {d d':D},Rep K ι' H' v d→a00 n h1 k d=some d'→Rep K (ι'.take n) H2 v d':=by
 intro k
 induction k with
 | zero=>intro v d d' r e;cases e
 | succ k ih =>
  intro v d d' r e
  unfold a00 at e
  split at e
  ·rename_i c
   cases e
   exact (r.cut c).monoW (a7v f ab _)
  ·rename_i c
   cases r with
   | tup h rs =>
    simp only [Option.map_eq_some_iff] at e
    obtain ⟨ys,e1,rfl⟩:=e
    exact .tup (f.still ab h True.intro) (jf (fun r e=>ih r e) rs e1)
   | rol h rs =>
    simp only [Option.map_eq_some_iff] at e
    obtain ⟨ys,e1,rfl⟩:=e
    exact .rol (h.monoW (a7v f ab ι')) (jf (fun r e=>ih r e) rs e1)
   | scr h rs =>
    simp only [Option.map_eq_some_iff] at e
    obtain ⟨ys,e1,rfl⟩:=e
    exact .scr (h.monoW (a7v f ab ι')) (jf (fun r e=>ih r e) rs e1)
   | rod h ek rs =>
    simp only [Option.map_eq_some_iff] at e
    obtain ⟨ys,e1,rfl⟩:=e
    exact .rod (f.still ab h True.intro) ek (jf (fun r e=>ih r e) rs e1)
   | rdT h ek rs =>
    simp only [Option.map_eq_some_iff] at e
    obtain ⟨ys,e1,rfl⟩:=e
    exact .rdT (f.still ab h True.intro) ek (jf (fun r e=>ih r e) rs e1)
   | @ref a i ha =>
    have hi:n≤i:=by
     simp only [clo] at c
     omega
    obtain ⟨o,u,e1,e2⟩:=(f a).2 (hL i a ha hi)
    obtain ⟨ob,h3,h4⟩:=hr.at ha
    simp only [h3] at e
    cases ob with
    | lst xs =>
     simp only [Option.map_eq_some_iff] at e
     obtain ⟨ys,e3,rfl⟩:=e
     obtain ⟨vs,h5,h6⟩:=h4
     rw [e1] at h5;cases h5
     exact .rol ⟨o,e2⟩ (jf (fun r e=>ih r e) h6 e3)
    | dK kvs =>
     simp only [Option.map_eq_some_iff] at e
     obtain ⟨ys,e3,rfl⟩:=e
     obtain ⟨us,h5,h6,h7⟩:=h4
     rw [e1] at h5;cases h5
     exact .rod e2 h6 (jf (fun r e=>ih r e) h7 e3)
    | dT kvs =>
     simp only [Option.map_eq_some_iff] at e
     obtain ⟨ys,e3,rfl⟩:=e
     obtain ⟨us,h5,h6,h7⟩:=h4
     rw [e1] at h5;cases h5
     exact .rdT e2 h6 (jf (fun r e=>ih r e) h7 e3)
   | non=>simp only [clo,not_true_eq_false] at c
   | exc _ _ _=>simp only [clo,not_true_eq_false] at c
   | bl b=>simp only [clo,not_true_eq_false] at c
   | int b=>simp only [clo,not_true_eq_false] at c
   | str b=>simp only [clo,not_true_eq_false] at c
   | ty b=>simp only [clo,not_true_eq_false] at c
theorem a7w {κ:Type} {H:Hp} {us:List (κ × V)} {ks:List κ} {ys:List D} (e:us.map (·.1)=ks) (r:Reps K ι H (us.map (·.2)) ys):KRep K ι H us (ks.zip ys):=by
 have l:ks.length=ys.length:=by rw [← e,List.length_map,← r.len,List.length_map]
 refine ⟨?_,?_⟩
 ·rw [List.map_fst_zip (by omega)];exact e
 ·rw [List.map_snd_zip (by omega)];exact r
theorem ai2 (hr:HRep K ι' H' h1) (hL:∀ (i:Nat) a,ι'[i]? = some a→n≤i→a∈L) (f:FrzOf L H' H2) (ab:a5w H' L) {k:Nat} {a:Addr} {o o':O} (na:a ∉ L) (r:ORep K ι' H' a o) (e:ale n h1 k o=some o'):ORep K (ι'.take n) H2 a o':=by
 have same:H2 a=H' a:=(f a).1 na
 unfold ale at e
 split at e
 ·rename_i c
  cases e
  exact (r.cut c).monoW (a7v f ab _) same
 ·cases o with
  | lst xs =>
   simp only [Option.map_eq_some_iff] at e
   obtain ⟨ys,e1,rfl⟩:=e
   obtain ⟨vs,h3,h4⟩:=r
   exact ⟨vs,by rw [same];exact h3,jf (fun r e=>a4a hr hL f ab k r e) h4 e1⟩
  | dK kvs =>
   simp only [Option.map_eq_some_iff] at e
   obtain ⟨ys,e1,rfl⟩:=e
   obtain ⟨us,h3,h4,h5⟩:=r
   exact ⟨us,by rw [same];exact h3,a7w h4 (jf (fun r e=>a4a hr hL f ab k r e) h5 e1)⟩
  | dT kvs =>
   simp only [Option.map_eq_some_iff] at e
   obtain ⟨ys,e1,rfl⟩:=e
   obtain ⟨us,h3,h4,h5⟩:=r
   exact ⟨us,by rw [same];exact h3,a7w h4 (jf (fun r e=>a4a hr hL f ab k r e) h5 e1)⟩
theorem yf {α β:Type} {f:α→Option β}:∀ {xs:List α} {ys:List β},wg f xs=some ys→xs.length=ys.length∧∀ (i:Nat) y,ys[i]? = some y→∃ x,xs[i]? = some x∧f x=some y
 | [],_,e=>by cases e;exact ⟨rfl,fun i y e=>by simp at e⟩
 | x::xs,ys,e=>by
  unfold wg at e
  split at e
  ·rename_i y ys h1 h2
   cases e
   obtain ⟨l,g⟩:=yf h2
   refine ⟨by simp [l],fun i z e=>?_⟩
   cases i with
   | zero=>simp at e;subst e;exact ⟨x,rfl,h1⟩
   | succ i=>simpa using g i z (by simpa using e)
  ·cases e
theorem ab4 (hr:HRep K ι' H' h1) (M:List Addr) (hM:∀ a∈M,a∈ι'):a5w H' M:=fun a ha=>by
 obtain ⟨i,hi⟩:=List.getElem?_of_mem (hM a ha)
 obtain ⟨o,_,q⟩:=hr.at hi
 cases o with
 | lst xs=>obtain ⟨vs,h,_⟩:=q;exact .inl ⟨_,h⟩
 | dK xs=>obtain ⟨vs,h,_⟩:=q;exact .inr (.inl ⟨_,h⟩)
 | dT xs=>obtain ⟨vs,h,_⟩:=q;exact .inr (.inr ⟨_,h⟩)
theorem a1u {α:Type} {l:List α} (nd:l.Nodup) {i j:Nat} {a:α} (h1:l[i]? = some a) (h2:l[j]? = some a):i=j:=by
 obtain ⟨l1,e1⟩:=List.getElem?_eq_some_iff.mp h1
 obtain ⟨l2,e2⟩:=List.getElem?_eq_some_iff.mp h2
 rcases Nat.lt_trichotomy i j with l | l | l
 ·exact absurd (e1.trans e2.symm) (List.pairwise_iff_getElem.mp nd i j l1 l2 l)
 ·exact l
 ·exact absurd (e2.trans e1.symm) (List.pairwise_iff_getElem.mp nd j i l2 l1 l)
theorem alf (g:Gr ι H ι' H') (f:FrzOf L H' H2) (ab:a5w H' L) (hL:∀ a∈L,H a=none) {m:List Addr} (hm:∀ a∈m,H a=none):Gr ι H (ι++m) H2:=by
 refine ⟨⟨m,rfl,hm⟩,fun a vs e=>f.still ab (g.tup a vs e) True.intro,fun a o u e=>f.still ab (g.frz a o u e) True.intro,fun a u e hn=>?_,fun a u e=>?_⟩
 ·rw [(f a).1 fun z=>by rw [hL a z] at e;cases e]
  exact g.oth a u e hn
 ·obtain ⟨u',e'⟩:=g.kp a u e
  rw [(f a).1 fun z=>by rw [hL a z] at e;cases e]
  exact ⟨u',e'⟩
theorem ab5 {d d':D} {v:V} {g':Hd} (g:Gr ι H ι' H') (rb:Rep K ι' H' v d) (hr:HRep K ι' H' h1) (e:a7u ι.length (.ok d h1) = .ok d' g') :
  ∃ L,a5w H' L∧∀ H2,FrzOf L H' H2→Gr ι H ι H2∧Rep K ι H2 v d'∧HRep K ι H2 g':=by
 obtain ⟨m,rfl,hm⟩:=g.pre
 have tk:(ι++m).take ι.length=ι:=by simp
 have ab:a5w H' m:=ab4 hr m fun a ha=>List.mem_append_right _ ha
 have hL:∀ (i:Nat) a,(ι++m)[i]? = some a→ι.length≤i→a∈m:=fun i a e hi=>by
  rw [List.getElem?_append_right hi] at e
  exact List.mem_of_getElem? e
 refine ⟨m,ab,fun H2 f=>?_⟩
 unfold a7u at e
 simp only at e
 split at e
 ·rename_i dd gg e1 e2
  cases e
  refine ⟨by simpa using alf g f ab hm (m:=[]) (by simp),by have:=a4a hr hL f ab FU rb e1;rwa [tk] at this,?_⟩
  obtain ⟨l,gt⟩:=yf e2
  have hl:=hr.len
  have ln:ι.length≤h1.length:=by rw [← hl];simp
  refine ⟨(List.nodup_append.mp hr.nd).1,by rw [← l,List.length_take];omega,fun i a o q1 q2=>?_⟩
  obtain ⟨x,hx,fx⟩:=gt i o q2
  have hi:i<ι.length:=(List.getElem?_eq_some_iff.mp q1).1
  rw [List.getElem?_take,if_pos hi] at hx
  have q3:(ι++m)[i]? = some a:=by rw [List.getElem?_append_left hi];exact q1
  have na:a ∉ m:=fun z=>(List.nodup_append.mp hr.nd).2.2 a (List.mem_of_getElem? q1) a z rfl
  have:=ai2 hr hL f ab na (hr.obj i a x q3 hx) fx
  rwa [tk] at this
 ·cases e
theorem adz {d d':D} {v:V} {g':Hd} (g:Gr ι H ι' H') (rb:Rep K ι' H' v d) (hr:HRep K ι' H' h1) (e:ajb ι.length (.ok d h1) = .ok d' g') :
  ∃ b,H b=none∧Gr ι H (ι++[b]) H'∧Rep K (ι++[b]) H' v d'∧HRep K (ι++[b]) H' g':=by
 obtain ⟨m,rfl,hm⟩:=g.pre
 have tk:(ι++m).take ι.length=ι:=by simp
 have up:∀ b,Gw ι H' (ι++[b]) H':=fun b=>⟨⟨[b],rfl⟩,fun _ _ h=>h,fun _ _ _ h=>h⟩
 cases rb with
 | @ref b i hb =>
  unfold ajb at e
  simp only at e
  split at e
  ·rename_i ob ho
   split at e
   ·rename_i hc
    obtain ⟨hi,c1,c2⟩:=hc
    cases e
    have hb':=hb
    rw [List.getElem?_append_right hi] at hb'
    have bm:b∈m:=List.mem_of_getElem? hb'
    obtain ⟨nd1,nd2,nd3⟩:=List.nodup_append.mp hr.nd
    have hl:=hr.len
    have ln:ι.length≤h1.length:=by rw [← hl];simp
    have lt:(h1.take ι.length).length=ι.length:=by rw [List.length_take];omega
    refine ⟨b,hm b bm,⟨⟨[b],rfl,by simpa using hm b bm⟩,g.tup,g.frz,g.oth,g.kp⟩, .ref (by simp),?_⟩
    refine ⟨List.nodup_append.mpr ⟨nd1,by simp,fun a ha c hc z=>nd3 a ha c (by rw [List.mem_singleton.mp hc];exact bm) z⟩,by simp [lt],fun j a o q1 q2=>?_⟩
    by_cases hj:j<ι.length
    ·rw [List.getElem?_append_left hj] at q1
     rw [List.getElem?_append_left (by omega)] at q2
     have q2':=q2
     rw [List.getElem?_take,if_pos hj] at q2'
     have:=(hr.obj j a o (by rw [List.getElem?_append_left hj];exact q1) q2').cut (c2 o (List.mem_of_getElem? q2))
     rw [tk] at this
     exact this.monoW (up b) rfl
    ·have hj2:j<(ι++[b]).length:=(List.getElem?_eq_some_iff.mp q1).1
     have:j=ι.length:=by simp at hj2;omega
     subst this
     rw [List.getElem?_append_right (Nat.le_refl _)] at q1
     rw [List.getElem?_append_right (by omega),lt] at q2
     simp at q1 q2
     subst q1 q2
     have:=(hr.obj i b ob hb ho).cut c1
     rw [tk] at this
     exact this.monoW (up b) rfl
   ·cases e
  ·cases e
 | _=>cases e
end
noncomputable def sZ (f:SE):SE:=fun τ h=>a7u h.length (f τ h)
abbrev aqn (Q:VK):VK:=fun v H1=>∃ L,a5w H1 L∧∀ H2,FrzOf L H1 H2→Q v H2
theorem aoo {K:PySem.W.Frag} {E:XD} {fa:SE} {σ:St} {H:Hp} {Q:VK} (q:lift K E (u9 K) (sZ fa) σ H Q):lift K E (u9 K) fa σ H (aqn Q):=by
 obtain ⟨ι,τ,h,S,Rh,o⟩:=q
 refine ⟨ι,τ,h,S,Rh,?_⟩
 unfold sZ at o
 rw [← Rh.len] at o
 cases hf:fa τ h with
 | ok d h1 =>
  rw [hf] at o
  intro ι' H' v g r hr
  cases hz:a7u ι.length (.ok d h1) with
  | ok d' g' =>
   rw [hz] at o
   obtain ⟨L,ab,k⟩:=ab5 g r hr hz
   refine ⟨L,ab,fun H2 f=>?_⟩
   obtain ⟨k1,k2,k3⟩:=k H2 f
   exact o ι H2 v k1 k2 k3
  | ex c hx=>unfold a7u at hz;simp only at hz;split at hz<;>cases hz
  | no=>rw [hz] at o;exact o.elim
 | ex c h1=>rw [hf] at o;exact o.elim
 | no=>rw [hf] at o;exact o.elim
theorem ajc {X:Cx} {E:XD} {e:Expr} {fa:SE} (ha:ME X E e fa):ME X E e (sZ fa):=PE.weak (a2u ha) fun σ H Q q=>aoo q
def refOf:D→Option Nat
 | .ref i=>some i
 | _=>none
def zf (ds:List D):List Nat:=ds.filterMap refOf
def xm:Nat→List D→List D
 | _,[]=>[]
 | k,d::ds=>match d with
  | .ref _=>.ref k::xm (k+1) ds
  | d=>d::xm k ds
def mz:Hd→List Nat→List O→Hd
 | h,i::is,o::os=>mz (h.set i o) is os
 | h,_,_=>h
def isRef (d:D):Prop:=∃ i,d = .ref i
open Classical in
noncomputable def ajd (m:Bool) (F:SF) (ds:List D) (h:Hd):R D:=match wg (fun i=>h[i]?) (zf ds) with
 | none=>.no
 | some os=>if (zf ds).Nodup∧(∀ d∈ds,clo 0 d∨isRef d)∧(∀ o∈os,a07 0 o) then
   (match (if m then ajb os.length (F (xm 0 ds) os) else a7u os.length (F (xm 0 ds) os)) with
   | .ok d h1=>if ∀ o∈h1,a07 0 o then
     (if m then .ok (.ref h.length) (mz h (zf ds) h1++h1.drop os.length)
      else if clo 0 d then .ok d (mz h (zf ds) h1) else .no) else .no
   | _=>.no)
  else .no
noncomputable def j4 (m:Bool) (n:Nat) (F:SF):SF:=fun ds h=>if ds.length=n then ajd m F ds h else .no
section
variable {K:PySem.W.Frag} {ι ι':List Addr} {H H' H2:Hp} {h h1:Hd} {n:Nat}
theorem ag7 (κ:List Addr):Gw [] H κ H:=⟨⟨κ,rfl⟩,fun _ _ h=>h,fun _ _ _ h=>h⟩
theorem Rep.any {v:V} {d:D} (r:Rep K ι H v d) (c:MI.clo 0 d) (κ:List Addr):Rep K κ H v d:=by
 have:=r.cut c
 rw [List.take_zero] at this
 exact this.monoW (ag7 κ)
theorem ORep.any {a:Addr} {o:O} (r:ORep K ι H a o) (c:a07 0 o) (κ:List Addr):ORep K κ H a o:=by
 have:=r.cut c
 rw [List.take_zero] at this
 exact this.monoW (ag7 κ) rfl
theorem a5x {α:Type} (l:List α):∀ {is:List Nat},(∀ i∈is,i<l.length)→∃ ys,wg (fun i=>l[i]?) is=some ys
 | [],_=>⟨[],rfl⟩
 | i::is,hi=>by
  obtain ⟨ys,e⟩:=a5x l (is:=is) fun j hj=>hi j (List.mem_cons_of_mem _ hj)
  have:=hi i List.mem_cons_self
  exact ⟨l[i]::ys,by unfold wg;rw [e,List.getElem?_eq_getElem this]⟩
theorem a0d:∀ {ds:List D} {vs:List V} {pre κ:List Addr},Reps K ι H vs ds→(∀ d∈ds,clo 0 d∨isRef d)→wg (fun i=>ι[i]?) (zf ds)=some κ→Reps K (pre++κ) H vs (xm pre.length ds)
 | [],_,_,_, .nil,_,_=>.nil
 | d::ds,_,pre,κ, .cons r rs,hc,e=>by
  have hc':∀ d∈ds,clo 0 d∨isRef d:=fun x hx=>hc x (List.mem_cons_of_mem _ hx)
  by_cases hd:isRef d
  ·obtain ⟨i,rfl⟩:=hd
   have e':wg (fun i=>ι[i]?) (i::zf ds)=some κ:=e
   unfold wg at e'
   split at e'
   ·rename_i a κ' h1 h2
    cases e'
    cases r with
    | ref ha =>
     rw [ha] at h1;cases h1
     have:=a0d (pre:=pre++[a]) rs hc' h2
     simp only [List.append_assoc,List.singleton_append,List.length_append,List.length_singleton] at this
     refine .cons (.ref ?_) this
     rw [List.getElem?_append_right (Nat.le_refl _)]
     simp
   ·cases e'
  ·have c:=(hc d List.mem_cons_self).resolve_right hd
   have e1:zf (d::ds)=zf ds:=by
    unfold zf
    cases d<;>first | rfl | exact absurd ⟨_,rfl⟩ hd
   have e2:xm pre.length (d::ds)=d::xm pre.length ds:=by
    cases d<;>first | rfl | exact absurd ⟨_,rfl⟩ hd
   rw [e1] at e
   rw [e2]
   exact .cons (r.any c _) (a0d rs hc' e)
theorem ux:∀ {is:List Nat} {os:List O} {h:Hd},(mz h is os).length=h.length
 | [],_,_=>by simp [mz]
 | _::_,[],_=>by simp [mz]
 | i::is,o::os,h=>by rw [mz,ux,List.length_set]
theorem a0e {i:Nat}:∀ {is:List Nat} {os:List O} {h:Hd},i ∉ is→(mz h is os)[i]? = h[i]?
 | [],_,_,_=>by simp [mz]
 | _::_,[],_,_=>by simp [mz]
 | j::is,o::os,h,n=>by
  rw [mz,a0e fun z=>n (List.mem_cons_of_mem _ z),List.getElem?_set_ne fun z=>n (by rw [z];exact List.mem_cons_self)]
theorem a5y {i:Nat} {o:O}:∀ {is:List Nat} {os:List O} {h:Hd} {j:Nat},is.Nodup→is[j]? = some i→os[j]? = some o→i<h.length→(mz h is os)[i]? = some o
 | [],_,_,_,_,e,_,_=>by simp at e
 | _::_,[],_,_,_,_,e,_=>by simp at e
 | k::is,o'::os,h,j,nd,e1,e2,hl=>by
  cases j with
  | zero =>
   simp at e1 e2
   subst e1 e2
   rw [mz,a0e (List.nodup_cons.mp nd).1,List.getElem?_set_self hl]
  | succ j =>
   rw [mz]
   exact a5y (j:=j) (List.nodup_cons.mp nd).2 (by simpa using e1) (by simpa using e2) (by simpa using hl)
theorem a5z {α:Type} {l:List α} (nl:l.Nodup) {is:List Nat} {ys:List α} (e:wg (fun i=>l[i]?) is=some ys) (ni:is.Nodup):ys.Nodup:=by
 obtain ⟨le,g⟩:=yf e
 refine List.pairwise_iff_getElem.mpr fun i j hi hj lt z=>?_
 obtain ⟨x,h1,h2⟩:=g i _ (List.getElem?_eq_getElem hi)
 obtain ⟨y,h3,h4⟩:=g j _ (List.getElem?_eq_getElem hj)
 rw [← z] at h4
 have:=a1u nl h2 h4
 subst this
 have:=a1u ni h1 h3
 omega
theorem a7x {is:List Nat} {κ m:List Addr} {g:Hd} (hr:HRep K ι H h) (e1:wg (fun i=>ι[i]?) is=some κ) (nd:is.Nodup) (gr:Gr κ H (κ++m) H2) (hg:HRep K (κ++m) H2 g) (cg:∀ o∈g,a07 0 o) (hm:m.length≤1) :
  Gr ι H (ι++m) H2∧HRep K (ι++m) H2 (mz h is g++g.drop κ.length):=by
 obtain ⟨l1,g1⟩:=yf e1
 have mn:∀ a∈m,H a=none:=by
  obtain ⟨m',e,hm'⟩:=gr.pre
  rw [List.append_cancel_left e];exact hm'
 have sub:∀ a∈κ,a∈ι:=fun a ha=>by
  obtain ⟨j,hj⟩:=List.getElem?_of_mem ha
  obtain ⟨i,_,q⟩:=g1 j a hj
  exact List.mem_of_getElem? q
 have some_of:∀ a∈ι,∃ u,H a=some u:=fun a ha=>by
  obtain ⟨i,hi⟩:=List.getElem?_of_mem ha
  obtain ⟨o,_,q⟩:=hr.at hi
  obtain ⟨u,q,_⟩:=q.some
  exact ⟨u,q⟩
 have G:Gr ι H (ι++m) H2:=⟨⟨m,rfl,mn⟩,gr.tup,gr.frz,fun a u e n=>gr.oth a u e fun z=>n (sub a z),gr.kp⟩
 have lg:=hg.len
 rw [List.length_append] at lg
 refine ⟨G,?_,?_,fun j a o q1 q2=>?_⟩
 ·refine List.nodup_append.mpr ⟨hr.nd,(List.nodup_append.mp hg.nd).2.1,fun a ha b hb z=>?_⟩
  obtain ⟨u,q⟩:=some_of a ha
  rw [z,mn b hb] at q;cases q
 ·rw [List.length_append,List.length_append,ux,List.length_drop,hr.len];omega
 ·by_cases hj:j<ι.length
  ·rw [List.getElem?_append_left hj] at q1
   rw [List.getElem?_append_left (by rw [ux,← hr.len];exact hj)] at q2
   by_cases hp:j∈is
   ·obtain ⟨k,hk⟩:=List.getElem?_of_mem hp
    have hkl:k<κ.length:=by rw [← l1];exact (List.getElem?_eq_some_iff.mp hk).1
    obtain ⟨i,h3,h4⟩:=g1 k _ (List.getElem?_eq_getElem hkl)
    rw [hk] at h3;cases h3
    rw [q1] at h4
    have hkg:k<g.length:=by omega
    have e5:=a5y (h:=h) nd hk (List.getElem?_eq_getElem hkg) (by rw [← hr.len];exact hj)
    rw [e5] at q2
    cases q2
    have ea:(κ++m)[k]? = some a:=by rw [List.getElem?_append_left hkl,List.getElem?_eq_getElem hkl];exact h4.symm
    exact (hg.obj k a _ ea (List.getElem?_eq_getElem hkg)).any (cg _ (List.getElem_mem hkg)) _
   ·rw [a0e hp] at q2
    have r:=hr.obj j a o q1 q2
    obtain ⟨u,hu,_⟩:=r.some
    have na:a ∉ κ:=fun z=>by
     obtain ⟨k,hk⟩:=List.getElem?_of_mem z
     obtain ⟨i,h3,h4⟩:=g1 k a hk
     have:=a1u hr.nd q1 h4
     subst this
     exact hp (List.mem_of_getElem? h3)
    exact r.mono G (by rw [hu];exact gr.oth a u hu na)
  ·have q1':=q1
   rw [List.getElem?_append_right (by omega)] at q1
   rw [List.getElem?_append_right (by rw [ux,← hr.len];omega),ux,← hr.len,List.getElem?_drop] at q2
   have ea:(κ++m)[κ.length+(j - ι.length)]? = some a:=by rw [List.getElem?_append_right (by omega)];simpa using q1
   exact (hg.obj _ a o ea q2).any (cg o (List.mem_of_getElem? q2)) _
theorem a4b {m:Bool} {F:SF} {vs:List V} {ds:List D} {Q:VK} (r:Reps K ι H vs ds) (hr:HRep K ι H h) (o:out K X0 (u9 K) ι H (j4 m n F ds h) Q) (E:XK) :
  ue K n F vs H (fun v H1=>∃ L,a5w H1 L∧∀ H2,FrzOf L H1 H2→Q v H2) E:=by
 unfold j4 at o
 split at o
 ·rename_i hl
  refine ⟨by rw [r.len];exact hl,?_⟩
  unfold ajd at o
  split at o
  ·exact o.elim
  ·rename_i os hos
   split at o
   ·rename_i hc
    obtain ⟨nd,hd,hcl⟩:=hc
    obtain ⟨l0,g0⟩:=yf hos
    obtain ⟨κ,e1⟩:=a5x ι (is:=zf ds) fun i hi=>by
     obtain ⟨j,hj⟩:=List.getElem?_of_mem hi
     have hjl:j<os.length:=by rw [← l0];exact (List.getElem?_eq_some_iff.mp hj).1
     obtain ⟨x,h3,h4⟩:=g0 j _ (List.getElem?_eq_getElem hjl)
     rw [hj] at h3;cases h3
     rw [hr.len]
     exact (List.getElem?_eq_some_iff.mp h4).1
    obtain ⟨l1,g1⟩:=yf e1
    have lk:κ.length=os.length:=by omega
    have R0:Reps K κ H vs (xm 0 ds):=by simpa using a0d (pre:=[]) r hd e1
    have H0:HRep K κ H os:=by
     refine ⟨a5z hr.nd e1 nd,lk,fun j a ob q1 q2=>?_⟩
     obtain ⟨i,h3,h4⟩:=g1 j a q1
     obtain ⟨i',h5,h6⟩:=g0 j ob q2
     rw [h3] at h5;cases h5
     exact (hr.obj i a ob h4 h6).any (hcl ob (List.mem_of_getElem? q2)) _
    refine ⟨κ,xm 0 ds,os,R0,H0,?_⟩
    cases hF:F (xm 0 ds) os with
    | no=>rw [hF] at o;cases m<;>exact o.elim
    | ex c hx=>rw [hF] at o;cases m<;>exact o.elim
    | ok d h1 =>
     rw [hF] at o
     intro ι' H' v g rb hr1
     rw [← lk] at o
     cases m with
     | false =>
      simp only [Bool.false_eq_true,if_false] at o
      cases hz:a7u κ.length (.ok d h1) with
      | ok d' g' =>
       rw [hz] at o
       simp only at o
       obtain ⟨L,ab,k⟩:=ab5 g rb hr1 hz
       refine ⟨L,ab,fun H2 f=>?_⟩
       obtain ⟨k1,k2,k3⟩:=k H2 f
       split at o
       ·rename_i cg
        split at o
        ·rename_i cd
         have q:=a7x (m:=[]) hr e1 nd (by simpa using k1) (by simpa using k3) cg (by simp)
         have lg:=k3.len
         have dr:g'.drop κ.length=[]:=List.drop_eq_nil_of_le (by omega)
         rw [dr,List.append_nil,List.append_nil] at q
         exact o ι H2 v q.1 (k2.any cd _) q.2
        ·exact o.elim
       ·exact o.elim
      | ex c hx=>rw [hz] at o;exact o.elim
      | no=>rw [hz] at o;exact o.elim
     | true =>
      simp only [if_true] at o
      cases hz:ajb κ.length (.ok d h1) with
      | ok d' g' =>
       rw [hz] at o
       simp only at o
       obtain ⟨b,hb,k1,k2,k3⟩:=adz g rb hr1 hz
       refine ⟨[],fun a ha=>(by simp at ha),fun H2 f=>?_⟩
       have e2:H2=H':=by funext a;exact (f a).1 (by simp)
       subst e2
       split at o
       ·rename_i cg
        have q:=a7x (m:=[b]) hr e1 nd k1 k3 cg (by simp)
        refine o (ι++[b]) H2 v q.1 ?_ q.2
        have hd':d' = .ref κ.length:=by
         unfold ajb at hz
         split at hz
         ·rename_i i h2 hh
          injection hh with z1 z2
          split at hz
          ·split at hz
           ·injection hz with z3 z4;exact z3.symm
           ·cases hz
          ·cases hz
         ·cases hz
        subst hd'
        cases k2 with
        | ref hk =>
         rw [List.getElem?_append_right (Nat.le_refl _)] at hk
         simp at hk
         subst hk
         exact .ref (by rw [← hr.len];simp)
       ·exact o.elim
      | ex c hx=>rw [hz] at o;exact o.elim
      | no=>rw [hz] at o;exact o.elim
   ·exact o.elim
 ·exact o.elim
end
theorem d9 (m:Bool) {X:Cx} {k n:Nat} {f:Addr} {fd:FuncData} {ps:List Str} {x:Str} {F:SF} {ka:SA} {e:Expr} {es:List Expr} {p pos:Pos} (G:Dn X.prog X.w X.K X.mg X.base k x ps (ue X.K n F) f fd) (hr:Room k X.A) (hg:Gl X x) (ha:MA X X0 (e::es) ka)
  (hdb:(x == ("__debug__" : Str))=false:=by decide) (he:starEach (e::es) X.env=(false,eval e X.env)::starEach es X.env:=by rfl) (hpl:(backTo pos (starEach es X.env)).any (·.1)=false:=by rfl):ME X X0 (.Call (.Name x p) (e::es) [] pos) (sA (j4 m n F) ka):=by
 refine PE.weak (a2u (a1h G.ok hr hg G.m G.kp G.b .nil ahb ha hdb he hpl)) fun σ H Q ⟨ι,τ,h,S,Rh,o⟩=>?_
 refine ⟨ι,τ,h,S,Rh,bx o fun ds h1 ι1 H1 vs g1 r1 hr1 o1=>?_⟩
 rw [List.append_nil]
 exact a4b r1 hr1 o1 _
theorem a65 (m:Bool) {X:Cx} {k n:Nat} {f:Addr} {fd:FuncData} {ps:List Str} {x:Str} {F:SF} {p pos:Pos} (G:Dn X.prog X.w X.K X.mg X.base k x ps (ue X.K n F) f fd) (hr:Room k X.A) (hg:Gl X x) (hdb:(x == ("__debug__" : Str))=false:=by decide) :
  ME X X0 (.Call (.Name x p) [] [] pos) (sA (j4 m n F) dg):=by
 refine PE.weak (a2u (ad5 G.ok hr hg G.m G.kp G.b .nil ahb hdb)) fun σ H Q ⟨ι,τ,h,S,Rh,o⟩=>?_
 exact a4b (vs:=[]) .nil Rh o E0
end MI
namespace MI
open PySem PySem.Spec L2
def ag8:SS:=fun _ _=>.no
section
variable {X:Cx} {E:XD}
theorem aqo {st:Stmt}:MS X E st ag8:=fun _ _ _ _ _ _ ⟨_,_,_,_,_,o⟩=>o.elim
theorem a2v {st:List Stmt}:MSs X E st ag8:=fun _ _ _ _ _ _ ⟨_,_,_,_,_,o⟩=>o.elim
end
theorem ag9 {X:Cx} {st:Stmt} {t:TS} (h:PS X st t):PS X st (fun D σ H=>t { D with nx:=fun σ' H1=>∃ L,a5w H1 L∧∀ H2,FrzOf L H1 H2→D.nx σ' H2 } σ H):=fun pins s σ H D I q =>
 thn (h pins s σ H _ I q) fun f s' k=>by
  cases f with
  | next =>
   obtain ⟨σ',H1,I1,L,ab,k⟩:=k
   obtain ⟨H2,f,I2⟩:=Inv.frz I1 ab
   exact ⟨σ',H2,I2,k H2 f⟩
  | brk=>exact k
  | cont=>exact k
  | ret u=>exact k
theorem aga {K:PySem.W.Frag} {E:XD} {f:SE} {i:Nat} {N:Ends} {σ:St} {H:Hp} (q:a1p K E (j7 i f) N σ H):lift K E (u9 K) f σ H (fun v H1=>N.nx (σ.set i (some v)) H1):=by
 obtain ⟨ι,τ,h,S,Rh,o⟩:=q
 exact ⟨ι,τ,h,S,Rh,lw o fun d h1 ι1 H1 v g1 r1 hr1 o1=>o1 ι1 H1 _ (.refl _ _) ((S.mono g1).set r1 i) hr1⟩
theorem ai3 {K:PySem.W.Frag} {E:XD} {fi:SI} {t:D→Option Sd} {fe:SE} {ix:List Nat} {n:Nat} {g:TG} {σ:St} {H:Hp} {Q:VK} (ht:afz K n g t) (q:lift K E (u9 K) (jo fi t fe ix) σ H Q):adb (lift K E (aol K) fi) (lu n ix) g (lift K E (u9 K) fe) σ H Q:=by
 obtain ⟨ι,τ,h,Sr,Rh,o⟩:=q
 refine ⟨ι,τ,h,Sr,Rh,bx o fun it h1 ι1 H1 J g1 r1 hr1 o1=>?_⟩
 by_cases hl:it.xs.length≤LINE
 ·rw [if_pos hl] at o1
  exact a7p r1 ht (a3s (Sr.mono g1) ix) hr1 hl o1
 ·rw [if_neg hl] at o1;exact o1.elim
theorem ae0 {K:PySem.W.Frag} {E:XD} {fi:SI} {t:D→Option Sd} {fc:ST} {fe:SE} {ix:List Nat} {n:Nat} {g:TG} {σ:St} {H:Hp} {Q:VK} (ht:afz K n g t) (q:lift K E (u9 K) (a1r fi t fc fe ix) σ H Q):a6w (lift K E (aol K) fi) (lu n ix) g (lift K E ahh fc) (lift K E (u9 K) fe) σ H Q:=by
 obtain ⟨ι,τ,h,Sr,Rh,o⟩:=q
 refine ⟨ι,τ,h,Sr,Rh,bx o fun it h1 ι1 H1 J g1 r1 hr1 o1=>?_⟩
 by_cases hl:it.xs.length≤LINE
 ·rw [if_pos hl] at o1
  exact aap r1 ht (a3s (Sr.mono g1) ix) hr1 hl o1
 ·rw [if_neg hl] at o1;exact o1.elim
section
variable {X:Cx} {E:XD} {elt tg iter cnd:Expr} {scope:Scope} {pos spos pos':Pos} {cl:List (Str × Addr)} {ts fr:List Str} {ix:List Nat} {fi:SI} {g:TG} {t:D→Option Sd} {fe:SE} {fc:ST} {i:Nat} {x:Str}
theorem a0y (hN:X.N.Nodup) (hi':X.N[i]? = some x) (hx:Loc X.env.scope x) (hc:X.calm=true) (S:CSc X scope cl ts fr ix) (hi:MI X E tg iter fi) (hg:∀ C fp s H,PG (cxC X (ts++fr) scope cl C fp s H) tg g) (ht:afz X.K ts.length g t) (he:∀ C fp s H,ME (cxC X (ts++fr) scope cl C fp s H) E elt fe)
  (hs:∀ x,foldedSetIterable iter X.env x=pure x:=by intro _;rfl) (hsw:swapsWith (.ListComp elt [⟨tg,iter,[],0⟩] scope pos) (some (.Name x pos')) spos.line X.env=pure true:=by rfl) (hf:X.fn x=true∨X.env.scope.names.lookup x=some .local:=by first | exact .inl rfl | exact .inr rfl | assumption) :
  MS X E (.Assign [.Name x pos'] (.ListComp elt [⟨tg,iter,[],0⟩] scope pos) spos) (j7 i (sZ (jo fi t fe ix))) :=
 PS.weak (ag9 (adf (te:=lift X.K E (u9 X.K) fe) hN hi' hx hc S hi hg he hs hsw hf)) fun N σ H q=>ai3 ht (aoo (aga q))
theorem ae1 (hN:X.N.Nodup) (hi':X.N[i]? = some x) (hx:Loc X.env.scope x) (hc:X.calm=true) (S:CSc X scope cl ts fr ix) (hi:MI X E tg iter fi) (hg:∀ C fp s H,PG (cxC X (ts++fr) scope cl C fp s H) tg g) (ht:afz X.K ts.length g t) (he:∀ C fp s H,ME (cxC X (ts++fr) scope cl C fp s H) E elt fe)
  (hq:∀ C fp s H,MT (cxC X (ts++fr) scope cl C fp s H) E cnd fc)
  (hs:∀ x,foldedSetIterable iter X.env x=pure x:=by intro _;rfl) (hsw:swapsWith (.ListComp elt [⟨tg,iter,[cnd],0⟩] scope pos) (some (.Name x pos')) spos.line X.env=pure true:=by rfl) (hf:X.fn x=true∨X.env.scope.names.lookup x=some .local:=by first | exact .inl rfl | exact .inr rfl | assumption) :
  MS X E (.Assign [.Name x pos'] (.ListComp elt [⟨tg,iter,[cnd],0⟩] scope pos) spos) (j7 i (sZ (a1r fi t fc fe ix))) :=
 PS.weak (ag9 (a8r (te:=lift X.K E (u9 X.K) fe) (tc:=lift X.K E ahh fc) hN hi' hx hc S hi hg he hq hs hsw hf)) fun N σ H q=>ae0 ht (aoo (aga q))
end
theorem p8 {P:Program} {w:World} {K:PySem.W.Frag} {mg:Str→Option Value} {base:Heap} {x qual:Str} {st:Stmt} {f:Addr} {fd:FuncData} {N ps:List Str} {k:Nat} {b:SS} (Fu:Fun K x qual st f fd) (S:FnScope N ps (aq st))
  (hb:∀ (cdv:Value) (A:Around) (outer:List Env) (s:Shared) (H:Hp) (E:XK),Room k (A.deeper (PyProof.Rows.envOfC qual (aq st) s.heap.objs.size f cdv))→MSs (a0j CX0 P w K mg base N qual (aq st) f cdv A outer s H E).nox X0 (dz st) b) :
  FnOk P w K mg base CX0 (k+1) f fd ps (ue K ps.length (jr b N.length)):=akz Fu S hb fun ds h _ _ _=>Rf.same rfl
end MI
namespace MI
open PySem PySem.Spec L2 HT
theorem a8z {prog:Program} {w:World} {A:Around} {E:Value→Shared→Prop} {s:Shared} {t sl:Addr} {items:Array Value} {vl vu:Value} {lo hi:Option Int} {Q:Value→Shared→Prop} (ht:PyProof.Rows.IsTup s.heap t items) (hs:s.heap.IsSliceOf sl vl vu .none) (pl:IsPart vl lo) (pu:IsPart vu hi)
  (hw:HT.sIx items.size 0 lo=0∧HT.sIx items.size items.size hi=items.size) (h:Q (.ref t) s):wpAny (model prog w) A (getItem (.ref t) (.ref sl)) Q E s:=by
 obtain ⟨os,f1,f2,f3⟩:=id hs
 have ty:s.TypeIs (.ref sl) "slice":=⟨os,f1,f2⟩
 have tt:s.TypeIs (.ref t) "tuple":=ht.typeIs
 rw [getItem]
 try apply wpAny_holding
 first | (apply wpAny_bind;apply wpAny_pure) | skip
 apply wpAny_bind;apply wpAny_sequenceKey tt (by decide)
 apply wpAny_bind
 apply wpAny_callSpecial?_slot (name:=Str.ofString "__getitem__") tt PyProof.Rows.slot_tuple_getitem
 apply wpAny_call_entry PyProof.Rows.slot_tuple_getitem tt PyProof.Rows.entry_tuple_getitem _ (PyProof.Rows.args_tuple_getitem _ _)
 change wpAny (model prog w) A.in1 (Builtin.Tuple.tupleItemsOf (.ref t)>>=_) _ _ s
 apply wpAny_bind;apply PyProof.Rows.tupleItemsOf_ ht
 apply wpAny_bind;apply wpAny_typeOf ty
 rw [if_pos (by decide)]
 apply wpAny_bind;apply HT.vy hs pl pu
 rw [hw.1,hw.2]
 dsimp only
 rw [if_pos (by simp)]
 apply wpAny_bind
 rw [Builtin.Tuple.tupleIsExact]
 apply wpAny_bind;apply wpAny_typeOf tt
 apply wpAny_pure
 rw [if_pos (by decide)]
 apply wpAny_bind;apply wpAny_rule
 apply wpAny_pure
 exact ⟨_,rfl,wpAny_pure h⟩
def aph (K:PySem.W.Frag):V→Option Int→Option Int→Hp→VK→Prop:=fun x lo hi H Q=>∃ a xs,x = .ref a∧SqT K H a xs∧whole xs.length lo hi∧Q (.ref a) H
theorem ae2 {X:Cx}:SlR X (aph X.K):=by
 intro pins s σ H x v vl vu lo hi sl Q I rx hs pl pu h
 obtain ⟨a,xs,rfl,hx,hw,q⟩:=h
 cases rx
 obtain ⟨its,r,ht,hz⟩:=I.tuple hx
 have hlen:its.toArray.size=xs.length:=by rw [List.size_toArray];exact r.length.symm
 exact ⟨"tuple",_,PyProof.Rows.slot_tuple_getitem.lookup,ht.typeIs,a8z ht hs pl pu (by rw [hlen];exact hw) ⟨.ref a,H,I,rfl,q⟩⟩
def ae3 (d:D) (lo hi:Option Int) (h:Hd):R D:=match d with
 | .tup xs=>if whole xs.length lo hi then .ok (.tup xs) h else .ok (.tup (a3i xs lo hi)) h
 | d=>gSl d lo hi h
def a2d (f:SE) (l u:SO):SE:=fun τ h=>(f τ h).bind fun d h1=>(l τ h1).bind fun lo h2=>(u τ h2).bind fun hi h3=>ae3 d lo hi h3
theorem ai4 {K:PySem.W.Frag} {E:XD} {ι:List Addr} {H:Hp} {h:Hd} {x:V} {d:D} {lo hi:Option Int} {Q:VK} (rx:Rep K ι H x d) (hr:HRep K ι H h) (o:out K E (u9 K) ι H (ae3 d lo hi h) Q):(aof x lo hi H Q∨aob K x lo hi H Q∨aod K x lo hi H Q)∨aph K x lo hi H Q:=by
 cases rx with
 | @tup p vs xs hp r =>
  by_cases hc:whole xs.length lo hi
  ·simp only [ae3,if_pos hc] at o
   exact .inr ⟨p,vs,rfl,SqT.of hp,by rw [r.len];exact hc,ans o (.tup hp r) hr⟩
  ·simp only [ae3,if_neg hc] at o
   exact .inl (.inr (.inl ⟨p,vs,rfl,SqT.of hp,by rw [r.len];exact hc,yu (zy r lo hi) hr o⟩))
 | non=>exact o.elim
 | bl _=>exact o.elim
 | int _=>exact o.elim
 | ty _=>exact o.elim
 | str z=>exact .inl (a7s (.str z) hr o)
 | rol a b=>exact .inl (a7s (.rol a b) hr o)
 | scr a b=>exact .inl (a7s (.scr a b) hr o)
 | rod a b c=>exact o.elim
 | rdT a b c=>exact o.elim
 | exc a b c=>exact o.elim
 | ref a=>exact .inl (a7s (.ref a) hr o)
theorem qz {X:Cx} {E:XD} {e:Expr} {fa:SE} {lo hi:Option Expr} {l u:SO} {p2 pos:Pos} (he:ME X E e fa) (hl:MO X E lo l) (hu:MO X E hi u):ME X E (.Subscript e (.Slice lo hi none p2) pos) (a2d fa l u):=by
 refine PE.weak (ad7 ((akp.or (aki.or ah9)).or ae2) he hl hu) fun σ H Q ⟨ι,τ,h,S,Rh,o⟩=>?_
 refine ⟨ι,τ,h,S,Rh,bx o fun d h1 ι1 H1 v g1 r1 hr1 o1=>?_⟩
 refine ⟨ι1,τ,h1,S.mono g1,hr1,bx o1 fun lo h2 ι2 H2 lv g2 r2 hr2 o2=>?_⟩
 refine ⟨ι2,τ,h2,(S.mono g1).mono g2,hr2,bx o2 fun hi h3 ι3 H3 hv g3 r3 hr3 o3=>?_⟩
 cases r2;cases r3
 exact ai4 ((r1.mono g2).mono g3) hr3 o3
end MI
namespace TPM
open PySem PySem.Spec PySem.W L2 HT MI
end TPM
namespace MI
open PySem PySem.Spec L2 TPM
end MI
namespace L2
open PySem PySem.Spec PyProof.Rows
theorem ae4 {X:Cx}:ap9 X (amz X.K):=by
 intro pins s σ H o i ov iv Q I ro ri h
 obtain ⟨p,xs,k,z,rfl,rfl,hq,he,q⟩:=h
 cases ro
 obtain ⟨t,rfl⟩:=ri
 obtain ⟨its,r,pl,hz⟩:=I.list hq
 obtain ⟨j,h1,h2,h3,h4,h5⟩:=a3g he
 obtain ⟨w,ew,rw'⟩:=r.get h2
 have len:=r.length
 have l63:=a0i
 have done:EP X pins σ Q w s:=⟨z,H,I,rw',q⟩
 by_cases neg:k<0
 ·have ej:(k+(its.toArray.size:Int)).toNat=j:=by
   rw [seqIndex_neg neg h4] at h1
   rw [List.size_toArray,← len]
   exact Option.some.inj h1
  exact wpAny_getItem_list_neg pl.isList neg (by rw [List.size_toArray];omega) (by omega) (by rw [ej];simpa using ew) done
 ·have ej:k.toNat=j:=by
   rw [seqIndex_of (by omega) h5] at h1
   exact Option.some.inj h1
  exact wpAny_getItem_list pl.isList (by omega) (by omega) (by rw [ej];simpa using ew) done
end L2
namespace MI
open PySem PySem.Spec L2
def ai5 (x y:D) (h:Hd):R D:=match x,y with
 | .ref p, .int i=>(match h[p]? with | some (.lst xs)=>(match atI xs i with | some d=>.ok d h | none=>.no) | _=>.no)
 | _,_=>.no
theorem ai6 {K:PySem.W.Frag}:a0l K ai5 (amz K):=by
 intro E ι H h x y dx dy Q rx ry hr o
 cases rx with
 | @ref p i hp =>
  cases ry with
  | int k =>
   simp only [ai5] at o
   split at o
   ·rename_i xs hx
    obtain ⟨vs,h3,h4⟩:=hr.lst hp hx
    split at o
    ·rename_i d he
     obtain ⟨v,h1,h2⟩:=a7r h4 he
     exact ⟨p,vs,k,v,rfl,rfl,SqL.of h3,h1,ans o h2 hr⟩
    ·exact o.elim
   ·exact o.elim
  | _=>exact o.elim
 | _=>exact o.elim
def a66 (g:D→D→Hd→R D) (fo fi fe:SE):SS:=fun τ h=>(fo τ h).fl fun o h1=>(fi τ h1).fl fun i h2=>(ai5 o i h2).fl fun x h3=>(fe τ h3).fl fun y h4=>(g x y h4).fl fun z h5=>match put o i z h5 with | some h6=>.nx τ h6 | none=>.no
section
variable {X:Cx} {E:XD} {e o i:Expr} {fa fb fc:SE} {pos:Pos}
theorem a77 {op:Operator} {r:R2} {gg:D→D→Hd→R D} {tpos:Pos} (ho:ME X E o fa) (hi:ME X E i fb) (he:ME X E e fc) (hp:OpR X (inplaceOp op) r) (hs:a0l X.K gg r)
  (ha:∀ ov iv new,augStore i ov iv new=(do holding [new,ov,iv] (setItem ov iv new);release [new,ov,iv] [];pure .next):=by intros;rfl):MS X E (.AugAssign (.Subscript o i tpos) op e pos) (a66 gg fa fb fc):=by
 refine PS.weak (agx ho hi ae4 he hp set_list ha) fun N σ H ⟨ι,τ,h,S,Rh,oo⟩=>?_
 refine ⟨ι,τ,h,S,Rh,lw oo fun d h1 ι1 H1 v g1 r1 hr1 o1=>?_⟩
 refine ⟨ι1,τ,h1,S.mono g1,hr1,lw o1 fun d2 h2 ι2 H2 u g2 r2 hr2 o2=>?_⟩
 refine ai6 E ι2 H2 h2 v u d d2 _ (r1.mono g2) r2 hr2 (lw o2 fun d3 h3 ι3 H3 w g3 r3 hr3 o3=>?_)
 have S3:=((S.mono g1).mono g2).mono g3
 refine ⟨ι3,τ,h3,S3,hr3,lw o3 fun d4 h4 ι4 H4 y g4 r4 hr4 o4=>?_⟩
 refine hs E ι4 H4 h4 w y d3 d4 _ (r3.mono g4) r4 hr4 (lw o4 fun d5 h5 ι5 H5 z g5 r5 hr5 o5=>?_)
 cases hq:put d d2 d5 h5 with
 | none=>rw [hq] at o5;exact o5.elim
 | some h6 =>
  rw [hq] at o5
  exact aak ((((r1.mono g2).mono g3).mono g4).mono g5) (((r2.mono g3).mono g4).mono g5) r5 hr5 hq fun H' g6 hr6=>o5 ι5 H' σ g6 (((S3.mono g4).mono g5).mono g6) hr6
end
end MI
namespace TPM
open PySem PySem.Spec PySem.W L2 HT MI
theorem a90 (t b:Addr) (items2:Array Value) (n n2:Nat) (dd dd2:Option Addr) (sl sl2:Array (Option Value)) :
  Meets (Builtin.«tuple.__add__» ⟨[.ref t, .ref b],[]⟩) (fun _ R s=>s.heap.get? t=some { cls:=.type "tuple",dict:=dd,data:=.seq #[] n,slots:=sl }∧s.heap.get? b=some { cls:=.type "tuple",dict:=dd2,data:=.seq items2 n2,slots:=sl2 }∧R (.ok (.ret (.ref b))) s):=by
 refine .of_wp fun prog w A R s h=>?_
 obtain ⟨hp,g,d,tk,os⟩:=s
 obtain ⟨hl,hb,h⟩:=h
 wp_walk
 refine wpAny_of_eq sub_tuple_self ?_
 wp_walk
 exact ⟨_,rfl,h⟩
def alg (K:PySem.W.Frag):R2:=fun x y H Q=>∃ a b ys,x = .ref a∧y = .ref b∧SqT K H a []∧SqT K H b ys∧Q (.ref b) H
theorem ai7 {X:Cx}:OpR X (binaryOp .Add) (alg X.K):=by
 intro pins s σ H x y v u Q I rx ry h
 obtain ⟨a,b,ys,rfl,rfl,ha,hb,q⟩:=h
 cases rx
 cases ry
 obtain ⟨its,r1,p1,_⟩:=I.tuple ha
 obtain ⟨its2,r2,p2,_⟩:=I.tuple hb
 cases r1
 obtain ⟨⟨cls,dd,data,sl⟩,ho,hc,n,hd⟩:=id p1
 obtain ⟨⟨cls2,dd2,data2,sl2⟩,ho2,hc2,n2,hd2⟩:=id p2
 simp only at hc hd hc2 hd2
 subst hc hd hc2 hd2
 exact concat_meets ⟨_,ho,rfl⟩ ⟨_,ho2,rfl⟩ noFill_tuple_add seq_tuple_add F.slot_tuple_add F.entry_tuple_add (F.args_tuple_add_2 _ _) (a90 a b its2.toArray n n2 dd dd2 sl sl2) ⟨ho,ho2,⟨.ref b,H,I,rfl,q⟩⟩
end TPM
namespace MI
open PySem PySem.Spec L2 TPM
end MI
namespace TPM
open PySem PySem.Spec PySem.W L2 HT MI PyProof.Rows
end TPM
namespace MI
open PySem PySem.Spec L2 TPM
end MI
namespace L2
open PySem PySem.Spec PyProof.Rows
section
variable {X:Cx}
theorem Inv.lstR {pins:List (Addr × Obj)} {σ:St} {H:Hp} {s:Shared} {l:Addr} {xs:List V} (I:Inv X pins σ H s) (hH:Rd H l (.lst xs)):xs.length≤sizeLine∧∃ (its:List Value) (n:Nat),Vals xs its∧xs.length=its.length∧s.heap.get? l=some { cls:=.type "list",data:=.seq its.toArray n }:=by
 obtain ⟨z,its,n,r,e⟩:=hH.ok I.hok
 exact ⟨z,its,n,r,r.length,e⟩
def ai8:R2:=fun x y H Q=>∃ l b xs zs,x = .ref l∧y = .ref b∧Rd H l (.lst xs)∧Rd H b (.lst zs)∧xs.length+zs.length≤sizeLine∧∀ p,H p=none→Q (.ref p) (upd H p (.lst (xs++zs)))
theorem ai9:OpR X (binaryOp .Add) ai8:=fun pins s σ H x y v u Q I rx ry ⟨l,b,xs,zs,ex,ey,h1,h2,hz,q⟩=>by
 subst ex ey
 cases rx
 cases ry
 obtain ⟨_,as,_,va,la,ea⟩:=I.lstR h1
 obtain ⟨_,bs,_,vb,lb,eb⟩:=I.lstR h2
 have app:as.toArray++bs.toArray=(as++bs).toArray:=by simp
 refine PySem.P.add_list ea eb ?_ (by simp;omega)
 rw [app]
 exact ⟨.ref _,_,I.lnew (t':=s.toks) (va.append vb) (by simpa using hz),rfl,q _ I.fresh⟩
def alh:R2:=fun x y H Q=>∃ l k xs,x = .ref l∧y = .int k∧Rd H l (.lst xs) ∧ -(2 ^ 63)≤k∧k<2 ^ 63∧xs.length*k.toNat≤sizeLine∧∀ p,H p=none→Q (.ref p) (upd H p (.lst (List.replicate k.toNat xs).flatten))
theorem aia (its:List Value) (k:Nat):List.foldl (fun x1 x2=>x1++x2) #[] (List.replicate (if its.toArray.isEmpty=true then 0 else k) its.toArray)=(List.replicate k its).flatten.toArray:=by
 have g:∀ m:Nat,List.foldl (fun x1 x2=>x1++x2) #[] (List.replicate m its.toArray)=(List.replicate m its).flatten.toArray:=fun m=>by simpa using foldl_rep its m []
 cases its with
 | nil=>simp
 | cons a r=>rw [if_neg (by simp),g]
theorem aib:OpR X (binaryOp .Mult) alh:=fun pins s σ H x y v u Q I rx ry ⟨l,k,xs,ex,ey,h1,k1,k2,hz,q⟩=>by
 subst ex ey
 cases rx
 obtain ⟨t,rfl⟩:=ry
 obtain ⟨_,as,n,va,la,ea⟩:=I.lstR h1
 have few:as.toArray.size*k.toNat≤sizeLine:=by rw [List.size_toArray,← la];exact hz
 have top:(sizeLine:Nat)≤(2 ^ 63 - 1) / 8:=by decide
 refine wpAny_binaryOp_repeat_ref (T := "list") (U := "int") (by decide) ⟨_,ea,rfl⟩ (fun s'=>typeIs_int s' k t) noFill_list_mul F.fills_int_mul F.slot_int_rmul repeat_list F.slot_int_index.lookup
  (call_meets F.slot_int_rmul (typeIs_int s k t) F.entry_int_rmul (F.args_int_rmul_2 _ _) (int___rmul___int_list k t l as.toArray n)
   ⟨ea,rfl,⟨_,ea,rfl⟩,call_meets F.slot_list_mul ⟨_,ea,rfl⟩ F.entry_list_mul (F.args_list_mul_2 _ _)
    (AutoListH.list___mul___list_int_3 l as.toArray n k t (by rw [fitsIndex_both k1 k2];exact Bool.false_ne_true) (by omega) (by rw [ad8 few];exact Bool.false_ne_true)) ⟨ea,?_⟩⟩)
 rw [aia]
 exact ⟨.ref _,_,I.lnew (t':=s.toks) (va.rep k.toNat) (by rw [len_rep,Nat.mul_comm];exact hz),rfl,q _ I.fresh⟩
end
end L2
namespace MI
open PySem PySem.Spec L2 TPM
def ym (d:D) (h:Hd):Option (List D):=match d with
 | .rol xs=>some xs
 | .ref i=>(match h[i]? with | some (.lst xs)=>some xs | _=>none)
 | _=>none
section
variable {K:PySem.W.Frag} {ι:List Addr} {H:Hp} {h:Hd}
theorem a4c {x:V} {d:D} {xs:List D} (r:Rep K ι H x d) (hr:HRep K ι H h) (e:ym d h=some xs):∃ a vs,x = .ref a∧Rd H a (.lst vs)∧Reps K ι H vs xs:=by
 cases r with
 | @rol a vs ys hp rs=>cases e;exact ⟨a,vs,rfl, .inr hp,rs⟩
 | @ref a i hp =>
  obtain ⟨ob,e1,e2⟩:=hr.at hp
  simp only [ym,e1] at e
  cases ob with
  | lst ys=>cases e;obtain ⟨vs,h3,h4⟩:=e2;exact ⟨a,vs,rfl, .inl h3,h4⟩
  | _=>cases e
 | _=>cases e
def jm:D→D→Hd→R D
 | .int i, .int j,h=>.ok (.int (i+j)) h
 | .str x, .str y,h=>if x.length+y.length≤LINE then .ok (.str (x++y)) h else .no
 | .tup [], .tup ys,h=>.ok (.tup ys) h
 | .tup (x::xs), .tup ys,h=>if (x::xs).length+ys.length≤LINE then .ok (.tup (x::xs++ys)) h else .no
 | x,y,h=>match ym x h,ym y h with
  | some xs,some ys=>if xs.length+ys.length≤LINE then .ok (.ref h.length) (h++[.lst (xs++ys)]) else .no
  | _,_=>.no
theorem aic {x y:D} {xs ys:List D} (e1:ym x h=some xs) (e2:ym y h=some ys):jm x y h=if xs.length+ys.length≤LINE then .ok (.ref h.length) (h++[.lst (xs++ys)]) else .no:=by
 cases x<;>first | (cases e1;done) | (cases y<;>first | (cases e2;done) | (simp only [jm,e1,e2]))
theorem ae5:a0l K jm (fun x y H Q=>(rI0 (fun i j=>.int (i+j)) x y H Q∨(∃ i j,x = .str i∧y = .str j∧i.length+j.length≤sizeLine∧Q (.str (i++j)) H)∨akj K x y H Q∨ai8 x y H Q)∨alg K x y H Q):=by
 intro E ι H h x y dx dy Q rx ry hr o
 have lists:∀ xs ys,ym dx h=some xs→ym dy h=some ys→ai8 x y H Q:=fun xs ys e1 e2=>by
  rw [aic e1 e2] at o
  obtain ⟨a,vs,rfl,h1,h2⟩:=a4c rx hr e1
  obtain ⟨b,us,rfl,h3,h4⟩:=a4c ry hr e2
  split at o
  ·rename_i hc
   exact ⟨a,b,vs,us,rfl,rfl,h1,h3,ll (by rw [h2.len,h4.len];exact hc),v4 (h2.app h4) hr o⟩
  ·exact o.elim
 cases hx:ym dx h with
 | some xs =>
  cases hy:ym dy h with
  | some ys=>exact .inl (.inr (.inr (.inr (lists xs ys hx hy))))
  | none =>
   exfalso
   cases rx<;>first | (cases hx;done) | (cases ry<;>first | (simp only [jm,hx,hy] at o;exact o) | (simp only [jm] at o;exact o))
 | none =>
  cases rx with
  | int i =>
   cases ry with
   | int j=>exact .inl (.inl ⟨i,j,rfl,rfl,ans o (.int _) hr⟩)
   | _=>exact o.elim
  | str i =>
   cases ry with
   | str j =>
    simp only [jm] at o
    split at o
    ·rename_i hc;exact .inl (.inr (.inl ⟨i,j,rfl,rfl,ll hc,ans o (.str _) hr⟩))
    ·exact o.elim
   | _=>exact o.elim
  | @tup a vs xs ha r1 =>
   cases ry with
   | @tup b us ys hb r2 =>
    cases xs with
    | nil=>cases r1;exact .inr ⟨a,b,us,rfl,rfl,SqT.of ha,SqT.of hb,ans o (.tup hb r2) hr⟩
    | cons z xs =>
     simp only [jm] at o
     split at o
     ·rename_i hc
      refine .inl (.inr (.inr (.inl ⟨a,b,vs,us,rfl,rfl,SqT.of ha,SqT.of hb,fun z=>(by subst z;cases r1),ll (by rw [r1.len,r2.len];exact hc),fun z=>?_,fun _=>?_⟩)))
      ·subst z;cases r2
       rw [List.append_nil] at o
       exact ans o (.tup ha r1) hr
      ·exact yu (r1.app r2) hr o
     ·exact o.elim
   | _=>cases xs<;>exact o.elim
  | rol _ _=>cases hx
  | ref _=>cases ry<;>(simp only [jm,hx] at o;exact o.elim)
  | _=>cases ry<;>exact o.elim
theorem km {X:Cx} {E:XD} {a b:Expr} {fa fb:SE} {pos:Pos} (ha:ME X E a fa) (hb:ME X E b fb):ME X E (.BinOp a .Add b pos) (s2 jm fa fb) :=
 a8u (OpR.or (ak3.or (a8k.or (ah7.or ai9))) ai7) ae5 ha hb
open Classical in
noncomputable def a0s:D→D→Hd→R D
 | .int i, .int j,h=>if CMul i j then .ok (.int (i*j)) h else .no
 | x, .int k,h=>match ym x h with
  | some xs=>if (-(2 ^ 63)≤k∧k<2 ^ 63)∧xs.length*k.toNat≤LINE then .ok (.ref h.length) (h++[.lst (List.replicate k.toNat xs).flatten]) else .no
  | none=>.no
 | _,_,_=>.no
theorem ae6:a0l K a0s (fun x y H Q=>rI CMul (fun i j=>.int (i*j)) x y H Q∨alh x y H Q):=by
 intro E ι H h x y dx dy Q rx ry hr o
 cases ry with
 | int k =>
  cases hx:ym dx h with
  | some xs =>
   obtain ⟨a,vs,rfl,h1,h2⟩:=a4c rx hr hx
   have o':out K E (u9 K) ι H (if (-(2 ^ 63)≤k∧k<2 ^ 63)∧xs.length*k.toNat≤LINE then .ok (.ref h.length) (h++[.lst (List.replicate k.toNat xs).flatten]) else .no) Q:=by
    cases dx<;>first | (cases hx;done) | (simp only [a0s,hx] at o;exact o)
   split at o'
   ·rename_i hc
    exact .inr ⟨a,k,vs,rfl,rfl,h1,hc.1.1,hc.1.2,ll (by rw [h2.len];exact hc.2),v4 (h2.flat _) hr o'⟩
   ·exact o'.elim
  | none =>
   cases rx with
   | int i =>
    by_cases hc:CMul i k
    ·simp only [a0s,if_pos hc] at o;exact .inl ⟨i,k,rfl,rfl,hc,ans o (.int _) hr⟩
    ·simp only [a0s,if_neg hc] at o;exact o.elim
   | _=>simp only [a0s,hx] at o;exact o.elim
 | _=>cases rx<;>exact o.elim
theorem a4d {X:Cx} {E:XD} {a b:Expr} {fa fb:SE} {pos:Pos} (ha:ME X E a fa) (hb:ME X E b fb):ME X E (.BinOp a .Mult b pos) (s2 a0s fa fb):=a8u (ak5.or aib) ae6 ha hb
end
end MI
namespace MI
open PySem PySem.Spec L2
def a2w (d:D) (h:Hd):Option (List Int):=match d with
 | .ref i=>(match h[i]? with | some (.lst xs)=>a3w xs | _=>none)
 | .rol xs=>a3w xs
 | _=>none
theorem a67 {K:PySem.W.Frag} {ι:List Addr} {H:Hp} {h:Hd} {v:V} {d:D} {ns:List Int} (r:Rep K ι H v d) (hr:HRep K ι H h) (e:a2w d h=some ns):∃ p,v = .ref p∧SqL K H p (ns.map V.int):=by
 unfold a2w at e
 split at e
 ·cases r with
  | @ref p _ hp =>
   split at e
   ·rename_i xs hx
    obtain ⟨vs,h3,h4⟩:=hr.lst hp hx
    exact ⟨p,rfl,SqL.of (by rw [h3,zz h4 e])⟩
   ·cases e
 ·cases r with
  | @rol p vs xs hp r=>exact ⟨p,rfl,by rw [← zz r e];exact hp.l⟩
 ·cases e
end MI
namespace L2
open PySem PySem.Spec PyProof.Rows
section
variable {X:Cx}
theorem a4e:CallR X (.builtin "sorted") (fun xs H Q=>∃ (p:Addr) (ns:List Int),xs=[.ref p]∧SqL X.K H p (ns.map V.int)∧ns.length<64∧∀ l,H l=none→Q (.ref l) (upd H l (.lst ((PySem.W.sortI ns).map V.int)))):=by
 intro pins s σ H xs us Q I r ⟨p,ns,e,hq,h64,q⟩
 subst e
 obtain ⟨u,rfl,ru⟩:=vals1 r
 cases ru
 obtain ⟨its,r',pl,hz⟩:=I.list hq
 have hI:IntsAre its ns:=intsAre_of r'
 have hl:its.length=ns.length:=by have:=r'.length;simp at this;omega
 refine sorted_ints pl.isList hI (by omega) fun out ns' a1 a2 a3=>?_
 obtain ⟨e,he⟩:=sortedAll_at s.heap its out
 have e2:ns'=PySem.W.sortI ns:=PySem.W.eq_sortI a2 a3
 subst e2
 have ln:(PySem.W.sortI ns).length=ns.length:=(PySem.W.sortI_perm ns).length_eq
 refine ⟨.ref (s.heap.objs.size+1),_,I.laid (t':=s.toks) (fun _ _=>sortedAll_old) (Nat.le_succ _) (show ObjOk X.prog X.w _ _ _ (.lst ((PySem.W.sortI ns).map V.int)) from ⟨by rw [List.length_map,ln];have:=sizeLine_eq;omega,out.toList,e,a1m a1,by simpa [seqObj] using he⟩),rfl,q _ (I.hok.fresh (Nat.le_succ _))⟩
end
end L2
namespace MI
open PySem PySem.Spec L2
def zg:List D→Hd→R D
 | [d],h=>(match a2w d h with | some ns=>if ns.length<64 then .ok (.ref h.length) (h++[.lst ((PySem.W.sortI ns).map D.int)]) else .no | none=>.no)
 | _,_=>.no
theorem a2x {K:PySem.W.Frag} {ι:List Addr} {H:Hp}:∀ ns:List Int,Reps K ι H (ns.map V.int) (ns.map D.int)
 | []=>.nil
 | n::ns=>.cons (.int n) (a2x ns)
theorem a91 {K:PySem.W.Frag}:a9e K zg (fun xs H Q=>∃ (p:Addr) (ns:List Int),xs=[.ref p]∧SqL K H p (ns.map V.int)∧ns.length<64∧∀ l,H l=none→Q (.ref l) (upd H l (.lst ((PySem.W.sortI ns).map V.int)))):=by
 intro E ι H h xs ds Q r hr o
 unfold zg at o
 split at o
 ·cases r with
  | cons r rs =>
   cases rs
   split at o
   ·rename_i ns e
    split at o
    ·rename_i hl
     obtain ⟨p,rfl,q⟩:=a67 r hr e
     exact ⟨p,ns,rfl,q,hl,v4 (a2x _) hr o⟩
    ·exact o.elim
   ·exact o.elim
 ·exact o.elim
end MI
namespace L2
open PySem PySem.Spec PyProof.Rows
def ixI (n:Int):List Int→Option Nat
 | []=>none
 | a::l=>if a=n then some 0 else (ixI n l).map (·+1)
theorem ab6 {n:Int}:∀ {l:List Int} {j:Nat},ixI n l=some j→l[j]? = some n∧∀ i,i<j→l[i]?≠some n
 | [],_,h=>by cases h
 | a::l,j,h=>by
  unfold ixI at h
  split at h
  ·rename_i e
   cases h
   exact ⟨by rw [e];rfl,fun i hi=>absurd hi (Nat.not_lt_zero i)⟩
  ·rename_i e
   obtain ⟨k,hk,rfl⟩:=Option.map_eq_some_iff.mp h
   obtain ⟨h1,h2⟩:=ab6 hk
   refine ⟨h1,fun i hi=>?_⟩
   cases i with
   | zero=>intro z;exact e (Option.some.inj z)
   | succ i=>exact h2 i (Nat.lt_of_succ_lt_succ hi)
theorem a7y {n:Int}:∀ {l:List Int},n∈l→∃ j,ixI n l=some j
 | [],h=>by cases h
 | a::l,h=>by
  unfold ixI
  split
  ·exact ⟨0,rfl⟩
  ·rename_i e
   rcases List.mem_cons.mp h with h | h
   ·exact absurd h.symm e
   ·obtain ⟨j,hj⟩:=a7y h
    exact ⟨j+1,by rw [hj];rfl⟩
def eqI (n:Int):Value→Bool
 | .int a _=>a == n
 | _=>false
def ab7 (K:PySem.W.Frag):V→List V→Hp→VK→Prop:=fun x vs H Q=>∃ (l:Addr) (ns:List Int) (n:Int) (j:Nat),x = .ref l∧vs=[.int n]∧SqL K H l (ns.map V.int)∧ixI n ns=some j∧Q (.int (j:Nat)) H
theorem ab8 {X:Cx}:MtR X "list.index" (ab7 X.K):=by
 intro pins s σ H x vs v us Q I rx rv h
 obtain ⟨l,ns,n,j,rfl,rfl,hq,hj,q⟩:=h
 cases rx
 obtain ⟨u,rfl,ru⟩:=rv.one
 obtain ⟨t,rfl⟩:=ru
 obtain ⟨its,r,⟨⟨cls,dict,data,slots⟩,m,e1,e2,e3,e4⟩,hz⟩:=I.list hq
 have e2:cls = .type "list":=e2
 have e3:dict=none:=e3
 have e4:data = .seq its.toArray m:=e4
 subst e2 e3 e4
 have hl:its.length=ns.length:=by have:=r.length;simp at this;omega
 have each:∀ i (h:i<its.length),∃ a t,its[i] = .int a t∧ns[i]? = some a:=fun i h=>by
  obtain ⟨y,h1,h2⟩:=r.get (show (ns.map V.int)[i]? = some (V.int (ns[i]'(by omega))) by rw [List.getElem?_map,List.getElem?_eq_getElem (by omega)];rfl)
  obtain ⟨t,rfl⟩:=h2
  exact ⟨_,t,(List.getElem?_eq_some_iff.mp h1).2,List.getElem?_eq_getElem _⟩
 obtain ⟨p1,p2⟩:=ab6 hj
 have jl:j<ns.length:=(List.getElem?_eq_some_iff.mp p1).1
 rw [List.length_map] at hz
 rw [sizeLine_eq] at hz
 refine call_meets F.slot_list_index ⟨_,e1,rfl⟩ F.entry_list_index (F.args_list_index_2 _ _)
  (SeqAt.list_indexAt l its.toArray m none slots (.int n t) (eqI n) j (by simp;omega) (by omega) ?_ ?_) ⟨e1,fun y hy=>?_, .int (j:Nat),H,I.tok _,⟨_,rfl⟩,q⟩
 ·obtain ⟨a,t,h1,h2⟩:=each j (by omega)
  rw [p1] at h2;cases h2
  rw [List.getElem_toArray,h1]
  exact beq_self_eq_true _
 ·intro i hi hij
  obtain ⟨a,t,h1,h2⟩:=each i (by simpa using hi)
  rw [List.getElem_toArray,h1]
  exact beq_eq_false_iff_ne.mpr fun z=>p2 i hij (by rw [h2,z])
 ·obtain ⟨i,hi,rfl⟩:=List.getElem_of_mem (List.mem_toArray.mp hy)
  obtain ⟨a,t',h1,_⟩:=each i hi
  rw [h1]
  exact SeqAt.EqAt.int_int a t' n t
end L2
namespace MI
open PySem PySem.Spec L2
def a1v (d:D) (ds:List D) (h:Hd):R D:=match a2w d h,ds with
 | some ns,[.int n]=>(match ixI n ns with | some j=>.ok (.int (j:Nat)) h | none=>.no)
 | _,_=>.no
theorem a92 {K:PySem.W.Frag}:ag5 K a1v (ab7 K):=by
 intro E ι H h x dx xs ds Q rx r hr o
 unfold a1v at o
 split at o
 ·rename_i ns n e
  cases r with
  | cons r rs =>
   cases r;cases rs
   split at o
   ·rename_i j hj
    obtain ⟨p,rfl,q⟩:=a67 rx hr e
    exact ⟨p,ns,n,j,rfl,rfl,q,hj,ans o (.int _) hr⟩
   ·exact o.elim
 ·exact o.elim
end MI
namespace MI
open PySem PySem.Spec L2
def api:D→Option Key
 | .int i=>some (.inl i)
 | .str x=>some (.inr x)
 | _=>none
def aqp:D→Option (List Key)
 | .tup xs=>wg api xs
 | _=>none
def putD {κ:Type} [DecidableEq κ] (kvs:List (κ × D)) (k:κ) (d:D):List (κ × D):=if (kvs.any fun kv=>decide (kv.1=k))=true then kvs.map fun kv=>if kv.1=k then (kv.1,d) else kv else kvs++[(k,d)]
section
variable {K:PySem.W.Frag} {ι:List Addr} {H:Hp} {h:Hd}
variable {X:Cx} {E:XD} {a b e o i:Expr} {fa fb fc:SE} {pos:Pos}
def aqq (o k v:D) (h:Hd):Option Hd:=match o with
 | .ref i=>(match h[i]? with
  | some (.dK kvs)=>(match api k with | some kk=>if kvs.length<LINE then some (h.set i (.dK (putD kvs kk v))) else none | none=>none)
  | some (.dT kvs)=>(match aqp k with | some kk=>if kvs.length<LINE then some (h.set i (.dT (putD kvs kk v))) else none | none=>none)
  | _=>none)
 | _=>none
def ae7 (fe fo fi:SE):SS:=fun τ h=>(fe τ h).fl fun v h1=>(fo τ h1).fl fun o h2=>(fi τ h2).fl fun k h3=>match aqq o k v h3 with | some h4=>.nx τ h4 | none=>.no
end
end MI
namespace ZP
open PySem PySem.Spec PySem.Builtin PySem.Builtin.SmallTypes L2
end ZP
namespace MI
open PySem PySem.Spec L2 ZP
def aid (x:D) (h:Hd):R Itm:=match srcOf x h with
 | some (xs,c)=>.ok ⟨((List.range xs.length).zip xs).map fun p=>.tup [.int (p.1:Nat),p.2],c⟩ h
 | none=>.no
def ali (f:SE):SI:=fun τ h=>(f τ h).bind aid
end MI
namespace L2
open PySem PySem.Spec PyProof.Rows
end L2
namespace MI
open PySem PySem.Spec L2
end MI
namespace L2
open PySem PySem.Spec PyProof.Rows
end L2
namespace MI
open PySem PySem.Spec L2
def aqr (lo:Int) (n:Nat):List D:=(List.range n).map fun i=>D.int (lo - (i:Nat))
def alj (ds:List D) (h:Hd):R Itm:=match ds with
 | [.int i, .int j, .int k]=>if k = -1∧B62 i∧B62 j then .ok ⟨aqr i (i - j).toNat,fun _=>True⟩ h else .no
 | _=>.no
end MI
namespace MI
open PySem PySem.Spec L2
theorem ab9:bootBuiltins "sorted" = some (.builtin "sorted"):=by decide +kernel
end MI
namespace MI
open PySem PySem.Spec L2
theorem cu {α β:Type} (a:α) (h:Hd) (k:α→Hd→R β):(R.ok a h).bind k=k a h:=rfl
theorem a4f {α:Type} (a:α) (h:Hd) (k:α→Hd→Fl):(R.ok a h).fl k=k a h:=rfl
def thn (r:Fl) (g:SS):Fl:=match r with | .nx τ h=>g τ h | r=>r
theorem nq (f g:SS) (τ:Sd) (h:Hd):du f g τ h=thn (f τ h) g:=by unfold du thn;cases f τ h<;>rfl
theorem xn (τ:Sd) (h:Hd) (g:SS):thn (.nx τ h) g=g τ h:=rfl
theorem a7z (d:D) (h:Hd) (g:SS):thn (.rt d h) g = .rt d h:=rfl
def toR (r:Fl):R D:=match r with | .rt d h1=>.ok d h1 | .nx _ h1=>.ok .non h1 | .ex c h1=>.ex c h1 | _=>.no
theorem gj (b:SS) (n:Nat) (ds:List D) (h:Hd):jr b n ds h=toR (b (xf n ds) h):=by unfold jr toR;cases b (xf n ds) h<;>rfl
theorem a68 (d:D) (h:Hd):toR (.rt d h) = .ok d h:=rfl
theorem a80 (τ:Sd) (h:Hd):toR (.nx τ h) = .ok .non h:=rfl
theorem a01 {n:Nat}:∀ {xs:List D},clos n xs↔∀ x∈xs,clo n x
 | []=>by simp [clos]
 | x::xs=>by simp [clos,a01 (xs:=xs)]
theorem di {n:Nat} (i:Int):clo n (.int i):=by simp [clo]
theorem iz {n:Nat} (i:Str):clo n (.str i):=by simp [clo]
theorem xq {n:Nat} (i:Bool):clo n (.bl i):=by simp [clo]
theorem aie {n:Nat}:clo n .non:=by simp [clo]
theorem v6 {n:Nat}:clos n []:=by simp [clos]
theorem fj {n:Nat} {x:D} {xs:List D} (a:clo n x) (b:clos n xs):clos n (x::xs):=by simp only [clos];exact ⟨a,b⟩
theorem sr {n:Nat} {xs:List D} (h:clos n xs):clo n (.tup xs):=by simpa [clo] using h
theorem v7 {n:Nat} {xs:List D} (h:clos n xs):clo n (.rol xs):=by simpa [clo] using h
theorem gk {α:Type} {n:Nat} {f:α→D} {l:List α} (h:∀ a∈l,clo n (f a)):clos n (l.map f):=by
 rw [a01]
 intro x hx
 obtain ⟨a,ha,rfl⟩:=List.mem_map.mp hx
 exact h a ha
mutual
theorem aba {n m:Nat} (hm:n≤m):∀ {d:D},clo n d→clo m d
 | .non,_=>by simp [clo]
 | .bl _,_=>by simp [clo]
 | .int _,_=>by simp [clo]
 | .str _,_=>by simp [clo]
 | .ty _,_=>by simp [clo]
 | .tup xs,h=>by simp only [clo] at h ⊢;exact v8 hm h
 | .rol xs,h=>by simp only [clo] at h ⊢;exact v8 hm h
 | .scr xs,h=>by simp only [clo] at h ⊢;exact v8 hm h
 | .rod _ xs,h=>by simp only [clo] at h ⊢;exact v8 hm h
 | .rdT _ xs,h=>by simp only [clo] at h ⊢;exact v8 hm h
 | .exc _,_=>by simp [clo]
 | .ref i,h=>by simp only [clo] at h ⊢;omega
theorem v8 {n m:Nat} (hm:n≤m):∀ {xs:List D},clos n xs→clos m xs
 | [],_=>by simp [clos]
 | x::xs,h=>by simp only [clos] at h ⊢;exact ⟨aba hm h.1,v8 hm h.2⟩
end
theorem nj {n m:Nat} (hm:n≤m) {o:O} (h:a07 n o):a07 m o:=by
 cases o with
 | lst xs=>exact v8 hm h
 | dK kvs=>exact v8 hm h
 | dT kvs=>exact v8 hm h
theorem a78 {α:Type} {f:α→Option α}:∀ {xs:List α},(∀ x∈xs,f x=some x)→wg f xs=some xs
 | [],_=>rfl
 | x::xs,h=>by
  unfold wg
  rw [h x List.mem_cons_self,a78 fun y hy=>h y (List.mem_cons_of_mem _ hy)]
theorem a4g {n k:Nat} {h:Hd} {d:D} (c:clo n d):a00 n h (k+1) d=some d:=by unfold a00;rw [if_pos c]
theorem ae8 {n k:Nat} {h:Hd} {o:O} (c:a07 n o):ale n h k o=some o:=by unfold ale;rw [if_pos c]
theorem a0z {n k i:Nat} {h:Hd} {xs:List D} (hi:n≤i) (e:h[i]? = some (.lst xs)) (c:clos n xs):a00 n h (k+2) (.ref i)=some (.rol xs):=by
 unfold a00
 rw [if_neg (by simp only [clo];omega)]
 simp only [e]
 rw [a78 fun x hx=>a4g (a01.mp c x hx)]
 rfl
theorem a81 {n k:Nat} {h:Hd} {xs ys:List D} (e:wg (a00 n h k) xs=some ys) (nc:¬ clos n xs):a00 n h (k+1) (.tup xs)=some (.tup ys):=by
 unfold a00
 rw [if_neg (by simpa only [clo] using nc)]
 simp only [e,Option.map_some]
theorem a4h {n:Nat} {d d':D} {h1:Hd} (e:a00 n h1 FU d=some d') (c:∀ o∈h1.take n,a07 n o):a7u n (.ok d h1) = .ok d' (h1.take n):=by
 unfold a7u
 simp only [e]
 rw [a78 fun o ho=>ae8 (c o ho)]
theorem jk {n:Nat} {d:D} {h1:Hd} (e:clo n d) (c:∀ o∈h1.take n,a07 n o):a7u n (.ok d h1) = .ok d (h1.take n):=a4h (a4g e) c
theorem a02 {n i:Nat} {h1:Hd} {xs:List D} (hi:n≤i) (e:h1[i]? = some (.lst xs)) (cx:clos n xs) (c:∀ o∈h1.take n,a07 n o):a7u n (.ok (.ref i) h1) = .ok (.rol xs) (h1.take n):=a4h (a0z hi e cx) c
theorem a69 {f:SE} {τ:Sd} {h:Hd} {xs:List D} (e:f τ h = .ok (.ref h.length) (h++[.lst xs])) (cx:clos h.length xs) (c:∀ o∈h,a07 h.length o):sZ f τ h = .ok (.rol xs) h:=by
 unfold sZ
 rw [e,a02 (Nat.le_refl _) (by simp) cx (by simpa using c)]
 simp
def Pu (F:SF) (n:Nat) (ds:List D) (d:D):Prop:=∀ h,j4 false n F ds h = .ok d h
def Dr (F:SF) (n:Nat) (ds:List D) (o:O) (d:D) (o':O):Prop:=∀ p h,h[p]? = some o→j4 false n F (.ref p::ds) h = .ok d (h.set p o')
theorem a1a:∀ {ds:List D},(∀ d∈ds,clo 0 d)→zf ds=[]∧xm 0 ds=ds∧∀ k,xm k ds=ds
 | [],_=>⟨rfl,rfl,fun _=>rfl⟩
 | d::ds,h=>by
  obtain ⟨a,b,c⟩:=a1a (ds:=ds) fun x hx=>h x (List.mem_cons_of_mem _ hx)
  have hd:=h d List.mem_cons_self
  have nr:refOf d=none:=by cases d<;>first | rfl | (simp only [clo] at hd;omega)
  refine ⟨?_,?_,fun k=>?_⟩
  ·simpa [zf,nr] using a
  ·cases d<;>first | (simp only [clo] at hd;omega) | (simp only [xm,b])
  ·cases d<;>first | (simp only [clo] at hd;omega) | (simp only [xm,c])
theorem Pu.of {F:SF} {n:Nat} {ds:List D} {r:R D} {d:D} (hn:ds.length=n) (cd:∀ x∈ds,clo 0 x) (e:F ds []=r) (z:a7u 0 r = .ok d []) (c:clo 0 d):Pu F n ds d:=fun h=>by
 obtain ⟨p1,p2,_⟩:=a1a cd
 unfold j4
 rw [if_pos hn]
 unfold ajd
 rw [p1]
 simp only [wg,List.length_nil,Bool.false_eq_true,if_false]
 rw [if_pos ⟨List.nodup_nil,fun x hx=>.inl (cd x hx),fun o ho=>by simp at ho⟩,p2,e,z]
 simp [c,mz]
theorem Dr.of {F:SF} {n:Nat} {ds:List D} {o o':O} {r:R D} {d:D} (hn:ds.length+1=n) (cd:∀ x∈ds,clo 0 x) (co:a07 0 o) (e:F (.ref 0::ds) [o]=r) (z:a7u 1 r = .ok d [o']) (c:clo 0 d) (co':a07 0 o'):Dr F n ds o d o':=fun p h hp=>by
 obtain ⟨p1,_,p3⟩:=a1a cd
 have e1:zf (.ref p::ds)=[p]:=by
  have:zf (.ref p::ds)=p::zf ds:=rfl
  rw [this,p1]
 have e2:xm 0 (.ref p::ds) = .ref 0::ds:=by
  have:xm 0 (.ref p::ds) = .ref 0::xm 1 ds:=rfl
  rw [this,p3]
 unfold j4
 rw [if_pos (by simpa using hn)]
 unfold ajd
 rw [e1]
 simp only [wg,hp,List.length_singleton,Bool.false_eq_true,if_false]
 have all:∀ x∈(D.ref p::ds),clo 0 x∨isRef x:=fun x hx=>by
  rcases List.mem_cons.mp hx with rfl | hx
  ·exact .inr ⟨p,rfl⟩
  ·exact .inl (cd x hx)
 rw [if_pos ⟨by simp,all,fun u hu=>by rw [List.mem_singleton.mp hu];exact co⟩,e2,e,z]
 simp [c,co',mz]
theorem alk {F:SF} {n i:Nat} {ds:List D} {o:O} {h1:Hd} (hn:ds.length=n) (cd:∀ x∈ds,clo 0 x) (e:F ds [] = .ok (.ref i) h1) (ho:h1[i]? = some o) (co:a07 0 o) (h:Hd):j4 true n F ds h = .ok (.ref h.length) (h++[o]):=by
 obtain ⟨p1,p2,_⟩:=a1a cd
 unfold j4
 rw [if_pos hn]
 unfold ajd
 rw [p1]
 simp only [wg,List.length_nil,if_true]
 rw [if_pos ⟨List.nodup_nil,fun x hx=>.inl (cd x hx),fun o ho=>by simp at ho⟩,p2,e]
 unfold ajb
 simp only [ho]
 rw [if_pos ⟨Nat.zero_le _,co,by simp⟩]
 simp [co,mz]
theorem ae9 (g:SG) (b:SS) (τ:Sd) (h:Hd):forL (fun _=>True) g b [] τ h = .nx τ h:=by rw [forL,if_pos True.intro]
def trn (r:Fl) (k:Sd→Hd→Fl):Fl:=match r with | .nx τ h=>k τ h | .ct τ h=>k τ h | .bk τ h=>.nx τ h | r=>r
theorem abb (g:SG) (b:SS) (x:D) (xs:List D) (τ τ1:Sd) (h h1:Hd) (e:g x τ h = .nx τ1 h1):forL (fun _=>True) g b (x::xs) τ h=trn (b τ1 h1) (forL (fun _=>True) g b xs):=by
 rw [forL,if_pos True.intro,e]
 dsimp only
 unfold trn
 cases b τ1 h1<;>rfl
theorem alm (τ:Sd) (h:Hd) (k:Sd→Hd→Fl):trn (.nx τ h) k=k τ h:=rfl
theorem aln (d:D) (h:Hd) (k:Sd→Hd→Fl):trn (.rt d h) k = .rt d h:=rfl
theorem a82 {g:SG} {b:SS} {α:Type} (f:α→D) (I:List α→Sd→Hd→Prop) (Rt:D→Hd→Prop):∀ (xs pre:List α) (τ:Sd) (h:Hd),
  (∀ pre' x post τ h,pre++xs=pre'++x::post→I pre' τ h→∃ τ1 h1,g (f x) τ h = .nx τ1 h1∧((∃ τ2 h2,b τ1 h1 = .nx τ2 h2∧I (pre'++[x]) τ2 h2)∨∃ d h2,b τ1 h1 = .rt d h2∧Rt d h2))→I pre τ h →
  (∃ τ' h',forL (fun _=>True) g b (xs.map f) τ h = .nx τ' h'∧I (pre++xs) τ' h')∨∃ d h',forL (fun _=>True) g b (xs.map f) τ h = .rt d h'∧Rt d h'
 | [],pre,τ,h,_,i0=>.inl ⟨τ,h,ae9 ..,by simpa using i0⟩
 | x::xs,pre,τ,h,st,i0=>by
  obtain ⟨τ1,h1,e1,q⟩:=st pre x xs τ h rfl i0
  rw [List.map_cons,abb _ _ _ _ _ _ _ _ e1]
  rcases q with ⟨τ2,h2,e2,i2⟩ | ⟨d,h2,e2,r⟩
  ·rw [e2,alm]
   have:=a82 f I Rt xs (pre++[x]) τ2 h2 (fun pre' y post τ h e=>st pre' y post τ h (by simpa using e)) i2
   simpa using this
  ·rw [e2,aln]
   exact .inr ⟨d,h2,rfl,r⟩
theorem qm {g:SG} {b:SS} {α:Type} (f:α→D) (I:List α→Sd→Hd→Prop) (xs:List α) (τ:Sd) (h:Hd)
  (st:∀ pre x post τ h,xs=pre++x::post→I pre τ h→∃ τ1 h1,g (f x) τ h = .nx τ1 h1∧∃ τ2 h2,b τ1 h1 = .nx τ2 h2∧I (pre++[x]) τ2 h2) (i0:I [] τ h) :
  ∃ τ' h',forL (fun _=>True) g b (xs.map f) τ h = .nx τ' h'∧I xs τ' h':=by
 rcases a82 f I (fun _ _=>False) xs [] τ h (fun pre' x post τ h e i=>let ⟨τ1,h1,a,b⟩:=st pre' x post τ h e i; ⟨τ1,h1,a, .inl b⟩) i0 with ⟨τ',h',a,b⟩ | ⟨_,_,_,z⟩
 ·exact ⟨τ',h',a,b⟩
 ·exact z.elim
theorem a4i {f:D→Hd→R D} {α:Type} (g:α→D) (I:List α→List D→Hd→Prop):∀ (xs pre:List α) (ys:List D) (h:Hd),
  (∀ pre' x post ys h,pre++xs=pre'++x::post→I pre' ys h→∃ y h',f (g x) h = .ok y h'∧I (pre'++[x]) (ys++[y]) h')→I pre ys h→∃ zs h',mapR (fun _=>True) f (xs.map g) h = .ok zs h'∧I (pre++xs) (ys++zs) h'
 | [],pre,ys,h,_,i0=>⟨[],h,by rw [List.map_nil,mapR,if_pos True.intro],by simpa using i0⟩
 | x::xs,pre,ys,h,st,i0=>by
  obtain ⟨y,h1,e1,i1⟩:=st pre x xs ys h rfl i0
  obtain ⟨zs,h',e2,i2⟩:=a4i g I xs (pre++[x]) (ys++[y]) h1 (fun pre' z post ys h e=>st pre' z post ys h (by simpa using e)) i1
  refine ⟨y::zs,h',?_,by simpa using i2⟩
  rw [List.map_cons,mapR,if_pos True.intro,e1]
  show (mapR _ f (xs.map g) h1).bind _=_
  rw [e2];rfl
theorem a6a {f:D→Hd→R D} {α:Type} (g F:α→D) {h:Hd}:∀ {xs:List α},(∀ x∈xs,f (g x) h = .ok (F x) h)→mapR (fun _=>True) f (xs.map g) h = .ok (xs.map F) h
 | [],_=>by rw [List.map_nil,mapR,if_pos True.intro];rfl
 | x::xs,st=>by
  rw [List.map_cons,mapR,if_pos True.intro,st x List.mem_cons_self]
  show (mapR _ f (xs.map g) h).bind _=_
  rw [a6a g F fun y hy=>st y (List.mem_cons_of_mem _ hy)];rfl
theorem a6b {f:D→Hd→R (Option D)} {α:Type} (g:α→D) (F:α→Option D) {h:Hd}:∀ {xs:List α},(∀ x∈xs,f (g x) h = .ok (F x) h)→acs (fun _=>True) f (xs.map g) h = .ok (xs.filterMap F) h
 | [],_=>by rw [List.map_nil,acs,if_pos True.intro];rfl
 | x::xs,st=>by
  rw [List.map_cons,acs,if_pos True.intro,st x List.mem_cons_self]
  show (acs _ f (xs.map g) h).bind _=_
  rw [a6b g F fun y hy=>st y (List.mem_cons_of_mem _ hy)]
  show R.ok ((F x).toList++xs.filterMap F) h=_
  cases e:F x<;>simp [List.filterMap_cons,e]
theorem aif {c:ST} {f:SS} (I:Nat→Sd→Hd→Prop) (N:Sd→Hd→Prop) (Rt:D→Hd→Prop)
  (st:∀ m τ h,I m τ h→(∃ h1,c τ h = .ok false h1∧N τ h1)∨∃ h1,c τ h = .ok true h1∧((∃ τ2 h2 m',f τ h1 = .nx τ2 h2∧m'<m∧I m' τ2 h2)∨∃ d h2,f τ h1 = .rt d h2∧Rt d h2)) :
  ∀ (m n:Nat) (τ:Sd) (h:Hd),m<n→I m τ h→(∃ τ' h',sWh c f n τ h = .nx τ' h'∧N τ' h')∨∃ d h',sWh c f n τ h = .rt d h'∧Rt d h':=by
 intro m
 induction m using Nat.strongRecOn with
 | ind m ih =>
  intro n τ h hn i0
  cases n with
  | zero=>omega
  | succ n =>
   rcases st m τ h i0 with ⟨h1,e1,q⟩ | ⟨h1,e1,q⟩
   ·exact .inl ⟨τ,h1,by rw [sWh,e1];rfl,q⟩
   ·rcases q with ⟨τ2,h2,m',e2,lt,i2⟩ | ⟨d,h2,e2,r⟩
    ·have e3:sWh c f (n+1) τ h=sWh c f n τ2 h2:=by
      rw [sWh,e1,a4f,if_pos rfl,e2]
     rw [e3]
     exact ih m' lt n τ2 h2 (by omega) i2
    ·refine .inr ⟨d,h2,?_,r⟩
     rw [sWh,e1,a4f,if_pos rfl,e2]
end MI
namespace MI
open PySem PySem.Spec L2
end MI
namespace MI
open PySem PySem.Spec L2
mutual
def toPy:D→Option PyData
 | .non=>some .none
 | .bl b=>some (.bool b)
 | .int i=>some (.int i)
 | .str x=>some (.str x)
 | .tup xs=>(aig xs).map .tuple
 | .rol xs=>(aig xs).map .list
 | .rod [] []=>some (.dict [])
 | _=>none
def aig:List D→Option (List PyData)
 | []=>some []
 | x::xs=>match toPy x,aig xs with | some p,some ps=>some (p::ps) | _,_=>none
end
mutual
def noL:D→Bool
 | .rol _=>false
 | .tup xs=>apj xs
 | _=>true
def apj:List D→Bool
 | []=>true
 | x::xs=>noL x && apj xs
end
def okR (d:D) (p:PyData):Prop:=(p.hasDict=true→noL d=true)∧p.showable=true∧p.depth≤60∧p.shown.length≤sizeLine
open Classical in
noncomputable def aqs:List D→Hd→R D
 | [x],h=>(match toPy x with | some p=>if okR x p then .ok (.str p.shown) h else .no | none=>.no)
 | _,_=>.no
theorem lz {X:Cx}:CallR X (.builtin "isinstance") (fun xs H Q=>∃ a o us T b,xs=[.ref a, .ty T]∧H a=some (.frz o (.dK us))∧PySem.W.kitOne X.K (.type "dict") (.type T)=some b∧Q (.bl b) H):=by
 intro pins s σ H xs us Q I r h
 obtain ⟨a,o,kv,T,b,rfl,ea,e,q⟩:=h
 obtain ⟨u,w',rfl,rx,rt⟩:=vals2 r
 cases rt
 obtain rfl:u=Value.ref a:=rx
 obtain ⟨_,_,_,vs,_,p⟩:=(show ObjOk X.prog X.w H s.heap a (.frz o (.dK kv)) from I.hok a _ ea)
 obtain ⟨o',es,ep,h1,h2,_⟩:=p
 exact PySem.W.kia_one PySem.W.kitx_dict I.kIn ⟨o',h1,h2.1⟩ e (fun z=>nomatch z) fun tk=>⟨.bl b,H,I.tok tk,rfl,q⟩
def uf:List D→Hd→R D
 | [.rod ks xs, .ty T],h=>(match aau "dict" T with | some b=>.ok (.bl b) h | none=>.no)
 | ds,h=>adp ds h
theorem yg {K:PySem.W.Frag}:a9e K uf (fun xs H Q=>(∃ x T t b,xs=[x, .ty T]∧TyOf K H x t∧PySem.W.kitOne K t (.type T)=some b∧Q (.bl b) H)∨∃ a o us T b,xs=[.ref a, .ty T]∧H a=some (.frz o (.dK us))∧PySem.W.kitOne K (.type "dict") (.type T)=some b∧Q (.bl b) H):=by
 intro E ι H h xs ds Q r hr o
 unfold uf at o
 split at o
 ·split at o
  ·rename_i b hb
   cases r with
   | cons r1 rs =>
    cases rs with
    | cons r2 rs2 =>
     cases rs2
     cases r2
     cases r1 with
     | rod hp ek rr=>exact .inr ⟨_,_,_,_,b,rfl,hp,aav hb,ans o (.bl _) hr⟩
  ·exact o.elim
 ·exact .inl (ahu E ι H h xs _ Q r hr o)
end MI
namespace TPM
open PySem PySem.Spec PySem.W L2 HT MI PyProof.Rows
end TPM
namespace MI
open PySem PySem.Spec L2 TPM
end MI
namespace SRC
open PySem PySem.Spec L2 MI
noncomputable def sy:SE :=
 (s2 jm (s2 a0s (sC (.int 2)) (sA anc (ak (sV 0) dg))) (sA ahs (ak (s2 gLt (sV 0) (sC (.int 0))) dg)))
noncomputable def ug:SS :=
 (du (j7 1 (sZ (jo (sIt (sZ (a2d (sV 0) oN (oS (sC (.int 63)))))) t1 sy [])))
 (uc (sA a71 (ak (sV 1) (ak (sC (.int 0)) (ak (sC (.int 0)) (ak (sC (.int 0)) (ak (s2 a6p (sA al7 (ak (sV 1) dg)) (sC (.int 2147483647))) dg))))))))
noncomputable def a0f:SS :=
 (du (a66 a1t (sV 0) (sC (.int 3)) (sC (.int 1)))
 (du (sIf (a8v (sT (s2 hEq (s2 gIx (sV 0) (sC (.int 2))) (sC (.int 0)))) (sT (s2 gLt (s2 gIx (sV 0) (sC (.int 1))) (sA zb (ak (s2 gIx (sV 0) (sC (.int 0))) dg)))))
 (du (j7 2 (s2 gIx (s2 gIx (sV 0) (sC (.int 0))) (s2 gIx (sV 0) (sC (.int 1)))))
 (du (a66 a1t (sV 0) (sC (.int 1)) (sC (.int 1)))
 (sIf (sT (s2 gGe (sV 2) (s2 a8x (sC (.int 10)) (sC (.int 18)))))
 (ahk (sV 2) (sV 0) (sC (.int 2)))
 (ahk (s2 a6p (s2 jm (s2 a0s (s2 gIx (sV 0) (sC (.int 4))) (sC (.int 31))) (sV 2)) (sC (.int 2147483647))) (sV 0) (sC (.int 4))))))
 sNx)
 (du (sIf (sT (s2 gGt (s2 gIx (sV 0) (sC (.int 2))) (sC (.int 0))))
 (du (j7 3 (s2 a6p (s2 gIx (sV 0) (sC (.int 2))) (sV 1)))
 (du (a66 acu (sV 0) (sC (.int 2)) (sV 1))
 (uc (sV 3))))
 sNx)
 (du (j7 3 (s2 a6p (s2 a8x (s2 jm (s2 jm (s2 gIx (sV 0) (sC (.int 4))) (sC (.int 1))) (s2 a0s (s2 gIx (sV 0) (sC (.int 3))) (sC (.int 7919)))) (sC (.int 3))) (sC (.int 2147483647))))
 (uc (s2 a6p (s2 acu (s2 a6p (s2 a8x (s2 jm (s2 a0s (sV 3) (sC (.int 48271))) (s2 gIx (sV 0) (sC (.int 3)))) (sC (.int 2))) (sC (.int 2147483629))) (sC (.int 64))) (sV 1)))))))
noncomputable def u5:SS :=
 (du (j7 0 (sC (.str " !\"#$&'()*+,-./0123456789:;<=>?@ABCDEFGHIJKLMNOPQRSTUVWXYZ[\\]^_`")))
 (uc (s2 jm (sV 0) (sC (.str "abcdefghijklmnopqrstuvwxyz{|}~\n")))))
noncomputable def m9 (aa:SF) (bc:SF):SS :=
 (du (j7 4 (sA (j4 false 2 aa) (ak (sV 0) (ak (sA zb (ak (sV 1) dg)) dg))))
 (du (acr 2 a1t (s2 gIx (sV 1) (sV 4)))
 (j7 1 (s2 jm (a2d (sV 1) oN (oS (sV 4))) (a2d (sV 1) (oS (s2 jm (sV 4) (sC (.int 1)))) oN)))))
noncomputable def xr (aa:SF) (bc:SF):SS :=
 (du (j7 1 (sA (j4 false 0 bc) dg))
 (du (j7 2 (sC (.str "")))
 (du (a5q (sRg a0r (ak (s2 jm (sC (.int 1)) (sA (j4 false 2 aa) (ak (sV 0) (ak (sC (.int 6)) dg)))) dg)) (kN 3) (m9 aa bc))
 (uc (sV 2)))))
noncomputable def nu (aa:SF):SS :=
 (p7 (sML a3u (sV 3) (ak (aai (sT (s2 gLt (sA (j4 false 2 aa) (ak (sV 0) (ak (sC (.int 5)) dg))) (sC (.int 2)))) (sA (j4 false 2 aa) (ak (sV 0) (ak (sC (.int 6)) dg))) (s1 a8y (sC (.int 1)))) dg)))
noncomputable def o6 (aa:SF):SE :=
 (sA (j4 false 2 aa) (ak (sV 1) (ak (sV 2) dg)))
noncomputable def yq (aa:SF):SE :=
 (aai (a8v (sT (s2 gLt (s2 gIx (sV 2) (sV 0)) (sC (.int 0)))) (sT (s2 gLe (sV 0) (sV 3)))) (s2 a8g (sV 1) (sC (.int 1))) (sV 0))
noncomputable def uo (aa:SF):SE :=
 (sV 1)
noncomputable def o7 (aa:SF):SS :=
 (du (j7 7 (sZ (jo (sIt (sV 1)) t1 (o6 aa) [0,2])))
 (du (sIf (sT (s2 gGt (sV 5) (sC (.int 0))))
 (j7 7 (sZ (jo (sIt (sV 7)) t1 (yq aa) [2,3,4])))
 sNx)
 (du (sIf (a8v (sT (s2 hEq (sV 5) (sC (.int 1)))) (sT (s2 hEq (sV 4) (s2 a8g (sV 2) (sC (.int 1))))))
 (j7 7 (sZ (jo (sIt (sV 7)) t1 (uo aa) [4])))
 sNx)
 (p7 (sML a3u (sV 6) (ak (sV 7) dg))))))
noncomputable def v9 (aa:SF):SS :=
 (du (j7 3 (sA a71 (ak (s1 a8y (sC (.int 1))) dg)))
 (du (a5q (sRg a3q (ak (sC (.int 1)) (ak (sV 2) dg))) (kN 4) (nu aa))
 (du (j7 5 (sA (j4 false 2 aa) (ak (sV 0) (ak (sC (.int 3)) dg))))
 (du (j7 6 (sA a71 dg))
 (du (a5q (sRg a0r (ak (sV 2) dg)) (kN 4) (o7 aa))
 (uc (sA a0v (ak (sV 6) (ak (sV 3) dg)))))))))
noncomputable def o8 (aa:SF) (d7:SF) (bw:SF):SS :=
 (sIf (sT (s2 (gIn true) (sV 8) (sV 6)))
 (p7 (sML a3u (sV 6) (ak (sV 8) dg)))
 sNx)
noncomputable def uq (aa:SF) (d7:SF) (bw:SF):ST :=
 (sT (s2 gLt (sV 7) (sA zb (ak (sV 6) dg))))
noncomputable def o9 (aa:SF) (d7:SF) (bw:SF):SS :=
 (du (a5q (sIt (s2 gIx (sV 4) (s2 gIx (sV 6) (sV 7)))) (kN 8) (o8 aa d7 bw))
 (acr 7 a1t (sC (.int 1))))
noncomputable def ur (aa:SF) (d7:SF) (bw:SF):SE :=
 (sML a1v (sV 1) (ak (sV 0) dg))
noncomputable def oh (aa:SF) (d7:SF) (bw:SF):SE :=
 (sA qy (ak (sZ (jo (sIt (s2 gIx (sV 1) (sV 0))) t1 (ur aa d7 bw) [2])) dg))
noncomputable def ou (aa:SF) (d7:SF) (bw:SF):SE :=
 (s2 gIx (sV 1) (sV 0))
noncomputable def vf (aa:SF) (d7:SF) (bw:SF):SS :=
 (du (j7 2 (sA (j4 false 1 bw) (ak (sV 0) dg)))
 (du (j7 3 (s2 jm (sC (.int 2)) (sA (j4 false 2 aa) (ak (sV 0) (ak (sC (.int 7)) dg)))))
 (du (sIf (sT (s2 hEq (sA (j4 false 2 aa) (ak (sV 0) (ak (sC (.int 6)) dg))) (sC (.int 0))))
 (j7 3 (s2 jm (sC (.int 1)) (sA (j4 false 2 aa) (ak (sV 0) (ak (sV 1) dg)))))
 sNx)
 (du (a8w (sA (j4 false 3 d7) (ak (sV 0) (ak (sV 2) (ak (sA a5u (ak (sV 3) (ak (sV 1) dg))) dg)))) (a72 2 (mq (kN 4) (mq (kN 5) a7l))))
 (du (j7 6 (sA a71 (ak (sC (.int 0)) dg)))
 (du (j7 7 (sC (.int 0)))
 (du (sWh (uq aa d7 bw) (o9 aa d7 bw) 100000)
 (du (j7 6 (sA zg (ak (sV 6) dg)))
 (du (j7 9 (sA qy (ak (sZ (jo (sIt (sV 6)) t1 (oh aa d7 bw) [4,6])) dg)))
 (uc (sA a0v (ak (sV 2) (ak (sV 9) (ak (sA qy (ak (sZ (jo (sIt (sV 6)) t1 (ou aa d7 bw) [5])) dg)) dg))))))))))))))
noncomputable def vg (aa:SF):SE :=
 (s2 gIx (sV 2) (sA (j4 false 2 aa) (ak (sV 1) (ak (sA zb (ak (sV 2) dg)) dg))))
noncomputable def yh (aa:SF):SS :=
 (du (j7 2 (sA (j4 false 2 aa) (ak (sV 0) (ak (sC (.int 25)) dg))))
 (du (sIf (sT (s2 hEq (sA (j4 false 2 aa) (ak (sV 0) (ak (sC (.int 6)) dg))) (sC (.int 0))))
 (j7 2 (sA (j4 false 2 aa) (ak (sV 0) (ak (sC (.int 241)) dg))))
 sNx)
 (uc (sMS aaz (sC (.str "")) (ak (sZ (jo (sRg a0r (ak (sV 2) dg)) t1 (vg aa) [0,1])) dg)))))
noncomputable def p6:SS :=
 (du (j7 3 (s2 gIx (s2 gIx (s2 gIx (sV 0) (sC (.int 1))) (sV 3)) (sMS aax (s2 gIx (sV 0) (sC (.int 0))) (ak (s2 gIx (sV 1) (sV 5)) dg))))
 (sIf (sT (s2 gGe (s2 gIx (s2 gIx (sV 0) (sC (.int 2))) (sV 3)) (sC (.int 0))))
 (j7 4 (sA a0v (ak (s2 gIx (s2 gIx (sV 0) (sC (.int 2))) (sV 3)) (ak (s2 jm (sV 5) (sC (.int 1))) dg))))
 sNx))
noncomputable def vh:SS :=
 (du (j7 3 (sC (.int 0)))
 (du (j7 4 (sC .non))
 (du (a5q (sRg a3q (ak (sV 2) (ak (sA zb (ak (sV 1) dg)) dg))) (kN 5) p6)
 (uc (sV 4)))))
noncomputable def qg:SS :=
 (sIf (sOr (a3m (a3l (sA uf (ak (sV 2) (ak (sC (.ty "int")) dg))))) (a3l (sA uf (ak (sV 2) (ak (sC (.ty "bool")) dg)))))
 (uc (sC (.bl false)))
 sNx)
noncomputable def qp:SS :=
 (du (sIf (sOr (a3m (a3l (sA uf (ak (sV 0) (ak (sC (.ty "tuple")) dg))))) (sT (s2 hNe (sA zb (ak (sV 0) dg)) (sV 1))))
 (uc (sC (.bl false)))
 sNx)
 (du (a5q (sIt (sV 0)) (kN 2) qg)
 (uc (sC (.bl true)))))
end SRC
namespace L2
open PySem PySem.Spec PySem.W PyProof.Rows
structure Air (stack:List Env) (H:Hp) (h0 B:Heap) (a C:Addr) (t:Value) (h:Heap):Prop where
 fly:Heap.FlyingW B stack a (.ref C) t h
 bk:∀ b o,h.get? b=some o→b ∉ frs stack→(H b≠none∨∃ o0,h0.get? b=some o0)→B.get? b=some o
def CXE (P:Program) (w:World):CXT:=fun outer H s E e s' =>
 ∃ a C t B H',e = .ref a∧s'.os=s.os∧AllBare s'.gens∧Un (frs outer) [] H H' s.heap s'.heap∧HOk P w H' s'.heap∧Air outer H' s.heap B a C t s'.heap∧E (.ref C) none H'
section
variable {P:Program} {w:World} {H H':Hp} {h h':Heap}
theorem HOk.is (x:HOk P w H h) {a:Addr} {o:HO} (e:H a=some o):∃ ob,h.get? a=some ob:=by
 have:=x a o e
 cases o with
 | lst xs=>obtain ⟨_,_,_,_,e⟩:=this;exact ⟨_,e⟩
 | tup xs=>obtain ⟨_,_,_,ob,e,_⟩:=this;exact ⟨_,e⟩
 | dK kvs=>obtain ⟨_,_,_,_,o,_,_,e,_⟩:=this;exact ⟨_,e⟩
 | dT kvs=>obtain ⟨_,_,_,_,o,_,_,e,_⟩:=this;exact ⟨_,e⟩
 | set S n=>obtain ⟨o,_,_,_,e,_⟩:=this;exact ⟨_,e⟩
 | ins C dx fs=>obtain ⟨_,_,_,e,_⟩:=this;exact ⟨_,e⟩
 | own y=>exact this
 | xd fs=>obtain ⟨_,⟨_,_,_,e,_⟩,_⟩:=this;exact ⟨_,e⟩
 | rng lo hi=>obtain ⟨_,_,_,e⟩:=this;exact ⟨_,e⟩
 | frz ob u=>exact ⟨_,this.1⟩
 | tbl ps=>exact ⟨_,this⟩
 | met f y=>exact ⟨_,this⟩
 | ext φ=>exact this.2.1
theorem HOk.track (x:HOk P w H h) (k:∀ b u,H b≠none→h.get? b=some u→h'.get? b=some u):HOk P w H h':=fun a o e =>
 (x a o e).stay (fun b u hb q=>k b u (by
  rcases hb with rfl | hb
  ·rw [e];simp
  ·rw [hb];simp) q) (fun _ q=>q) fun _ _ q=>q
end
section
variable {P:Program} {w:World} {K:PySem.W.Frag} {mg:Str→Option Value} {base:Heap} {N:List Str} {qual:Str} {scope:Scope} {f:Addr} {cd:Value} {A:Around} {outer:List Env} {s0:Shared} {H0:Hp} {E:XK} {pins:List (Addr × Obj)} {σ:St} {H:Hp} {s:Shared}
abbrev cxE (P:Program) (w:World) (K:PySem.W.Frag) (mg:Str→Option Value) (base:Heap) (N:List Str) (qual:Str) (scope:Scope) (f:Addr) (cd:Value) (A:Around) (outer:List Env) (s:Shared) (H:Hp) (E:XK):Cx:=a0j (CXE P w) P w K mg base N qual scope f cd A outer s H E
theorem a83 {B:Heap} {a C:Addr} {t:Value} {h1 h2:Heap} (I:Inv (cxE P w K mg base N qual scope f cd A outer s0 H0 E) pins σ H { s with heap:=h1 }) (hB:∀ b o,h1.get? b=some o→b ∉ frs (envOfC qual scope s0.heap.objs.size f cd::outer)→(H b≠none∨∃ o0,s0.heap.get? b=some o0)→B.get? b=some o)
  (sl:∀ b o,h1.get? b=some o→b∈frs outer→∃ sl,h2.get? b=some { o with slots:=sl }) (fly:Heap.FlyingW B outer a (.ref C) t h2) (e:E (.ref C) none H):CXE P w outer H0 s0 E (.ref a) { s with heap:=h2 }:=by
 have lo:∀ b,b∈frs (envOfC qual scope s0.heap.objs.size f cd::outer)→b=s0.heap.objs.size∨b∈frs outer:=fun b hb=>by
  unfold frs at hb ⊢
  rw [List.filterMap_cons] at hb
  rcases List.mem_cons.mp hb with rfl | hb
  ·exact .inl rfl
  ·exact .inr hb
 have stk:∀ b,b∈frs (envOfC qual scope s0.heap.objs.size f cd::outer)→H b=none:=fun b hb=>I.stkFree b hb
 have old:∀ b o,s0.heap.get? b=some o→b ∉ frs outer→b ∉ frs (envOfC qual scope s0.heap.objs.size f cd::outer):=fun b o q n z=>by
  rcases lo b z with rfl | z
  ·exact absurd (Heap.lt_size q) (Nat.lt_irrefl _)
  ·exact n z
 have tr:∀ b u,H b≠none→h1.get? b=some u→h2.get? b=some u:=fun b u hn q=>fly.1 _ _ (hB b u q (fun z=>hn (stk b z)) (.inl hn))
 have ba:=I.base
 refine ⟨a,C,t,B,H,rfl,I.os,I.bare,⟨?_,?_,ba.free,?_,ba.tups,ba.frzs,ba.tbls⟩,I.hok.track tr,⟨fly,?_⟩,e⟩
 ·intro b o q n hf hx
  exact fly.1 _ _ (hB b o (ba.keep b o q n hf hx) (old b o q hf) (.inr ⟨o,q⟩))
 ·intro b o q n hf hx
  obtain ⟨s1,q1⟩:=ba.slot b o q n hf hx
  obtain ⟨s2,q2⟩:=sl b _ q1 hf
  exact ⟨s2,q2⟩
 ·intro b o q hx
  obtain ⟨o1,q1⟩:=ba.there b o q hx
  by_cases hf:b∈frs outer
  ·obtain ⟨s2,q2⟩:=sl b _ q1 hf
   exact ⟨_,q2⟩
  ·exact ⟨_,fly.1 _ _ (hB b o1 q1 (old b o q hf) (.inr ⟨o,q⟩))⟩
 ·intro b o q nf c
  have hh:b ∉ frs (envOfC qual scope s0.heap.objs.size f cd::outer):=fun z=>by
   rcases c with c | ⟨o0,c⟩
   ·exact c (stk b z)
   ·exact old b o0 c nf z
  obtain ⟨o1,q1⟩:∃ o1,h1.get? b=some o1:=by
   rcases c with c | ⟨o0,c⟩
   ·cases e1:H b with
    | none=>exact absurd e1 c
    | some u=>exact I.hok.is e1
   ·exact ba.there b o0 c (by intro z;cases z)
  have q2:=hB b o1 q1 hh c
  have q3:=fly.1 _ _ q2
  rw [q3] at q
  cases q
  exact q2
theorem a0g {X:Cx} {pins:List (Addr × Obj)} {σ:St} {H:Hp} {s:Shared} (I:Inv X pins σ H s) {b:Addr} {o:Obj} (hb:b∈frs X.stack) (q:s.heap.get? b=some o):∀ vs,o.data≠.fields vs:=by
 obtain ⟨_,o1,q1,d⟩:=I.stack.mem hb
 rw [q] at q1
 cases q1
 exact d
theorem aop {E':XK} (hE:∀ C H,E' (.ref C) none H→E (.ref C) none H):a1g (CXE P w) (cxE P w K mg base N qual scope f cd A outer s0 H0 E) E':=by
 rintro pins σ H s e s' I ⟨a,C,t,B,H',rfl,os,bare,un,hok,air,e⟩
 have I2:Inv (cxE P w K mg base N qual scope f cd A outer s0 H0 E) pins σ H' s':=I.call' os un hok bare (by intro b z;cases z)
 have hin:∀ b,b∈frs outer→b∈frs (envOfC qual scope s0.heap.objs.size f cd::outer):=fun b hb=>by
  unfold frs at hb ⊢
  rw [List.filterMap_cons]
  exact List.mem_cons_of_mem _ hb
 refine wpAny_leaves_onW (base:=B) I.ok.frames (L:=s0.heap.objs.size) rfl air.fly fun h2 fl up=>?_
 refine a83 (h1:=s'.heap) I2 (fun b o q nf c=>air.bk b o q nf ?_) (fun b o q hb=>up b o q (a0g I2 (hin b hb) q)) fl (hE _ _ e)
 rcases c with c | ⟨o0,c⟩
 ·exact .inl c
 ·exact .inr (I.base.there b o0 c (by intro z;cases z))
theorem aoq {h':Heap} {a C:Addr} {args:List Value} (I:Inv (cxE P w K mg base N qual scope f cd A outer s0 H0 E) pins σ H s) (mk:Heap.MadeExcOf s.heap h' a (.ref C) args) (e:E (.ref C) none H):(cxE P w K mg base N qual scope f cd A outer s0 H0 E).xe (.ref a) { s with heap:=h' }:=by
 have hin:∀ b,b∈frs outer→b∈frs (envOfC qual scope s0.heap.objs.size f cd::outer):=fun b hb=>by
  unfold frs at hb ⊢
  rw [List.filterMap_cons]
  exact List.mem_cons_of_mem _ hb
 have st:=I.stack
 refine wpAny_leaves_madeW (base:=hideAll s.heap (frs (envOfC qual scope s0.heap.objs.size f cd::outer))) (h:=s.heap) I.ok.frames (L:=s0.heap.objs.size) rfl (fun b o q=>of_hideAll _ q) (funFrames_hide st fun env he b hb=>List.mem_filterMap.mpr ⟨env,he,hb⟩) mk fun h2 t fl tu bt up=>?_
 exact a83 (h1:=s.heap) I (fun b o q nf _=>hideAll_get _ q nf) (fun b o q hb=>up b o (mk.keeps b o q) (a0g I (hin b hb) q)) fl e
end
structure XCls (K:PySem.W.Frag) (C:Addr):Prop where
 obj:∃ (nm q:Str) (N:Addr) (bs bm:List Value) (hdct:Bool) (sn:List Str) (sub:List Value) (ab:Bool) (col:Option Bool) (dd:Option Addr) (k0 k1 k2 k3 k5:Option Value),
  K.lookup C=some (excClassObj nm q C N bs bm hdct sn sub ab col dd k0 k1 k2 k3 k5 "ValueError.__new__")∧nsOkIn K N=true∧nsIn K N "__init__" = some none∧tailIn K [.type "ValueError", .type "Exception", .type "BaseException", .type "object"] bm=true
def alo (t:TA) (Ex:Hp→Prop):TS:=fun _ σ H=>t σ H fun vs H1=>vs.length≤sizeLine∧Ex H1
section
variable {X:Cx} {C:Addr} {x:Str} {np cpos pos:Pos} {e:Expr} {es:List Expr} {t:TA} {Ex:Hp→Prop}
theorem aea (hC:XCls X.K C) (hg:Gl X x) (hm:X.mg x=some (.ref C)) (hc:X.calm=true) (ha:PA X (e::es) t)
  (lk:∀ (pins:List (Addr × Obj)) (σ:St) (H:Hp) (s:Shared) (h':Heap) (a:Addr) (args:List Value),Inv X pins σ H s→Heap.MadeExcOf s.heap h' a (.ref C) args→Ex H→X.xe (.ref a) { s with heap:=h' })
  (hdb:(x == ("__debug__" : Str))=false:=by decide) (he:starEach (e::es) X.env=(false,eval e X.env)::starEach es X.env:=by rfl) (hpl:(backTo cpos (starEach es X.env)).any (·.1)=false:=by rfl) :
  PS X (.Raise (some (.Call (.Name x np) (e::es) [] cpos)) none pos) (alo t Ex):=by
 intro pins s σ H D I h
 obtain ⟨nm,q,N,bs,bm,hdct,sn,sub,ab,col,dd,k0,k1,k2,k3,k5,lo,ok,ni,ti⟩:=hC.obj
 refine wpAny_Raise_call_subT (C:=C) (nm:=nm) (q:=q) (N:=N) (bs:=bs) (bm:=bm) (hdct:=hdct) (sn:=sn) (sub:=sub) (ab:=ab) (col:=col) (dd:=dd) (k0:=k0) (k1:=k1) (k2:=k2) (k3:=k3) (k5:=k5)
  PySem.F.excBase_ValueError (mN:=X.base.nsMap N) ((tail_of_in I.kIn ti).hasType PySem.F.excBase_ValueError.hasBase) (I.ok.hd hc) (by rw [he];show (false || (backTo cpos (starEach es X.env)).any (·.1))=false;rw [hpl];rfl) (nsMap_none_of_in I.ok.mod.kin ok ni) (a08 I hg hm ⟨rfl,?_⟩ hdb)
 have h2:=ha cpos pins s σ H _ I h
 rw [he] at h2 ⊢
 refine Calls.evalArgs_plain (thn h2 fun us s1 ⟨vs,H1,I1,r,z,ex⟩=>?_)
 exact ⟨rfl,by rw [← r.length];exact z,I1.kIn _ _ lo, .keeps (.of_isNs (isNs_of_in I1.ok.mod.kin ok)) I1.bk,tail_of_in I1.kIn ti,fun h' a mk=>lk pins σ H1 s1 h' a us I1 mk ex⟩
end
end L2
namespace L2
open PySem PySem.Spec PySem.W PyProof.Rows Builtin Builtin.ObjectAttr Builtin.Getset_descriptor
section
variable {prog:Program} {w:World} {A:Around} {E:Value→Shared→Prop} {s:Shared} {K:Frag} {x D:Addr} {ox:Obj} {odo:Option Obj}
structure XKit (K:Frag) (D:Addr):Prop where
 ga:findIn K (.ref D) "__getattribute__" = some (some (.builtin "BaseException.__getattribute__"))
 gn:findIn K (.ref D) "__getattr__" = some none
 cl:(clsIn K D).isSome=true
 ca:findIn K (.ref D) "__class__" = some (some (.builtin "object.__class__"))
 sp:specialIn K (.builtin "object.__class__") "__get__" = some (some (.builtin "getset_descriptor.__get__"))
 tk:takesIn K (.builtin "object.__class__")=some true
 ob:mroIn K D (.type "object")=some true
 be:subIn K (.ref D) (.type "BaseException")=some true
 kc:kitCls K (.ref D) (.ref D)=some true
abbrev ExAt (x D:Addr) (h:Heap):Prop:=∃ o,h.get? x=some o∧o.cls = .ref D
theorem ExAt.ty {M:Model} {h:Heap} (I:ExAt x D h):Looks M h (typeOf (.ref x)) (.ref D):=by
 obtain ⟨o,q,c⟩:=I
 exact c ▸ (Looks.ld q).andThen .now
theorem aih {R:Result→Shared→Prop} {tp:Value} (Z:XKit K D) (X:K.In s.heap) (I:ExAt x D s.heap) (h:R (.ok (.ret (.ref D))) s):codeAny (model prog w) A (.call (.builtin "getset_descriptor.__get__") ⟨[.builtin "object.__class__", .ref x,tp],[]⟩) R s:=by
 obtain ⟨hh,g,d,t,os⟩:=s
 have T0:=ExAt.ty (M:=model prog w) I
 have T1:=looks_mroIn (M:=model prog w) X Z.ob
 refine codeAny_call_builtin KF.slot_gs.plain KF.entry_gs (KF.slot_gs.check _ _ _ _ _ _ _ _ KF.type_class (KF.args_gs _ _ _) ?_);unfold Builtin.«getset_descriptor.__get__» descrGet;rw [dga_obj]
 refine wpAny_bind (wpAny_pure ?_);unfold descrGetter descrCheckInstance descrNameAndClass isInstance;simp only [KF.owner_class]
 repeat lk
 refine ⟨Code.quiet_builtin _ (by decide +kernel),codeAny_builtin KF.entry_class ?_⟩;unfold Builtin.«object.__class__» shownTypeOf
 repeat lk
 exact h
theorem aeb {M:Model} {h:Heap} (Z:XKit K D) (X:K.In h):Looks M h (Builtin.ObjectAttr.find (.ref x) (.ref D) "__class__") (.bind (.builtin "getset_descriptor.__get__") (.builtin "object.__class__")):=by
 refine (looks_findIn X Z.ca).andThen (Looks.andThen (a:=some (.builtin "getset_descriptor.__get__")) (looks_specialIn X Z.sp) (Looks.andThen (a:=some (.builtin "getset_descriptor.__get__", .builtin "object.__class__")) ?_ (Looks.tag .now)))
 exact (looks_takesIn X Z.tk).andThen .now
theorem abd {Q:Option Value→Shared→Prop} (Z:XKit K D) (X:K.In s.heap) (I:ExAt x D s.heap) (h:Q (some (.ref D)) { s with toks:=s.toks+1 }):wpAny (model prog w) A (getAttr? (.ref x) "__class__") Q E s:=by
 obtain ⟨hh,g,d,t,os⟩:=s
 have T0:=ExAt.ty (M:=model prog w) I
 have T1:=looks_findIn (M:=model prog w) X Z.ga
 have T2:=looks_findIn (M:=model prog w) X Z.gn
 have T3:=aeb (M:=model prog w) (x:=x) Z X
 have T4:Looks (model prog w) hh (isInstance (.ref x) (.type "BaseException")) true:=T0.andThen (looks_subIn X Z.be)
 have f3:=PySem.F.attrBase_ValueError.ga.bind (.ref x)
 have nb:(Value.builtin "BaseException.__getattribute__" == Value.builtin "object.__getattribute__")=false:=by decide +kernel
 have nh:(onTheHeap (Value.ref D) && Value.builtin "BaseException.__getattribute__" == Value.builtin "object.__getattribute__")=false:=by rw [nb];rfl
 unfold getAttr? getAttrBy? getAttrBy;refine wpAny_bind (wpAny_mkText (wpAny_bind (wpAny_attempt (wpAny_holding (wpAny_bind (T0.at (wpAny_bind (T1.at ?_))))))));dsimp only
 rw [nh,if_neg Bool.false_ne_true]
 unfold getAttrByItsOwn
 show wpAny _ _ (typeLookup (.ref D) "__getattr__">>=fun before=>_) _ _ _
 refine wpAny_bind (T2.at (wpAny_bind (wpAny_attempt (wpAny_holding ?_))))
 show wpAny _ _ (boundAndCalled _ _ _) _ _ _
 unfold boundAndCalled
 rw [f3]
 refine wpAny_bind (wpAny_pure (wpAny_call (codeAny_call_builtin PySem.F.attrBase_ValueError.ga.plain PySem.F.entry_bexc_ga ?_)))
 have k1:builtinKind "BaseException.__getattribute__" = some .slot:=by decide +kernel
 have k2:splitId "BaseException.__getattribute__" = some ("BaseException", "__getattribute__"):=by decide +kernel
 have k3:=PySem.F.args_bexc_ga (.ref x) (.str "__class__" t)
 simp only [checkBuiltinCall,k1,k2]
 show wpAny _ _ (isInstance (.ref x) (.type "BaseException")>>=fun b=>_) _ _ _
 refine wpAny_bind (T4.at ?_)
 rw [if_neg (by decide)]
 refine wpAny_mono (Q:=fun _ s'=>s'=⟨hh,g,d,t+1,os⟩) (E:=fun _ _=>False) ?_ (fun u s' e=>?_) (fun _ _ z=>z.elim)
 ·repeat (any_goals (first | assumption | rfl | wp_step))
 ·subst e
  unfold Builtin.«object.__getattribute__»
  repeat (first | with_reducible refine T0.at ?_ | with_reducible refine T3.at ?_ | wp_step)
  exact aih (s:=⟨hh,g,d,t+1,os⟩) Z X I (wpAny_pure (handed_on rfl (wpAny_pure h)))
theorem XKit.at (Z:XKit K D):∃ c o cd sl,K.lookup D=some ⟨c,o, .cls cd,sl⟩:=by
 have:=Z.cl
 unfold clsIn at this
 split at this
 ·exact ⟨_,_,_,_, ‹_›⟩
 ·cases this
theorem XKit.no (Z:XKit K D) {h:Heap} {tp:Addr} {dd:Option Addr} {its:List Value} {n:Nat} {sl:Array (Option Value)} (X:K.In h) (q:h.get? tp=some ⟨.type "tuple",dd, .seq its.toArray n,sl⟩):(Value.ref D == .ref tp)=false :=
 beq_eq_false_iff_ne.mpr fun e=>by
  obtain ⟨_,_,_,_,lo⟩:=Z.at
  rw [Value.ref.inj e] at lo
  have:=X _ _ lo
  rw [q] at this
  cases this
theorem a84 (Z:XKit K D):KitX K (.ref x) (.ref D) (ExAt x D) :=
 ⟨fun _ _ _ I=>ExAt.ty I,fun _ _ X _=>(kit_cls X Z.kc).2.1,fun _ _ _ _ _ _ X q=>Z.no X q,fun X I q=>abd Z X I q⟩
end
end L2
namespace L2
open PySem PySem.Spec PySem.W PyProof.Rows
section
variable {X:Cx} {pins:List (Addr × Obj)} {σ:St} {H H1 H':Hp} {s s1 s':Shared}
theorem a4j {M:Model} {A:Around} {E:Value→Shared→Prop} {i:Nat} {n:Str} {pos:Pos} {Q:Unit→Shared→Prop} (I:Inv X pins σ H s) (hN:X.N.Nodup) (hi:X.N[i]? = some n) (hk:X.env.scope.names.lookup n=some .local)
  (h:∀ s',Inv X pins (σ.set i none) H s'→Q () s'):wpAny M A (do bindName X.env n .none;unbindBehindTheSuite X.env n pos) Q E s:=by
 obtain ⟨m,hn,hl⟩:=id I.loc
 have hcls:(X.env.scope.kind == .class || (X.env.scope.kind == .module && X.env.locals != X.env.globals))=false:=by rw [I.ok.kind];rfl
 have cne:=I.cne
 obtain ⟨oL,_,_,hoL,_⟩:=id hn
 refine wpAny_nameGoes_keeps hk hn hcls fun h' v hn' hs=>h _ ?_
 have far:∀ b o,X.s₀.heap.get? b=some o→b≠X.env.locals:=fun b o e=>Nat.ne_of_lt (Nat.lt_of_lt_of_le (Heap.lt_size e) I.ok.above)
 refine ⟨I.ok,I.os,I.bare,⟨fun b o e n hb hx=>(hs.2 b (far b o e)).trans (I.base.keep b o e n hb hx),fun b o e n hb hx=>?_,I.base.free,fun b o e hx=>?_,I.base.tups,I.base.frzs,I.base.tbls⟩,⟨_,hn',fun j y v' e1 e2 e3=>?_⟩,fun y c e=>?_,I.free,I.freeC,fun p hp=>?_,I.hok.track fun b u hb q=>?_,by simpa using I.len⟩
 ·obtain ⟨sl,q⟩:=I.base.slot b o e n hb hx
  exact ⟨sl,(hs.2 b (far b o e)).trans q⟩
 ·obtain ⟨o1,q⟩:=I.base.there b o e hx
  exact ⟨o1,(hs.2 b (far b o e)).trans q⟩
 ·have ji:j≠i:=fun z=>by
   subst z
   rw [List.getElem?_set] at e2
   simp at e2
  rw [List.getElem?_set_ne (Ne.symm ji)] at e2
  obtain ⟨u',r',q⟩:=hl j y v' e1 e2 e3
  refine ⟨u',r',?_⟩
  rcases q with ⟨k,e⟩ | ⟨k,c,e,z⟩
  ·refine .inl ⟨k,?_⟩
   have:y≠n:=fun e=>ji (a3d hN e1 (e ▸ hi))
   simp [this,e]
  ·exact .inr ⟨k,c,e,z.sameBut hs (cne y c e)⟩
 ·obtain ⟨w',z⟩:=I.cell y c e
  exact ⟨w',z.sameBut hs (cne y c e)⟩
 ·obtain ⟨e,n,ne,nf,d⟩:=I.pin p hp
  exact ⟨(hs.2 p.1 ne).trans e,n,ne,nf,d⟩
 ·refine (hs.2 b fun z=>?_).trans q
  subst z
  exact hb I.free
theorem agb {B h5:Heap} {a C:Addr} {t:Value} (I1:Inv X pins σ H1 s1) (os:s'.os=s1.os) (bare:AllBare s'.gens) (un:Un (frs X.stack) [] H1 H' s1.heap s'.heap) (hok:HOk X.prog X.w H' s'.heap) (air:Air X.stack H' s1.heap B a C t s'.heap)
  (st:B.StaysIn h5) (up:s'.heap.UpToSlots h5) (tk:Nat):Inv X pins σ H' { s' with heap:=h5,toks:=tk }:=by
 have I2:Inv X pins σ H' s':=I1.call' os un hok bare (by intro b z;cases z)
 refine I1.call' (s':={ s' with heap:=h5,toks:=tk }) os ⟨fun b o q n hf hx=>?_,fun b o q n hf hx=>?_,un.free,fun b o q hx=>?_,un.tups,un.frzs,un.tbls⟩ (hok.track fun b u hn q=>?_) bare (by intro b z;cases z)
 ·exact st _ _ (air.bk b o (un.keep b o q n hf hx) hf (.inr ⟨o,q⟩))
 ·obtain ⟨s2,q2⟩:=un.slot b o q n hf hx
  obtain ⟨s3,q3⟩:=up b _ q2 (a0g I2 hf q2)
  exact ⟨s3,q3⟩
 ·obtain ⟨o1,q1⟩:=un.there b o q hx
  by_cases hf:b∈frs X.stack
  ·obtain ⟨s3,q3⟩:=up b _ q1 (a0g I2 hf q1)
   exact ⟨_,q3⟩
  ·exact ⟨_,st _ _ (air.bk b o1 q1 hf (.inr ⟨o,q⟩))⟩
 ·exact st _ _ (air.bk b u q (fun z=>hn (I2.stkFree b z)) (.inl hn))
abbrev Cx.inEx (X:Cx) (a:Addr):Cx:={ X with A:=X.A.mark (some (.ref a)),calm:=false,xe:=fun _ _=>False }
theorem Cx.Ok.inEx (ok:X.Ok) (a:Addr):(X.inEx a).Ok:=⟨ok.mod,ok.kind,ok.glob,ok.blt,ok.above,ok.inj,ok.has,ok.cab,fun z=>(Bool.noConfusion (show false=true from z)),ok.frames,ok.stk,ok.exf,ok.bs,ok.bsz,ok.noex,ok.exfs,ok.funs,ok.frf⟩
theorem Inv.inEx (I:Inv X pins σ H s) (a:Addr):Inv (X.inEx a) pins σ H s:=⟨I.ok.inEx a,I.os,I.bare,I.base,I.loc,I.cell,I.free,I.freeC,I.pin,I.hok,I.len⟩
theorem Inv.outEx {a:Addr} (ok:X.Ok) (I:Inv (X.inEx a) pins σ H s):Inv X pins σ H s:=⟨ok,I.os,I.bare,I.base,I.loc,I.cell,I.free,I.freeC,I.pin,I.hok,I.len⟩
def exO (a:Addr):HO:=.ext fun h=>∃ o,h.get? a=some o
theorem Inv.exc {a:Addr} {oe:Obj} (I:Inv X pins σ H s) (I1:Inv X pins σ H1 s1) (he:s.heap.get? a=some oe) (ha:H a=none) (na:s1.heap.get? a=none):Inv X pins σ (upd H a (.frz oe (exO a))) s:=by
 have old:∀ b o,s1.heap.get? b=some o→b≠a:=fun b o q z=>by subst z;rw [na] at q;cases q
 have sm:∀ b o,s1.heap.get? b=some o→upd H a (.frz oe (exO a)) b=H b:=fun b o q=>dw (old b o q)
 have kp:∀ b u,H b=some u→upd H a (.frz oe (exO a)) b=some u:=fun b u q=>by
  rw [dw]
  ·exact q
  ·intro z;subst z;rw [ha] at q;cases q
 have ba:=I.base
 refine ⟨I.ok,I.os,I.bare,⟨ba.keep,ba.slot,fun b o q n hx=>?_,ba.there,fun b xs q=>kp _ _ (ba.tups b xs q),fun b o u q=>kp _ _ (ba.frzs b o u q),fun b ps q=>?_⟩,I.loc,I.cell,?_,fun y c e=>?_,fun p hp=>?_,fun b u q=>?_,I.len⟩
 ·obtain ⟨o1,q1⟩:=I1.base.there b o q hx
  rw [sm b o1 q1]
  exact ba.free b o q n hx
 ·obtain ⟨more,q1⟩:=ba.tbls b ps q
  exact ⟨more,kp _ _ q1⟩
 ·obtain ⟨_,⟨o,_,_,q,_⟩,_⟩:=I1.loc
  rw [sm _ _ q]
  exact I.free
 ·obtain ⟨v,o,q,_⟩:=I1.cell y c e
  rw [sm _ _ q]
  exact I.freeC y c e
 ·obtain ⟨e,n,ne,nf,d⟩:=I.pin p hp
  exact ⟨e,by rw [sm _ _ (I1.pin p hp).1];exact n,ne,nf,d⟩
 ·by_cases hb:b=a
  ·subst hb
   rw [kj] at q
   cases q
   exact ⟨he,⟨oe,he⟩,⟨oe,he⟩,fun h1 h2 ⟨o,q⟩ k=>⟨o,k o q⟩⟩
  ·rw [dw hb] at q
   exact (I.hok b u q).stay (fun _ _ _ z=>z) (fun c z=>kp _ _ z) fun c xs z=>kp _ _ z
end
def XP (X:Cx) (pins:List (Addr × Obj)) (σ:St) (E:XK) (e:Value) (s':Shared):Prop:=∃ s1 H1,Inv X pins σ H1 s1∧CXE X.prog X.w X.stack H1 s1 E e s'
structure Hnd (X:Cx) (R:Addr) (x n:Str) (i:Nat):Prop where
 hg:Gl X x
 hm:X.mg x=some (.ref R)
 nd:X.N.Nodup
 hi:X.N[i]? = some n
 lo:X.env.scope.names.lookup n=some .local
 st:X.stack=X.env::X.outer∧X.env.frame=some X.env.locals
 db:(x == ("__debug__" : Str))=false
section
variable {X:Cx} {pins:List (Addr × Obj)} {σ:St} {s s':Shared}
def aor (D:Ends) (i:Nat):Ends:={ nx:=fun σ H=>D.nx (σ.set i none) H,rt:=D.rt,bk:=fun σ H=>D.bk (σ.set i none) H,ct:=fun σ H=>D.ct (σ.set i none) H }
theorem aec {R:Addr} {x n:Str} {i:Nat} {np pos:Pos} {b0:Stmt} {suite:List Stmt} {ts:TS} {D:Ends} {E:XK} {e:Value} (N:Hnd X R x n i) (hs:∀ a,PSs (X.inEx a) (b0::suite) ts)
  (mt:∀ C H,E (.ref C) none H→exmOne X.K (.ref C) (.ref R)=some true∧∀ a oe,oe.cls = .ref C→H a=none→ts (aor D i) (σ.set i (some (.ref a))) (upd H a (.frz oe (exO a))))
  (h:XP X pins σ E e s') :
  wpAny (model X.prog X.w) X.A (noteFrame e X.env) (fun _ s2=>wpAny (model X.prog X.w) X.A (setFlight e none) (fun _ s3=>wpAny (model X.prog X.w) X.A (handleBy e X.env [.ExceptHandler (some (.Name x np)) (some n) (b0::suite) pos]) (SP X pins D) X.xe s3) X.xe s2) X.xe s':=by
 obtain ⟨s1,H1,I1,a,C,t,B,H',rfl,os,bare,un,hok,air,e⟩:=h
 obtain ⟨mt1,mt2⟩:=mt C H' e
 have ok:=I1.ok
 have fr:X.A.frames=some (X.env::X.outer):=by rw [← N.st.1];exact ok.frames
 have fl:=air.fly
 rw [N.st.1] at fl
 have na:s1.heap.get? a=none:=by
  cases q:s1.heap.get? a with
  | none=>rfl
  | some o =>
   obtain ⟨oe,vs,he,_,hd,_⟩:=fl.first
   have I2:Inv X pins σ H' s':=I1.call' os un hok bare (by intro b z;cases z)
   have nf:a ∉ frs X.stack:=fun z=>a0g I2 z he _ hd
   have:=air.bk a oe he nf (.inr ⟨o,q⟩)
   rw [fl.2.1] at this
   cases this
 have ha:H' a=none:=by
  cases q:H' a with
  | none=>rfl
  | some u =>
   obtain ⟨oe,vs,he,_,hd,_⟩:=fl.first
   have I2:Inv X pins σ H' s':=I1.call' os un hok bare (by intro b z;cases z)
   have nf:a ∉ frs X.stack:=fun z=>a0g I2 z he _ hd
   have:=air.bk a oe he nf (.inl (by rw [q];simp))
   rw [fl.2.1] at this
   cases this
 refine wpAny_looks_onW fr N.st.2 fl fun h4 held4 up4=>?_
 refine wpAny_landsW held4 fun h5 fl5 up5=>?_
 have I5:=agb I1 os bare un hok air fl5.1 (up4.trans up5) s'.toks
 obtain ⟨ob,hob,hobc⟩:=fl5.there
 have I5m:=I5.inEx a
 refine wpAny_handleBy_cons (codeAny_handlers_test (a08 I5m N.hg N.hm ?_ N.db)) (by intro q;cases q)
 have LT:Looks (model X.prog X.w) h5 (typeOf (.ref a)) (.ref C):=hobc ▸ (Looks.ld hob).andThen .now
 refine (exm_one I5.kIn LT mt1).here ?_
 refine codeAny_handlers_suite_as ?_
 refine lands_againW fl5 fun h6 fl6 up6=>?_
 have I6:=agb I1 os bare un hok air fl6.1 ((up4.trans up5).trans up6) s'.toks
 obtain ⟨oe,vs,he,hec,hed,_⟩:=fl6.first
 have I7:=(I6.exc I1 he ha na).inEx a
 refine a0u (X:=X.inEx a) I7 N.nd N.hi (.inl N.lo) (v:=.ref a) rfl (fun s8 I8=>?_) (.inr N.lo)
 refine wpAny_mono (hs a pins s8 _ _ (aor D i) I8 (mt2 a oe hec ha)) (fun f s9 q=>?_) fun _ _ z=>z.elim
 show wpAny (model X.prog X.w) X.A (do bindName X.env n .none;unbindBehindTheSuite X.env n pos) (fun _ s3=>SP X pins D f s3) X.xe s9
 cases f with
 | next =>
  obtain ⟨σ',H9,I9,q⟩:=q
  exact a4j (I9.outEx ok) N.nd N.hi N.lo fun s10 I10=>⟨_,H9,I10,q⟩
 | brk =>
  obtain ⟨σ',H9,I9,q⟩:=q
  exact a4j (I9.outEx ok) N.nd N.hi N.lo fun s10 I10=>⟨_,H9,I10,q⟩
 | cont =>
  obtain ⟨σ',H9,I9,q⟩:=q
  exact a4j (I9.outEx ok) N.nd N.hi N.lo fun s10 I10=>⟨_,H9,I10,q⟩
 | ret u =>
  obtain ⟨v,σ',H9,I9,r,q⟩:=q
  exact a4j (I9.outEx ok) N.nd N.hi N.lo fun s10 I10=>⟨v,_,H9,I10,r,q⟩
def PEx (X:Cx) (e:Expr) (t:St→Hp→VK→XK→Prop):Prop :=
 ∀ (pins:List (Addr × Obj)) (s:Shared) (σ:St) (H:Hp) (Q:VK) (E:XK),Inv X pins σ H s→t σ H Q E→wpAny (model X.prog X.w) X.A (eval e X.env) (EP X pins σ Q) (XP X pins σ E) s
def PSx (X:Cx) (st:List Stmt) (t:Ends→XK→St→Hp→Prop):Prop :=
 ∀ (pins:List (Addr × Obj)) (s:Shared) (σ:St) (H:Hp) (D:Ends) (E:XK),Inv X pins σ H s→t D E σ H→wpAny (model X.prog X.w) X.A (execs st X.env) (SP X pins D) (XP X pins σ E) s
variable {e:Expr} {es:List Expr} {pos:Pos}
theorem abe {st:Stmt} {D:Ends} {W:Value→Shared→Prop} (h:wpAny (model X.prog X.w) X.A (exec st X.env) (SP X pins D) W s):wpAny (model X.prog X.w) X.A (execs [st] X.env) (SP X pins D) W s:=by
 refine wpAny_execs_cons (thn h fun f s1 q=>?_)
 cases f with
 | next=>exact wpAny_execs_nil q
 | ret v=>exact q
 | brk=>exact q
 | cont=>exact q
theorem aed {t:St→Hp→VK→XK→Prop} (he:PEx X e t) (hs:swapsWith e none pos.line X.env=pure false:=by rfl):PSx X [.Expr e pos] (fun D E σ H=>t σ H (fun _ H1=>D.nx σ H1) E):=by
 intro pins s σ H D E I h
 exact abe (wpAny_Expr_any (thn (he pins s σ H _ E I h) fun v s1 ⟨x,H1,I1,r1,q1⟩=>⟨σ,H1,I1,q1⟩) I.quiet hs)
theorem alp {R:Addr} {x n:Str} {i:Nat} {np hp pos:Pos} {body:List Stmt} {b0:Stmt} {suite:List Stmt} {t:Ends→XK→St→Hp→Prop} {ts:TS} (N:Hnd X R x n i) (hb:PSx X body t) (hs:∀ a,PSs (X.inEx a) (b0::suite) ts) :
  PS X (.Try body [.ExceptHandler (some (.Name x np)) (some n) (b0::suite) hp] [] [] pos) (fun D σ H=>t D (fun cls d H'=>∃ C,cls = .ref C∧exmOne X.K (.ref C) (.ref R)=some true∧∀ a oe,oe.cls = .ref C→H' a=none→ts (aor D i) (σ.set i (some (.ref a))) (upd H' a (.frz oe (exO a)))) σ H):=by
 intro pins s σ H D I h
 refine wpAny_Try_except (wpAny_mono (hb pins s σ H D _ I h) (fun f s1 q=>?_) fun e s1 q=>aec N hs (fun C H' z=>?_) q)
 ·cases f with
  | next=>exact wpAny_execs_nil q
  | ret v=>exact q
  | brk=>exact q
  | cont=>exact q
 ·obtain ⟨C',z,m1,m2⟩:=z
  cases z
  exact ⟨m1,m2⟩
theorem aee {k:Nat} {f:Addr} {fd:FuncData} {ps:List Str} {sp:Sp} {x:Str} {p:Pos} {t:TA} (F:FnOk X.prog X.w X.K X.mg X.base (CXE X.prog X.w) k f fd ps sp) (hr:Room k X.A) (hg:Gl X x) (hm:X.mg x=some (.ref f)) (hk:PySem.W.keepIn X.K (.ref f)=true) (hb:Binds X.K fd ps [])
  (ha:PA X.nox (e::es) t) (hdb:(x == ("__debug__" : Str))=false:=by decide) (he:starEach (e::es) X.env=(false,eval e X.env)::starEach es X.env:=by rfl) (hpl:(backTo pos (starEach es X.env)).any (·.1)=false:=by rfl) :
  PEx X (.Call (.Name x p) (e::es) [] pos) (fun σ H Q E=>t σ H fun vs H1=>sp vs H1 Q E):=by
 intro pins s σ H Q E I h
 refine wpAny_Call_Name_kw (a08 I hg hm ?_ hdb)
 refine PySem.W.callWith_K (h₀:=X.base) I.ok.mod.kin hk (wpAny_mono (ha pos pins s σ H _ (I.wish _) h) (fun us s1 ⟨vs,H1,I1,r,q⟩=>⟨I1.unwish.kIn,?_⟩) fun _ _ z=>z.elim) he hpl
 have I1:=I1.unwish
 have hl:us.length=ps.length:=by rw [← r.length];exact F.len _ _ _ _ q
 have bd:=hb s1 us I1.kIn (by rw [List.append_nil];exact hl)
 rw [List.append_nil] at bd
 refine wpAny_call (codeAny_mono (F.run X.A X.stack s1 H1 ⟨us,[]⟩ us vs Q E hr I1.env0 bd r q) fun r s' hq=>?_)
 cases r with
 | error e=>exact ⟨s1,H1,I1,hq⟩
 | ok fl =>
  cases fl with
  | ret u=>exact I1.after hq
  | next=>exact False.elim hq
  | brk=>exact False.elim hq
  | cont=>exact False.elim hq
end
end L2
namespace MI
open PySem PySem.Spec L2
def abf (mg:Str→Option Value) (E:XK):XD:=fun c _ H' _=>∃ C,mg c=some (.ref C)∧E (.ref C) none H'
def spX (K:PySem.W.Frag) (mg:Str→Option Value) (n:Nat) (F:SF):Sp:=fun vs H Q E=>vs.length=n∧∃ ι ds h,Reps K ι H vs ds∧HRep K ι H h∧out K (abf mg E) (u9 K) ι H (F ds h) Q
structure DnX (P:Program) (w:World) (K:PySem.W.Frag) (mg:Str→Option Value) (base:Heap) (k:Nat) (x:Str) (ps:List Str) (sp:Sp) (f:Addr) (fd:FuncData):Prop where
 ok:FnOk P w K mg base (CXE P w) k f fd ps sp
 m:mg x=some (.ref f)
 kp:PySem.W.keepIn K (.ref f)=true
 b:Binds K fd ps []
theorem abg {P:Program} {w:World} {K:PySem.W.Frag} {mg:Str→Option Value} {base:Heap} {x qual:Str} {st:Stmt} {f:Addr} {fd:FuncData} {N ps:List Str} {k:Nat} {b:SS} (Fu:Fun K x qual st f fd) (S:FnScope N ps (aq st))
  (hb:∀ (cdv:Value) (A:Around) (outer:List Env) (s:Shared) (H:Hp) (E:XK),Room k (A.deeper (PyProof.Rows.envOfC qual (aq st) s.heap.objs.size f cdv))→MSs (cxE P w K mg base N qual (aq st) f cdv A outer s H E) (abf mg E) (dz st) b) :
  FnOk P w K mg base (CXE P w) (k+1) f fd ps (spX K mg ps.length (jr b N.length)):=by
 obtain ⟨oc,od,kV,doc,pm,an,cdv,ct,osl,rfl,lk,hcd⟩:=Fu.ex
 refine akh lk hcd S (fun vs H Q E h=>h.1) fun A outer s H vs Q E hr h=>⟨_,hb cdv A outer s H E hr,?_⟩
 obtain ⟨hl,ι,ds,h,r,hr',o⟩:=h
 refine ⟨ι,xf N.length ds,h,a2o r,hr',?_⟩
 unfold jr at o
 cases hbd:b (xf N.length ds) h with
 | rt d h1=>rw [hbd] at o;exact o
 | nx τ h1=>rw [hbd] at o;exact fun ι' H' σ' g1 S1 hr1=>o ι' H' .non g1 .non hr1
 | ex c h1=>rw [hbd] at o;exact o
 | bk τ h1=>rw [hbd] at o;exact o.elim
 | ct τ h1=>rw [hbd] at o;exact o.elim
 | no=>rw [hbd] at o;exact o.elim
section
variable {K:PySem.W.Frag} {ι:List Addr} {H:Hp} {h:Hd} {n:Nat}
noncomputable def ut (n:Nat) (F:SF):SF:=fun ds h=>open Classical in if ∀ d∈ds,clo 0 d then (match F ds [] with | .ex c _=>if ds.length=n then .ex c h else .no | _=>j4 false n F ds h) else .no
theorem noex {m:Bool} {F:SF} {ds:List D} {c:Str} {h1:Hd}:j4 m n F ds h≠.ex c h1:=by
 unfold j4
 split
 ·unfold ajd
  intro e
  repeat (first | (split at e) | cases e)
 ·intro e;cases e
theorem a85 {E E':XD} {r:R D} {Q:VK} (ne:∀ c h1,r≠.ex c h1) (o:out K E (u9 K) ι H r Q):out K E' (u9 K) ι H r Q:=by
 cases r with
 | ok a h=>exact o
 | ex c h=>exact absurd rfl (ne c h)
 | no=>exact o
theorem HRep.stays {H':Hp} (hr:HRep K ι H h) (k:∀ a u,H a=some u→H' a=some u):Gr ι H ι H'∧HRep K ι H' h:=by
 have G:Gr ι H ι H':=⟨⟨[],by simp,by simp⟩,fun a vs q=>k _ _ q,fun a o u q=>k _ _ q,fun a u q _=>k _ _ q,fun a u q=>⟨u,k _ _ q⟩⟩
 refine ⟨G,hr.nd,hr.len,fun i a o e1 e2=>?_⟩
 have r:=hr.obj i a o e1 e2
 obtain ⟨u,hu,_⟩:=r.some
 exact r.mono G (by rw [hu];exact k a u hu)
theorem a1w:∀ {ds:List D},(∀ d∈ds,clo 0 d)→clos 0 ds
 | [],_=>by simp [clos]
 | d::ds,h=>by simp only [clos];exact ⟨h d List.mem_cons_self,a1w fun x hx=>h x (List.mem_cons_of_mem _ hx)⟩
theorem a4k {mg:Str→Option Value} {F:SF} {vs:List V} {ds:List D} {Q:VK} {E:XK} {E2:XD} (r:Reps K ι H vs ds) (hr:HRep K ι H h) (o:out K E2 (u9 K) ι H (ut n F ds h) Q) (hE:∀ c H' ,Gr ι H ι H'→HRep K ι H' h→E2 c ι H' h→abf mg E c ι H' h) :
  spX K mg n F vs H (fun v H1=>∃ L,a5w H1 L∧∀ H2,FrzOf L H1 H2→Q v H2) E:=by
 unfold ut at o
 split at o
 ·rename_i hc
  have ok:out K E2 (u9 K) ι H (j4 false n F ds h) Q→spX K mg n F vs H (fun v H1=>∃ L,a5w H1 L∧∀ H2,FrzOf L H1 H2→Q v H2) E:=fun o=>by
   obtain ⟨l,ι0,ds0,h0,r0,hr0,o0⟩:=a4b r hr (a85 (E':=X0) (fun c h1=>noex) o) E
   refine ⟨l,ι0,ds0,h0,r0,hr0,?_⟩
   cases e:F ds0 h0 with
   | ok a h1=>rw [e] at o0;exact o0
   | ex c h1=>rw [e] at o0;exact fun ι' H' g hr=>(o0 ι' H' g hr).elim
   | no=>rw [e] at o0;exact o0
  split at o
  ·rename_i c hx e
   split at o
   ·rename_i hl
    have R0:Reps K [] H vs ds:=by
     have:=r.cut (a1w hc)
     rwa [List.take_zero] at this
    refine ⟨by rw [r.len];exact hl,[],ds,[],R0,⟨List.nodup_nil,rfl,fun i a o e1=>by simp at e1⟩,?_⟩
    rw [e]
    intro ι' H' g _
    obtain ⟨G,hr'⟩:=hr.stays fun a u q=>g.oth a u q (by simp)
    exact hE c H' G hr' (o ι H' G hr')
   ·exact o.elim
  ·exact ok o
 ·exact o.elim
end
theorem a4l (m:Bool) {X:Cx} {E:XD} {k n:Nat} {f:Addr} {fd:FuncData} {ps:List Str} {x:Str} {F:SF} {ka:SA} {e:Expr} {es:List Expr} {p pos:Pos} (G:Dn X.prog X.w X.K X.mg X.base k x ps (ue X.K n F) f fd) (hr:Room k X.A) (hg:Gl X x) (ha:MA X E (e::es) ka)
  (hdb:(x == ("__debug__" : Str))=false:=by decide) (he:starEach (e::es) X.env=(false,eval e X.env)::starEach es X.env:=by rfl) (hpl:(backTo pos (starEach es X.env)).any (·.1)=false:=by rfl):ME X E (.Call (.Name x p) (e::es) [] pos) (sA (j4 m n F) ka):=by
 refine PE.weak (a2u (a1h G.ok hr hg G.m G.kp G.b .nil ahb ha hdb he hpl)) fun σ H Q ⟨ι,τ,h,S,Rh,o⟩=>?_
 refine ⟨ι,τ,h,S,Rh,bx o fun ds h1 ι1 H1 vs g1 r1 hr1 o1=>?_⟩
 rw [List.append_nil]
 exact a4b r1 hr1 (a85 (fun c h1=>noex) o1) _
theorem a6c {X:Cx} {k n:Nat} {f:Addr} {fd:FuncData} {ps:List Str} {x:Str} {F:SF} {ka:SA} {e:Expr} {es:List Expr} {p pos:Pos} (G:DnX X.prog X.w X.K X.mg X.base k x ps (spX X.K X.mg n F) f fd) (hr:Room k X.A) (hg:Gl X x) (ha:MA X X0 (e::es) ka)
  (hdb:(x == ("__debug__" : Str))=false:=by decide) (he:starEach (e::es) X.env=(false,eval e X.env)::starEach es X.env:=by rfl) (hpl:(backTo pos (starEach es X.env)).any (·.1)=false:=by rfl):ME X X0 (.Call (.Name x p) (e::es) [] pos) (sA (ut n F) ka):=by
 have ps0:a1g (CXE X.prog X.w) X E0:=by
  rintro pins σ H s e s' I ⟨a,C,t,B,H',rfl,os,bare,un,hok,air,z⟩
  exact z.elim
 refine PE.weak (a2u (a1h G.ok hr hg G.m G.kp G.b .nil ps0 ha hdb he hpl)) fun σ H Q ⟨ι,τ,h,S,Rh,o⟩=>?_
 refine ⟨ι,τ,h,S,Rh,bx o fun ds h1 ι1 H1 vs g1 r1 hr1 o1=>?_⟩
 rw [List.append_nil]
 exact a4k r1 hr1 o1 fun c H' _ _ z=>z.elim
section
variable {P:Program} {w:World} {K:PySem.W.Frag} {mg:Str→Option Value} {base:Heap} {N:List Str} {qual:Str} {scope:Scope} {fa:Addr} {cd:Value} {A:Around} {outer:List Env} {s0:Shared} {H0:Hp} {E:XK}
theorem aef {k n:Nat} {f:Addr} {fd:FuncData} {ps:List Str} {x:Str} {F:SF} {ka:SA} {e:Expr} {es:List Expr} {p pos:Pos} (G:DnX P w K mg base k x ps (spX K mg n F) f fd) (hr:Room k (cxE P w K mg base N qual scope fa cd A outer s0 H0 E).A) (hg:Gl (cxE P w K mg base N qual scope fa cd A outer s0 H0 E) x) (ha:MA (cxE P w K mg base N qual scope fa cd A outer s0 H0 E) (abf mg E) (e::es) ka)
  (hdb:(x == ("__debug__" : Str))=false:=by decide) (he:starEach (e::es) (cxE P w K mg base N qual scope fa cd A outer s0 H0 E).env=(false,eval e (cxE P w K mg base N qual scope fa cd A outer s0 H0 E).env)::starEach es (cxE P w K mg base N qual scope fa cd A outer s0 H0 E).env:=by rfl) (hpl:(backTo pos (starEach es (cxE P w K mg base N qual scope fa cd A outer s0 H0 E).env)).any (·.1)=false:=by rfl) :
  ME (cxE P w K mg base N qual scope fa cd A outer s0 H0 E) (abf mg E) (.Call (.Name x p) (e::es) [] pos) (sA (ut n F) ka):=by
 refine PE.weak (a2u (a1h (X:=cxE P w K mg base N qual scope fa cd A outer s0 H0 E) G.ok hr hg G.m G.kp G.b .nil (aop fun _ _ z=>z) ha hdb he hpl)) fun σ H Q ⟨ι,τ,h,S,Rh,o⟩=>?_
 refine ⟨ι,τ,h,S,Rh,bx o fun ds h1 ι1 H1 vs g1 r1 hr1 o1=>?_⟩
 rw [List.append_nil]
 exact a4k r1 hr1 o1 fun c H' _ _ z=>z
def a6d (c:Str) (ka:SA):SS:=fun τ h=>(ka τ h).fl fun ds h1=>if ds.length≤LINE then .ex c h1 else .no
theorem aeg {C:Addr} {x:Str} {ka:SA} {e:Expr} {es:List Expr} {np cpos pos:Pos} (hC:XCls K C) (hg:Gl (cxE P w K mg base N qual scope fa cd A outer s0 H0 E) x) (hm:mg x=some (.ref C)) (ha:MA (cxE P w K mg base N qual scope fa cd A outer s0 H0 E) (abf mg E) (e::es) ka)
  (hdb:(x == ("__debug__" : Str))=false:=by decide) (he:starEach (e::es) (cxE P w K mg base N qual scope fa cd A outer s0 H0 E).env=(false,eval e (cxE P w K mg base N qual scope fa cd A outer s0 H0 E).env)::starEach es (cxE P w K mg base N qual scope fa cd A outer s0 H0 E).env:=by rfl) (hpl:(backTo cpos (starEach es (cxE P w K mg base N qual scope fa cd A outer s0 H0 E).env)).any (·.1)=false:=by rfl) :
  MS (cxE P w K mg base N qual scope fa cd A outer s0 H0 E) (abf mg E) (.Raise (some (.Call (.Name x np) (e::es) [] cpos)) none pos) (a6d x ka):=by
 refine PS.weak (aea (X:=cxE P w K mg base N qual scope fa cd A outer s0 H0 E) (Ex:=fun H=>E (.ref C) none H) hC hg hm rfl ha (fun pins σ H s h' a args I mk z=>aoq I mk z) hdb he hpl) fun D σ H ⟨ι,τ,h,S,Rh,o⟩=>?_
 refine ⟨ι,τ,h,S,Rh,lw o fun ds h1 ι1 H1 vs g1 r1 hr1 o1=>?_⟩
 split at o1
 ·rename_i hl
  obtain ⟨C',e1,z⟩:=o1 ι1 H1 (.refl _ _) hr1
  rw [hm] at e1
  cases e1
  exact ⟨by rw [r1.len];exact a6v hl,z⟩
 ·exact o1.elim
end
def noX {α:Type}:R α→R α
 | .ex _ _=>.no
 | r=>r
def qA {α:Type} (ka:Sd→Hd→R α):Sd→Hd→R α:=fun τ h=>noX (ka τ h)
abbrev MEx (X:Cx) (e:Expr) (f:SE):Prop:=PEx X e fun σ H Q E=>lift X.K (abf X.mg E) (u9 X.K) f σ H Q
abbrev MSx (X:Cx) (st:List Stmt) (f:SS):Prop:=PSx X st fun D E σ H=>a1p X.K (abf X.mg E) f D σ H
section
variable {X:Cx}
theorem aii {e:Expr} {t:St→Hp→VK→XK→Prop} (h:PEx X e t):PEx X e (fun σ H Q E=>t σ H (fun v H1=>∃ L,a5w H1 L∧∀ H2,FrzOf L H1 H2→Q v H2) E):=fun pins s σ H Q E I q =>
 L2.thn (h pins s σ H _ E I q) fun u s' ⟨v,H1,I1,r,L,ab,k⟩=>let ⟨H2,f,I2⟩:=Inv.frz I1 ab; ⟨v,H2,I2,r,k H2 f⟩
theorem aij {k n:Nat} {f:Addr} {fd:FuncData} {ps:List Str} {x:Str} {F:SF} {ka:SA} {e:Expr} {es:List Expr} {p pos:Pos} (G:DnX X.prog X.w X.K X.mg X.base k x ps (spX X.K X.mg n F) f fd) (hr:Room k X.A) (hg:Gl X x) (ha:MA X.nox X0 (e::es) ka)
  (hdb:(x == ("__debug__" : Str))=false:=by decide) (he:starEach (e::es) X.env=(false,eval e X.env)::starEach es X.env:=by rfl) (hpl:(backTo pos (starEach es X.env)).any (·.1)=false:=by rfl):MEx X (.Call (.Name x p) (e::es) [] pos) (sA (ut n F) (qA ka)):=by
 intro pins s σ H Q E I ⟨ι,τ,h,S,Rh,o⟩
 refine aii (aee G.ok hr hg G.m G.kp G.b ha hdb he hpl) pins s σ H Q E I ⟨ι,τ,h,S,Rh,?_⟩
 have o2:=bx o (P:=fun vs H1=>spX X.K X.mg n F vs H1 (fun v H1=>∃ L,a5w H1 L∧∀ H2,FrzOf L H1 H2→Q v H2) E) fun ds h1 ι1 H1 vs g1 r1 hr1 o1=>a4k r1 hr1 o1 fun c H' _ _ z=>z
 unfold qA at o2
 cases e1:ka τ h with
 | ok a h1=>rw [e1] at o2;exact o2
 | ex c h1=>rw [e1] at o2;exact o2.elim
 | no=>rw [e1] at o2;exact o2
theorem aik {e:Expr} {f:SE} {pos:Pos} (he:MEx X e f) (hs:swapsWith e none pos.line X.env=pure false:=by rfl):MSx X [.Expr e pos] (p7 f):=fun pins s σ H D E I ⟨ι,τ,h,S,Rh,o⟩ =>
 aed he hs pins s σ H D E I ⟨ι,τ,h,S,Rh,lw o fun d h1 ι1 H1 v g1 r1 hr1 o1=>o1 ι1 H1 _ (.refl _ _) (S.mono g1) hr1⟩
def alq (i:Nat) (cs:Str→Bool) (fb fs:SS):SS:=fun τ h=>match fb τ h with
 | .ex c h1=>if cs c=true then (match fs (τ.set i (some (.exc c))) h1 with
   | .nx τ' h'=>.nx (τ'.set i none) h' | .rt d h'=>.rt d h' | .bk τ' h'=>.bk (τ'.set i none) h' | .ct τ' h'=>.ct (τ'.set i none) h' | _=>.no) else .no
 | r=>r
theorem SRep.off {K:PySem.W.Frag} {ι:List Addr} {H:Hp} {σ:St} {τ:Sd} (S:SRep K ι H σ τ) (i:Nat):SRep K ι H (σ.set i none) (τ.set i none):=by
 refine ⟨by simp [S.len],fun j d e=>?_⟩
 by_cases hj:i=j
 ·subst hj
  rw [List.getElem?_set] at e
  simp at e
 ·rw [List.getElem?_set_ne hj] at e ⊢
  exact S.val j d e
theorem alr {R:Addr} {x n:Str} {i:Nat} {np hp pos:Pos} {body:List Stmt} {b0:Stmt} {suite:List Stmt} {cs:Str→Bool} {fb fs:SS} (N:Hnd X R x n i)
  (hcs:∀ c,cs c=true→∃ C,X.mg c=some (.ref C)∧PySem.W.nsIn X.K mainGlobals c=some (some (.ref C))∧PySem.W.exmOne X.K (.ref C) (.ref R)=some true)
  (hb:MSx X body fb) (hs:∀ a,MSs (X.inEx a) X0 (b0::suite) fs):MS X X0 (.Try body [.ExceptHandler (some (.Name x np)) (some n) (b0::suite) hp] [] [] pos) (alq i cs fb fs):=by
 refine PS.weak (alp (ts:=a1p X.K X0 fs) N hb hs) fun D σ H ⟨ι,τ,h,S,Rh,o⟩=>⟨ι,τ,h,S,Rh,?_⟩
 unfold alq at o
 cases e:fb τ h with
 | nx τ' h'=>rw [e] at o;exact o
 | rt d h'=>rw [e] at o;exact o
 | bk τ' h'=>rw [e] at o;exact o
 | ct τ' h'=>rw [e] at o;exact o
 | no=>rw [e] at o;exact o
 | ex c h1 =>
  rw [e] at o
  dsimp only at o
  split at o
  ·rename_i hc
   obtain ⟨C,m,ns,ex⟩:=hcs c hc
   intro ι' H' g hr
   refine ⟨C,m,C,rfl,ex,fun a oe hoe ha=>?_⟩
   have G:=g.trans (ww (ι:=ι') ha (.frz oe (L2.exO a)))
   refine ⟨ι',τ.set i (some (.exc c)),h1,(S.mono G).set (.exc (o:=oe) (C:=C) kj hoe ns) i,hr.aside ha _,?_⟩
   have o1:=jx o G
   cases e2:fs (τ.set i (some (.exc c))) h1 with
   | nx τ' h'=>rw [e2] at o1;exact fun ι2 H2 σ' g2 S2 hr2=>o1 ι2 H2 _ g2 (S2.off i) hr2
   | bk τ' h'=>rw [e2] at o1;exact fun ι2 H2 σ' g2 S2 hr2=>o1 ι2 H2 _ g2 (S2.off i) hr2
   | ct τ' h'=>rw [e2] at o1;exact fun ι2 H2 σ' g2 S2 hr2=>o1 ι2 H2 _ g2 (S2.off i) hr2
   | rt d h'=>rw [e2] at o1;exact o1
   | ex c' h'=>rw [e2] at o1;exact o1.elim
   | no=>rw [e2] at o1;exact o1.elim
  ·exact o.elim
end
end MI
namespace MI
open PySem PySem.Spec L2
section
variable {X:Cx}
def vc (v:V) (cv:Value):Prop:=(∃ C,v = .ref C∧cv = .ref C)∨∃ T,v = .ty T∧cv = .type T
theorem vc.eq {v:V} {cv u:Value} (h:vc v cv) (r:RelV v u):u=cv:=by
 rcases h with ⟨C,rfl,rfl⟩ | ⟨T,rfl,rfl⟩
 ·exact r
 ·cases r;rfl
theorem als {pins:List (Addr × Obj)} {σ:St} {H:Hp} {s:Shared} {a C:Addr} {o:Obj} (I:L2.Inv X pins σ H s) (e:H a=some (.frz o (exO a))) (c:o.cls = .ref C):ExAt a C s.heap:=⟨o,(show ObjOk X.prog X.w H s.heap a (.frz o (exO a)) from I.hok a _ e).1,c⟩
theorem aeh:CallR X (.builtin "isinstance") (fun xs H Q=>∃ a o C v cv b,xs=[.ref a,v]∧vc v cv∧H a=some (.frz o (exO a))∧o.cls = .ref C∧XKit X.K C∧PySem.W.kitOne X.K (.ref C) cv=some b∧Q (.bl b) H):=by
 intro pins s σ H xs us Q I r h
 obtain ⟨a,o,C,v,cv,b,rfl,hv,ea,hc,Z,e,q⟩:=h
 obtain ⟨u,w',rfl,rx,rt⟩:=vals2 r
 obtain rfl:u=Value.ref a:=rx
 obtain rfl:=hv.eq rt
 exact PySem.W.kia_one (a84 Z) I.kIn (als I ea hc) e (fun z=>nomatch z) fun tk=>⟨.bl b,H,I.tok tk,rfl,q⟩
theorem a6e:∀ {cs:List Addr} {us:List Value},Vals (cs.map V.ref) us→us=cs.map Value.ref
 | [],_,r=>by cases r;rfl
 | c::cs,us,r=>by
  cases r with
  | cons r rs =>
   rw [List.map_cons,← a6e rs]
   congr 1
theorem abh:CallR X (.builtin "isinstance") (fun xs H Q=>∃ a o C tp,∃ cs:List Addr,∃ b,xs=[.ref a, .ref tp]∧H tp=some (.tup (cs.map V.ref))∧H a=some (.frz o (exO a))∧o.cls = .ref C∧XKit X.K C∧PySem.W.kitAny X.K (.ref C) (cs.map Value.ref)=some b∧Q (.bl b) H):=by
 intro pins s σ H xs us Q I r h
 obtain ⟨a,o,C,tp,cs,b,rfl,et,ea,hc,Z,e,q⟩:=h
 obtain ⟨u,w',rfl,rx,rt⟩:=vals2 r
 obtain rfl:u=Value.ref a:=rx
 obtain rfl:w'=Value.ref tp:=rt
 obtain ⟨_,its,vr,o',h1,h2,h3⟩:=(show ObjOk X.prog X.w H s.heap tp (.tup (cs.map V.ref)) from I.hok tp _ et)
 obtain rfl:=a6e vr
 obtain ⟨n,h3⟩:=h3
 have htp:s.heap.get? tp=some ⟨.type "tuple",o'.dict, .seq (cs.map Value.ref).toArray n,o'.slots⟩:=by
  rw [h1]
  obtain ⟨c,dd,dt,sl⟩:=o'
  simp only at h2 h3
  rw [h2,h3]
 exact PySem.W.kia_tup (a84 Z) I.kIn (als I ea hc) htp e (fun z=>nomatch z) fun tk=>⟨.bl b,H,I.tok tk,rfl,q⟩
def aei (i:Nat) (f:Str→Option Bool):SE:=fun τ h=>match τ[i]? with
 | some (some (.exc c))=>(match f c with | some b=>.ok (.bl b) h | none=>.no)
 | _=>.no
variable {E:XD}
theorem agc {K:PySem.W.Frag} {ι:List Addr} {H:Hp} {σ:St} {τ:Sd} {h:Hd} {i:Nat} {f:Str→Option Bool} {Q:VK} (S:SRep K ι H σ τ) (o:out K E (u9 K) ι H (aei i f τ h) Q) :
  ∃ a ob C c b,σ[i]? = some (some (.ref a))∧H a=some (.frz ob (exO a))∧ob.cls = .ref C∧PySem.W.nsIn K mainGlobals c=some (some (.ref C))∧f c=some b∧out K E (u9 K) ι H (.ok (.bl b) h) Q:=by
 unfold aei at o
 split at o
 ·rename_i c e
  obtain ⟨v,e1,r⟩:=S.val i _ e
  cases r with
  | exc q hc hn =>
   split at o
   ·rename_i b hb
    exact ⟨_,_,_,c,b,e1,q,hc,hn,hb,o⟩
   ·exact o.elim
 ·exact o.elim
theorem agd {i:Nat} {f:Str→Option Bool} {n x:Str} {v:V} {cv:Value} {p0 pn px pos:Pos} (hg:Gl X "isinstance") (hm:X.mg "isinstance" = none) (hb:bootBuiltins "isinstance" = some (.builtin "isinstance")) (hN:X.N[i]? = some n) (hv:Vis X.env.scope n) (hc:PE X (.Name x px) (tC v)) (hvc:vc v cv)
  (hf:∀ c b C,f c=some b→PySem.W.nsIn X.K mainGlobals c=some (some (.ref C))→XKit X.K C∧PySem.W.kitOne X.K (.ref C) cv=some b)
  (hd:(n == ("__debug__" : Str))=false:=by decide) (hcd:(n == ("__classdict__" : Str))=false:=by decide):ME X E (.Call (.Name "isinstance" p0) [.Name n pn, .Name x px] [] pos) (aei i f):=by
 refine PE.weak (a3f aeh hg hm hb (um (a9i hN hv hd hcd) (um hc a5d))) fun σ H Q ⟨ι,τ,h,S,Rh,o⟩=>?_
 obtain ⟨a,ob,C,c,b,e1,q,oc,ns,fb,o1⟩:=agc S o
 obtain ⟨Z,ki⟩:=hf c b C fb ns
 exact ⟨_,e1,a,ob,C,v,cv,b,rfl,hvc,q,oc,Z,ki,o1 ι H _ (.refl _ _) (.bl b) Rh⟩
theorem ail {i:Nat} {f:Str→Option Bool} {n:Str} {cs:List Addr} {es:List Expr} {t:TA} {k:Nat} {p0 pn px pos:Pos} (hg:Gl X "isinstance") (hm:X.mg "isinstance" = none) (hb:bootBuiltins "isinstance" = some (.builtin "isinstance")) (hN:X.N[i]? = some n) (hv:Vis X.env.scope n) (hc:PA X es t) (ht:∀ σ H (Q:List V→Hp→Prop),Q (cs.map V.ref) H→t σ H Q) (hl:cs.length≤sizeLine)
  (hf:∀ c b C,f c=some b→PySem.W.nsIn X.K mainGlobals c=some (some (.ref C))→XKit X.K C∧PySem.W.kitAny X.K (.ref C) (cs.map Value.ref)=some b)
  (hd:(n == ("__debug__" : Str))=false:=by decide) (hcd:(n == ("__classdict__" : Str))=false:=by decide):ME X E (.Call (.Name "isinstance" p0) [.Name n pn, .Tuple es k px] [] pos) (aei i f):=by
 refine PE.weak (a3f abh hg hm hb (um (a9i hN hv hd hcd) (um (afm hc) a5d))) fun σ H Q ⟨ι,τ,h,S,Rh,o⟩=>?_
 obtain ⟨a,ob,C,c,b,e1,q,oc,ns,fb,o1⟩:=agc S o
 obtain ⟨Z,ki⟩:=hf c b C fb ns
 refine ⟨_,e1,ht _ _ _ ⟨by rw [List.length_map];exact hl,fun p hp=>?_⟩⟩
 have G:=ww (ι:=ι) hp (.tup (cs.map V.ref))
 exact ⟨a,ob,C,p,cs,b,rfl,kj,G.frz _ _ _ q,oc,Z,ki,o1 ι _ _ G (.bl b) (Rh.aside hp _)⟩
end
end MI
namespace MI
open PySem PySem.Spec L2
section
variable {K:PySem.W.Frag} {ι:List Addr} {H:Hp} {h:Hd} {n:Nat}
open Classical in
noncomputable def a6f (n:Nat) (F:SF):SF:=fun ds h=>if (∀ d∈ds,clo 0 d)∧ds.length=n then (match F ds [] with
 | .ok (.tup [.ref i,e]) h1=>(match h1[i]? with | some o=>if a07 0 o∧clo 0 e then .ok (.tup [.ref h.length,e]) (h++[o]) else .no | none=>.no)
 | _=>.no) else .no
theorem aej {mg:Str→Option Value} {F:SF} {vs:List V} {ds:List D} {Q:VK} {E:XK} {E2:XD} (r:Reps K ι H vs ds) (hr:HRep K ι H h) (o:out K E2 (u9 K) ι H (a6f n F ds h) Q):spX K mg n F vs H Q E:=by
 unfold a6f at o
 split at o
 ·rename_i hc
  split at o
  ·rename_i i e h1 ef
   split at o
   ·rename_i ob ho
    split at o
    ·rename_i cc
     have R0:Reps K [] H vs ds:=by
      have:=r.cut (a1w hc.1)
      rwa [List.take_zero] at this
     refine ⟨by rw [r.len];exact hc.2,[],ds,[],R0,⟨List.nodup_nil,rfl,fun i a o e1=>by simp at e1⟩,?_⟩
     rw [ef]
     intro ι' H' v g rb hr1
     obtain ⟨m,em,hm⟩:=g.pre
     rw [List.nil_append] at em
     subst em
     obtain ⟨G0,hr'⟩:=hr.stays (H':=H') fun a u q=>g.oth a u q (by simp)
     cases rb with
     | @tup p ws _ hp rs =>
      cases rs with
      | cons r1 rs =>
       cases r1 with
       | @ref b _ hb =>
        cases rs with
        | cons r2 rs =>
         cases rs
         have bm:b∈ι':=List.mem_of_getElem? hb
         have bn:H b=none:=hm b bm
         have nb:b ∉ ι:=fun z=>by
          obtain ⟨j,hj,e⟩:=List.getElem_of_mem z
          have q1:ι[j]? = some b:=by rw [List.getElem?_eq_getElem hj,e]
          have hj2:j<h.length:=by rw [← hr.len];exact hj
          obtain ⟨u,hu,_⟩:=(hr.obj j b h[j] q1 (List.getElem?_eq_getElem hj2)).some
          rw [bn] at hu;cases hu
         have up:∀ κ:List Addr,Gw [] H' κ H':=fun κ=>⟨⟨κ,rfl⟩,fun _ _ h=>h,fun _ _ _ h=>h⟩
         have up2:Gw ι H' (ι++[b]) H':=⟨⟨[b],rfl⟩,fun _ _ h=>h,fun _ _ _ h=>h⟩
         have r2':=r2.cut cc.2
         rw [List.take_zero] at r2'
         have o1:=(hr1.obj i b ob hb ho).cut cc.1
         rw [List.take_zero] at o1
         refine o (ι++[b]) H' _ ⟨⟨[b],rfl,by simpa using bn⟩,g.tup,g.frz,fun a u q _=>g.oth a u q (by simp),g.kp⟩ (.tup hp (.cons (.ref (by rw [← hr.len];simp)) (.cons (r2'.monoW (up _)) .nil))) ⟨?_,?_,fun j a u q1 q2=>?_⟩
         ·exact List.nodup_append.mpr ⟨hr.nd,by simp,fun a ha c hc z=>nb (by rw [← List.mem_singleton.mp hc,← z];exact ha)⟩
         ·rw [List.length_append,List.length_append,hr.len];rfl
         ·by_cases hj:j<ι.length
          ·rw [List.getElem?_append_left hj] at q1
           rw [List.getElem?_append_left (by rw [← hr.len];exact hj)] at q2
           exact (hr'.obj j a u q1 q2).monoW up2 rfl
          ·have hj2:j<(ι++[b]).length:=(List.getElem?_eq_some_iff.mp q1).1
           have:j=ι.length:=by simp at hj2;omega
           subst this
           rw [List.getElem?_append_right (Nat.le_refl _)] at q1
           rw [List.getElem?_append_right (by rw [hr.len];exact Nat.le_refl _)] at q2
           simp [hr.len] at q1 q2
           subst q1 q2
           exact o1.monoW (up _) rfl
    ·exact o.elim
   ·exact o.elim
  ·exact o.elim
 ·exact o.elim
end
theorem aek {X:Cx} {k n:Nat} {f:Addr} {fd:FuncData} {ps:List Str} {x:Str} {F:SF} {ka:SA} {e:Expr} {es:List Expr} {p pos:Pos} (G:DnX X.prog X.w X.K X.mg X.base k x ps (spX X.K X.mg n F) f fd) (hr:Room k X.A) (hg:Gl X x) (ha:MA X X0 (e::es) ka)
  (hdb:(x == ("__debug__" : Str))=false:=by decide) (he:starEach (e::es) X.env=(false,eval e X.env)::starEach es X.env:=by rfl) (hpl:(backTo pos (starEach es X.env)).any (·.1)=false:=by rfl):ME X X0 (.Call (.Name x p) (e::es) [] pos) (sA (a6f n F) ka):=by
 have ps0:a1g (CXE X.prog X.w) X E0:=by
  rintro pins σ H s e s' I ⟨a,C,t,B,H',rfl,os,bare,un,hok,air,z⟩
  exact z.elim
 refine PE.weak (a1h G.ok hr hg G.m G.kp G.b .nil ps0 ha hdb he hpl) fun σ H Q ⟨ι,τ,h,S,Rh,o⟩=>?_
 refine ⟨ι,τ,h,S,Rh,bx o fun ds h1 ι1 H1 vs g1 r1 hr1 o1=>?_⟩
 rw [List.append_nil]
 exact aej r1 hr1 o1
def qS (f:SS):SS:=fun τ h=>match f τ h with | .ex _ _=>.no | r=>r
theorem alu {X:Cx} {st:Stmt} {t:TS} (h:PS X.nox st t):PS X st t:=fun pins s σ H D I hw =>
 wpAny_mono (h pins s σ H D (I.wish _) hw) (fun _ _ q=>q.unwish) fun _ _ z=>False.elim z
theorem aqt {X:Cx} {E:XD} {st:Stmt} {f:SS} (h:MS X.nox X0 st f):MS X E st (qS f):=by
 refine PS.weak (alu h) fun D σ H ⟨ι,τ,hp,S,Rh,o⟩=>⟨ι,τ,hp,S,Rh,?_⟩
 unfold qS at o
 cases e:f τ hp with
 | nx τ' h'=>rw [e] at o;exact o
 | rt d h'=>rw [e] at o;exact o
 | bk τ' h'=>rw [e] at o;exact o
 | ct τ' h'=>rw [e] at o;exact o
 | no=>rw [e] at o;exact o
 | ex c h1=>rw [e] at o;exact o.elim
end MI
namespace EVX
open PySem PySem.Spec L2 MI
theorem aim {F:SF} {n i:Nat} {ds:List D} {d:D} {o:O} {h h1:Hd} (hn:ds.length=n) (cd:∀ x∈ds,MI.clo 0 x) (e:F ds [] = .ok (.tup [.ref i,d]) h1) (ho:h1[i]? = some o) (co:a07 0 o) (c:MI.clo 0 d):a6f n F ds h = .ok (.tup [.ref h.length,d]) (h++[o]):=by
 unfold a6f
 rw [if_pos ⟨cd,hn⟩,e]
 dsimp only
 rw [ho]
 dsimp only
 rw [if_pos ⟨co,c⟩]
theorem aqu {f:SS} {τ τ1:Sd} {h h1:Hd} (e:f τ h = .nx τ1 h1):qS f τ h = .nx τ1 h1:=by unfold qS;rw [e]
end EVX
namespace ZP
open PySem PySem.Spec PySem.Builtin PySem.Builtin.SmallTypes L2
def jj (it:Addr) (a:Int):Obj:={ cls:=.type "enumerate",data:=.fields #[.none, .bool false, .ref it,rawInt a, .none, .none] }
theorem a93 (t:Tok) (k:Srk) (us:List Value) (a:Int) (u:Tok) (hf:fitsIndex a=true):Meets (Builtin.«enumerate.__new__» ⟨[.type "enumerate",val t k],[(Str.ofString "start", .int a u)]⟩)
  (fun _ R s=>cont s.heap k us∧R (.ok (.ret (.ref (s.heap.objs.size+1)))) { s with heap:=(s.heap.push (iob t k)).push (jj s.heap.objs.size a) }) :=
 .of_wp fun prog w A R s h=>by
  obtain ⟨hp,g,d,tk,os⟩:=s
  obtain ⟨c,h⟩:=h
  have sub:=sub_enumerate
  have c':cont (Shared.heap ⟨hp,g,d,tk,os⟩) k us:=c
  have fin:R (.ok (.ret (.ref (hp.push (iob t k)).objs.size))) { heap:=(hp.push (iob t k)).push (jj hp.objs.size a),gens:=g,drawn:=d,toks:=tk,os:=os }:=by simpa [Heap.size_push] using h
  have ks:((Str.ofString "start") == (Str.ofString "start"))=true:=beq_self_eq_true _
  wp_walk
  refine wpAny_stack_any fun st=>wpAny_pure ?_
  split
  ·rename_i cl _ _ _ _ _
   cases (cl == Value.type "enumerate")
   ·wp_walk using a3z (t:=t) c'
    exact ⟨_,rfl,fin⟩
   ·wp_walk using a3z (t:=t) c'
    exact ⟨_,rfl,fin⟩
  ·wp_walk using a3z (t:=t) c'
   exact ⟨_,rfl,fin⟩
def Is2 (r0:Result) (s0:Shared):Result→Shared→Prop:=fun r s1=>r=r0∧s1=s0
theorem abi {self v:Value} {a:Int} {u:Tok}:Meets (Builtin.«object.__init__» ⟨[self,v],[(Str.ofString "start", .int a u)]⟩) (fun _ R s=>s.TypeIs self "enumerate"∧R (.ok (.ret .none)) s) :=
 .of_wp fun prog w A R s h=>by
  obtain ⟨hT,hq⟩:=h
  have hl:=F.called_enumerate.init.lookup
  have hm:=F.called_enumerate.made
  wp_walk
  exact ⟨_,rfl,hq⟩
theorem a79 {prog:Program} {w:World} {A:Around} {E:Value→Shared→Prop} {s:Shared} {t:Tok} {k:Srk} {us:List Value} {a:Int} {u:Tok} {Q:Value→Shared→Prop} (hf:fitsIndex a=true) (c:cont s.heap k us)
  (q:Q (.ref (s.heap.objs.size+1)) { s with heap:=(s.heap.push (iob t k)).push (jj s.heap.objs.size a) }):wpAny (model prog w) A (call (.type "enumerate") [val t k] [(Str.ofString "start", .int a u)]) Q E s:=by
 have hct:checkTypeCall "enumerate" ⟨[val t k],[(Str.ofString "start", .int a u)]⟩=pure ():=by kernel_rfl
 have hcn:checkBuiltinCall "enumerate.__new__" ⟨[.type "enumerate",val t k],[(Str.ofString "start", .int a u)]⟩=pure ():=by kernel_rfl
 have hok:∀ obj,argsOk "object.__init__" ⟨[obj,val t k],[(Str.ofString "start", .int a u)]⟩:=fun obj=>by unfold argsOk;kernel_rfl
 obtain ⟨h1,h2,⟨c0,tl,hmro⟩,hmade,hpl,hsub,hini⟩:=F.called_enumerate
 refine wpAny_call (codeAny_of_tree ?_)
 show wpAny _ _ (callAny (.type "enumerate") _) _ _ _
 refine wpAny_pure ⟨Code.quiet_builtin _ (by decide +kernel),codeAny_builtin F.entry_type_call ?_⟩
 rw [Around.under_plain (weight_type_call_type _ _ _) (units_type_call_type _ _ _)]
 wp_walk
 have hT:Shared.TypeIs { s with heap:=(s.heap.push (iob t k)).push (jj s.heap.objs.size a) } (.ref (s.heap.objs.size+1)) "enumerate":=by
  refine ⟨jj s.heap.objs.size a,?_,rfl⟩
  have:=Heap.get?_push_size (o:=jj s.heap.objs.size a) (s.heap.push (iob t k)) rfl
  rw [Heap.size_push] at this
  exact this
 have hli:=hini.lookup
 have hbi:=hini.bind (.ref (s.heap.objs.size+1))
 have N1:codeAny (model prog w) A.in1 (Code.call (.builtin "enumerate.__new__") ⟨[.type "enumerate",val t k],[(Str.ofString "start", .int a u)]⟩) (Is2 (.ok (.ret (.ref (s.heap.objs.size+1)))) { s with heap:=(s.heap.push (iob t k)).push (jj s.heap.objs.size a) }) s :=
  codeAny_call_builtin hpl F.entry_enumerate_new (wpAny_of_eq hcn (a93 t k us a u hf prog w A.in1 (Is2 (.ok (.ret (.ref (s.heap.objs.size+1)))) { s with heap:=(s.heap.push (iob t k)).push (jj s.heap.objs.size a) }) s ⟨c,rfl,rfl⟩))
 have N2:codeAny (model prog w) A.in1 (Code.call (.builtin "object.__init__") ⟨[.ref (s.heap.objs.size+1),val t k],[(Str.ofString "start", .int a u)]⟩) (Is2 (.ok (.ret .none)) { s with heap:=(s.heap.push (iob t k)).push (jj s.heap.objs.size a) }) { s with heap:=(s.heap.push (iob t k)).push (jj s.heap.objs.size a) } :=
  codeAny_call_builtin hini.plain F.entry_object_init (hini.check _ _ _ _ _ _ _ _ hT (hok _) (abi prog w A.in1 (Is2 (.ok (.ret .none)) { s with heap:=(s.heap.push (iob t k)).push (jj s.heap.objs.size a) }) { s with heap:=(s.heap.push (iob t k)).push (jj s.heap.objs.size a) } ⟨hT,rfl,rfl⟩))
 refine codeAny_mono N1 fun r s1 hr=>?_
 obtain ⟨rfl,rfl⟩:=hr
 dsimp only
 wp_walk
 refine codeAny_mono N2 fun r s1 hr=>?_
 obtain ⟨rfl,rfl⟩:=hr
 dsimp only
 wp_walk
 exact q
theorem shifted {prog:Program} {w:World} {A:Around} {it:Addr} {fp:List Addr} {n:Nat} {P:Nat→Value→Prop} {St:Nat→Heap→Prop} (a:Nat) (D:Draws prog w A it fp n P St) :
  Draws prog w A it fp (a+n) (fun i v=>P (i - a) v) (fun i h=>a≤i∧St (i - a) h) where
 live:=fun i h z=>D.live _ h z.2
 frame:=fun i h h' z k=>⟨z.1,D.frame _ h h' z.2 k⟩
 item:=fun i s Q E hi z hQ=>D.item (i - a) s Q E (by omega) z.2 fun x h' tk p st sb=>hQ x h' tk p ⟨Nat.le_succ_of_le z.1,by rw [Nat.succ_sub z.1];exact st⟩ sb
 done:=fun s Q E z hE=>D.done s Q E (by have:=z.2;rwa [Nat.add_sub_cancel_left] at this) hE
def aos (a:Nat) (k:Srk):It where
 go:=fun i H=>∃ xs x,its H k=some xs∧xs[i]? = some x
 yld:=fun i H v H'=>∃ xs x p,its H k=some xs∧xs[i]? = some x∧H p=none∧v = .ref p∧H'=upd H p (.tup [.int ((a+i:Nat):Int),x])
 stop:=fun i H=>∃ xs,its H k=some xs∧i=xs.length
def apk (a:Nat) (e it:Addr) (t:Tok) (k:Srk) (i:Nat) (h:Heap):Prop:=(∃ old,IsEnum h e it ((a+i:Nat):Int) old)∧own it t k i h
theorem a94 {P:Program} {w:World} {K:PySem.W.Frag} {elts:List Expr} {x1:Nat} {pos:Pos} {a:Nat} {e it:Addr} {t:Tok} {k:Srk} (ne:e≠it):Turn P w K (.Tuple elts x1 pos) (aos a k) [e,it] e (apk a e it t k) where
 mem:=by simp
 obj:=fun i h st b hb=>by
  obtain ⟨⟨old,h1⟩,h4⟩:=st
  simp only [List.mem_cons,List.not_mem_nil,or_false] at hb
  rcases hb with rfl | rfl
  ·exact ⟨_,h1,fun v z=>(by cases z)⟩
  ·exact ab1 h4
 keep:=fun i h h' st kk=>by
  obtain ⟨⟨old,h1⟩,h4⟩:=st
  exact ⟨⟨old,kk e (by simp) _ h1⟩,a7t h4 fun ob q=>kk it (by simp) ob q⟩
 item:=by
  intro X hP hw hK hc i pins s σ H E I hf st hg
  subst hP hw hK
  obtain ⟨xs,x,e1,g1⟩:=hg
  obtain ⟨⟨old,h1⟩,h4⟩:=st
  have n:∀ c∈[e,it],H c=none:=fun c hc=>(hf c hc).1
  obtain ⟨cs,P1,S1,D1,a1,b1,c1,d1⟩:=ab2 I (t:=t) e1 (n it (by simp))
  have hd:=I.ok.hd hc
  have ef:e ∉ it::cs:=by
   intro z
   rcases List.mem_cons.mp z with z | z
   ·exact ne z
   ·exact c1 e z (n e (by simp))
  have li:a+i<a+xs.length:=Nat.add_lt_add_left (List.getElem?_eq_some_iff.mp g1).1 a
  refine wpAny_pyNext_enum_itemD (shifted a (D1 X.A.in1 hd)) h1 ⟨Nat.le_add_right _ _,by rw [Nat.add_sub_cancel_left];exact a1 i h4⟩ li ne ef fun u h' tk pu eo s1' pr sz kp=>?_
  obtain ⟨_,s1'⟩:=s1'
  rw [Nat.add_assoc,Nat.add_sub_cancel_left] at s1'
  rw [Nat.add_sub_cancel_left] at pu
  obtain ⟨x',q1,r1⟩:=d1 i u pu
  rw [g1] at q1;cases q1
  refine ⟨_,rfl,wpAny_letOwnedTupleGo_enum eo fun h2' z2' sb=>?_⟩
  have hp:H s.heap.objs.size=none:=I.hok.fresh (Nat.le_refl _)
  have lt:∀ c∈[e,it],c<s.heap.objs.size:=fun c hc=>by
   simp only [List.mem_cons,List.not_mem_nil,or_false] at hc
   rcases hc with rfl | rfl
   ·exact Heap.lt_size h1
   ·obtain ⟨_,q,_⟩:=ab1 h4;exact Heap.lt_size q
  have nT:∀ c∈[e,it],c≠s.heap.objs.size:=fun c hc=>Nat.ne_of_lt (lt c hc)
  have all:∀ c o,c ∉ [e,it]→s.heap.get? c=some o→h2'.get? c=some o:=fun c o nc q=>by
   simp only [List.mem_cons,List.not_mem_nil,or_false,not_or] at nc
   exact (sb.2 c nc.1).trans (kp c o nc.1 nc.2 q)
  have I0:Inv X pins σ (upd H s.heap.objs.size (.tup [.int ((a+i:Nat):Int),x])) { s with heap:=s.heap.push { cls:=.type "tuple",data:=.seq #[.int ((a+i:Nat):Int) tk,u] } } :=
   I.laid (t':=s.toks) (o:=.tup [.int ((a+i:Nat):Int),x]) (fun b o q=>Heap.get?_push_of_some _ q) (Nat.le_refl _) ⟨by show 2≤sizeLine;decide,[.int ((a+i:Nat):Int) tk,u], .cons ⟨tk,rfl⟩ (.cons r1 .nil),⟨_,Heap.get?_push_size _ rfl,rfl,_,rfl⟩⟩
  have I1:Inv X pins σ (upd H s.heap.objs.size (.tup [.int ((a+i:Nat):Int),x])) { s with heap:=h2',toks:=tk+1 }:=by
   refine ab3 (s:={ s with heap:=s.heap.push { cls:=.type "tuple",data:=.seq #[.int ((a+i:Nat):Int) tk,u] } }) (ch:=[e,it]) I0 (fun b hb=>?_) fun c o nc q=>?_
   ·obtain ⟨f0,f1⟩:=hf b hb
    exact ⟨by rw [dw (nT b hb)];exact f0,f1⟩
   ·rcases Heap.get?_push_cases q with ⟨rfl,rfl⟩ | q
    ·exact (sb.2 _ (nT e (by simp)).symm).trans pr
    ·exact all c o nc q
  refine ⟨.ref s.heap.objs.size,_,I1,rfl,⟨xs,x,_,e1,g1,hp,rfl,rfl⟩,⟨⟨u,by simpa [Int.add_assoc] using z2'⟩,a7t (b1 _ _ s1') fun ob q=>(sb.2 _ ne.symm).trans q⟩,fun b hb=>?_⟩
  rw [dw (nT b hb)];exact n b hb
 done:=by
  intro X hP hw hK hc i pins s σ H E I hf st hg
  subst hP hw hK
  obtain ⟨xs,e1,rfl⟩:=hg
  obtain ⟨⟨old,h1⟩,h4⟩:=st
  have n:∀ c∈[e,it],H c=none:=fun c hc=>(hf c hc).1
  obtain ⟨cs,P1,S1,D1,a1,b1,c1,d1⟩:=ab2 I (t:=t) e1 (n it (by simp))
  have hd:=I.ok.hd hc
  refine wpAny_pyNext_enum_endD (D1 X.A.in1 hd) h1 (a1 _ h4) fun h' ex=>⟨rfl,ab3 (t':=s.toks) I hf fun c o nc q=>?_⟩
  simp only [List.mem_cons,List.not_mem_nil,or_false,not_or] at nc
  exact ex c o nc.2 q
 self:=fun _ _ _ _ _ st h=>by
  obtain ⟨⟨old,h1⟩,_⟩:=st
  exact wpAny_pyIter_enum h1 h
section
variable {X:Cx} {elts:List Expr} {x1:Nat} {tpos:Pos}
def alv (ta tk:TA):TI:=fun σ H R=>ta σ H fun vs H1=>tk σ H1 fun zs H2=>∃ k xs,∃ a:Nat,vs=[Srk.v k]∧its H2 k=some xs∧zs=[.int (a:Nat)]∧a≤16777216∧R (aos a k) H2
theorem ael {e1 e2:Expr} {ta tk:TA} {p pos kpos:Pos} (hg:Gl X "enumerate") (hm:X.mg "enumerate" = none) (ha:PA X [e1] ta) (hkw:PK X [⟨some "start",e2,kpos⟩] tk)
  (h1:starEach [e1] X.env=[(false,eval e1 X.env)]:=by rfl):PI X (.Tuple elts x1 tpos) (.Call (.Name "enumerate" p) [e1] [⟨some "start",e2,kpos⟩] pos) (alv ta tk):=by
 intro pins s σ H R I h
 refine wpAny_Call_Name_kw (a2h I hg hm PyProof.Rows.boot_enumerate ?_ (by decide) (by decide))
 have hpl:((backTo pos (starEach [e1] X.env)).any (·.1) || (backToKw pos (keywordEach [⟨some "start",e2,kpos⟩] X.env)).any (·.1.isNone))=false:=by rw [h1];rfl
 refine PySem.W.callWith_of (P:=fun _=>True) hpl (fun h _=>⟨.machine, .inr (.inl rfl),PySem.W.Looks.of_pure rfl⟩) (PyProof.Rows.evalArgs_kw2 (by rfl) (thn (ha pos pins s σ H _ I h) fun us s1 ⟨vs,H1,I1,r,q⟩=>?_) (by rw [h1];rfl))
 refine thn (hkw pos pins s1 σ H1 _ I1 q) fun ws s2 ⟨zs,H2,I2,rz,q2⟩=>⟨trivial,?_⟩
 obtain ⟨k,xs,a,rfl,e1,rfl,la,q⟩:=q2
 obtain ⟨v1,rfl,rv1⟩:=vals1 r
 obtain ⟨v2,rfl,u,rfl⟩:=vals1 rz
 obtain ⟨t,rfl⟩:=alc rv1
 obtain ⟨us1,c1,_⟩:=a76 I2 e1
 refine a79 (us:=us1) (by unfold fitsIndex;simp;omega) c1 ?_
 have at0:((s2.heap.push (iob t k)).push (jj s2.heap.objs.size a)).get? s2.heap.objs.size=some (iob t k):=Heap.get?_push_of_some _ (Heap.get?_push_size _ (by cases k<;>rfl))
 have at1:IsEnum ((s2.heap.push (iob t k)).push (jj s2.heap.objs.size a)) (s2.heap.objs.size+1) s2.heap.objs.size (a:Nat) .none:=by
  have:=Heap.get?_push_size (o:=jj s2.heap.objs.size a) (s2.heap.push (iob t k)) rfl
  rw [Heap.size_push] at this
  exact this
 have keepA:∀ b o,s2.heap.get? b=some o→((s2.heap.push (iob t k)).push (jj s2.heap.objs.size a)).get? b=some o:=fun b o q=>Heap.get?_push_of_some _ (Heap.get?_push_of_some _ q)
 have I3:Inv X pins σ H2 { s2 with heap:=(s2.heap.push (iob t k)).push (jj s2.heap.objs.size a) }:=I2.kept (t':=s2.toks) keepA
 refine wpAny_pyIter_enum (s:={ s2 with heap:=(s2.heap.push (iob t k)).push (jj s2.heap.objs.size a) }) at1 ?_
 refine ⟨s2.heap.objs.size+1,[s2.heap.objs.size+1,s2.heap.objs.size],apk a _ _ t k,aos a k,H2,rfl,I3,a94 (by intro z;have z:(_:Nat)=_:=z;omega),⟨⟨.none,at1⟩,aqm at0⟩,fun b hb=>?_,q⟩
 have:s2.heap.objs.size≤b:=by
  simp only [List.mem_cons,List.not_mem_nil,or_false] at hb
  rcases hb with rfl | rfl
  ·exact Nat.le_succ _
  ·exact Nat.le_refl _
 exact I2.fpOk this (I2.hok.fresh this)
end
end ZP
namespace MI
open PySem PySem.Spec L2 ZP
def age (x y:D) (h:Hd):R Itm:=match srcOf x h,y with
 | some (xs,c), .int n=>if 0≤n∧n≤16777216 then .ok ⟨((List.range xs.length).zip xs).map fun p=>.tup [.int ((n.toNat+p.1:Nat):Int),p.2],c⟩ h else .no
 | _,_=>.no
def a6g (f g:SE):SI:=fun τ h=>(f τ h).bind fun x h1=>(g τ h1).bind fun y h2=>age x y h2
theorem aem {X:Cx} {E:XD} {elts:List Expr} {x1:Nat} {tpos:Pos} {e1 e2:Expr} {f g:SE} {p pos kpos:Pos} (hg:Gl X "enumerate") (hm:X.mg "enumerate" = none) (ha:ME X E e1 f) (hb:ME X E e2 g)
  (h1:starEach [e1] X.env=[(false,eval e1 X.env)]:=by rfl):MI X E (.Tuple elts x1 tpos) (.Call (.Name "enumerate" p) [e1] [⟨some "start",e2,kpos⟩] pos) (a6g f g):=by
 intro pins s σ H Rr I ⟨ι,τ,h,S,Rh,o⟩
 refine ael hg hm (um ha a5d (by rw [h1];rfl)) (ah2 hb akg) h1 pins s σ H Rr I ?_
 refine ⟨ι,τ,h,S,Rh,bx o fun d h1 ι1 H1 v g1 r1 hr1 o1=>?_⟩
 refine ⟨ι1,τ,h1,S.mono g1,hr1,bx o1 fun d2 h2 ι2 H2 v2 g2 r2 hr2 o2=>?_⟩
 have r1:=r1.mono g2
 unfold age at o2
 split at o2
 ·rename_i xs c n q1
  split at o2
  ·rename_i hn
   obtain ⟨k,rfl,kc,kf⟩:=ald r1 hr2 q1
   obtain ⟨vs,w1,w2⟩:=kf ι2 H2 h2 (.refl _ _) hr2 kc
   cases r2
   obtain ⟨m,rfl⟩:=Int.eq_ofNat_of_zero_le hn.1
   refine ⟨k,vs,m,rfl,w1,rfl,by omega,o2 ι2 H2 _ (.refl _ _) ?_ hr2⟩
   intro ι3 H3 h3 g3 hr3 c3
   obtain ⟨us,a1,a2⟩:=kf ι3 H3 h3 g3 hr3 c3
   refine ⟨fun i d ed=>?_,us,a1,?_⟩
   ·simp only [List.getElem?_map,Option.map_eq_some_iff] at ed
    obtain ⟨⟨j,y⟩,ez,rfl⟩:=ed
    obtain ⟨ex,ey⟩:=List.getElem?_zip_eq_some.mp ez
    have hj:j=i:=by
     obtain ⟨_,q⟩:=List.getElem?_eq_some_iff.mp ex
     simpa using q.symm
    subst hj
    obtain ⟨v2,b3,b4⟩:=a2.get ey
    refine ⟨⟨us,v2,a1,b3⟩,fun x H' yl=>?_⟩
    obtain ⟨xs',x',p,c1,c3,c5,rfl,rfl⟩:=yl
    rw [a1] at c1;cases c1
    rw [b3] at c3;cases c3
    exact ⟨ww c5 _, .tup kj (.cons (.int _) (.cons (b4.mono (ww c5 _)) .nil)),hr3.aside c5 _⟩
   ·rw [List.length_map,List.length_zip,List.length_range,a2.len]
    omega
  ·exact o2.elim
 ·exact o2.elim
end MI
namespace AT
open L2
theorem aen {α:Type} (x0:α) (xs:List α):atI (x0::xs) 0=some x0:=n6 (j:=0) rfl
theorem aeo {α:Type} (x0 x1:α) (xs:List α):atI (x0::x1::xs) 1=some x1:=n6 (j:=1) rfl
theorem aep {α:Type} (x0 x1 x2:α) (xs:List α):atI (x0::x1::x2::xs) 2=some x2:=n6 (j:=2) rfl
theorem aeq {α:Type} (x0 x1 x2 x3:α) (xs:List α):atI (x0::x1::x2::x3::xs) 3=some x3:=n6 (j:=3) rfl
theorem aer {α:Type} (x0 x1 x2 x3 x4:α) (xs:List α):atI (x0::x1::x2::x3::x4::xs) 4=some x4:=n6 (j:=4) rfl
theorem aes {α:Type} (x0 x1 x2 x3 x4 x5:α) (xs:List α):atI (x0::x1::x2::x3::x4::x5::xs) 5=some x5:=n6 (j:=5) rfl
theorem aet {α:Type} (x0 x1 x2 x3 x4 x5 x6:α) (xs:List α):atI (x0::x1::x2::x3::x4::x5::x6::xs) 6=some x6:=n6 (j:=6) rfl
theorem aeu {α:Type} (x0 x1 x2 x3 x4 x5 x6 x7:α) (xs:List α):atI (x0::x1::x2::x3::x4::x5::x6::x7::xs) 7=some x7:=n6 (j:=7) rfl
theorem x10:ixN 1 0=some 0:=rfl
theorem x20:ixN 2 0=some 0:=rfl
theorem x21:ixN 2 1=some 1:=rfl
theorem x30:ixN 3 0=some 0:=rfl
theorem x31:ixN 3 1=some 1:=rfl
theorem x32:ixN 3 2=some 2:=rfl
theorem x40:ixN 4 0=some 0:=rfl
theorem x41:ixN 4 1=some 1:=rfl
theorem x42:ixN 4 2=some 2:=rfl
theorem x43:ixN 4 3=some 3:=rfl
theorem x50:ixN 5 0=some 0:=rfl
theorem x51:ixN 5 1=some 1:=rfl
theorem x52:ixN 5 2=some 2:=rfl
theorem x53:ixN 5 3=some 3:=rfl
theorem x54:ixN 5 4=some 4:=rfl
theorem x60:ixN 6 0=some 0:=rfl
theorem x61:ixN 6 1=some 1:=rfl
theorem x62:ixN 6 2=some 2:=rfl
theorem x63:ixN 6 3=some 3:=rfl
theorem x64:ixN 6 4=some 4:=rfl
theorem x65:ixN 6 5=some 5:=rfl
theorem x70:ixN 7 0=some 0:=rfl
theorem x71:ixN 7 1=some 1:=rfl
theorem x72:ixN 7 2=some 2:=rfl
theorem x73:ixN 7 3=some 3:=rfl
theorem x74:ixN 7 4=some 4:=rfl
theorem x75:ixN 7 5=some 5:=rfl
theorem x76:ixN 7 6=some 6:=rfl
def apl (x:Int):Int:=if x<0 then -x else x
theorem abj (x:Int) (h:MI.Hd):MI.anc [.int x] h = .ok (.int (apl x)) h:=rfl
theorem p18 (h:MI.Hd):MI.a8x (.int 10) (.int 18) h = .ok (.int 1000000000000000000) h:=by rw [MI.a8x,if_pos (by decide)];rfl
theorem alw {i j:Int} {h:MI.Hd} (c:0≤j∧j≤1000000∧i.natAbs<2 ^ 64):MI.a8x (.int i) (.int j) h = .ok (.int (i ^ j.toNat)) h:=by rw [MI.a8x,if_pos c]
end AT
namespace K35
open PySem PySem.Spec L2 MI
def xu:Str→Option Bool:=fun c=>if c = "NoText" then some true else none
def a4m:Str→Option Bool:=fun c=>if c = "NoText" then some true else none
def gw:Str→Option Bool:=fun c=>if c = "NoText" then some false else none
def vm:Str→Bool:=fun c=>decide (c = "NoText")
noncomputable def ph:SE :=
 (s2 (gIn false) (sV 0) (sV 1))
noncomputable def jy:SS :=
 (uc (zu (sA uf (ak (sV 1) (ak (sC (.ty "str")) dg))) (sA ag6 (ak (sZ (jo (sIt (sV 1)) t1 ph [0])) dg))))
noncomputable def jt (iw:SF):SS :=
 (du (sIf (a3m (a3l (sA (j4 false 2 iw) (ak (sV 0) (ak (sV 1) dg)))))
 (a6d "NoText" (ak (sC (.str "no text of the tongue")) dg))
 sNx)
 (uc (sV 1)))
noncomputable def ie:SS :=
 (p7 (sML a3u (sV 6) (ak (s2 gIx (s2 gIx (sV 4) (s2 gIx (sV 6) (s1 a8y (sC (.int 1))))) (sMS a2r (sV 3) (ak (sV 7) dg))) dg)))
noncomputable def j5:SS :=
 (du (a8w (sV 0) (a72 3 (mq (kN 3) (mq (kN 4) (mq (kN 5) a7l)))))
 (du (j7 6 (sA a71 (ak (sV 1) dg)))
 (du (a5q (sIt (sV 2)) (kN 7) ie)
 (uc (sV 6)))))
noncomputable def ju (cj:SF):SS :=
 (sIf (sT (s2 hNe (s2 gIx (sV 3) (sV 6)) (s1 a8y (sC (.int 1)))))
 (j7 4 (sA a0v (ak (s2 gIx (sV 3) (sV 6)) (ak (sV 5) dg))))
 sNx)
noncomputable def qu (cj:SF):SS :=
 (du (j7 3 (s2 gIx (sV 0) (sC (.int 2))))
 (du (j7 4 (sC .non))
 (du (a5q (a6g (sA (j4 false 3 cj) (ak (sV 0) (ak (sC (.int 0)) (ak (a2d (sV 1) (oS (sV 2)) oN) dg)))) (sV 2)) (a72 2 (mq (kN 5) (mq (kN 6) a7l))) (ju cj))
 (uc (sV 4)))))
noncomputable def a86 (bu:SF) (dq:SF):ST :=
 (sT (s2 a2q (sV 4) (sC .non)))
noncomputable def a4n (bu:SF) (dq:SF):SS :=
 (du (a8w (sV 4) (a72 2 (mq (kN 5) (mq (kN 6) a7l))))
 (du (p7 (sML a3u (sV 2) (ak (sA a0v (ak (sV 5) (ak (sV 3) (ak (sV 6) dg)))) dg)))
 (du (j7 3 (sV 6))
 (j7 4 (sA (j4 false 3 dq) (ak (sV 0) (ak (sV 1) (ak (sV 3) dg))))))))
noncomputable def a95 (bu:SF) (dq:SF):SS :=
 (du (p7 (sA (ut 2 bu) (ak (s2 gIx (sV 0) (sC (.int 0))) (ak (sV 1) dg))))
 (du (j7 2 (sA a71 dg))
 (du (j7 3 (sC (.int 0)))
 (du (j7 4 (sA (j4 false 3 dq) (ak (sV 0) (ak (sV 1) (ak (sV 3) dg)))))
 (du (qS (sWh (a86 bu dq) (a4n bu dq) 100000))
 (uc (sA a0v (ak (sV 2) (ak (sV 3) dg)))))))))
noncomputable def a0o (dm:SF):ST :=
 (sT (s2 a2q (sV 4) (sC .non)))
noncomputable def xx (dm:SF):SS :=
 (du (p7 (sML a3u (sV 2) (ak (sA a0v (ak (s2 gIx (sV 4) (sC (.int 0))) (ak (sV 3) (ak (s2 gIx (sV 4) (sC (.int 1))) dg)))) dg)))
 (du (j7 3 (s2 gIx (sV 4) (sC (.int 1))))
 (j7 4 (sA (j4 false 3 dm) (ak (sV 0) (ak (sV 1) (ak (sV 3) dg)))))))
noncomputable def a03 (dm:SF):SS :=
 (du (j7 2 (sA a71 dg))
 (du (j7 3 (sC (.int 0)))
 (du (j7 4 (sA (j4 false 3 dm) (ak (sV 0) (ak (sV 1) (ak (sV 3) dg)))))
 (du (sWh (a0o dm) (xx dm) 100000)
 (uc (sA a0v (ak (sV 2) (ak (sV 3) dg))))))))
noncomputable def uh (aa:SF) (bc:SF):SE :=
 (sV 0)
noncomputable def ul (aa:SF) (bc:SF):SE :=
 (sV 0)
noncomputable def m5 (aa:SF) (bc:SF):ST :=
 (sT (s2 (gIn true) (sV 0) (sV 1)))
noncomputable def jz (aa:SF) (bc:SF):SS :=
 (du (j7 3 (sA (j4 false 2 aa) (ak (sV 0) (ak (sC (.int 6)) dg))))
 (du (sIf (sT (s2 hEq (sV 3) (sC (.int 0))))
 (uc (sC .non))
 sNx)
 (du (sIf (sT (s2 hEq (sV 3) (sC (.int 1))))
 (uc (sC (.int 7)))
 sNx)
 (du (sIf (sT (s2 hEq (sV 3) (sC (.int 2))))
 (uc (jo (sIt (sV 2)) t1 (uh aa bc) []))
 sNx)
 (du (j7 4 (sZ (a1r (sIt (sA (j4 false 0 bc) dg)) t1 (m5 aa bc) (ul aa bc) [1])))
 (du (j7 2 (a2d (sV 2) oN (oS (sC (.int 239)))))
 (du (j7 5 (sA (j4 false 2 aa) (ak (sV 0) (ak (s2 jm (sA zb (ak (sV 2) dg)) (sC (.int 1))) dg))))
 (uc (s2 jm (s2 jm (a2d (sV 2) oN (oS (sV 5))) (s2 gIx (sV 4) (sA (j4 false 2 aa) (ak (sV 0) (ak (sA zb (ak (sV 4) dg)) dg))))) (a2d (sV 2) (oS (sV 5)) oN))))))))))
noncomputable def vo (fu:SF):SS :=
 (sIf (sOr (a3m (a3l (sA (j4 false 2 fu) (ak (s2 gIx (s2 gIx (sV 0) (sC (.int 0))) (sV 2)) (ak (sC (.int 3)) dg))))) (sT (s2 hNe (s2 gIx (s2 gIx (sV 0) (sC (.int 0))) (sV 2)) (s2 gIx (s2 gIx (sV 1) (sC (.int 0))) (sV 2)))))
 ag8
 sNx)
noncomputable def yj (fu:SF):SS :=
 (du (sIf (sOr (a3m (a3l (sA uf (ak (sV 0) (ak (sC (.ty "tuple")) dg))))) (sOr (sT (s2 hNe (sA zb (ak (sV 0) dg)) (sC (.int 2)))) (a3m (a3l (sA uf (ak (s2 gIx (sV 0) (sC (.int 0))) (ak (sC (.ty "list")) dg)))))))
 ag8
 sNx)
 (du (sIf (sOr (a3m (a3l (sA (j4 false 2 fu) (ak (sA a0v (ak (s2 gIx (sV 0) (sC (.int 1))) dg)) (ak (sC (.int 1)) dg))))) (sOr (sT (s2 hNe (s2 gIx (sV 0) (sC (.int 1))) (s2 gIx (sV 1) (sC (.int 1))))) (sT (s2 hNe (sA zb (ak (s2 gIx (sV 0) (sC (.int 0))) dg)) (sA zb (ak (s2 gIx (sV 1) (sC (.int 0))) dg))))))
 ag8
 sNx)
 (du (a5q (sRg a0r (ak (sA zb (ak (s2 gIx (sV 1) (sC (.int 0))) dg)) dg)) (kN 2) (vo fu))
 (uc (sC (.bl true))))))
noncomputable def qt (vq:SF):SS :=
 (du (j7 2 (sC (.bl false)))
 (du (alq 3 vm
 (p7 (sA (ut 2 vq) (qA (ak (sV 0) (ak (sV 1) dg)))))
 (du (j7 2 (zu (aei 3 a4m) (aei 3 xu)))
 (sIf (a3l (aei 3 gw))
 ag8
 sNx)))
 (uc (sV 2))))
noncomputable def aev (jg:SF) (mj:SF) (jc:SF) (j9:SF) (jq:SF) (m7:SF) (jh:SF) (vq:SF):SS :=
 (du (j7 1 (sA (j4 true 1 j9) (ak (sV 0) dg)))
 (du (j7 2 (sA (j4 false 2 jq) (ak (sV 1) (ak (sC (.int 32)) dg))))
 (du (j7 3 (sA (j4 false 2 m7) (ak (sV 1) (ak (s2 gIx (sV 2) (sC (.int 0))) dg))))
 (du (j7 4 (sA (j4 false 3 jg) (ak (sV 1) (ak (s2 gIx (sV 2) (sC (.int 0))) (ak (sV 3) dg)))))
 (du (j7 5 (sA (j4 false 2 mj) (ak (sV 2) (ak (sV 3) dg))))
 (du (j7 6 (sA (ut 2 vq) (ak (sV 2) (ak (sV 3) dg))))
 (du (sIf (a3m (a3l (sA (j4 false 2 jh) (ak (sV 6) (ak (sV 5) dg)))))
 ag8
 sNx)
 (du (j7 7 (sA (a6f 2 vq) (ak (sV 2) (ak (sV 3) dg))))
 (du (p7 (sML a3u (s2 gIx (sV 7) (sC (.int 0))) (ak (sA a0v (ak (sC (.int 0)) (ak (sC (.int 0)) (ak (sC (.int 0)) dg)))) dg)))
 (du (p7 (sML a5v (s2 gIx (sV 7) (sC (.int 0))) (ak (sC (.int 0)) dg)))
 (du (sIf (a3m (a3l (sA (j4 false 2 jc) (ak (sV 2) (ak (sV 4) dg)))))
 ag8
 sNx)
 (uc (zu (sA (j4 false 2 jh) (ak (sA (ut 2 vq) (ak (sV 2) (ak (sV 3) dg))) (ak (sV 5) dg))) (sA (j4 false 2 jh) (ak (sV 6) (ak (sV 5) dg))))))))))))))))
end K35
namespace K35
open PySem PySem.Spec L2 MI
def top (i:Nat):Stmt:=PySem.Challenge.pw_nearreach_k35_cuts.main.body.getD i (.Pass ⟨0,0,0,0⟩)
structure Nm (mg:Str→Option Value):Prop where
 ValueError:mg "ValueError" = none
 abs:mg "abs" = none
 all:mg "all" = none
 bool:mg "bool" = none
 enumerate:mg "enumerate" = none
 int:mg "int" = none
 isinstance:mg "isinstance" = none
 len:mg "len" = none
 list:mg "list" = none
 min:mg "min" = none
 range:mg "range" = none
 sorted:mg "sorted" = none
 str:mg "str" = none
 sum:mg "sum" = none
 tuple:mg "tuple" = none
structure Xn (K:PySem.W.Frag) (mg:Str→Option Value) (y_NoText y_ReachError y_Closed y_NoQuote y_NoWord y_Stopped:Addr):Prop where
 g_NoText:mg "NoText" = some (.ref y_NoText)
 g_ReachError:mg "ReachError" = some (.ref y_ReachError)
 g_Closed:mg "Closed" = some (.ref y_Closed)
 g_NoQuote:mg "NoQuote" = some (.ref y_NoQuote)
 g_NoWord:mg "NoWord" = some (.ref y_NoWord)
 g_Stopped:mg "Stopped" = some (.ref y_Stopped)
 n_NoText:PySem.W.nsIn K mainGlobals "NoText" = some (some (.ref y_NoText))
 c_NoText:XCls K y_NoText
 k_NoText:XKit K y_NoText
 e_NoText_ReachError:PySem.W.exmOne K (.ref y_NoText) (.ref y_ReachError)=some true
 i_NoText_ValueError:PySem.W.kitOne K (.ref y_NoText) (.type "ValueError")=some true
 i_NoText_NoText:PySem.W.kitOne K (.ref y_NoText) (.ref y_NoText)=some true
 i_NoText_Closed_NoQuote_NoWord_Stopped:PySem.W.kitAny K (.ref y_NoText) [.ref y_Closed, .ref y_NoQuote, .ref y_NoWord, .ref y_Stopped]=some false
section
variable {K:PySem.W.Frag} {mg:Str→Option Value} {y_NoText y_ReachError y_Closed y_NoQuote y_NoWord y_Stopped:Addr}
theorem a2e (Z:Xn K mg y_NoText y_ReachError y_Closed y_NoQuote y_NoWord y_Stopped):∀ c,vm c=true→∃ C,mg c=some (.ref C)∧PySem.W.nsIn K mainGlobals c=some (some (.ref C))∧PySem.W.exmOne K (.ref C) (.ref y_ReachError)=some true:=by
 intro c h
 simp only [vm,Bool.or_eq_true,decide_eq_true_eq] at h
 subst h
 ·exact ⟨_,Z.g_NoText,Z.n_NoText,Z.e_NoText_ReachError⟩
theorem a4o (Z:Xn K mg y_NoText y_ReachError y_Closed y_NoQuote y_NoWord y_Stopped):∀ c b C,xu c=some b→PySem.W.nsIn K mainGlobals c=some (some (.ref C))→XKit K C∧PySem.W.kitOne K (.ref C) (.type "ValueError")=some b:=by
 intro c b C h q
 unfold xu at h
 by_cases e_NoText:c = "NoText"
 ·subst e_NoText;rw [if_pos rfl] at h;cases h;cases Z.n_NoText.symm.trans q;exact ⟨Z.k_NoText,Z.i_NoText_ValueError⟩
 rw [if_neg e_NoText] at h
 cases h
theorem abk (Z:Xn K mg y_NoText y_ReachError y_Closed y_NoQuote y_NoWord y_Stopped):∀ c b C,a4m c=some b→PySem.W.nsIn K mainGlobals c=some (some (.ref C))→XKit K C∧PySem.W.kitOne K (.ref C) (.ref y_NoText)=some b:=by
 intro c b C h q
 unfold a4m at h
 by_cases e_NoText:c = "NoText"
 ·subst e_NoText;rw [if_pos rfl] at h;cases h;cases Z.n_NoText.symm.trans q;exact ⟨Z.k_NoText,Z.i_NoText_NoText⟩
 rw [if_neg e_NoText] at h
 cases h
theorem my (Z:Xn K mg y_NoText y_ReachError y_Closed y_NoQuote y_NoWord y_Stopped):∀ c b C,gw c=some b→PySem.W.nsIn K mainGlobals c=some (some (.ref C))→XKit K C∧PySem.W.kitAny K (.ref C) ([y_Closed,y_NoQuote,y_NoWord,y_Stopped].map Value.ref)=some b:=by
 intro c b C h q
 unfold gw at h
 by_cases e_NoText:c = "NoText"
 ·subst e_NoText;rw [if_pos rfl] at h;cases h;cases Z.n_NoText.symm.trans q;exact ⟨Z.k_NoText,Z.i_NoText_Closed_NoQuote_NoWord_Stopped⟩
 rw [if_neg e_NoText] at h
 cases h
end
section
variable {P:Program} {w:World} {K:PySem.W.Frag} {mg:Str→Option Value} {base:Heap} {f:Addr}
theorem apm:FnScope ["tongue", "thing"] ["tongue", "thing"] (aq (top 8)):=⟨rfl,rfl,rfl,by decide +kernel,rfl,by decide +kernel,by decide +kernel⟩
theorem m_0 {k:Nat} (M:Nm mg) (cdv:Value) (A:Around) (outer:List Env) (s:Shared) (H:Hp) (E:XK) (hr:Room k (A.deeper (PyProof.Rows.envOfC "is_text" (aq (top 8)) s.heap.objs.size f cdv))):MSs (a0j CX0 P w K mg base ["tongue", "thing"] "is_text" (aq (top 8)) f cdv A outer s H E).nox X0 (dz (top 8)) (jy) :=
 have SC:=apm
 (bz (jd (aah (qx (L2.CallR.or n8 lz) yg rfl M.isinstance ik (aj (bf 1) (aj (a8t rfl M.str akr) az))) (aag (qx (a6u rfl) ahx rfl M.all aks (aj (ajc (a0b rfl (CSc.of (ts:=["sign"]) (fr:=["tongue"]) (ix:=[0]) rfl rfl rfl rfl (by intro p hp;cases List.mem_singleton.mp hp;rfl) rfl rfl rfl rfl) (uw (bf 1)) (fun _ _ _ _=>(qd (i:=0) (show (["sign", "tongue"]:List Str).Nodup by decide +kernel) rfl (Or.inl rfl) (.inr rfl))) wz (fun _ _ _ _=>(aae (ahd.or aa2) ahq (bf 0) (bf 1) (by with_unfolding_all rfl))))) az))))))
theorem apn:FnScope ["tongue", "thing"] ["tongue", "thing"] (aq (top 10)):=⟨rfl,rfl,rfl,by decide +kernel,rfl,by decide +kernel,by decide +kernel⟩
theorem m_1 {k:Nat} {y_NoText y_ReachError y_Closed y_NoQuote y_NoWord y_Stopped:Addr} (Z:Xn K mg y_NoText y_ReachError y_Closed y_NoQuote y_NoWord y_Stopped) {a_0:Addr} {d_0:FuncData} {k_0:Nat} {F_0:SF} (D_0:Dn P w K mg base k_0 "is_text" ["tongue", "thing"] (ue K 2 F_0) a_0 d_0) (h_0:k_0≤k) (cdv:Value) (A:Around) (outer:List Env) (s:Shared) (H:Hp) (E:XK) (hr:Room k (A.deeper (PyProof.Rows.envOfC "looked_text" (aq (top 10)) s.heap.objs.size f cdv))):MSs (cxE P w K mg base ["tongue", "thing"] "looked_text" (aq (top 10)) f cdv A outer s H E) (abf mg E) (dz (top 10)) (jt F_0) :=
 have SC:=apn
 (ao (ud (zr (wy (a4l false D_0 (hr.mono h_0) rfl (aj (bf 0) (aj (bf 1) az)))))
 (bz (aeg Z.c_NoText rfl Z.g_NoText (aj a5n az)))
 j6)
 (bz (jd (bf 1))))
theorem apo:FnScope ["table", "room", "word", "tongue", "goes", "kinds", "rooms", "sign"] ["table", "room", "word"] (aq (top 11)):=⟨rfl,rfl,rfl,by decide +kernel,rfl,by decide +kernel,by decide +kernel⟩
theorem m_2 {k:Nat} (cdv:Value) (A:Around) (outer:List Env) (s:Shared) (H:Hp) (E:XK) (hr:Room k (A.deeper (PyProof.Rows.envOfC "rooms_along" (aq (top 11)) s.heap.objs.size f cdv))):MSs (a0j CX0 P w K mg base ["table", "room", "word", "tongue", "goes", "kinds", "rooms", "sign"] "rooms_along" (aq (top 11)) f cdv A outer s H E).nox X0 (dz (top 11)) (j5) :=
 have SC:=apo
 (ao (aam (bf 0) (a7m rfl (qj (jn (i:=3) SC.nd rfl (Or.inl rfl)) (qj (jn (i:=4) SC.nd rfl (Or.inl rfl)) (qj (jn (i:=5) SC.nd rfl (Or.inl rfl)) a3p)))))
 (ao (dh (i:=6) SC.nd rfl (Or.inl rfl) (a1q (aj (bf 1) az)))
 (ao (zx PassesOwn.never rfl (uw (bf 2)) (jn (i:=7) SC.nd rfl (Or.inl rfl)) (bz (v5 (a3t PySem.F.slot_list_append PySem.F.type_list_append qw zc (bf 6) (aj (bj (bj (bf 4) (bj (bf 6) (a7q au) (fun _ _=>rfl)) (fun _ _=>rfl)) (ahv PySem.F.slot_str_index PySem.F.type_str_index adg aay (bf 3) (aj (bf 7) az)) (fun _ _=>rfl)) az)))))
 (bz (jd (bf 6))))))
theorem apq:FnScope ["table", "text", "at", "kinds", "found", "end", "room"] ["table", "text", "at"] (aq (top 13)):=⟨rfl,rfl,rfl,by decide +kernel,rfl,by decide +kernel,by decide +kernel⟩
theorem m_3 {k:Nat} (M:Nm mg) {a_2:Addr} {d_2:FuncData} {k_2:Nat} {F_2:SF} (D_2:Dn P w K mg base k_2 "rooms_along" ["table", "room", "word"] (ue K 3 F_2) a_2 d_2) (h_2:k_2≤k) (cdv:Value) (A:Around) (outer:List Env) (s:Shared) (H:Hp) (E:XK) (hr:Room k (A.deeper (PyProof.Rows.envOfC "piece_at" (aq (top 13)) s.heap.objs.size f cdv))):MSs (a0j CX0 P w K mg base ["table", "text", "at", "kinds", "found", "end", "room"] "piece_at" (aq (top 13)) f cdv A outer s H E).nox X0 (dz (top 13)) (qu F_2) :=
 have SC:=apq
 (ao (dh (i:=3) SC.nd rfl (Or.inl rfl) (bj (bf 0) au (fun _ _=>rfl)))
 (ao (dh (i:=4) SC.nd rfl (Or.inl rfl) a5o)
 (ao (zx PassesOwn.never rfl (aem rfl M.enumerate (d9 false D_2 (hr.mono h_2) rfl (aj (bf 0) (aj au (aj (qz (bf 1) (yz (bf 2)) yx) az)))) (bf 2)) (a7m rfl (qj (jn (i:=5) SC.nd rfl (Or.inl rfl)) (qj (jn (i:=6) SC.nd rfl (Or.inl rfl)) a3p))) (bz (ud (gq (a2t hr.u) a0c (bj (bf 3) (bf 6) (fun _ _=>rfl)) (a7q au) (j8 _))
 (bz (dh (i:=4) SC.nd rfl (Or.inl rfl) (yp (aj (bj (bf 3) (bf 6) (fun _ _=>rfl)) (aj (bf 5) az)))))
 j6)))
 (bz (jd (bf 4))))))
theorem apr:FnScope ["table", "text", "pieces", "place", "found", "kind", "end"] ["table", "text"] (aq (top 14)):=⟨rfl,rfl,rfl,by decide +kernel,rfl,by decide +kernel,by decide +kernel⟩
theorem m_4 {k:Nat} {a_1:Addr} {d_1:FuncData} {k_1:Nat} {F_1:SF} (D_1:DnX P w K mg base k_1 "looked_text" ["tongue", "thing"] (spX K mg 2 F_1) a_1 d_1) (h_1:k_1≤k) {a_3:Addr} {d_3:FuncData} {k_3:Nat} {F_3:SF} (D_3:Dn P w K mg base k_3 "piece_at" ["table", "text", "at"] (ue K 3 F_3) a_3 d_3) (h_3:k_3≤k) (cdv:Value) (A:Around) (outer:List Env) (s:Shared) (H:Hp) (E:XK) (hr:Room k (A.deeper (PyProof.Rows.envOfC "cut" (aq (top 14)) s.heap.objs.size f cdv))):MSs (cxE P w K mg base ["table", "text", "pieces", "place", "found", "kind", "end"] "cut" (aq (top 14)) f cdv A outer s H E) (abf mg E) (dz (top 14)) (a95 F_1 F_3) :=
 have SC:=apr
 (ao (v5 (aef D_1 (hr.mono h_1) rfl (aj (bj (bf 0) au (fun _ _=>rfl)) (aj (bf 1) az))))
 (ao (dh (i:=2) SC.nd rfl (Or.inl rfl) (a1q az))
 (ao (dh (i:=3) SC.nd rfl (Or.inl rfl) au)
 (ao (dh (i:=4) SC.nd rfl (Or.inl rfl) (a4l false D_3 (hr.mono h_3) rfl (aj (bf 0) (aj (bf 1) (aj (bf 3) az)))))
 (ao (aqt (a3o 100000 PassesOwn.never (gq (a9r.or a1n) a5t (bf 4) a5o (j8 _)) (ao (aam (bf 4) (a7m rfl (qj (jn (i:=5) SC.nd rfl (Or.inl rfl)) (qj (jn (i:=6) SC.nd rfl (Or.inl rfl)) a3p))))
 (ao (v5 (a3t PySem.F.slot_list_append PySem.F.type_list_append qw zc (bf 2) (aj (yp (aj (bf 5) (aj (bf 3) (aj (bf 6) az)))) az)))
 (ao (dh (i:=3) SC.nd rfl (Or.inl rfl) (bf 6))
 (bz (dh (i:=4) SC.nd rfl (Or.inl rfl) (a4l false D_3 (hr.mono h_3) rfl (aj (bf 0) (aj (bf 1) (aj (bf 3) az)))))))))))
 (bz (jd (yp (aj (bf 2) (aj (bf 3) az))))))))))
theorem aps:FnScope ["_law_script", "_law_cells"] ["_law_script"] (aq (top 16)):=⟨rfl,rfl,rfl,by decide +kernel,rfl,by decide +kernel,by decide +kernel⟩
theorem m_5 {k:Nat} (M:Nm mg) (cdv:Value) (A:Around) (outer:List Env) (s:Shared) (H:Hp) (E:XK) (hr:Room k (A.deeper (PyProof.Rows.envOfC "_law_source" (aq (top 16)) s.heap.objs.size f cdv))):MSs (a0j CX0 P w K mg base ["_law_script", "_law_cells"] "_law_source" (aq (top 16)) f cdv A outer s H E).nox X0 (dz (top 16)) (SRC.ug) :=
 have SC:=aps
 (ao (a0y (i:=1) SC.nd rfl (Or.inl rfl) rfl (CSc.noFree (ts:=["_law_cell"]) rfl (by decide +kernel) (by decide +kernel) (by decide +kernel)) (uw (ajc (qz (bf 0) yx (yz au)))) (fun _ _ _ _=>(qd (i:=0) (show (["_law_cell"]:List Str).Nodup by decide +kernel) rfl (Or.inl rfl) (.inr rfl))) wz (fun _ _ _ _=>(km (a4d au (qx ad4 ahr rfl M.abs akt (aj (bf 0) az))) (a3n a9t aht rfl M.int aft (aj (aae (a9p.or wk) a5s (bf 0) au (j8 _)) az)))))
 (bz (jd (a1q (aj (bf 1) (aj au (aj au (aj au (aj (a2p (qx (a8s rfl) ahy rfl M.sum alb (aj (bf 1) az)) au) az)))))))))
theorem apt:FnScope ["_law_left", "_law_many", "_law_cell", "_law_told_here"] ["_law_left", "_law_many"] (aq (top 17)):=⟨rfl,rfl,rfl,by decide +kernel,rfl,by decide +kernel,by decide +kernel⟩
theorem m_6 {k:Nat} (M:Nm mg) (cdv:Value) (A:Around) (outer:List Env) (s:Shared) (H:Hp) (E:XK) (hr:Room k (A.deeper (PyProof.Rows.envOfC "_law_draw" (aq (top 17)) s.heap.objs.size f cdv))):MSs (a0j CX0 P w K mg base ["_law_left", "_law_many", "_law_cell", "_law_told_here"] "_law_draw" (aq (top 17)) f cdv A outer s H E).nox X0 (dz (top 17)) (SRC.a0f) :=
 have SC:=apt
 (ao (a77 (bf 0) au au (a3e.or uy) a0x)
 (ao (ud (PW.pt (aaf (gq (a0n hr.u) xj (bj (bf 0) au (fun _ _=>rfl)) au (j8 _)) (a6z (gq (a9p.or wk) a5s (bj (bf 0) au (fun _ _=>rfl)) (qx (L2.CallR.or gf gh) qe rfl M.len w6 (aj (bj (bf 0) au (fun _ _=>rfl)) az)) (j8 _)))))
 (ao (dh (i:=2) SC.nd rfl (Or.inl rfl) (bj (bj (bf 0) au (fun _ _=>rfl)) (bj (bf 0) au (fun _ _=>rfl)) (fun _ _=>rfl)))
 (ao (a77 (bf 0) au au (a3e.or uy) a0x)
 (bz (ud (gq aka ag3 (bf 2) (aar au au) (j8 _))
 (bz (afw (bf 2) (bf 0) au))
 (bz (afw (a2p (km (a4d (bj (bf 0) au (fun _ _=>rfl)) au) (bf 2)) au) (bf 0) au))))))
 j6)
 (ao (ud (gq ak9 ag2 (bj (bf 0) au (fun _ _=>rfl)) au (j8 _))
 (ao (dh (i:=3) SC.nd rfl (Or.inl rfl) (a2p (bj (bf 0) au (fun _ _=>rfl)) (bf 1)))
 (ao (a77 (bf 0) au (bf 1) ad2 aaq)
 (bz (jd (bf 3)))))
 j6)
 (ao (dh (i:=3) SC.nd rfl (Or.inl rfl) (a2p (aar (km (km (bj (bf 0) au (fun _ _=>rfl)) au) (a4d (bj (bf 0) au (fun _ _=>rfl)) au)) au) au))
 (bz (jd (a2p (al0 (a2p (aar (km (a4d (bf 3) au) (bj (bf 0) au (fun _ _=>rfl))) au) au) au) (bf 1))))))))
theorem apu:FnScope ["_law_some"] [] (aq (top 18)):=⟨rfl,rfl,rfl,by decide +kernel,rfl,by decide +kernel,by decide +kernel⟩
theorem m_7 {k:Nat} (cdv:Value) (A:Around) (outer:List Env) (s:Shared) (H:Hp) (E:XK) (hr:Room k (A.deeper (PyProof.Rows.envOfC "_law_signs" (aq (top 18)) s.heap.objs.size f cdv))):MSs (a0j CX0 P w K mg base ["_law_some"] "_law_signs" (aq (top 18)) f cdv A outer s H E).nox X0 (dz (top 18)) (SRC.u5) :=
 have SC:=apu
 (ao (dh (i:=0) SC.nd rfl (Or.inl rfl) a5n)
 (bz (jd (km (bf 0) a5n))))
theorem apv:FnScope ["_law_left", "_law_rest", "_law_told_here", "_law_k", "_law_at"] ["_law_left"] (aq (top 19)):=⟨rfl,rfl,rfl,by decide +kernel,rfl,by decide +kernel,by decide +kernel⟩
theorem m_8 {k:Nat} (M:Nm mg) {a_6:Addr} {d_6:FuncData} {k_6:Nat} {F_6:SF} (D_6:Dn P w K mg base k_6 "_law_draw" ["_law_left", "_law_many"] (ue K 2 F_6) a_6 d_6) (h_6:k_6≤k) {a_7:Addr} {d_7:FuncData} {k_7:Nat} {F_7:SF} (D_7:Dn P w K mg base k_7 "_law_signs" [] (ue K 0 F_7) a_7 d_7) (h_7:k_7≤k) (cdv:Value) (A:Around) (outer:List Env) (s:Shared) (H:Hp) (E:XK) (hr:Room k (A.deeper (PyProof.Rows.envOfC "_law_tongue" (aq (top 19)) s.heap.objs.size f cdv))):MSs (a0j CX0 P w K mg base ["_law_left", "_law_rest", "_law_told_here", "_law_k", "_law_at"] "_law_tongue" (aq (top 19)) f cdv A outer s H E).nox X0 (dz (top 19)) (SRC.xr F_6 F_7) :=
 have SC:=apv
 (ao (dh (i:=1) SC.nd rfl (Or.inl rfl) (a65 false D_7 (hr.mono h_7) rfl))
 (ao (dh (i:=2) SC.nd rfl (Or.inl rfl) a5n)
 (ao (zx PassesOwn.never rfl (a3r rfl M.range (aj (km au (d9 false D_6 (hr.mono h_6) rfl (aj (bf 0) (aj au az)))) az)) (jn (i:=3) SC.nd rfl (Or.inl rfl)) (ao (dh (i:=4) SC.nd rfl (Or.inl rfl) (d9 false D_6 (hr.mono h_6) rfl (aj (bf 0) (aj (qx (L2.CallR.or gf gh) qe rfl M.len w6 (aj (bf 1) az)) az))))
 (ao (afv (i:=2) SC.nd rfl (Or.inl rfl) (a3e.or uy) a0x (bj (bf 1) (bf 4) (fun _ _=>rfl)))
 (bz (dh (i:=1) SC.nd rfl (Or.inl rfl) (km (qz (bf 1) yx (yz (bf 4))) (qz (bf 1) (yz (km (bf 4) au)) yx)))))))
 (bz (jd (bf 2))))))
theorem apw:FnScope ["_law_left", "_law_tongue_here", "_law_many", "_law_kinds", "_law_room", "_law_manner", "_law_goes", "_law_row"] ["_law_left", "_law_tongue_here", "_law_many"] (aq (top 20)):=⟨rfl,rfl,rfl,by decide +kernel,rfl,by decide +kernel,by decide +kernel⟩
theorem m_9 {k:Nat} (M:Nm mg) {a_6:Addr} {d_6:FuncData} {k_6:Nat} {F_6:SF} (D_6:Dn P w K mg base k_6 "_law_draw" ["_law_left", "_law_many"] (ue K 2 F_6) a_6 d_6) (h_6:k_6≤k) (cdv:Value) (A:Around) (outer:List Env) (s:Shared) (H:Hp) (E:XK) (hr:Room k (A.deeper (PyProof.Rows.envOfC "_law_rooms" (aq (top 20)) s.heap.objs.size f cdv))):MSs (a0j CX0 P w K mg base ["_law_left", "_law_tongue_here", "_law_many", "_law_kinds", "_law_room", "_law_manner", "_law_goes", "_law_row"] "_law_rooms" (aq (top 20)) f cdv A outer s H E).nox X0 (dz (top 20)) (SRC.v9 F_6) :=
 have SC:=apw
 (ao (dh (i:=3) SC.nd rfl (Or.inr rfl) (a1q (aj (a7q au) az)))
 (ao (zx PassesOwn.never rfl (aan rfl M.range (aj au (aj (bf 2) az))) (jn (i:=4) SC.nd rfl (Or.inr rfl)) (bz (v5 (a3t PySem.F.slot_list_append PySem.F.type_list_append qw zc (bf 3) (aj (afu (gq (a9p.or wk) a5s (d9 false D_6 (hr.mono h_6) rfl (aj (bf 0) (aj au az))) au (j8 _)) (d9 false D_6 (hr.mono h_6) rfl (aj (bf 0) (aj au az))) (a7q au)) az)))))
 (ao (dh (i:=5) SC.nd rfl (Or.inl rfl) (d9 false D_6 (hr.mono h_6) rfl (aj (bf 0) (aj au az))))
 (ao (dh (i:=6) SC.nd rfl (Or.inl rfl) (a1q az))
 (ao (zx PassesOwn.never rfl (a3r rfl M.range (aj (bf 2) az)) (jn (i:=4) SC.nd rfl (Or.inr rfl)) (ao (a0y (i:=7) SC.nd rfl (Or.inl rfl) rfl (CSc.of (ts:=["_law_sign"]) (fr:=["_law_left", "_law_many"]) (ix:=[0,2]) rfl rfl rfl rfl (by intro p hp;simp only [List.mem_cons,List.not_mem_nil,or_false] at hp;rcases hp with rfl | rfl<;>rfl) rfl rfl rfl rfl) (uw (bf 1)) (fun _ _ _ _=>(qd (i:=0) (show (["_law_sign", "_law_left", "_law_many"]:List Str).Nodup by decide +kernel) rfl (Or.inl rfl) (.inr rfl))) wz (fun _ _ _ _=>(d9 false D_6 (hr.mono h_6) rfl (aj (bf 1) (aj (bf 2) az)))))
 (ao (ud (gq ak9 ag2 (bf 5) au (j8 _))
 (bz (a0y (i:=7) SC.nd rfl (Or.inl rfl) rfl (CSc.of (ts:=["_law_to"]) (fr:=["_law_many", "_law_kinds", "_law_room"]) (ix:=[2,3,4]) rfl rfl rfl rfl (by intro p hp;simp only [List.mem_cons,List.not_mem_nil,or_false] at hp;rcases hp with rfl | rfl | rfl<;>rfl) rfl rfl rfl rfl) (uw (bf 7)) (fun _ _ _ _=>(qd (i:=0) (show (["_law_to", "_law_many", "_law_kinds", "_law_room"]:List Str).Nodup by decide +kernel) rfl (Or.inl rfl) (.inr rfl))) wz (fun _ _ _ _=>(afu (PW.pt (aaf (gq (a9p.or wk) a5s (bj (bf 2) (bf 0) (fun _ _=>rfl)) au (j8 _)) (a6z (gq (ao7.or aa6) al1 (bf 0) (bf 3) (j8 _))))) (ag1 (bf 1) au) (bf 0)))))
 j6)
 (ao (ud (PW.pt (aaf (gq (a0n hr.u) xj (bf 5) au (j8 _)) (a6z (gq (a0n hr.u) xj (bf 4) (ag1 (bf 2) au) (j8 _)))))
 (bz (a0y (i:=7) SC.nd rfl (Or.inl rfl) rfl (CSc.of (ts:=["_law_to"]) (fr:=["_law_room"]) (ix:=[4]) rfl rfl rfl rfl (by intro p hp;cases List.mem_singleton.mp hp;rfl) rfl rfl rfl rfl) (uw (bf 7)) (fun _ _ _ _=>(qd (i:=0) (show (["_law_to", "_law_room"]:List Str).Nodup by decide +kernel) rfl (Or.inl rfl) (.inr rfl))) wz (fun _ _ _ _=>(bf 1))))
 j6)
 (bz (v5 (a3t PySem.F.slot_list_append PySem.F.type_list_append qw zc (bf 6) (aj (bf 7) az))))))))
 (bz (jd (yp (aj (bf 6) (aj (bf 3) az))))))))))
theorem alx:FnScope ["_law_left", "_law_most", "_law_tongue_here", "_law_many", "_law_goes", "_law_kinds", "_law_met", "_law_at", "_law_to", "_law_rows"] ["_law_left", "_law_most"] (aq (top 21)):=⟨rfl,rfl,rfl,by decide +kernel,rfl,by decide +kernel,by decide +kernel⟩
theorem aqv {k:Nat} (M:Nm mg) {a_6:Addr} {d_6:FuncData} {k_6:Nat} {F_6:SF} (D_6:Dn P w K mg base k_6 "_law_draw" ["_law_left", "_law_many"] (ue K 2 F_6) a_6 d_6) (h_6:k_6≤k) {a_9:Addr} {d_9:FuncData} {k_9:Nat} {F_9:SF} (D_9:Dn P w K mg base k_9 "_law_rooms" ["_law_left", "_law_tongue_here", "_law_many"] (ue K 3 F_9) a_9 d_9) (h_9:k_9≤k) {a_8:Addr} {d_8:FuncData} {k_8:Nat} {F_8:SF} (D_8:Dn P w K mg base k_8 "_law_tongue" ["_law_left"] (ue K 1 F_8) a_8 d_8) (h_8:k_8≤k) (cdv:Value) (A:Around) (outer:List Env) (s:Shared) (H:Hp) (E:XK) (hr:Room k (A.deeper (PyProof.Rows.envOfC "_law_table" (aq (top 21)) s.heap.objs.size f cdv))):MSs (a0j CX0 P w K mg base ["_law_left", "_law_most", "_law_tongue_here", "_law_many", "_law_goes", "_law_kinds", "_law_met", "_law_at", "_law_to", "_law_rows"] "_law_table" (aq (top 21)) f cdv A outer s H E).nox X0 (dz (top 21)) (SRC.vf F_6 F_9 F_8) :=
 have SC:=alx
 (ao (dh (i:=2) SC.nd rfl (Or.inl rfl) (d9 false D_8 (hr.mono h_8) rfl (aj (bf 0) az)))
 (ao (dh (i:=3) SC.nd rfl (Or.inl rfl) (km au (d9 false D_6 (hr.mono h_6) rfl (aj (bf 0) (aj au az)))))
 (ao (ud (gq (a0n hr.u) xj (d9 false D_6 (hr.mono h_6) rfl (aj (bf 0) (aj au az))) au (j8 _))
 (bz (dh (i:=3) SC.nd rfl (Or.inl rfl) (km au (d9 false D_6 (hr.mono h_6) rfl (aj (bf 0) (aj (bf 1) az))))))
 j6)
 (ao (aam (d9 false D_9 (hr.mono h_9) rfl (aj (bf 0) (aj (bf 2) (aj (qx (a9s rfl) ado rfl M.min ala (aj (bf 3) (aj (bf 1) az))) az)))) (a7m rfl (qj (jn (i:=4) SC.nd rfl (Or.inr rfl)) (qj (jn (i:=5) SC.nd rfl (Or.inr rfl)) a3p))))
 (ao (dh (i:=6) SC.nd rfl (Or.inr rfl) (a1q (aj au az)))
 (ao (dh (i:=7) SC.nd rfl (Or.inl rfl) au)
 (ao (a3o 100000 PassesOwn.never (gq (a9p.or wk) a5s (bf 7) (qx (L2.CallR.or gf gh) qe rfl M.len w6 (aj (bf 6) az)) (j8 _)) (ao (zx PassesOwn.never rfl (uw (bj (bf 4) (bj (bf 6) (bf 7) (fun _ _=>rfl)) (fun _ _=>rfl))) (jn (i:=8) SC.nd rfl (Or.inl rfl)) (bz (ud (gq (a2m.or a0k) aat (bf 8) (bf 6) (by with_unfolding_all rfl))
 (bz (v5 (a3t PySem.F.slot_list_append PySem.F.type_list_append qw zc (bf 6) (aj (bf 8) az))))
 j6)))
 (bz (afv (i:=7) SC.nd rfl (Or.inl rfl) (a3e.or uy) a0x au))))
 (ao (dh (i:=6) SC.nd rfl (Or.inr rfl) (qx a4e a91 rfl M.sorted ab9 (aj (bf 6) az)))
 (ao (dh (i:=9) SC.nd rfl (Or.inl rfl) (a3n (L2.CallR.or uz (wu rfl)) a1s rfl M.tuple zp (aj (ajc (a0b rfl (CSc.of (ts:=["_law_room"]) (fr:=["_law_goes", "_law_met"]) (ix:=[4,6]) rfl rfl rfl rfl (by intro p hp;simp only [List.mem_cons,List.not_mem_nil,or_false] at hp;rcases hp with rfl | rfl<;>rfl) rfl rfl rfl rfl) (uw (bf 6)) (fun _ _ _ _=>(qd (i:=0) (show (["_law_room", "_law_goes", "_law_met"]:List Str).Nodup by decide +kernel) rfl (Or.inl rfl) (.inr rfl))) wz (fun _ _ _ _=>(a3n (L2.CallR.or uz (wu rfl)) a1s rfl M.tuple zp (aj (ajc (a0b rfl (CSc.of (ts:=["_law_to"]) (fr:=["_law_met"]) (ix:=[2]) rfl rfl rfl rfl (by intro p hp;cases List.mem_singleton.mp hp;rfl) rfl rfl rfl rfl) (uw (bj (bf 1) (bf 0) (fun _ _=>rfl))) (fun _ _ _ _=>(qd (i:=0) (show (["_law_to", "_law_met"]:List Str).Nodup by decide +kernel) rfl (Or.inl rfl) (.inr rfl))) wz (fun _ _ _ _=>(a3t PySem.F.slot_list_index PySem.F.type_list_index ab8 a92 (bf 1) (aj (bf 0) az))))) az))))) az)))
 (bz (jd (yp (aj (bf 2) (aj (bf 9) (aj (a3n (L2.CallR.or uz (wu rfl)) a1s rfl M.tuple zp (aj (ajc (a0b rfl (CSc.of (ts:=["_law_room"]) (fr:=["_law_kinds"]) (ix:=[5]) rfl rfl rfl rfl (by intro p hp;cases List.mem_singleton.mp hp;rfl) rfl rfl rfl rfl) (uw (bf 6)) (fun _ _ _ _=>(qd (i:=0) (show (["_law_room", "_law_kinds"]:List Str).Nodup by decide +kernel) rfl (Or.inl rfl) (.inr rfl))) wz (fun _ _ _ _=>(bj (bf 1) (bf 0) (fun _ _=>rfl))))) az)) az)))))))))))))))
theorem aly:FnScope ["_law_left", "_law_tongue_here", "_law_many"] ["_law_left", "_law_tongue_here"] (aq (top 22)):=⟨rfl,rfl,rfl,by decide +kernel,rfl,by decide +kernel,by decide +kernel⟩
theorem aqw {k:Nat} (M:Nm mg) {a_6:Addr} {d_6:FuncData} {k_6:Nat} {F_6:SF} (D_6:Dn P w K mg base k_6 "_law_draw" ["_law_left", "_law_many"] (ue K 2 F_6) a_6 d_6) (h_6:k_6≤k) (cdv:Value) (A:Around) (outer:List Env) (s:Shared) (H:Hp) (E:XK) (hr:Room k (A.deeper (PyProof.Rows.envOfC "_law_text" (aq (top 22)) s.heap.objs.size f cdv))):MSs (a0j CX0 P w K mg base ["_law_left", "_law_tongue_here", "_law_many"] "_law_text" (aq (top 22)) f cdv A outer s H E).nox X0 (dz (top 22)) (SRC.yh F_6) :=
 have SC:=aly
 (ao (dh (i:=2) SC.nd rfl (Or.inl rfl) (d9 false D_6 (hr.mono h_6) rfl (aj (bf 0) (aj au az))))
 (ao (ud (gq (a0n hr.u) xj (d9 false D_6 (hr.mono h_6) rfl (aj (bf 0) (aj au az))) au (j8 _))
 (bz (dh (i:=2) SC.nd rfl (Or.inl rfl) (d9 false D_6 (hr.mono h_6) rfl (aj (bf 0) (aj au az)))))
 j6)
 (bz (jd (ahv PySem.F.slot_str_join PySem.F.type_str_join ahg adt a5n (aj (ajc (a0b rfl (CSc.of (ts:=["_law_k"]) (fr:=["_law_left", "_law_tongue_here"]) (ix:=[0,1]) rfl rfl rfl rfl (by intro p hp;simp only [List.mem_cons,List.not_mem_nil,or_false] at hp;rcases hp with rfl | rfl<;>rfl) rfl rfl rfl rfl) (a3r rfl M.range (aj (bf 2) az)) (fun _ _ _ _=>(qd (i:=0) (show (["_law_k", "_law_left", "_law_tongue_here"]:List Str).Nodup by decide +kernel) rfl (Or.inl rfl) (.inr rfl))) wz (fun _ _ _ _=>(bj (bf 2) (d9 false D_6 (hr.mono h_6) rfl (aj (bf 1) (aj (qx (L2.CallR.or gf gh) qe rfl M.len w6 (aj (bf 2) az)) az))) (fun _ _=>rfl))))) az))))))
theorem alz:FnScope ["_law_table_here", "_law_text_here", "_law_at", "_law_room", "_law_due", "_law_place"] ["_law_table_here", "_law_text_here", "_law_at"] (aq (top 23)):=⟨rfl,rfl,rfl,by decide +kernel,rfl,by decide +kernel,by decide +kernel⟩
theorem aqx {k:Nat} (M:Nm mg) (cdv:Value) (A:Around) (outer:List Env) (s:Shared) (H:Hp) (E:XK) (hr:Room k (A.deeper (PyProof.Rows.envOfC "_law_first" (aq (top 23)) s.heap.objs.size f cdv))):MSs (a0j CX0 P w K mg base ["_law_table_here", "_law_text_here", "_law_at", "_law_room", "_law_due", "_law_place"] "_law_first" (aq (top 23)) f cdv A outer s H E).nox X0 (dz (top 23)) (SRC.vh) :=
 have SC:=alz
 (ao (dh (i:=3) SC.nd rfl (Or.inl rfl) au)
 (ao (dh (i:=4) SC.nd rfl (Or.inl rfl) a5o)
 (ao (zx PassesOwn.never rfl (aan rfl M.range (aj (bf 2) (aj (qx (L2.CallR.or gf gh) qe rfl M.len w6 (aj (bf 1) az)) az))) (jn (i:=5) SC.nd rfl (Or.inl rfl)) (ao (dh (i:=3) SC.nd rfl (Or.inl rfl) (bj (bj (bj (bf 0) au (fun _ _=>rfl)) (bf 3) (fun _ _=>rfl)) (ahv PySem.F.slot_str_find PySem.F.type_str_find ahe adq (bj (bf 0) au (fun _ _=>rfl)) (aj (bj (bf 1) (bf 5) (fun _ _=>rfl)) az)) (fun _ _=>rfl)))
 (bz (ud (gq aka ag3 (bj (bj (bf 0) au (fun _ _=>rfl)) (bf 3) (fun _ _=>rfl)) au (j8 _))
 (bz (dh (i:=4) SC.nd rfl (Or.inl rfl) (yp (aj (bj (bj (bf 0) au (fun _ _=>rfl)) (bf 3) (fun _ _=>rfl)) (aj (km (bf 5) au) az)))))
 j6))))
 (bz (jd (bf 4))))))
theorem am0:FnScope ["_law_table_here", "_law_text_here", "_law_told_here", "_law_place", "_law_found"] ["_law_table_here", "_law_text_here"] (aq (top 24)):=⟨rfl,rfl,rfl,by decide +kernel,rfl,by decide +kernel,by decide +kernel⟩
theorem aqy {k:Nat} {a_12:Addr} {d_12:FuncData} {k_12:Nat} {F_12:SF} (D_12:Dn P w K mg base k_12 "_law_first" ["_law_table_here", "_law_text_here", "_law_at"] (ue K 3 F_12) a_12 d_12) (h_12:k_12≤k) (cdv:Value) (A:Around) (outer:List Env) (s:Shared) (H:Hp) (E:XK) (hr:Room k (A.deeper (PyProof.Rows.envOfC "_law_cut" (aq (top 24)) s.heap.objs.size f cdv))):MSs (a0j CX0 P w K mg base ["_law_table_here", "_law_text_here", "_law_told_here", "_law_place", "_law_found"] "_law_cut" (aq (top 24)) f cdv A outer s H E).nox X0 (dz (top 24)) (a03 F_12) :=
 have SC:=am0
 (ao (dh (i:=2) SC.nd rfl (Or.inl rfl) (a1q az))
 (ao (dh (i:=3) SC.nd rfl (Or.inl rfl) au)
 (ao (dh (i:=4) SC.nd rfl (Or.inl rfl) (d9 false D_12 (hr.mono h_12) rfl (aj (bf 0) (aj (bf 1) (aj (bf 3) az)))))
 (ao (a3o 100000 PassesOwn.never (gq (a9r.or a1n) a5t (bf 4) a5o (j8 _)) (ao (v5 (a3t PySem.F.slot_list_append PySem.F.type_list_append qw zc (bf 2) (aj (yp (aj (bj (bf 4) au (fun _ _=>rfl)) (aj (bf 3) (aj (bj (bf 4) au (fun _ _=>rfl)) az)))) az)))
 (ao (dh (i:=3) SC.nd rfl (Or.inl rfl) (bj (bf 4) au (fun _ _=>rfl)))
 (bz (dh (i:=4) SC.nd rfl (Or.inl rfl) (d9 false D_12 (hr.mono h_12) rfl (aj (bf 0) (aj (bf 1) (aj (bf 3) az)))))))))
 (bz (jd (yp (aj (bf 2) (aj (bf 3) az)))))))))
theorem am1:FnScope ["_law_found", "_law_many", "_law_one"] ["_law_found", "_law_many"] (aq (top 25)):=⟨rfl,rfl,rfl,by decide +kernel,rfl,by decide +kernel,by decide +kernel⟩
theorem aqz {k:Nat} (M:Nm mg) (cdv:Value) (A:Around) (outer:List Env) (s:Shared) (H:Hp) (E:XK) (hr:Room k (A.deeper (PyProof.Rows.envOfC "_law_numbers" (aq (top 25)) s.heap.objs.size f cdv))):MSs (a0j CX0 P w K mg base ["_law_found", "_law_many", "_law_one"] "_law_numbers" (aq (top 25)) f cdv A outer s H E).nox X0 (dz (top 25)) (SRC.qp) :=
 have SC:=am1
 (ao (ud (PW.pt (a70 (zr (wy (qx (L2.CallR.or n8 lz) yg rfl M.isinstance ik (aj (bf 0) (aj (a8t rfl M.tuple zp) az))))) (a5p (gq (a2t hr.u) a0c (qx (L2.CallR.or gf gh) qe rfl M.len w6 (aj (bf 0) az)) (bf 1) (j8 _)))))
 (bz (jd aad))
 j6)
 (ao (zx PassesOwn.never rfl (uw (bf 0)) (jn (i:=2) SC.nd rfl (Or.inl rfl)) (bz (ud (PW.pt (a70 (zr (wy (qx (L2.CallR.or n8 lz) yg rfl M.isinstance ik (aj (bf 2) (aj (a8t rfl M.int aft) az))))) (a5p (wy (qx (L2.CallR.or n8 lz) yg rfl M.isinstance ik (aj (bf 2) (aj (a8t rfl M.bool ahz) az)))))))
 (bz (jd aad))
 j6)))
 (bz (jd aad))))
theorem am2:FnScope ["_law_left", "_law_tongue_here", "_law_text_here", "_law_which", "_law_rest", "_law_at"] ["_law_left", "_law_tongue_here", "_law_text_here"] (aq (top 26)):=⟨rfl,rfl,rfl,by decide +kernel,rfl,by decide +kernel,by decide +kernel⟩
theorem ar0 {k:Nat} (M:Nm mg) {a_6:Addr} {d_6:FuncData} {k_6:Nat} {F_6:SF} (D_6:Dn P w K mg base k_6 "_law_draw" ["_law_left", "_law_many"] (ue K 2 F_6) a_6 d_6) (h_6:k_6≤k) {a_7:Addr} {d_7:FuncData} {k_7:Nat} {F_7:SF} (D_7:Dn P w K mg base k_7 "_law_signs" [] (ue K 0 F_7) a_7 d_7) (h_7:k_7≤k) (cdv:Value) (A:Around) (outer:List Env) (s:Shared) (H:Hp) (E:XK) (hr:Room k (A.deeper (PyProof.Rows.envOfC "_law_bad" (aq (top 26)) s.heap.objs.size f cdv))):MSs (a0j CX0 P w K mg base ["_law_left", "_law_tongue_here", "_law_text_here", "_law_which", "_law_rest", "_law_at"] "_law_bad" (aq (top 26)) f cdv A outer s H E).nox X0 (dz (top 26)) (jz F_6 F_7) :=
 have SC:=am2
 (ao (dh (i:=3) SC.nd rfl (Or.inl rfl) (d9 false D_6 (hr.mono h_6) rfl (aj (bf 0) (aj au az))))
 (ao (ud (gq (a0n hr.u) xj (bf 3) au (j8 _))
 (bz (jd a5o))
 j6)
 (ao (ud (gq (a0n hr.u) xj (bf 3) au (j8 _))
 (bz (jd au))
 j6)
 (ao (ud (gq (a0n hr.u) xj (bf 3) au (j8 _))
 (bz (jd (a0b rfl (CSc.noFree (ts:=["_law_sign"]) rfl (by decide +kernel) (by decide +kernel) (by decide +kernel)) (uw (bf 2)) (fun _ _ _ _=>(qd (i:=0) (show (["_law_sign"]:List Str).Nodup by decide +kernel) rfl (Or.inl rfl) (.inr rfl))) wz (fun _ _ _ _=>(bf 0)))))
 j6)
 (ao (ae1 (i:=4) SC.nd rfl (Or.inl rfl) rfl (CSc.of (ts:=["_law_sign"]) (fr:=["_law_tongue_here"]) (ix:=[1]) rfl rfl rfl rfl (by intro p hp;cases List.mem_singleton.mp hp;rfl) rfl rfl rfl rfl) (uw (a65 false D_7 (hr.mono h_7) rfl)) (fun _ _ _ _=>(qd (i:=0) (show (["_law_sign", "_law_tongue_here"]:List Str).Nodup by decide +kernel) rfl (Or.inl rfl) (.inr rfl))) wz (fun _ _ _ _=>(bf 0)) (fun _ _ _ _=>(gq (a2m.or a0k) aat (bf 0) (bf 1) (by with_unfolding_all rfl))))
 (ao (dh (i:=2) SC.nd rfl (Or.inl rfl) (qz (bf 2) yx (yz au)))
 (ao (dh (i:=5) SC.nd rfl (Or.inl rfl) (d9 false D_6 (hr.mono h_6) rfl (aj (bf 0) (aj (km (qx (L2.CallR.or gf gh) qe rfl M.len w6 (aj (bf 2) az)) au) az))))
 (bz (jd (km (km (qz (bf 2) yx (yz (bf 5))) (bj (bf 4) (d9 false D_6 (hr.mono h_6) rfl (aj (bf 0) (aj (qx (L2.CallR.or gf gh) qe rfl M.len w6 (aj (bf 4) az)) az))) (fun _ _=>rfl))) (qz (bf 2) (yz (bf 5)) yx)))))))))))
theorem am3:FnScope ["_law_found", "_law_due", "_law_k"] ["_law_found", "_law_due"] (aq (top 27)):=⟨rfl,rfl,rfl,by decide +kernel,rfl,by decide +kernel,by decide +kernel⟩
theorem ar3 {k:Nat} (M:Nm mg) {a_14:Addr} {d_14:FuncData} {k_14:Nat} {F_14:SF} (D_14:Dn P w K mg base k_14 "_law_numbers" ["_law_found", "_law_many"] (ue K 2 F_14) a_14 d_14) (h_14:k_14≤k) (cdv:Value) (A:Around) (outer:List Env) (s:Shared) (H:Hp) (E:XK) (hr:Room k (A.deeper (PyProof.Rows.envOfC "_law_told" (aq (top 27)) s.heap.objs.size f cdv))):MSs (a0j CX0 P w K mg base ["_law_found", "_law_due", "_law_k"] "_law_told" (aq (top 27)) f cdv A outer s H E).nox X0 (dz (top 27)) (yj F_14) :=
 have SC:=am3
 (ao (ud (PW.pt (a70 (zr (wy (qx (L2.CallR.or n8 lz) yg rfl M.isinstance ik (aj (bf 0) (aj (a8t rfl M.tuple zp) az))))) (a70 (gq (a2t hr.u) a0c (qx (L2.CallR.or gf gh) qe rfl M.len w6 (aj (bf 0) az)) au (j8 _)) (a5p (zr (wy (qx (L2.CallR.or n8 lz) yg rfl M.isinstance ik (aj (bj (bf 0) au (fun _ _=>rfl)) (aj (a8t rfl M.list ahc) az)))))))))
 a2v
 j6)
 (ao (ud (PW.pt (a70 (zr (wy (d9 false D_14 (hr.mono h_14) rfl (aj (yp (aj (bj (bf 0) au (fun _ _=>rfl)) az)) (aj au az))))) (a70 (gq (a2t hr.u) a0c (bj (bf 0) au (fun _ _=>rfl)) (bj (bf 1) au (fun _ _=>rfl)) (j8 _)) (a5p (gq (a2t hr.u) a0c (qx (L2.CallR.or gf gh) qe rfl M.len w6 (aj (bj (bf 0) au (fun _ _=>rfl)) az)) (qx (L2.CallR.or gf gh) qe rfl M.len w6 (aj (bj (bf 1) au (fun _ _=>rfl)) az)) (j8 _))))))
 a2v
 j6)
 (ao (zx PassesOwn.never rfl (a3r rfl M.range (aj (qx (L2.CallR.or gf gh) qe rfl M.len w6 (aj (bj (bf 1) au (fun _ _=>rfl)) az)) az)) (jn (i:=2) SC.nd rfl (Or.inl rfl)) (bz (ud (PW.pt (a70 (zr (wy (d9 false D_14 (hr.mono h_14) rfl (aj (bj (bj (bf 0) au (fun _ _=>rfl)) (bf 2) (fun _ _=>rfl)) (aj au az))))) (a5p (gq (a2t hr.u) a0c (bj (bj (bf 0) au (fun _ _=>rfl)) (bf 2) (fun _ _=>rfl)) (bj (bj (bf 1) au (fun _ _=>rfl)) (bf 2) (fun _ _=>rfl)) (j8 _)))))
 a2v
 j6)))
 (bz (jd aad)))))
theorem am4:FnScope ["_law_table_here", "_law_bad_here", "_law_told_here", "e"] ["_law_table_here", "_law_bad_here"] (aq (top 28)):=⟨rfl,rfl,rfl,by decide +kernel,rfl,by decide +kernel,by decide +kernel⟩
theorem ar4 {k:Nat} (M:Nm mg) {y_NoText y_ReachError y_Closed y_NoQuote y_NoWord y_Stopped:Addr} (Z:Xn K mg y_NoText y_ReachError y_Closed y_NoQuote y_NoWord y_Stopped) {a_4:Addr} {d_4:FuncData} {k_4:Nat} {F_4:SF} (D_4:DnX P w K mg base k_4 "cut" ["table", "text"] (spX K mg 2 F_4) a_4 d_4) (h_4:k_4≤k) (cdv:Value) (A:Around) (outer:List Env) (s:Shared) (H:Hp) (E:XK) (hr:Room k (A.deeper (PyProof.Rows.envOfC "_law_refused" (aq (top 28)) s.heap.objs.size f cdv))):MSs (a0j CX0 P w K mg base ["_law_table_here", "_law_bad_here", "_law_told_here", "e"] "_law_refused" (aq (top 28)) f cdv A outer s H E).nox X0 (dz (top 28)) (qt F_4) :=
 have SC:=am4
 (ao (dh (i:=2) SC.nd rfl (Or.inl rfl) aad)
 (ao (alr (i:=3) ⟨rfl,Z.g_ReachError,SC.nd,rfl,rfl,⟨rfl,rfl⟩,by decide⟩ (a2e Z)
 (aik (aij D_4 (hr.mono h_4) rfl (aj (bf 0) (aj (bf 1) az))))
 (fun a=>(ao (dh (i:=2) SC.nd rfl (Or.inl rfl) (aah (agd (i:=3) rfl M.isinstance ik rfl (Or.inl rfl) (a1f (v:=.ref y_NoText) rfl Z.g_NoText rfl) (.inl ⟨_,rfl,rfl⟩) (abk Z)) (aag (agd (i:=3) rfl M.isinstance ik rfl (Or.inl rfl) (a9j (v:=.ty "ValueError") rfl M.ValueError PyProof.Rows.Boot.«ValueError» rfl) (.inr ⟨_,rfl,rfl⟩) (a4o Z)))))
 (bz (ud (wy (ail (i:=3) (cs:=[y_Closed,y_NoQuote,y_NoWord,y_Stopped]) rfl M.isinstance ik rfl (Or.inl rfl) (um (a1f (v:=.ref y_Closed) rfl Z.g_Closed rfl) (um (a1f (v:=.ref y_NoQuote) rfl Z.g_NoQuote rfl) (um (a1f (v:=.ref y_NoWord) rfl Z.g_NoWord rfl) (um (a1f (v:=.ref y_Stopped) rfl Z.g_Stopped rfl) a5d)))) (fun _ _ _ q=>q) (a6v (by simp)) (my Z)))
 a2v
 j6)))))
 (bz (jd (bf 2)))))
theorem am5:FnScope ["_law_script", "_law_left", "_law_table_here", "_law_text_here", "_law_bad_here", "_law_due", "_law_held", "_law_found"] ["_law_script"] (aq (top 29)):=⟨rfl,rfl,rfl,by decide +kernel,rfl,by decide +kernel,by decide +kernel⟩
theorem ar5 {k:Nat} {a_15:Addr} {d_15:FuncData} {k_15:Nat} {F_15:SF} (D_15:Dn P w K mg base k_15 "_law_bad" ["_law_left", "_law_tongue_here", "_law_text_here"] (ue K 3 F_15) a_15 d_15) (h_15:k_15≤k) {a_13:Addr} {d_13:FuncData} {k_13:Nat} {F_13:SF} (D_13:Dn P w K mg base k_13 "_law_cut" ["_law_table_here", "_law_text_here"] (ue K 2 F_13) a_13 d_13) (h_13:k_13≤k) {a_17:Addr} {d_17:FuncData} {k_17:Nat} {F_17:SF} (D_17:Dn P w K mg base k_17 "_law_refused" ["_law_table_here", "_law_bad_here"] (ue K 2 F_17) a_17 d_17) (h_17:k_17≤k) {a_5:Addr} {d_5:FuncData} {k_5:Nat} {F_5:SF} (D_5:Dn P w K mg base k_5 "_law_source" ["_law_script"] (ue K 1 F_5) a_5 d_5) (h_5:k_5≤k) {a_10:Addr} {d_10:FuncData} {k_10:Nat} {F_10:SF} (D_10:Dn P w K mg base k_10 "_law_table" ["_law_left", "_law_most"] (ue K 2 F_10) a_10 d_10) (h_10:k_10≤k) {a_11:Addr} {d_11:FuncData} {k_11:Nat} {F_11:SF} (D_11:Dn P w K mg base k_11 "_law_text" ["_law_left", "_law_tongue_here"] (ue K 2 F_11) a_11 d_11) (h_11:k_11≤k) {a_16:Addr} {d_16:FuncData} {k_16:Nat} {F_16:SF} (D_16:Dn P w K mg base k_16 "_law_told" ["_law_found", "_law_due"] (ue K 2 F_16) a_16 d_16) (h_16:k_16≤k) {a_4:Addr} {d_4:FuncData} {k_4:Nat} {F_4:SF} (D_4:DnX P w K mg base k_4 "cut" ["table", "text"] (spX K mg 2 F_4) a_4 d_4) (h_4:k_4≤k) (cdv:Value) (A:Around) (outer:List Env) (s:Shared) (H:Hp) (E:XK) (hr:Room k (A.deeper (PyProof.Rows.envOfC "law" (aq (top 29)) s.heap.objs.size f cdv))):MSs (a0j CX0 P w K mg base ["_law_script", "_law_left", "_law_table_here", "_law_text_here", "_law_bad_here", "_law_due", "_law_held", "_law_found"] "law" (aq (top 29)) f cdv A outer s H E).nox X0 (dz (top 29)) (aev F_15 F_13 F_17 F_5 F_10 F_11 F_16 F_4) :=
 have SC:=am5
 (ao (dh (i:=1) SC.nd rfl (Or.inl rfl) (d9 true D_5 (hr.mono h_5) rfl (aj (bf 0) az)))
 (ao (dh (i:=2) SC.nd rfl (Or.inl rfl) (d9 false D_10 (hr.mono h_10) rfl (aj (bf 1) (aj au az))))
 (ao (dh (i:=3) SC.nd rfl (Or.inl rfl) (d9 false D_11 (hr.mono h_11) rfl (aj (bf 1) (aj (bj (bf 2) au (fun _ _=>rfl)) az))))
 (ao (dh (i:=4) SC.nd rfl (Or.inl rfl) (d9 false D_15 (hr.mono h_15) rfl (aj (bf 1) (aj (bj (bf 2) au (fun _ _=>rfl)) (aj (bf 3) az)))))
 (ao (dh (i:=5) SC.nd rfl (Or.inl rfl) (d9 false D_13 (hr.mono h_13) rfl (aj (bf 2) (aj (bf 3) az))))
 (ao (dh (i:=6) SC.nd rfl (Or.inl rfl) (a6c D_4 (hr.mono h_4) rfl (aj (bf 2) (aj (bf 3) az))))
 (ao (ud (zr (wy (d9 false D_16 (hr.mono h_16) rfl (aj (bf 6) (aj (bf 5) az)))))
 a2v
 j6)
 (ao (dh (i:=7) SC.nd rfl (Or.inl rfl) (aek D_4 (hr.mono h_4) rfl (aj (bf 2) (aj (bf 3) az))))
 (ao (v5 (a3t PySem.F.slot_list_append PySem.F.type_list_append qw zc (bj (bf 7) au (fun _ _=>rfl)) (aj (yp (aj au (aj au (aj au az)))) az)))
 (ao (v5 (a3t PySem.F.slot_list_pop PySem.F.type_list_pop ad9 aaw (bj (bf 7) au (fun _ _=>rfl)) (aj au az)))
 (ao (ud (zr (wy (d9 false D_17 (hr.mono h_17) rfl (aj (bf 2) (aj (bf 4) az)))))
 a2v
 j6)
 (bz (jd (aah (d9 false D_16 (hr.mono h_16) rfl (aj (a6c D_4 (hr.mono h_4) rfl (aj (bf 2) (aj (bf 3) az))) (aj (bf 5) az))) (aag (d9 false D_16 (hr.mono h_16) rfl (aj (bf 6) (aj (bf 5) az))))))))))))))))))
end
end K35
namespace K34
open PySem PySem.Spec L2 MI
noncomputable def ie:SS :=
 (p7 (sML a3u (sV 6) (ak (s2 gIx (s2 gIx (sV 4) (s2 gIx (sV 6) (s1 a8y (sC (.int 1))))) (sMS a2r (sV 3) (ak (sV 7) dg))) dg)))
noncomputable def j5:SS :=
 (du (a8w (sV 0) (a72 3 (mq (kN 3) (mq (kN 4) (mq (kN 5) a7l)))))
 (du (j7 6 (sA a71 (ak (sV 1) dg)))
 (du (a5q (sIt (sV 2)) (kN 7) ie)
 (uc (sV 6)))))
noncomputable def ju (cj:SF):SS :=
 (sIf (sT (s2 hNe (s2 gIx (sV 3) (sV 6)) (s1 a8y (sC (.int 1)))))
 (j7 4 (sA a0v (ak (s2 gIx (sV 3) (sV 6)) (ak (sV 5) dg))))
 sNx)
noncomputable def qu (cj:SF):SS :=
 (du (j7 3 (s2 gIx (sV 0) (sC (.int 2))))
 (du (j7 4 (sC .non))
 (du (a5q (a6g (sA (j4 false 3 cj) (ak (sV 0) (ak (sC (.int 0)) (ak (a2d (sV 1) (oS (sV 2)) oN) dg)))) (sV 2)) (a72 2 (mq (kN 5) (mq (kN 6) a7l))) (ju cj))
 (uc (sV 4)))))
noncomputable def uh (aa:SF) (bc:SF):SE :=
 (sV 0)
noncomputable def ul (aa:SF) (bc:SF):SE :=
 (sV 0)
noncomputable def m5 (aa:SF) (bc:SF):ST :=
 (sT (s2 (gIn true) (sV 0) (sV 1)))
noncomputable def jz (aa:SF) (bc:SF):SS :=
 (du (j7 3 (sA (j4 false 2 aa) (ak (sV 0) (ak (sC (.int 6)) dg))))
 (du (sIf (sT (s2 hEq (sV 3) (sC (.int 0))))
 (uc (sC .non))
 sNx)
 (du (sIf (sT (s2 hEq (sV 3) (sC (.int 1))))
 (uc (sC (.int 7)))
 sNx)
 (du (sIf (sT (s2 hEq (sV 3) (sC (.int 2))))
 (uc (jo (sIt (sV 2)) t1 (uh aa bc) []))
 sNx)
 (du (j7 4 (sZ (a1r (sIt (sA (j4 false 0 bc) dg)) t1 (m5 aa bc) (ul aa bc) [1])))
 (du (j7 2 (a2d (sV 2) oN (oS (sC (.int 239)))))
 (du (j7 5 (sA (j4 false 2 aa) (ak (sV 0) (ak (s2 jm (sA zb (ak (sV 2) dg)) (sC (.int 1))) dg))))
 (uc (s2 jm (s2 jm (a2d (sV 2) oN (oS (sV 5))) (s2 gIx (sV 4) (sA (j4 false 2 aa) (ak (sV 0) (ak (sA zb (ak (sV 4) dg)) dg))))) (a2d (sV 2) (oS (sV 5)) oN))))))))))
end K34
namespace HND
open PySem PySem.Spec L2 MI
noncomputable def u5:SS :=
 (du (j7 0 (sC (.str " !\"#$&'()*+,-./0123456789:;<=>?@ABCDEFGHIJKLMNOPQRSTUVWXYZ[\\]^_`")))
 (uc (s2 jm (sV 0) (sC (.str "abcdefghijklmnopqrstuvwxyz{|}~\n")))))
end HND
namespace MI
open PySem PySem.Spec L2
abbrev S (l:List Nat):Str:=⟨l.toArray⟩
theorem a04 (l:List Nat):(S l).cps.toList=l:=by simp
theorem a7a (l:List Nat):(S l).length=l.length:=by simp [Str.length]
theorem aew (x:Str):S x.cps.toList=x:=by cases x;simp
theorem ain (a b:List Nat):S a++S b=S (a++b):=by rw [← aew (S a++S b),aoh]
section
variable {h:Hd} {a b l:List Nat} {i:Nat} {c:Nat}
theorem aot (hl:l.length≤LINE) (e:l[i]? = some c):gIx (.str (S l)) (.int (i:Nat)) h = .ok (.str (S [c])) h:=by
 unfold gIx
 simp only [a7a,if_pos hl,a04,n6 e]
theorem abl (hl:a.length+b.length≤LINE):jm (.str (S a)) (.str (S b)) h = .ok (.str (S (a++b))) h:=by
 unfold jm
 simp only [a7a,if_pos hl,ain]
theorem aex (hl:l.length≤LINE):zb [.str (S l)] h = .ok (.int l.length) h:=by
 unfold zb
 simp only [a7a,if_pos hl]
theorem aou (k:Nat) (hl:l.length≤LINE):ae3 (.str (S l)) none (some (k:Int)) h = .ok (.str (S (l.take k))) h:=by
 show gSl (.str (S l)) none (some (k:Int)) h=_
 unfold gSl
 simp only [a7a,if_pos hl,a04,aa9]
theorem abm (k:Nat) (hl:l.length≤LINE):ae3 (.str (S l)) (some (k:Int)) none h = .ok (.str (S (l.drop k))) h:=by
 show gSl (.str (S l)) (some (k:Int)) none h=_
 unfold gSl
 simp only [a7a,if_pos hl,a04,aaa]
end
section
variable {h:Hd} {i j:Int} {xs ys:List D}
theorem a1j:gIx (.tup xs) (.int i) h=(match atI xs i with | some d=>.ok d h | none=>.no):=rfl
theorem a6h:gIx (.rol xs) (.int i) h=(match atI xs i with | some d=>.ok d h | none=>.no):=rfl
theorem a2y {k:Nat}:gIx (.ref k) (.int i) h=(match xg (.ref k) h with | some xs=>(match atI xs i with | some d=>.ok d h | none=>.no) | none=>.no):=rfl
theorem a0h:zb [.tup xs] h = .ok (.int xs.length) h:=rfl
theorem yc:zb [.rol xs] h = .ok (.int xs.length) h:=rfl
theorem a1x {k:Nat}:zb [.ref k] h=(match xg (.ref k) h with | some xs=>.ok (.int xs.length) h | none=>.no):=rfl
theorem yr:jm (.int i) (.int j) h = .ok (.int (i+j)) h:=rfl
theorem a1y:a1t (.int i) (.int j) h = .ok (.int (i+j)) h:=rfl
open Classical in
theorem a6i:a0s (.int i) (.int j) h=if CMul i j then .ok (.int (i*j)) h else .no:=by unfold a0s;rfl
theorem qi (b:Bool):tru (.bl b) h = .ok b h:=rfl
theorem a4p:tru (.int i) h = .ok (i != 0) h:=rfl
theorem a4q:tru (.rol xs) h = .ok (!xs.isEmpty) h:=rfl
theorem a4r:tru (.tup xs) h = .ok (!xs.isEmpty) h:=rfl
theorem a4s:tru .non h = .ok false h:=rfl
theorem a96:hEq (.int i) (.int j) h = .ok (.bl (i == j)) h:=rfl
theorem a97:hNe (.int i) (.int j) h = .ok (.bl (!(i == j))) h:=rfl
theorem aey (a b:Bool):hEq (.bl a) (.bl b) h = .ok (.bl (a == b)) h:=rfl
theorem aez (a b:Bool):hNe (.bl a) (.bl b) h = .ok (.bl (!(a == b))) h:=rfl
theorem a87 (x:D):gIs x .non h = .ok (.bl (a2c x)) h:=by cases x<;>rfl
theorem pq (x:D):a2q x .non h = .ok (.bl (!a2c x)) h:=by cases x<;>rfl
theorem af0 (a b:Bool):gIs (.bl a) (.bl b) h = .ok (.bl (a == b)) h:=rfl
theorem a1b (a b:Bool):a2q (.bl a) (.bl b) h = .ok (.bl (a != b)) h:=rfl
theorem ane:a2c (.int i)=false:=rfl
theorem anf (x:Str):a2c (.str x)=false:=rfl
theorem ang:a2c .non=true:=rfl
theorem anh:a2c (.tup xs)=false:=rfl
end
end MI
namespace HND
open PySem PySem.Spec L2 MI AT
local macro_rules | `(tactic| walk_at "ev") => `(tactic| simp only [nq,xn,a7z,a68,a80,j7,acr,a66,sIf,uc,p7,ahk,put,ae7,a8w,a72,mq,a7l,kN,sV,sC,s2,s1,sA,ak,dg,sNx,sT,asB,a3l,qi,a4p,a4q,a4r,a4s,a8v,sOr,a3m,zu,anb,adh,sCh,aai,cu,a4f,MI.a1j,MI.a6h,MI.a2y,ai5,xg,gLt,gGt,gGe,gLe,a96,a97,aey,aez,a87,pq,af0,a1b,ane,anf,ang,anh,yr,MI.a8g,a6p,acu,a6i,AT.abj,AT.p18,a0h,yc,a1x,ahs,a1y,a8y,a5u,adn,MI.a0v,MI.a71,sML,isL,a3u,oN,oS,a2d,ym,sIt,adk,sRg,List.length_map,List.length_cons,List.length_nil,List.length_append,List.getElem?_cons_zero,List.getElem?_cons_succ,List.set_cons_zero,List.set_cons_succ,List.nil_append,List.cons_append,AT.aen,AT.aeo,AT.aep,AT.aeq,AT.aer,AT.aes,AT.aet,AT.aeu,AT.x10,AT.x20,AT.x21,AT.x30,AT.x31,AT.x32,AT.x40,AT.x41,AT.x42,AT.x43,AT.x50,AT.x51,AT.x52,AT.x53,AT.x54,AT.x60,AT.x61,AT.x62,AT.x63,AT.x64,AT.x65,AT.x70,AT.x71,AT.x72,AT.x73,AT.x74,AT.x75,AT.x76,decide_true,decide_false,reduceIte,Bool.true_and,Bool.and_self,Bool.not_true,Bool.not_false,and_self,true_and,and_true,beq_self_eq_true,Nat.reduceAdd,Nat.reduceLeDiff,Nat.reduceLT,Nat.reducePow,Int.reduceLT,Int.reduceLE,Int.reduceNeg,Int.reduceEq,Int.reduceBEq,Bool.false_eq_true,Bool.true_eq_false,ite_true,ite_false,if_true,if_false, *])
end HND
namespace HND
open PySem PySem.Spec L2 MI AT
local macro_rules | `(tactic| walk_at "ev") => `(tactic| simp only [nq,xn,a7z,a68,a80,j7,acr,a66,sIf,uc,p7,ahk,put,ae7,a8w,a72,mq,a7l,kN,sV,sC,s2,s1,sA,ak,dg,sNx,sT,asB,a3l,qi,a4p,a4q,a4r,a4s,a8v,sOr,a3m,zu,anb,adh,sCh,aai,cu,a4f,MI.a1j,MI.a6h,MI.a2y,ai5,xg,gLt,gGt,gGe,gLe,a96,a97,aey,aez,a87,pq,af0,a1b,ane,anf,ang,anh,yr,MI.a8g,a6p,acu,a6i,AT.abj,AT.p18,a0h,yc,a1x,ahs,a1y,a8y,a5u,adn,MI.a0v,MI.a71,sML,isL,a3u,oN,oS,a2d,ym,sIt,adk,sRg,a5q,a0r,a3q,alj,ali,aid,apg,aon,srcOf,  List.length_map,List.length_cons,List.length_nil,List.length_append,List.getElem?_cons_zero,List.getElem?_cons_succ,List.set_cons_zero,List.set_cons_succ,List.nil_append,List.cons_append,AT.aen,AT.aeo,AT.aep,AT.aeq,AT.aer,AT.aes,AT.aet,AT.aeu,AT.x10,AT.x20,AT.x21,AT.x30,AT.x31,AT.x32,AT.x40,AT.x41,AT.x42,AT.x43,AT.x50,AT.x51,AT.x52,AT.x53,AT.x54,AT.x60,AT.x61,AT.x62,AT.x63,AT.x64,AT.x65,AT.x70,AT.x71,AT.x72,AT.x73,AT.x74,AT.x75,AT.x76,decide_true,decide_false,reduceIte,Bool.true_and,Bool.and_self,Bool.not_true,Bool.not_false,and_self,true_and,and_true,beq_self_eq_true,Nat.reduceAdd,Nat.reduceLeDiff,Nat.reduceLT,Nat.reducePow,Int.reduceLT,Int.reduceLE,Int.reduceNeg,Int.reduceEq,Int.reduceBEq,Bool.false_eq_true,Bool.true_eq_false,ite_true,ite_false,if_true,if_false, *])
def ani:Str := " !\"#$&'()*+,-./0123456789:;<=>?@ABCDEFGHIJKLMNOPQRSTUVWXYZ[\\]^_`"
def anj:Str := "abcdefghijklmnopqrstuvwxyz{|}~\n"
def sig:List Nat:=ani.cps.toList++anj.cps.toList
theorem a4t:sig.length=95:=by decide +kernel
theorem agf:sig.Nodup:=by decide +kernel
noncomputable def bc:SF:=jr u5 1
theorem lits {h:Hd}:jm (.str ani) (.str anj) h = .ok (.str (S sig)) h:=by
 rw [← aew ani,← aew anj,abl (by decide +kernel)]
 rfl
theorem a1c:Pu bc 0 [] (.str (S sig)):=by
 refine Pu.of rfl (by simp) (r:=.ok (.str (S sig)) []) ?_ (by rw [jk (iz _) (by simp)];rfl) (iz _)
 unfold bc
 rw [gj]
 unfold u5
 have e:=@lits []
 unfold ani anj at e
 show toR (du (j7 0 _) _ [none] [])=_
 simp only [nq,j7,sC,a4f,xn,uc,s2,sV,List.set_cons_zero,List.getElem?_cons_zero,cu,e,a68]
structure Tongue (l:List Nat):Prop where
 lo:1≤l.length
 hi:l.length≤6
 nd:l.Nodup
 sub:∀ c∈l,c∈sig
theorem abn (a r:List Nat) (i:Nat) (c:Nat) (e:r[i]? = some c):List.Perm (a++r) ((a++[c])++(r.take i++r.drop (i+1))):=by
 obtain ⟨hi,e⟩:=List.getElem?_eq_some_iff.mp e
 have:r=r.take i++c::r.drop (i+1):=by rw [← e];simp
 rw [List.append_assoc]
 refine List.Perm.append_left a ?_
 rw [List.singleton_append]
 conv=>lhs;rw [this]
 exact List.perm_middle
end HND
namespace SRC
open PySem PySem.Spec L2 MI AT
local macro_rules | `(tactic| walk_at "ev") => `(tactic| simp only [nq,xn,a7z,a68,a80,j7,acr,a66,sIf,uc,p7,ahk,put,ae7,a8w,a72,mq,a7l,kN,sV,sC,s2,s1,sA,ak,dg,sNx,sT,asB,a3l,qi,a4p,a4q,a4r,a4s,a8v,sOr,a3m,zu,anb,adh,sCh,aai,cu,a4f,MI.a1j,MI.a6h,MI.a2y,ai5,xg,gLt,gGt,gGe,gLe,a96,a97,aey,aez,a87,pq,af0,a1b,ane,anf,ang,anh,yr,MI.a8g,a6p,acu,a6i,AT.abj,AT.p18,a0h,yc,a1x,ahs,a1y,a8y,a5u,adn,MI.a0v,MI.a71,sML,isL,a3u,oN,oS,a2d,ym,sIt,adk,sRg,List.length_map,List.length_cons,List.length_nil,List.length_append,List.getElem?_cons_zero,List.getElem?_cons_succ,List.set_cons_zero,List.set_cons_succ,List.nil_append,List.cons_append,AT.aen,AT.aeo,AT.aep,AT.aeq,AT.aer,AT.aes,AT.aet,AT.aeu,AT.x10,AT.x20,AT.x21,AT.x30,AT.x31,AT.x32,AT.x40,AT.x41,AT.x42,AT.x43,AT.x50,AT.x51,AT.x52,AT.x53,AT.x54,AT.x60,AT.x61,AT.x62,AT.x63,AT.x64,AT.x65,AT.x70,AT.x71,AT.x72,AT.x73,AT.x74,AT.x75,AT.x76,decide_true,decide_false,reduceIte,Bool.true_and,Bool.and_self,Bool.not_true,Bool.not_false,and_self,true_and,and_true,beq_self_eq_true,Nat.reduceAdd,Nat.reduceLeDiff,Nat.reduceLT,Nat.reducePow,Int.reduceLT,Int.reduceLE,Int.reduceNeg,Int.reduceEq,Int.reduceBEq,Bool.false_eq_true,Bool.true_eq_false,ite_true,ite_false,if_true,if_false, *])
structure Src (o:O) (N:Nat):Prop where
 ex:∃ (cells:List Int) (a l c s:Int),o = .lst [.rol (cells.map D.int), .int a, .int l, .int c, .int s]∧0≤a∧0≤l∧0≤s∧s<2147483647∧0≤c∧c≤N
theorem Src.clo {o:O} {N:Nat} (P:Src o N):a07 0 o:=by
 obtain ⟨cells,a,l,c,s,rfl,_⟩:=P.ex
 exact fj (v7 (gk fun x _=>di x)) (fj (di _) (fj (di _) (fj (di _) (fj (di _) v6))))
theorem Src.up {o:O} {N M:Nat} (P:Src o N) (h:N≤M):Src o M:=by
 obtain ⟨cells,a,l,c,s,e,h1,h2,h3,h4,h5,h6⟩:=P.ex
 exact ⟨cells,a,l,c,s,e,h1,h2,h3,h4,h5,by omega⟩
noncomputable def aa:SF:=jr a0f 4
theorem abo {o:O} {N:Nat} {m:Int} (P:Src o N) (hN:N≤1000000000) (m0:0<m) (m1:m<1073741824):∃ r o',aa [.ref 0, .int m] [o] = .ok (.int r) [o']∧0≤r∧r<m∧Src o' (N+1):=by
 obtain ⟨cells,a,l,c,s,rfl,a0,l0,s0,s1,c0,c1⟩:=P.ex
 unfold aa
 rw [gj]
 unfold a0f xf
 simp only [List.map_cons,List.map_nil,List.length_cons,List.length_nil,Nat.reduceSub,Nat.reduceAdd,List.replicate,List.cons_append,List.nil_append]
 have k3:(0<m∧m<1073741824)=True:=by simp [m0,m1]
 have k3':(0<m)=True:=by simp [m0]
 have last:∀ s':Int,0≤s'→s'<2147483647→∃ r q,0≤r∧r<m∧(s'+1+(c+1)*7919) ^ (3:Int).toNat % 2147483647=q∧(q*48271+(c+1)) ^ (2:Int).toNat % 2147483629 / 64 % m=r∧CMul (c+1) 7919∧CMul q 48271 ∧
   (∀ h,a8x (.int (s'+1+(c+1)*7919)) (.int 3) h = .ok (.int ((s'+1+(c+1)*7919) ^ (3:Int).toNat)) h)∧∀ h,a8x (.int (q*48271+(c+1))) (.int 2) h = .ok (.int ((q*48271+(c+1)) ^ (2:Int).toNat)) h:=fun s' h0 h1=>by
  have q0:0≤(s'+1+(c+1)*7919) ^ (3:Int).toNat % 2147483647:=Int.emod_nonneg _ (by decide)
  have q1:(s'+1+(c+1)*7919) ^ (3:Int).toNat % 2147483647<2147483647:=Int.emod_lt_of_pos _ (by decide)
  refine ⟨_,_,Int.emod_nonneg _ (by omega),Int.emod_lt_of_pos _ m0,rfl,rfl, .inr ⟨by decide,by decide⟩, .inr ⟨by decide,by decide⟩,fun h=>alw ⟨by decide,by decide,by omega⟩,fun h=>alw ⟨by decide,by decide,?_⟩⟩
  generalize (s'+1+(c+1)*7919) ^ (3:Int).toNat % 2147483647=q at q0 q1
  omega
 by_cases hA:l=0∧a<(cells.length:Int)
 ·obtain ⟨rfl,ha⟩:=hA
  obtain ⟨j,rfl⟩:=Int.eq_ofNat_of_zero_le a0
  have hj:j<cells.length:=by omega
  have hat:atI (cells.map D.int) (j:Int)=some (.int cells[j]):=n6 (by simp [hj])
  have ka:decide ((j:Int)<(cells.length:Int))=true:=decide_eq_true ha
  have cm:CMul s 31:=.inr ⟨by decide,by decide⟩
  have s2:0≤(s*31+cells[j]) % 2147483647:=Int.emod_nonneg _ (by decide)
  have s3:(s*31+cells[j]) % 2147483647<2147483647:=Int.emod_lt_of_pos _ (by decide)
  generalize hs':(s*31+cells[j]) % 2147483647=s' at s2 s3
  generalize hx:cells[j]=x at *
  by_cases hB:(1000000000000000000:Int)≤x
  ·have kb:decide ((1000000000000000000:Int)≤x)=true:=decide_eq_true hB
   have kc:decide (0<x)=true:=decide_eq_true (by omega)
   refine ⟨x % m,_,?_,Int.emod_nonneg _ (by omega),Int.emod_lt_of_pos _ m0,⟨cells,(j:Int)+1,x / m,c+1,s,rfl,by omega,Int.ediv_nonneg (by omega) (by omega),s0,s1,by omega,by omega⟩⟩
   walk_at "ev"
  ·have kb:decide ((1000000000000000000:Int)≤x)=false:=decide_eq_false hB
   obtain ⟨r,q,r0,r1,eq,er,d1,d2,d3,d4⟩:=last s' s2 s3
   refine ⟨r,_,?_,r0,r1,⟨cells,(j:Int)+1,0,c+1,s',rfl,by omega,by omega,s2,s3,by omega,by omega⟩⟩
   walk_at "ev"
 ·by_cases hC:0<l
  ·have kc:decide (0<l)=true:=decide_eq_true hC
   have kd:(l == 0)=false:=by simp;omega
   refine ⟨l % m,_,?_,Int.emod_nonneg _ (by omega),Int.emod_lt_of_pos _ m0,⟨cells,a,l / m,c+1,s,rfl,a0,Int.ediv_nonneg (by omega) (by omega),s0,s1,by omega,by omega⟩⟩
   walk_at "ev"
  ·have:l=0:=by omega
   subst this
   have ka:decide (a<(cells.length:Int))=false:=decide_eq_false fun z=>hA ⟨rfl,z⟩
   obtain ⟨r,q,r0,r1,eq,er,d1,d2,d3,d4⟩:=last s s0 s1
   refine ⟨r,_,?_,r0,r1,⟨cells,a,0,c+1,s,rfl,a0,by omega,s0,s1,by omega,by omega⟩⟩
   walk_at "ev"
theorem jw {o:O} {N:Nat} {m:Int} (P:Src o N) (hN:N≤1000000000) (m0:0<m) (m1:m<1073741824):∃ r o',Dr aa 2 [.int m] o (.int r) o'∧0≤r∧r<m∧Src o' (N+1):=by
 obtain ⟨r,o',e,r0,r1,P'⟩:=abo P hN m0 m1
 refine ⟨r,o',Dr.of rfl (by simp [di]) P.clo e (jk (di _) ?_) (di _) P'.clo,r0,r1,P'⟩
 intro u hu
 simp at hu
 subst hu
 exact nj (by omega) P'.clo
end SRC
namespace MI
open PySem PySem.Spec L2
theorem aov (n:Nat):rng 0 n=(List.range n).map fun i:Nat=>D.int (i:Nat):=by
 unfold rng
 exact List.map_congr_left fun i _=>by rw [Int.zero_add]
theorem aow (a:Int) (n:Nat):rng a n=(List.range n).map fun i:Nat=>D.int (a+(i:Nat)):=rfl
theorem a7b {n:Nat} (h:n≤LINE):B62 (n:Int):=by
 have:n≤16777216:=h
 unfold B62;omega
theorem am6 {n:Nat} (h:Hd) (z:n≤LINE):a0r [.int (n:Nat)] h = .ok ⟨(List.range n).map fun i:Nat=>D.int (i:Nat),fun _=>True⟩ h:=by
 unfold a0r
 simp only [a7b z,if_true,Int.toNat_natCast,aov]
theorem am7 {a n:Nat} (h:Hd) (za:a≤LINE) (z:n≤LINE):a3q [.int (a:Nat), .int (n:Nat)] h = .ok ⟨(List.range (n - a)).map fun i:Nat=>D.int ((a+i:Nat)),fun _=>True⟩ h:=by
 unfold a3q
 simp only [a7b z,a7b za,and_self,if_true,aow]
 rw [show ((n:Int) - (a:Int)).toNat=n - a by omega]
 congr 2
theorem aox {f:SE} {τ:Sd} {h:Hd} {d:D} (e:f τ h = .ok d h):ak f dg τ h = .ok [d] h:=by unfold ak dg;rw [e];rfl
theorem a1z {f g:SE} {τ:Sd} {h:Hd} {c d:D} (e:f τ h = .ok c h) (e':g τ h = .ok d h):ak f (ak g dg) τ h = .ok [c,d] h:=by unfold ak;rw [e,cu,e',cu];rfl
theorem a7c {f:SE} {τ:Sd} {h:Hd} {n:Nat} (e:f τ h = .ok (.int (n:Nat)) h) (z:n≤LINE):sRg a0r (ak f dg) τ h = .ok ⟨(List.range n).map fun i:Nat=>D.int (i:Nat),fun _=>True⟩ h:=by
 unfold sRg
 rw [aox e,cu]
 exact am6 h z
theorem abp {f g:SE} {τ:Sd} {h:Hd} {a n:Nat} (e':g τ h = .ok (.int (a:Nat)) h) (e:f τ h = .ok (.int (n:Nat)) h) (za:a≤LINE) (z:n≤LINE):sRg a3q (ak g (ak f dg)) τ h = .ok ⟨(List.range (n - a)).map fun i:Nat=>D.int ((a+i:Nat)),fun _=>True⟩ h:=by
 unfold sRg
 rw [a1z e' e,cu]
 exact am7 h za z
theorem bh {i:Nat} {τ:Sd} {h:Hd} {d:D} (e:τ[i]? = some (some d)):sV i τ h = .ok d h:=by unfold sV;rw [e]
theorem ye {fi:SI} {t:D→Option Sd} {fe:SE} {ix:List Nat} {τ:Sd} {h:Hd} {α:Type} (g F:α→D) (xs:List α) (e:fi τ h = .ok ⟨xs.map g,fun _=>True⟩ h) (z:xs.length≤LINE)
  (st:∀ x∈xs,a2b t fe (frs' ix τ) (g x) h = .ok (F x) h):jo fi t fe ix τ h = .ok (.ref h.length) (h++[.lst (xs.map F)]):=by
 unfold jo
 rw [e,cu]
 dsimp only
 rw [if_pos (by rw [List.length_map];exact z),a6a g F st]
 rfl
theorem abq {fi:SI} {t:D→Option Sd} {c:ST} {fe:SE} {ix:List Nat} {τ:Sd} {h:Hd} {α:Type} (g:α→D) (F:α→Option D) (xs:List α) (e:fi τ h = .ok ⟨xs.map g,fun _=>True⟩ h) (z:xs.length≤LINE)
  (st:∀ x∈xs,a73 t c fe (frs' ix τ) (g x) h = .ok (F x) h):a1r fi t c fe ix τ h = .ok (.ref h.length) (h++[.lst (xs.filterMap F)]):=by
 unfold a1r
 rw [e,cu]
 dsimp only
 rw [if_pos (by rw [List.length_map];exact z),a6b g F st]
 rfl
theorem vp (fe:SE) (r:Sd) (x:D) (h:Hd):a2b t1 fe r x h=fe (some x::r) h:=rfl
theorem aio (c:ST) (fe:SE) (r:Sd) (x:D) (h:Hd):a73 t1 c fe r x h=(c (some x::r) h).bind fun b h1=>if b=true then (fe (some x::r) h1).bind fun y h2=>.ok (some y) h2 else .ok none h1:=rfl
theorem a88 (i:Nat) (ix:List Nat) (τ:Sd):frs' (i::ix) τ=(τ[i]?).join::frs' ix τ:=rfl
theorem abr (τ:Sd):frs' [] τ=[]:=rfl
end MI
namespace MI
open PySem PySem.Spec L2
section
variable {f k f1 f2 f3:SE} {c c1 c2:ST} {g p q:SS} {τ τ1:Sd} {h h1 h2 h3 h4:Hd} {a b d v:D} {i:Nat} {t u:Bool}
theorem g8 (d:D) (τ:Sd) (h:Hd):sC d τ h = .ok d h:=rfl
theorem ar6 {G:List D→Hd→R D} (e3:G [] h = .ok v h1):sA G dg τ h = .ok v h1:=e3
theorem a2a {G:List D→Hd→R D} (e1:f τ h = .ok a h1) (e3:G [a] h1 = .ok v h2):sA G (ak f dg) τ h = .ok v h2:=by
 have:ak f dg τ h = .ok [a] h1:=by unfold ak;rw [e1];rfl
 unfold sA
 rw [this,cu,e3]
theorem u6 {G:List D→Hd→R D} (e1:f τ h = .ok a h1) (e2:k τ h1 = .ok b h2) (e3:G [a,b] h2 = .ok v h3):sA G (ak f (ak k dg)) τ h = .ok v h3:=by
 have:ak f (ak k dg) τ h = .ok [a,b] h2:=by unfold ak;rw [e1,cu,e2];rfl
 unfold sA
 rw [this,cu,e3]
theorem abt {G:List D→Hd→R D} (e0:f1 τ h = .ok d h1) (e1:f τ h1 = .ok a h2) (e2:k τ h2 = .ok b h3) (e3:G [d,a,b] h3 = .ok v h4):sA G (ak f1 (ak f (ak k dg))) τ h = .ok v h4:=by
 have:ak f1 (ak f (ak k dg)) τ h = .ok [d,a,b] h3:=by unfold ak;rw [e0,cu,e1,cu,e2];rfl
 unfold sA
 rw [this,cu,e3]
theorem iy (e:f τ h = .ok d h1):du (j7 i f) g τ h=g (τ.set i (some d)) h1:=by
 rw [nq]
 unfold j7
 rw [e]
 rfl
theorem agg (e:f τ h = .ok d h1):j7 i f τ h = .nx (τ.set i (some d)) h1:=by
 unfold j7
 rw [e]
 rfl
theorem yo (e:p τ h = .nx τ1 h1):du p g τ h=g τ1 h1:=by rw [nq,e];rfl
theorem aip (e:p τ h = .rt d h1):du p g τ h = .rt d h1:=by rw [nq,e];rfl
theorem ifT (e:c τ h = .ok true h1):sIf c p q τ h=p τ h1:=by unfold sIf;rw [e];rfl
theorem ifF (e:c τ h = .ok false h1):sIf c p q τ h=q τ h1:=by unfold sIf;rw [e];rfl
theorem ifN (e:c τ h = .ok false h1):du (sIf c p sNx) g τ h=g τ h1:=by rw [nq,ifF e];rfl
theorem tof (e:f τ h = .ok (.bl t) h1):sT f τ h = .ok t h1:=by unfold sT;rw [e];rfl
theorem a0t (e:f τ h = .ok d h1) (e':tru d h1 = .ok t h2):a3l f τ h = .ok t h2:=by unfold a3l;rw [e,cu,e']
theorem ank (e:c1 τ h = .ok true h1) (e':c2 τ h1 = .ok t h2):a8v c1 c2 τ h = .ok t h2:=by unfold a8v;rw [e,cu,if_pos rfl,e']
theorem apx (e:c1 τ h = .ok false h1):a8v c1 c2 τ h = .ok false h1:=by unfold a8v;rw [e,cu,if_neg (by simp)]
theorem orF (e:c1 τ h = .ok false h1) (e':c2 τ h1 = .ok t h2):sOr c1 c2 τ h = .ok t h2:=by unfold sOr;rw [e,cu,if_neg (by simp),e']
theorem am8 (e:c τ h = .ok t h1):a3m c τ h = .ok (!t) h1:=by unfold a3m;rw [e];rfl
theorem af1 (e:c τ h = .ok true h1):a3m c τ h = .ok false h1:=am8 e
theorem ar7 (e:c τ h = .ok false h1):a3m c τ h = .ok true h1:=am8 e
theorem wj (e:f τ h = .ok d h1):uc f τ h = .rt d h1:=by unfold uc;rw [e];rfl
theorem aiq (e:f τ h = .ok (.bl true) h1) (e':k τ h1 = .ok d h2):zu f k τ h = .ok d h2:=by unfold zu;rw [e,cu];exact e'
theorem a05 {G:D→List D→Hd→R D} {A:SA} {ds:List D} (e1:f τ h = .ok d h1) (l:isL d h1=true) (e2:A τ h1 = .ok ds h2) (e3:G d ds h2 = .ok v h3):p7 (sML G f A) τ h = .nx τ h3:=by
 unfold p7 sML
 rw [e1,cu,if_pos l,e2,cu,e3]
 rfl
theorem aoy {G:D→List D→Hd→R D} {A:SA} {ds:List D} (e1:f τ h = .ok d h1) (l:isL d h1=true) (e2:A τ h1 = .ok ds h2) (e3:G d ds h2 = .ok v h3):sML G f A τ h = .ok v h3:=by
 unfold sML
 rw [e1,cu,if_pos l,e2,cu,e3]
theorem arg1 (e:f τ h = .ok d h1):ak f dg τ h = .ok [d] h1:=by unfold ak dg;rw [e];rfl
theorem ig {G:D→D→Hd→R D} (e1:f τ h = .ok a h1) (e2:k τ h1 = .ok b h2) (e3:G a b h2 = .ok v h3):s2 G f k τ h = .ok v h3:=by
 unfold s2
 rw [e1,cu,e2,cu,e3]
theorem anl {G:D→Hd→R D} (e1:f τ h = .ok a h1) (e3:G a h1 = .ok v h2):s1 G f τ h = .ok v h2:=by
 unfold s1
 rw [e1,cu,e3]
theorem aoz {G:D→D→Hd→R D} (ht:τ[i]? = some (some a)) (e:f τ h = .ok b h1) (e2:G a b h1 = .ok d h2):acr i G f τ h = .nx (τ.set i (some d)) h2:=by
 unfold acr
 rw [ht]
 dsimp only
 rw [e,a4f,e2]
 rfl
theorem ais {G:SG} (e:f τ h = .ok d h1) (e2:G d τ h1 = .nx τ1 h2):a8w f G τ h = .nx τ1 h2:=by
 unfold a8w
 rw [e,a4f,e2]
theorem a6j {fi:SI} {G:SG} {b:SS} {xs:List D} {ck:Hd→Prop} (e:fi τ h = .ok ⟨xs,ck⟩ h1):du (a5q fi G b) g τ h=thn (forL ck G b xs τ h1) g:=by
 rw [nq]
 unfold a5q
 rw [e]
 rfl
theorem a9f {xs:List D} {ck:Hd→Prop} (e:f τ h = .ok d h1) (e2:adk d h1 = .ok ⟨xs,ck⟩ h1):sIt f τ h = .ok ⟨xs,ck⟩ h1:=by
 unfold sIt
 rw [e,cu,e2]
theorem a0p {xs:List D} (e:h[i]? = some (.lst xs)) (z:xs.length<LINE):a3u (.ref i) [a] h = .ok .non (h.set i (.lst (xs++[a]))):=by
 unfold a3u
 simp only [e,if_pos z]
theorem ar8 {xs:List D} {j:Nat} (e:h[i]? = some (.lst xs)) (hj:j<xs.length):put (.ref i) (.int (j:Nat)) v h=some (h.set i (.lst (xs.set j v))):=by
 have:ixN xs.length (j:Int)=some j:=by unfold ixN;rw [if_pos (by omega),if_pos (by omega)];simp
 unfold put
 simp only [e,this]
theorem ait {xs:List D} {j:Nat} {y:D} (e:h[i]? = some (.lst xs)) (hj:xs[j]? = some y) (z:xs.length≤LINE):a5v (.ref i) [.int (j:Nat)] h = .ok y (h.set i (.lst (xs.eraseIdx j))):=by
 have lt:j<xs.length:=(List.getElem?_eq_some_iff.mp hj).1
 have:ixN xs.length (j:Int)=some j:=by unfold ixN;rw [if_pos (by omega),if_pos (by omega)];simp
 unfold a5v
 simp only [e,this,hj,if_pos z]
theorem agh {xs:List D} {j:Nat} {y:D} (e:h[i]? = some (.lst xs)) (hj:xs[j]? = some y):gIx (.ref i) (.int (j:Nat)) h = .ok y h:=by
 rw [a2y]
 unfold xg
 simp only [e,n6 hj]
theorem am9 {xs:List D} {j:Nat} {y:D} (hj:xs[j]? = some y):gIx (.rol xs) (.int (j:Nat)) h = .ok y h:=by
 rw [a6h]
 simp only [n6 hj]
theorem a9g {xs:List D} {j:Nat} {y:D} (hj:xs[j]? = some y):gIx (.tup xs) (.int (j:Nat)) h = .ok y h:=by
 rw [a1j]
 simp only [n6 hj]
theorem aiu {xs:List D} (e:h[i]? = some (.lst xs)):zb [.ref i] h = .ok (.int (xs.length:Nat)) h:=by
 rw [a1x]
 unfold xg
 simp only [e]
theorem ama {x y:Int} (c:0<y):a6p (.int x) (.int y) h = .ok (.int (x % y)) h:=by unfold a6p;exact if_pos c
theorem ar9 {x y:Int} (c:y<x):gGt (.int x) (.int y) h = .ok (.bl true) h:=by unfold gGt;simp only [c,decide_true]
theorem ara {x y:Int} (c:¬ y<x):gGt (.int x) (.int y) h = .ok (.bl false) h:=by unfold gGt;simp only [c,decide_false]
theorem anm {x y:Int} (c:x<y):gLt (.int x) (.int y) h = .ok (.bl true) h:=by unfold gLt;simp only [c,decide_true]
theorem ap0 {x y:Int} (c:¬ x<y):gLt (.int x) (.int y) h = .ok (.bl false) h:=by unfold gLt;simp only [c,decide_false]
theorem a6k {x y:Int} (c:x=y):hEq (.int x) (.int y) h = .ok (.bl true) h:=by rw [a96,c,beq_self_eq_true]
theorem a2f {x y:Int} (c:¬ x=y):hEq (.int x) (.int y) h = .ok (.bl false) h:=by rw [a96,beq_eq_false_iff_ne.mpr c]
theorem abu {x y:Int} (c:x=y):hNe (.int x) (.int y) h = .ok (.bl false) h:=by rw [a97,c,beq_self_eq_true];rfl
theorem ap1 {x y:Int} (c:¬ x=y):hNe (.int x) (.int y) h = .ok (.bl true) h:=by rw [a97,beq_eq_false_iff_ne.mpr c];rfl
theorem af2 (x:Int):a8y (.int x) h = .ok (.int (-x)) h:=rfl
theorem abv (x y:Int):MI.a8g (.int x) (.int y) h = .ok (.int (x - y)) h:=rfl
theorem iu {n:Nat} (h:n≤1000000):n≤LINE:=by show n≤16777216;omega
theorem a0q {n:Nat} (h:n≤1000000):n<LINE:=by show n<16777216;omega
theorem amb:MI.a0v [a,b] h = .ok (.tup [a,b]) h:=by unfold MI.a0v;rw [if_pos (iu (by simp))]
theorem ano:MI.a0v [a,b,v] h = .ok (.tup [a,b,v]) h:=by unfold MI.a0v;rw [if_pos (iu (by simp))]
end
end MI
namespace EVX
open PySem PySem.Spec L2 MI
section
variable {i:Nat} {cs:Str→Bool} {fb fs p g:SS} {τ τ1 τ2:Sd} {h h1 h2:Hd} {c:Str} {f:SE} {ka:SA} {ds:List D} {F:SF} {n:Nat}
theorem amc (e:p τ h = .ex c h1):du p g τ h = .ex c h1:=by unfold du;rw [e]
theorem aiv (e:ka τ h = .ok ds h1) (l:ds.length≤100):a6d c ka τ h = .ex c h1:=by
 unfold a6d
 rw [e]
 show (if ds.length≤LINE then Fl.ex c h1 else .no)=_
 rw [if_pos (iu (by omega))]
theorem abw (hn:ds.length=n) (cd:∀ x∈ds,MI.clo 0 x) (e:F ds [] = .ex c h1):ut n F ds h = .ex c h:=by
 unfold ut
 rw [if_pos cd,e]
 exact if_pos hn
theorem abx {d d':D} (cd:∀ x∈ds,MI.clo 0 x) (e:F ds [] = .ok d h1) (p:Pu F n ds d'):ut n F ds h = .ok d' h:=by
 unfold ut
 rw [if_pos cd,e]
 exact p h
theorem amd (e:fb τ h = .ex c h1) (hc:cs c=true) (e2:fs (τ.set i (some (.exc c))) h1 = .nx τ2 h2):alq i cs fb fs τ h = .nx (τ2.set i none) h2:=by
 unfold alq
 rw [e]
 show (if cs c=true then _ else _)=_
 rw [if_pos hc,e2]
theorem agi (e:f τ h = .ex c h1):p7 f τ h = .ex c h1:=by unfold p7;rw [e];rfl
theorem qof {α:Type} {k:Sd→Hd→R α} {x:α} (e:k τ h = .ok x h1):qA k τ h = .ok x h1:=by unfold qA;rw [e];rfl
theorem aje (e:ka τ h = .ok ds h1):sA F ka τ h=F ds h1:=by unfold sA;rw [e];rfl
theorem aiw {x:Str→Option Bool} {b:Bool} (e:τ[i]? = some (some (.exc c))) (e2:x c=some b):aei i x τ h = .ok (.bl b) h:=by unfold aei;rw [e];dsimp only;rw [e2]
theorem qb {d:D} (e:f τ h = .ok d h1) (e2:ka τ h1 = .ok ds h2):ak f ka τ h = .ok (d::ds) h2:=by
 unfold ak
 rw [e,cu,e2]
 rfl
end
end EVX
namespace SRC
open PySem PySem.Spec L2 MI AT HND EVX
local macro_rules | `(tactic| walk_at "ev") => `(tactic| simp only [nq,xn,a7z,a68,a80,j7,acr,a66,sIf,uc,p7,ahk,put,ae7,a8w,a72,mq,a7l,kN,sV,sC,s2,s1,sA,ak,dg,sNx,sT,asB,a3l,qi,a4p,a4q,a4r,a4s,a8v,sOr,a3m,zu,anb,adh,sCh,aai,cu,a4f,MI.a1j,MI.a6h,MI.a2y,ai5,xg,gLt,gGt,gGe,gLe,a96,a97,aey,aez,a87,pq,af0,a1b,ane,anf,ang,anh,yr,MI.a8g,a6p,acu,a6i,AT.abj,AT.p18,a0h,yc,a1x,ahs,a1y,a8y,a5u,adn,MI.a0v,MI.a71,sML,isL,a3u,oN,oS,a2d,ym,sIt,adk,sRg,a5q,a0r,a3q,alj,ali,aid,apg,aon,srcOf,  List.length_map,List.length_cons,List.length_nil,List.length_append,List.getElem?_cons_zero,List.getElem?_cons_succ,List.set_cons_zero,List.set_cons_succ,List.nil_append,List.cons_append,AT.aen,AT.aeo,AT.aep,AT.aeq,AT.aer,AT.aes,AT.aet,AT.aeu,AT.x10,AT.x20,AT.x21,AT.x30,AT.x31,AT.x32,AT.x40,AT.x41,AT.x42,AT.x43,AT.x50,AT.x51,AT.x52,AT.x53,AT.x54,AT.x60,AT.x61,AT.x62,AT.x63,AT.x64,AT.x65,AT.x70,AT.x71,AT.x72,AT.x73,AT.x74,AT.x75,AT.x76,decide_true,decide_false,reduceIte,Bool.true_and,Bool.and_self,Bool.not_true,Bool.not_false,and_self,true_and,and_true,beq_self_eq_true,Nat.reduceAdd,Nat.reduceLeDiff,Nat.reduceLT,Nat.reducePow,Int.reduceLT,Int.reduceLE,Int.reduceNeg,Int.reduceEq,Int.reduceBEq,Bool.false_eq_true,Bool.true_eq_false,ite_true,ite_false,if_true,if_false, *])
noncomputable def j9:SF:=jr ug 2
theorem ints_map:∀ l:List Int,a3w (l.map D.int)=some l
 | []=>rfl
 | a::l=>by rw [List.map_cons];simp only [a3w,ints_map l,Option.map_some]
theorem arb {g:List D→Hd→R D} {k:SA} {τ:Sd} {h h1 h2:Hd} {ds:List D} {d:D} (e:k τ h = .ok ds h1) (eg:g ds h1 = .ok d h2):sA g k τ h = .ok d h2:=by
 unfold sA
 rw [e,cu,eg]
def cell (x:Int):Int:=2*apl x+(if decide (x<0)=true then 1 else 0)
theorem aby (ns:List Int) (h:Hd):∃ o,Src o 0∧j4 true 1 j9 [.scr (ns.map D.int)] h = .ok (.ref h.length) (h++[o]):=by
 have cl:clos 0 ((ns.take 63).map D.int):=gk fun x _=>di x
 have z1:sZ (a2d (sV 0) oN (oS (sC (.int 63)))) [some (.scr (ns.map D.int)),none] [] = .ok (.rol ((ns.take 63).map D.int)) []:=by
  refine a69 (by
   show gSl (.scr (ns.map D.int)) none (some ((63:Nat):Int)) []=_
   unfold gSl
   simp only [aa9,List.map_take]) cl (by simp)
 have z2:sZ (jo (sIt (sZ (a2d (sV 0) oN (oS (sC (.int 63)))))) t1 sy []) [some (.scr (ns.map D.int)),none] [] = .ok (.rol ((ns.take 63).map fun x=>D.int (cell x))) []:=by
  refine a69 (ye D.int (fun x=>D.int (cell x)) (ns.take 63) (a9f z1 rfl) (iu (by simp;omega)) fun x _=>?_) (gk fun x _=>di _) (by simp)
  rw [vp]
  unfold sy
  exact ig (ig (g8 _ _ _) (a2a (bh rfl) (abj _ _)) (a6i.trans (if_pos (.inl ⟨by decide,by decide⟩)))) (a2a (ig (bh rfl) (g8 _ _ _) rfl) rfl) yr
 have em:((ns.take 63).map fun x=>D.int (cell x))=((ns.take 63).map cell).map D.int:=by rw [List.map_map];rfl
 rw [em] at z2
 generalize (ns.take 63).map cell=cs at z2
 have e:j9 [.scr (ns.map D.int)] [] = .ok (.ref 0) [.lst [.rol (cs.map D.int), .int 0, .int 0, .int 0, .int (cs.sum % 2147483647)]]:=by
  unfold j9
  rw [gj]
  show toR (ug [some (.scr (ns.map D.int)),none] [])=_
  unfold ug
  refine Eq.trans (congrArg toR (iy z2)) ?_
  have su:al7 [.rol (cs.map D.int)] [] = .ok (.int cs.sum) []:=by unfold al7;simp only [ints_map]
  exact congrArg toR (wj (arb (qb (bh rfl) (qb (g8 _ _ _) (qb (g8 _ _ _) (qb (g8 _ _ _) (qb (ig (a2a (bh rfl) su) (g8 _ _ _) (ama (by decide))) rfl))))) rfl))
 have P:Src (.lst [.rol (cs.map D.int), .int 0, .int 0, .int 0, .int (cs.sum % 2147483647)]) 0:=⟨cs,0,0,0,_,rfl,by decide,by decide,Int.emod_nonneg _ (by decide),Int.emod_lt_of_pos _ (by decide),by decide,by decide⟩
 exact ⟨_,P,alk rfl (by simpa [MI.clo] using (gk fun x _=>di x:clos 0 (ns.map D.int))) e rfl P.clo h⟩
noncomputable def bc:SF:=jr u5 1
theorem a1c:Pu bc 0 [] (.str (S sig)):=HND.a1c
noncomputable def bw:SF:=jr (xr aa bc) 5
theorem ame {a b:List Nat} {h:Hd} (l:a.length+b.length≤LINE):a1t (.str (S a)) (.str (S b)) h = .ok (.str (S (a++b))) h:=by
 have:=abl (h:=h) l
 simpa [a1t,jm,aqk] using this
theorem abz {o:O} {N:Nat} (P:Src o N) (hN:N≤999999000):∃ l o',Tongue l∧Dr bw 1 [] o (.str (S l)) o'∧Src o' (N+7):=by
 obtain ⟨r0,o1,e1,r0a,r0b,P1⟩:=jw (m:=6) P (by omega) (by decide) (by decide)
 have lo:=qm (g:=kN 3) (b:=m9 aa bc) (fun i:Nat=>D.int (0+(i:Nat)))
  (fun pre τ h=>∃ (rest told:List Nat) (u:O) (t3 t4:Option D),τ=[some (.ref 0),some (.str (S rest)),some (.str (S told)),t3,t4]∧h=[u]∧Src u (N+1+pre.length)∧told.length=pre.length∧(told++rest).length=95∧(told++rest).Nodup∧∀ c∈told++rest,c∈sig)
  (List.range (1+r0).toNat) [some (.ref 0),some (.str (S sig)),some (.str (S [])),none,none] [o1] ?_
  ⟨sig,[],o1,none,none,rfl,rfl,P1,rfl,by simp [a4t],by simpa using agf,by simp⟩
 ·obtain ⟨τ',h',e2,rest,told,u,t3,t4,rfl,rfl,P2,l1,l2,nd,sb⟩:=lo
  rw [List.length_range] at P2 l1
  have T:Tongue told:=⟨by omega,by omega,(List.nodup_append.mp nd).1,fun c hc=>sb c (List.mem_append_left _ hc)⟩
  refine ⟨told,u,T,Dr.of rfl (by simp) P.clo (r:=.ok (.str (S told)) [u]) ?_ (jk (iz _) (by simpa using nj (by omega) P2.clo)) (iz _) P2.clo,P2.up (by omega)⟩
  unfold bw
  rw [gj]
  unfold xr xf
  simp only [List.map_cons,List.map_nil,List.length_cons,List.length_nil,Nat.reduceSub,Nat.reduceAdd,List.replicate,List.cons_append,List.nil_append]
  have c1:=a1c [o]
  have c2:=e1 0 [o] rfl
  have em:("" : Str)=S []:=rfl
  have bd:B62 (1+r0):=by unfold B62;omega
  have e2:forL (fun _=>True) (kN 3) (m9 aa bc) (rng 0 (1+r0).toNat) [some (D.ref 0),some (D.str (S sig)),some (D.str (S [])),none,none] [o1]=_:=e2
  walk_at "ev"
 ·rintro pre i post τ h all ⟨rest,told,u,t3,t4,rfl,rfl,P2,l1,l2,nd,sb⟩
  have hlen:pre.length<(1+r0).toNat:=by
   have:=congrArg List.length all
   simp at this;omega
  rw [List.length_append] at l2
  obtain ⟨r,u',e2,ra,rb,P3⟩:=jw (m:=(rest.length:Nat)) P2 (by omega) (by omega) (by omega)
  obtain ⟨j,rfl⟩:=Int.eq_ofNat_of_zero_le ra
  have hj:j<rest.length:=by omega
  have gx:rest[j]? = some rest[j]:=List.getElem?_eq_getElem hj
  have pp:=abn told rest j rest[j] gx
  refine ⟨_,_,rfl,_,_,?_,rest.take j++rest.drop (j+1),told++[rest[j]],u',some (.int (0+(i:Nat))),some (.int (j:Nat)),rfl,rfl,by simpa [Nat.add_assoc] using P3,by simp [l1],?_,pp.nodup_iff.mp nd,fun c hc=>sb c (pp.mem_iff.mpr hc)⟩
  ·unfold m9
   have L:∀ n:Nat,n≤95→n≤LINE:=fun n hn=>by show n≤16777216;omega
   have c2:=e2 0 [u] rfl
   have x1:∀ h,gIx (.str (S rest)) (.int (j:Nat)) h = .ok (.str (S [rest[j]])) h:=fun h=>aot (L _ (by omega)) gx
   have x2:∀ h,zb [.str (S rest)] h = .ok (.int rest.length) h:=fun h=>aex (L _ (by omega))
   have x3:∀ h,a1t (.str (S told)) (.str (S [rest[j]])) h = .ok (.str (S (told++[rest[j]]))) h:=fun h=>ame (L _ (by simp;omega))
   have x4:∀ h,ae3 (.str (S rest)) none (some (j:Int)) h = .ok (.str (S (rest.take j))) h:=fun h=>aou j (L _ (by omega))
   have x5:∀ h,ae3 (.str (S rest)) (some ((j:Int)+1)) none h = .ok (.str (S (rest.drop (j+1)))) h:=fun h=>abm (j+1) (L _ (by omega))
   have x6:∀ h,jm (.str (S (rest.take j))) (.str (S (rest.drop (j+1)))) h = .ok (.str (S (rest.take j++rest.drop (j+1)))) h:=fun h=>abl (L _ (by simp;omega))
   clear all hlen
   walk_at "ev"
  ·rw [← pp.length_eq];simpa using l2
end SRC
namespace HND
open PySem PySem.Spec L2 MI AT
end HND
namespace HND
open PySem PySem.Spec L2 MI AT
theorem a06 {k i:Nat} {pre post:List Nat} (h:List.range k=pre++i::post):i=pre.length∧i<k:=by
 have h1:=congrArg (fun l=>l[pre.length]?) h
 have h2:=congrArg List.length h
 simp at h1 h2
 have:pre.length<k:=by omega
 rw [List.getElem?_range this] at h1
 simp at h1
 omega
end HND
namespace HND
open PySem PySem.Spec L2 MI AT
end HND
namespace HND
open PySem PySem.Spec L2 MI AT
end HND
namespace HND
open PySem PySem.Spec L2 MI AT
abbrev KOk (k:Int):Prop := -1≤k∧k≤5
end HND
namespace HND
open PySem PySem.Spec L2 MI AT
abbrev d8 (i:Nat):D:=.int (i:Nat)
theorem kh {k:Nat} (l:List Nat):clos k (l.map d8):=gk fun x _=>di _
end HND
namespace HND
open PySem PySem.Spec L2 MI AT
abbrev ac0 (r:List Nat):D:=.tup (r.map d8)
abbrev ac1 (s n:Nat) (r:List Nat):Prop:=r.length=s∧∀ x∈r,x<n
structure Table where
 tg:List Nat
 go:List (List Nat)
 ks:List Int
def Table.d (T:Table):D:=.tup [.str (S T.tg), .tup (T.go.map ac0), .tup (T.ks.map D.int)]
structure Table.Ok (T:Table):Prop where
 tong:Tongue T.tg
 n1:1≤T.go.length
 n32:T.go.length≤32
 row:∀ r∈T.go,ac1 T.tg.length T.go.length r
 kl:T.ks.length=T.go.length
 k0:T.ks[0]? = some (-1)
 kk:∀ k∈T.ks,KOk k
theorem Table.clo {T:Table}:clo 0 T.d:=sr (fj (iz _) (fj (sr (gk fun x _=>sr (kh _))) (fj (sr (gk fun x _=>di x)) v6)))
end HND
namespace MI
open PySem PySem.Spec L2
end MI
namespace PAP
open PySem PySem.Spec L2 MI AT HND
theorem ajf (l:List Nat) (h:Hd):adk (.str (S l)) h = .ok ⟨l.map fun c=>.str (S [c]),fun _=>True⟩ h:=by
 show R.ok (⟨uv (S l),fun _=>True⟩:Itm) _=_
 unfold uv
 rw [a04]
theorem amf {f:SE} {τ:Sd} {h h':Hd} {xs:List D} (hl:h'.length=h.length) (e:f τ h = .ok (.ref h'.length) (h'++[.lst xs])) (cx:clos h.length xs) (c:∀ o∈h',a07 h.length o):sZ f τ h = .ok (.rol xs) h':=by
 unfold sZ
 rw [e,a02 (by omega) (by simp) cx (by rw [← hl];simpa [hl] using c)]
 rw [← hl]
 simp
end PAP
namespace SRC
open PySem PySem.Spec L2 MI AT HND EVX
theorem arc {x y:Int} {h:Hd} (c:x≤y):gLe (.int x) (.int y) h = .ok (.bl true) h:=by
 show R.ok (D.bl (decide (x≤y))) h=_
 rw [decide_eq_true c]
theorem ard {x y:Int} {h:Hd} (c:¬ x≤y):gLe (.int x) (.int y) h = .ok (.bl false) h:=by
 show R.ok (D.bl (decide (x≤y))) h=_
 rw [decide_eq_false c]
theorem apy {c:ST} {f g:SE} {τ:Sd} {h h1:Hd} {r:R D} (e1:c τ h = .ok true h1) (e2:f τ h1=r):aai c f g τ h=r:=by unfold aai;rw [e1,cu,if_pos rfl];exact e2
theorem ap2 {c:ST} {f g:SE} {τ:Sd} {h h1:Hd} {r:R D} (e1:c τ h = .ok false h1) (e2:g τ h1=r):aai c f g τ h=r:=by unfold aai;rw [e1,cu,if_neg (by simp)];exact e2
noncomputable def d7:SF:=jr (v9 aa) 8
abbrev a2g (r:List Nat):D:=.rol (r.map d8)
theorem a98 {o:O} {N:Nat} {ks:List Int} {t n:D} {x y:Option D} (P:Src o N) (hN:N≤999999000) (l:ks.length≤100) :
  ∃ (u:O) (k:Int),nu aa [some (.ref 0),some t,some n,some (.ref 1),x,y,none,none] [o, .lst (ks.map D.int)] = .nx [some (.ref 0),some t,some n,some (.ref 1),x,y,none,none] [u, .lst ((ks++[k]).map D.int)]∧Src u (N+2)∧KOk k:=by
 obtain ⟨a,o1,e1,a0,a1,P1⟩:=jw (m:=5) P (by omega) (by omega) (by omega)
 obtain ⟨b,o2,e2,b0,b1,P2⟩:=jw (m:=6) P1 (by omega) (by omega) (by omega)
 have c1:j4 false 2 aa [.ref 0, .int 5] [o, .lst (ks.map D.int)] = .ok (.int a) [o1, .lst (ks.map D.int)]:=e1 0 _ rfl
 have c2:j4 false 2 aa [.ref 0, .int 6] [o1, .lst (ks.map D.int)] = .ok (.int b) [o2, .lst (ks.map D.int)]:=e2 0 _ rfl
 unfold nu
 by_cases ha:a<2
 ·refine ⟨o2,b,?_,P2,by omega⟩
  rw [List.map_append]
  exact a05 (bh rfl) rfl (arg1 (apy (tof (ig (u6 (bh rfl) (g8 _ _ _) c1) (g8 _ _ _) (anm ha))) (u6 (bh rfl) (g8 _ _ _) c2))) (a0p (xs:=ks.map D.int) rfl (by rw [List.length_map];exact a0q (by omega)))
 ·refine ⟨o1, -1,?_,P1.up (by omega),by decide⟩
  rw [List.map_append]
  exact a05 (bh rfl) rfl (arg1 (ap2 (tof (ig (u6 (bh rfl) (g8 _ _ _) c1) (g8 _ _ _) (ap0 ha))) (anl (g8 _ _ _) (af2 _)))) (a0p (xs:=ks.map D.int) rfl (by rw [List.length_map];exact a0q (by omega)))
abbrev HR (u:O) (ks:List Int) (rows:List (List Nat)):Hd:=[u, .lst (ks.map D.int), .lst (rows.map a2g)]
abbrev τR (tg:List Nat) (n:Nat) (i m:Option D) (r:Option D):Sd:=[some (.ref 0),some (.str (S tg)),some (d8 n),some (.ref 1),i,m,some (.ref 2),r]
theorem agj {u:O} {N:Nat} {ks:List Int} {rows:List (List Nat)} (P:Src u N) (k:Nat):∀ o∈HR u ks rows,a07 k o:=by
 intro o ho
 simp only [List.mem_cons,List.not_mem_nil,or_false] at ho
 rcases ho with rfl | rfl | rfl
 ·exact nj (Nat.zero_le _) P.clo
 ·exact nj (Nat.zero_le _) (gk fun x _=>di x)
 ·exact nj (Nat.zero_le _) (gk fun x _=>v7 (kh _))
theorem ac2 {u:O} {N n:Nat} {tg:List Nat} {ks:List Int} {rows:List (List Nat)} {i m r:Option D} (P:Src u N) (hN:N≤999999000) (t6:tg.length≤6) (n1:1≤n) (n32:n≤32) :
  ∃ (u':O) (row:List Nat),ac1 tg.length n row∧Src u' (N+6)∧sZ (jo (sIt (sV 1)) t1 (o6 aa) [0,2]) (τR tg n i m r) (HR u ks rows) = .ok (a2g row) (HR u' ks rows):=by
 have mp:=a4i (f:=a2b t1 (o6 aa) (frs' [0,2] (τR tg n i m r))) (fun c:Nat=>D.str (S [c]))
  (fun pre ys h=>∃ (u':O) (row:List Nat),h=HR u' ks rows∧Src u' (N+pre.length)∧ys=row.map d8∧row.length=pre.length∧∀ x∈row,x<n)
  tg [] [] (HR u ks rows) ?_ ⟨u,[],rfl,P,rfl,rfl,by simp⟩
 ·obtain ⟨zs,h',em,u',row,rfl,P',ez,rl,rx⟩:=mp
  rw [List.nil_append] at ez rl P'
  subst ez
  refine ⟨u',row,⟨rl,rx⟩,P'.up (by omega),?_⟩
  refine PAP.amf rfl ?_ (kh _) (agj P' _)
  unfold jo
  rw [a9f (bh rfl) (PAP.ajf tg _),cu]
  dsimp only
  rw [if_pos (by rw [List.length_map];exact iu (by omega)),em]
  rfl
 ·rintro pre c post ys h all ⟨u',row,rfl,P',rfl,rl,rx⟩
  rw [List.nil_append] at all
  have pl:pre.length<tg.length:=by rw [all];simp
  obtain ⟨x,u2,e,x0,x1,P2⟩:=jw (m:=(n:Nat)) P' (by omega) (by omega) (by omega)
  obtain ⟨j,rfl⟩:=Int.eq_ofNat_of_zero_le x0
  have c1:j4 false 2 aa [.ref 0,d8 n] (HR u' ks rows) = .ok (d8 j) (HR u2 ks rows):=e 0 _ rfl
  refine ⟨d8 j,HR u2 ks rows,?_,u2,row++[j],rfl,P2.up (by rw [List.length_append,List.length_singleton];omega),by rw [List.map_append];rfl,by rw [List.length_append,List.length_append,List.length_singleton,List.length_singleton,rl],fun y hy=>?_⟩
  ·rw [vp]
   unfold o6
   exact u6 (bh rfl) (bh rfl) c1
  ·rcases List.mem_append.mp hy with z | z
   ·exact rx y z
   ·rw [List.mem_singleton] at z;subst z;omega
theorem ac3 {u:O} {N n:Nat} {tg:List Nat} {ks:List Int} {rows:List (List Nat)} {i m:Option D} {row:List Nat} {fe:SE} {ix:List Nat} {f:Nat→Nat} (P:Src u N) (rl:row.length≤100) (fx:∀ x,x∈row→fe (some (d8 x)::frs' ix (τR tg n i m (some (a2g row)))) (HR u ks rows) = .ok (d8 (f x)) (HR u ks rows)) :
  sZ (jo (sIt (sV 7)) t1 fe ix) (τR tg n i m (some (a2g row))) (HR u ks rows) = .ok (a2g (row.map f)) (HR u ks rows):=by
 unfold a2g
 rw [List.map_map]
 refine a69 (ye d8 (d8 ∘ f) row (a9f (bh rfl) rfl) (iu (by omega)) fun x hx=>?_) (gk fun y _=>di _) (agj P _)
 rw [vp]
 exact fx x hx
theorem a99 {u:O} {N n i:Nat} {tg:List Nat} {ks:List Int} {rows:List (List Nat)} {m:Int} {r:Option D} (P:Src u N) (hN:N≤999999000) (t6:tg.length≤6) (n1:1≤n) (n32:n≤32) (lk:ks.length=n) (hi:i<n) (lr:rows.length≤100) :
  ∃ (u':O) (row:List Nat) (r':Option D),ac1 tg.length n row∧Src u' (N+6)∧o7 aa (τR tg n (some (d8 i)) (some (.int m)) r) (HR u ks rows) = .nx (τR tg n (some (d8 i)) (some (.int m)) r') (HR u' ks (rows++[row])):=by
 obtain ⟨u',row,⟨l1,x1⟩,P',e1⟩:=ac2 (i:=some (d8 i)) (m:=some (.int m)) (r:=r) (ks:=ks) (rows:=rows) P hN t6 n1 n32
 have fin:∀ row:List Nat,p7 (sML a3u (sV 6) (ak (sV 7) dg)) (τR tg n (some (d8 i)) (some (.int m)) (some (a2g row))) (HR u' ks rows) = .nx (τR tg n (some (d8 i)) (some (.int m)) (some (a2g row))) (HR u' ks (rows++[row])):=fun row=>by
  unfold HR
  rw [List.map_append]
  exact a05 (bh rfl) rfl (arg1 (bh rfl)) (a0p (xs:=rows.map a2g) rfl (by rw [List.length_map];exact a0q (by omega)))
 have third:∀ row:List Nat,ac1 tg.length n row→∃ row',ac1 tg.length n row'∧du (sIf (a8v (sT (s2 hEq (sV 5) (sC (.int 1)))) (sT (s2 hEq (sV 4) (s2 a8g (sV 2) (sC (.int 1))))))
   (j7 7 (sZ (jo (sIt (sV 7)) t1 (uo aa) [4]))) sNx) (p7 (sML a3u (sV 6) (ak (sV 7) dg))) (τR tg n (some (d8 i)) (some (.int m)) (some (a2g row))) (HR u' ks rows) = .nx (τR tg n (some (d8 i)) (some (.int m)) (some (a2g row'))) (HR u' ks (rows++[row'])):=fun row ⟨l2,x2⟩=>by
  by_cases h1:m=1
  ·by_cases h2:(i:Int)=(n:Int) - 1
   ·refine ⟨row.map fun _=>i,⟨by rw [List.length_map,l2],fun x hx=>by obtain ⟨_,_,rfl⟩:=List.mem_map.mp hx;exact hi⟩,?_⟩
    refine Eq.trans (yo (Eq.trans (ifT (ank (tof (ig (bh rfl) (g8 _ _ _) (a6k h1))) (tof (ig (bh rfl) (ig (bh rfl) (g8 _ _ _) (abv _ _)) (a6k h2))))) (agg (ac3 (f:=fun _=>i) P' (by omega) fun x _=>by unfold uo;exact bh rfl)))) ?_
    exact fin _
   ·refine ⟨row,⟨l2,x2⟩,?_⟩
    refine Eq.trans (ifN (ank (tof (ig (bh rfl) (g8 _ _ _) (a6k h1))) (tof (ig (bh rfl) (ig (bh rfl) (g8 _ _ _) (abv _ _)) (a2f h2))))) ?_
    exact fin _
  ·refine ⟨row,⟨l2,x2⟩,?_⟩
   refine Eq.trans (ifN (apx (tof (ig (bh rfl) (g8 _ _ _) (a2f h1))))) ?_
   exact fin _
 unfold o7
 by_cases h0:0<m
 ·let g:Nat→Nat:=fun x=>if (ks[x]?).getD 0<0∧x≤i then n - 1 else x
  have gl:ac1 tg.length n (row.map g):=⟨by rw [List.length_map,l1],fun x hx=>by
   obtain ⟨y,hy,rfl⟩:=List.mem_map.mp hx
   have:=x1 y hy
   show (if _ then n - 1 else y)<n
   split
   ·exact Nat.sub_lt (by omega) (by decide)
   ·exact this⟩
  obtain ⟨row',q,e3⟩:=third _ gl
  refine ⟨u',row',some (a2g row'),q,P',?_⟩
  refine Eq.trans (iy e1) ?_
  refine Eq.trans (yo (Eq.trans (ifT (tof (ig (bh rfl) (g8 _ _ _) (ar9 h0)))) (agg (ac3 (f:=g) P' (by omega) fun x hx=>?_)))) ?_
  ·unfold yq
   have hx':=x1 x hx
   have kx:ks[x]? = some ((ks[x]?).getD 0):=by rw [List.getElem?_eq_getElem (by omega)];rfl
   have ki:∀ h:Hd,h[1]? = some (.lst (ks.map D.int))→gIx (.ref 1) (d8 x) h = .ok (.int ((ks[x]?).getD 0)) h:=fun h hh=>agh hh (by rw [List.getElem?_map,kx];rfl)
   have sb:s2 a8g (sV 1) (sC (.int 1)) (some (d8 x)::frs' [2,3,4] (τR tg n (some (d8 i)) (some (.int m)) (some (a2g row)))) (HR u' ks rows) = .ok (d8 (n - 1)) (HR u' ks rows) :=
    (ig (bh rfl) (g8 _ _ _) (abv _ _)).trans (by show R.ok (D.int ((n:Int) - 1)) _=R.ok (D.int ((n - 1:Nat):Int)) _;congr 2;omega)
   by_cases hk:(ks[x]?).getD 0<0
   ·by_cases hx:x≤i
    ·show _=R.ok (d8 (if _ then n - 1 else x)) _
     rw [if_pos ⟨hk,hx⟩]
     exact apy (ank (tof (ig (ig (bh rfl) (bh rfl) (ki _ rfl)) (g8 _ _ _) (anm hk))) (tof (ig (bh rfl) (bh rfl) (arc (by omega))))) sb
    ·show _=R.ok (d8 (if _ then n - 1 else x)) _
     rw [if_neg fun z=>hx z.2]
     exact ap2 (ank (tof (ig (ig (bh rfl) (bh rfl) (ki _ rfl)) (g8 _ _ _) (anm hk))) (tof (ig (bh rfl) (bh rfl) (ard (by omega))))) (bh rfl)
   ·show _=R.ok (d8 (if _ then n - 1 else x)) _
    rw [if_neg fun z=>hk z.1]
    exact ap2 (apx (tof (ig (ig (bh rfl) (bh rfl) (ki _ rfl)) (g8 _ _ _) (ap0 hk)))) (bh rfl)
  ·exact e3
 ·obtain ⟨row',q,e3⟩:=third _ ⟨l1,x1⟩
  refine ⟨u',row',some (a2g row'),q,P',?_⟩
  refine Eq.trans (iy e1) ?_
  refine Eq.trans (ifN (tof (ig (bh rfl) (g8 _ _ _) (ara h0)))) ?_
  exact e3
theorem ac4 {u:O} {ks:List Int} {rows:List (List Nat)}:a00 1 (HR u ks rows) FU (.tup [.ref 2, .ref 1])=some (.tup [.rol (rows.map a2g), .rol (ks.map D.int)]):=by
 have oc:∀ {k:Nat} {d d':D} {ds ds':List D},a00 1 (HR u ks rows) k d=some d'→wg (a00 1 (HR u ks rows) k) ds=some ds'→wg (a00 1 (HR u ks rows) k) (d::ds)=some (d'::ds'):=fun e1 e2=>by unfold wg;rw [e1,e2]
 refine a81 (k:=19) (oc (a0z (k:=17) (by omega) rfl (gk fun x _=>v7 (kh _))) (oc (a0z (k:=17) (by omega) rfl (gk fun x _=>di x)) rfl)) ?_
 intro z
 have:=a01.mp z (.ref 2) List.mem_cons_self
 simp only [MI.clo] at this
 omega
theorem af3 {o:O} {N n:Nat} {tg:List Nat} (P:Src o N) (hN:N≤999990000) (t6:tg.length≤6) (n1:1≤n) (n32:n≤32) :
  ∃ (ks:List Int) (rows:List (List Nat)) (o':O),ks.length=n∧ks[0]? = some (-1)∧(∀ k∈ks,KOk k)∧rows.length=n∧(∀ r∈rows,ac1 tg.length n r) ∧
   Dr d7 3 [.str (S tg),d8 n] o (.tup [.rol (rows.map a2g), .rol (ks.map D.int)]) o'∧Src o' (N+300):=by
 have lo:=qm (g:=kN 4) (b:=nu aa) (fun i:Nat=>D.int ((1+i:Nat)))
  (fun pre τ h=>∃ (u:O) (ks:List Int) (t4:Option D),τ=[some (.ref 0),some (.str (S tg)),some (d8 n),some (.ref 1),t4,none,none,none]∧h=[u, .lst (ks.map D.int)]∧Src u (N+2*pre.length)∧ks.length=1+pre.length∧ks[0]? = some (-1)∧∀ k∈ks,KOk k)
  (List.range (n - 1)) [some (.ref 0),some (.str (S tg)),some (d8 n),some (.ref 1),none,none,none,none] [o, .lst ([-1].map D.int)] ?_
  ⟨o,[-1],none,rfl,rfl,P,rfl,rfl,by intro k hk;rw [List.mem_singleton] at hk;subst hk;decide⟩
 ·obtain ⟨τ',h',e1,u,ks,t4,rfl,rfl,P1,l1,k0,kk⟩:=lo
  rw [List.length_range] at P1 l1
  obtain ⟨m,u1,e2,m0,m1,P2⟩:=jw (m:=3) P1 (by omega) (by omega) (by omega)
  have c2:j4 false 2 aa [.ref 0, .int 3] [u, .lst (ks.map D.int)] = .ok (.int m) [u1, .lst (ks.map D.int)]:=e2 0 _ rfl
  have lp:=qm (g:=kN 4) (b:=o7 aa) (fun i:Nat=>D.int (i:Nat))
   (fun pre τ h=>∃ (u':O) (rows:List (List Nat)) (i r:Option D),τ=τR tg n i (some (.int m)) r∧h=HR u' ks rows∧Src u' (N+100+6*pre.length)∧rows.length=pre.length∧∀ r∈rows,ac1 tg.length n r)
   (List.range n) (τR tg n t4 (some (.int m)) none) (HR u1 ks []) ?_ ⟨u1,[],_,_,rfl,rfl,P2.up (by omega),rfl,by simp⟩
  ·obtain ⟨τ',h',e3,u',rows,i,r,rfl,rfl,P3,lr,rr⟩:=lp
   rw [List.length_range] at P3 lr
   have ca:MI.clo 0 (.tup [.rol (rows.map a2g), .rol (ks.map D.int)]):=sr (fj (v7 (gk fun x _=>v7 (kh _))) (fj (v7 (gk fun y _=>di y)) v6))
   refine ⟨ks,rows,u',by omega,k0,kk,lr,rr,Dr.of rfl ?_ P.clo (r:=.ok (.tup [.ref 2, .ref 1]) (HR u' ks rows)) ?_ (a4h ac4 (by intro x hx;rw [show List.take 1 (HR u' ks rows)=[u'] from rfl,List.mem_singleton] at hx;subst hx;exact nj (by omega) P3.clo)) ca P3.clo,P3.up (by omega)⟩
   ·intro x hx
    simp only [List.mem_cons,List.not_mem_nil,or_false] at hx
    rcases hx with rfl | rfl
    ·exact iz _
    ·exact di _
   ·unfold d7
    rw [gj]
    show toR (v9 aa [some (.ref 0),some (.str (S tg)),some (d8 n),none,none,none,none,none] [o])=_
    unfold v9
    refine Eq.trans (congrArg toR (iy (d:=.ref 1) (h1:=[o, .lst ([-1].map D.int)]) rfl)) ?_
    refine Eq.trans (congrArg toR (a6j (abp (a:=1) (n:=n) (g8 _ _ _) (bh rfl) (iu (by omega)) (iu (by omega))))) ?_
    refine Eq.trans (congrArg (fun z=>toR (MI.thn z _)) e1) ?_
    rw [xn]
    refine Eq.trans (congrArg toR (iy (u6 (bh rfl) (g8 _ _ _) c2))) ?_
    refine Eq.trans (congrArg toR (iy (d:=.ref 2) (h1:=HR u1 ks []) rfl)) ?_
    refine Eq.trans (congrArg toR (a6j (a7c (n:=n) (bh rfl) (iu (by omega))))) ?_
    refine Eq.trans (congrArg (fun z=>toR (MI.thn z _)) e3) ?_
    rw [xn]
    exact congrArg toR (wj (u6 (bh rfl) (bh rfl) amb))
  ·rintro pre i post τ h all ⟨u',rows,i',r,rfl,rfl,P3,lr,rr⟩
   obtain ⟨hi,hk⟩:=a06 all
   obtain ⟨u2,row,r',q,P4,e4⟩:=a99 (i:=i) (m:=m) (r:=r) (ks:=ks) (rows:=rows) P3 (by omega) t6 n1 n32 (by omega) hk (by omega)
   refine ⟨_,_,rfl,_,_,e4,u2,rows++[row],_,_,rfl,rfl,P4.up (by rw [List.length_append,List.length_singleton];omega),by rw [List.length_append,List.length_append,List.length_singleton,List.length_singleton,lr],fun x hx=>?_⟩
   rcases List.mem_append.mp hx with z | z
   ·exact rr x z
   ·rw [List.mem_singleton] at z;subst z;exact q
 ·rintro pre i post τ h all ⟨u,ks,t4,rfl,rfl,P2,l1,k0,kk⟩
  obtain ⟨hi,hk⟩:=a06 all
  obtain ⟨u',k,e3,P3,hk3⟩:=a98 (ks:=ks) (t:=.str (S tg)) (n:=d8 n) (x:=some (.int ((1+i:Nat):Int))) (y:=none) P2 (by omega) (by omega)
  refine ⟨_,_,rfl,_,_,e3,u',ks++[k],_,rfl,rfl,P3.up (by rw [List.length_append,List.length_singleton];omega),by rw [List.length_append,List.length_append,List.length_singleton,List.length_singleton];omega,?_,fun q hq=>?_⟩
  ·rw [List.getElem?_append_left (by omega)];exact k0
  ·rcases List.mem_append.mp hq with h | h
   ·exact kk q h
   ·rw [List.mem_singleton] at h;subst h;exact hk3
end SRC
namespace BF
def walk (step:Nat→Nat→Nat) (r:Nat):List Nat→Nat
 | []=>r
 | c::p=>step (walk step r p) c
section
variable (s:Nat) (step:Nat→Nat→Nat) (K:Nat→Bool)
def fl:Nat→Nat→Bool
 | 0,r=>K r
 | k+1,r=>(List.range s).any fun c=>fl k (step r c)
def fst (k r:Nat):Nat:=((List.range s).find? fun c=>fl s step K k (step r c)).getD 0
def gre:Nat→Nat→List Nat
 | 0,_=>[]
 | k+1,r=>fst s step K k r::gre k (step r (fst s step K k r))
variable {s step K}
end
theorem a89:∀ (n:Nat) (l:List Nat),l.Nodup→(∀ x∈l,x<n)→l.length≤n
 | 0,l,_,h=>by
  cases l with
  | nil=>exact Nat.le_refl _
  | cons x l=>exact absurd (h x List.mem_cons_self) (by omega)
 | n+1,l,nd,h=>by
  have:=a89 n (l.erase n) (nd.erase n) fun x hx=>by
   have h1:=h x (List.mem_of_mem_erase hx)
   have h2:x≠n:=fun z=>by subst z;exact (List.Nodup.not_mem_erase nd) hx
   omega
  have:=List.length_erase (a:=n) (l:=l)
  split at this<;>omega
end BF
namespace SRC
open PySem PySem.Spec L2 MI AT HND EVX
theorem apz {ck:Hd→Prop} {f:D→Hd→R D} {α:Type} (g F:α→D) {h:Hd} (c:ck h):∀ {xs:List α},(∀ x∈xs,f (g x) h = .ok (F x) h)→mapR ck f (xs.map g) h = .ok (xs.map F) h
 | [],_=>by rw [List.map_nil,mapR,if_pos c];rfl
 | x::xs,st=>by
  rw [List.map_cons,mapR,if_pos c,st x List.mem_cons_self]
  show (mapR _ f (xs.map g) h).bind _=_
  rw [apz g F c fun y hy=>st y (List.mem_cons_of_mem _ hy)];rfl
theorem amg {fi:SI} {t:D→Option Sd} {fe:SE} {ix:List Nat} {τ:Sd} {h:Hd} {α:Type} {ck:Hd→Prop} (g F:α→D) (xs:List α) (c:ck h) (e:fi τ h = .ok ⟨xs.map g,ck⟩ h) (z:xs.length≤LINE)
  (st:∀ x∈xs,a2b t fe (frs' ix τ) (g x) h = .ok (F x) h):jo fi t fe ix τ h = .ok (.ref h.length) (h++[.lst (xs.map F)]):=by
 unfold jo
 rw [e,cu]
 dsimp only
 rw [if_pos (by rw [List.length_map];exact z),apz g F c st]
 rfl
theorem aix {x:Nat} {l:List Nat}:inD (d8 x) (l.map d8)=decide (x∈l):=by
 unfold inD
 rw [List.any_map]
 by_cases h:x∈l
 ·rw [decide_eq_true h,List.any_eq_true]
  exact ⟨x,h,by show ((x:Int) == (x:Int))=true;simp⟩
 ·rw [decide_eq_false h,List.any_eq_false]
  intro y hy
  have:x≠y:=fun e=>h (e ▸ hy)
  show ¬ ((y:Int) == (x:Int))=true
  rw [beq_iff_eq]
  omega
theorem a8a {x i:Nat} {l:List Nat} {h:Hd} (e:h[i]? = some (.lst (l.map d8))):gIn true (d8 x) (.ref i) h = .ok (.bl (!decide (x∈l))) h:=by
 have fl:yw (d8 x)=true∧(l.map d8).all yw=true:=⟨rfl,by
  rw [List.all_eq_true]
  intro y hy
  obtain ⟨n,_,rfl⟩:=List.mem_map.mp hy
  rfl⟩
 unfold gIn xg
 simp only [e,if_pos fl,if_true,aix]
abbrev cst (l:List Nat):List Int:=l.map fun x:Nat=>(x:Int)
theorem ac6 (l:List Nat):l.map d8=(cst l).map D.int:=by unfold cst;rw [List.map_map];rfl
theorem a2z {i:Nat} {l:List Nat} {h:Hd} (e:h[i]? = some (.lst (l.map d8))):a2w (.ref i) h=some (cst l):=by
 unfold a2w
 simp only [e]
 rw [ac6,ints_map]
theorem a9a (l:List Nat):∃ m:List Nat,PySem.W.sortI (cst l)=cst m∧m.Perm l∧m.Pairwise (·≤·):=by
 have p:=PySem.W.sortI_perm (cst l)
 have s:=PySem.W.sortI_rises (cst l)
 refine ⟨(PySem.W.sortI (cst l)).map Int.toNat,?_,?_,?_⟩
 ·unfold cst
  rw [List.map_map]
  have:∀ x∈PySem.W.sortI (l.map fun x:Nat=>(x:Int)),((fun x:Nat=>(x:Int)) ∘ Int.toNat) x=x:=fun x hx=>by
   have:=p.mem_iff.mp hx
   obtain ⟨y,_,rfl⟩:=List.mem_map.mp this
   simp
  rw [List.map_congr_left this]
  simp
 ·have:=p.map Int.toNat
  have e:(cst l).map Int.toNat=l:=by
   unfold cst
   rw [List.map_map]
   exact (List.map_congr_left fun x _=>by simp).trans (List.map_id l)
  rwa [e] at this
 ·rw [List.pairwise_map]
  exact s.imp fun h=>by omega
def pos (m:List Nat) (x:Nat):Nat:=(ixI (x:Int) (cst m)).getD 0
theorem agk {m:List Nat} {x:Nat} (h:x∈m):ixI (x:Int) (cst m)=some (pos m x)∧pos m x<m.length:=by
 obtain ⟨j,hj⟩:=a7y (n:=(x:Int)) (l:=cst m) (List.mem_map.mpr ⟨x,h,rfl⟩)
 unfold pos
 rw [hj]
 refine ⟨rfl,?_⟩
 have:=(List.getElem?_eq_some_iff.mp (ab6 hj).1).1
 simpa using this
noncomputable def jq:SF:=jr (vf aa d7 bw) 10
abbrev τT (most:Nat) (tg:List Nat) (many:Int) (rows:List (List Nat)) (ks:List Int) (m:D) (i:Nat) (t8 t9:Option D):Sd:=[some (.ref 0),some (d8 most),some (.str (S tg)),some (.int many),some (.rol (rows.map a2g)),some (.rol (ks.map D.int)),some m,some (d8 i),t8,t9]
structure Met (n:Nat) (met:List Nat):Prop where
 nd:met.Nodup
 lt:∀ x∈met,x<n
 z:0∈met
theorem Met.len {n:Nat} {met:List Nat} (M:Met n met):met.length≤n:=BF.a89 n met M.nd M.lt
theorem Met.add {n x:Nat} {met:List Nat} (M:Met n met) (hx:x<n) (h:x ∉ met):Met n (met++[x]):=by
 refine ⟨?_,fun y hy=>?_,List.mem_append_left _ M.z⟩
 ·rw [List.nodup_append]
  refine ⟨M.nd,by simp,fun a ha b hb=>?_⟩
  rw [List.mem_singleton] at hb
  subst hb
  exact fun e=>h (e ▸ ha)
 ·rcases List.mem_append.mp hy with z | z
  ·exact M.lt y z
  ·rw [List.mem_singleton] at z;subst z;exact hx
section
variable {A B C:SF} {most n:Nat} {tg:List Nat} {many:Int} {rows:List (List Nat)} {ks:List Int}
theorem af4 {u:O} {i:Nat} {t8:Option D} {met row:List Nat} (n32:n≤32) (M:Met n met) (rx:∀ x∈row,x<n) :
  ∃ (met':List Nat) (t8':Option D),forL (fun _=>True) (kN 8) (o8 A B C) (row.map d8) (τT most tg many rows ks (.ref 1) i t8 none) [u, .lst (met.map d8)] = .nx (τT most tg many rows ks (.ref 1) i t8' none) [u, .lst (met'.map d8)]∧Met n met'∧(∃ add,met'=met++add)∧∀ x∈row,x∈met':=by
 have lp:=qm (g:=kN 8) (b:=o8 A B C) d8
  (fun pre τ h=>∃ (met':List Nat) (t8:Option D),τ=τT most tg many rows ks (.ref 1) i t8 none∧h=[u, .lst (met'.map d8)]∧Met n met'∧(∃ add,met'=met++add)∧∀ x∈pre,x∈met')
  row (τT most tg many rows ks (.ref 1) i t8 none) [u, .lst (met.map d8)] ?_ ⟨met,t8,rfl,rfl,M,⟨[],by simp⟩,by simp⟩
 ·obtain ⟨τ',h',e,met',t8',rfl,rfl,M',ad,al⟩:=lp
  exact ⟨met',t8',e,M',ad,al⟩
 ·rintro pre x post τ h all ⟨met',t8,rfl,rfl,M',⟨add,rfl⟩,al⟩
  have hx:x<n:=rx x (by rw [all];simp)
  unfold o8
  by_cases h:x∈met++add
  ·refine ⟨_,_,rfl,τT most tg many rows ks (.ref 1) i (some (d8 x)) none,[u, .lst ((met++add).map d8)],?_,met++add,_,rfl,rfl,M',⟨add,rfl⟩,fun y hy=>?_⟩
   ·refine Eq.trans (ifF (tof (ig (bh rfl) (bh rfl) ((a8a (l:=met++add) rfl).trans (by rw [decide_eq_true h];rfl))))) rfl
   ·rcases List.mem_append.mp hy with z | z
    ·exact al y z
    ·rw [List.mem_singleton] at z;subst z;exact h
  ·refine ⟨_,_,rfl,τT most tg many rows ks (.ref 1) i (some (d8 x)) none,[u, .lst ((met++add++[x]).map d8)],?_,met++add++[x],_,rfl,rfl,M'.add hx h,⟨add++[x],by simp⟩,fun y hy=>?_⟩
   ·have ln:=M'.len
    refine Eq.trans (ifT (tof (ig (bh rfl) (bh rfl) ((a8a (l:=met++add) rfl).trans (by rw [decide_eq_false h];rfl))))) ?_
    rw [List.map_append (l₁:=met++add)]
    exact a05 (bh rfl) rfl (arg1 (bh rfl)) (a0p (xs:=(met++add).map d8) rfl (by rw [List.length_map];exact a0q (by omega)))
   ·rcases List.mem_append.mp hy with z | z
    ·exact List.mem_append_left _ (al y z)
    ·rw [List.mem_singleton] at z;subst z;simp
def Done (rows:List (List Nat)) (met:List Nat) (i:Nat):Prop:=∀ j,j<i→∀ r,met[j]? = some r→∀ x∈(rows[r]?).getD [],x∈met
theorem aiy {u:O} {s:Nat} (n1:1≤n) (n32:n≤32) (lr:rows.length=n) (rr:∀ r∈rows,ac1 s n r) :
  ∃ (met:List Nat) (i:Nat) (t8:Option D),sWh (uq A B C) (o9 A B C) 100000 (τT most tg many rows ks (.ref 1) 0 none none) [u, .lst ([0].map d8)] = .nx (τT most tg many rows ks (.ref 1) i t8 none) [u, .lst (met.map d8)]∧Met n met∧∀ r∈met,∀ x∈(rows[r]?).getD [],x∈met:=by
 have w:=aif (c:=uq A B C) (f:=o9 A B C)
  (fun m τ h=>∃ (met:List Nat) (i:Nat) (t8:Option D),τ=τT most tg many rows ks (.ref 1) i t8 none∧h=[u, .lst (met.map d8)]∧m=32 - i∧i≤met.length∧Met n met∧Done rows met i)
  (fun τ h=>∃ (met:List Nat) (i:Nat) (t8:Option D),τ=τT most tg many rows ks (.ref 1) i t8 none∧h=[u, .lst (met.map d8)]∧Met n met∧Done rows met met.length)
  (fun _ _=>False) ?_ 32 100000 (τT most tg many rows ks (.ref 1) 0 none none) [u, .lst ([0].map d8)] (by omega)
  ⟨[0],0,none,rfl,rfl,rfl,by simp,⟨by simp,by simp;omega,by simp⟩,fun j hj=>absurd hj (Nat.not_lt_zero j)⟩
 ·rcases w with ⟨τ',h',e,met,i,t8,rfl,rfl,M,D⟩ | ⟨_,_,_,z⟩
  ·refine ⟨met,i,t8,e,M,fun r hr x hx=>?_⟩
   obtain ⟨j,hj,rfl⟩:=List.getElem_of_mem hr
   exact D j hj _ (List.getElem?_eq_getElem hj) x hx
  ·exact z.elim
 ·rintro m τ h ⟨met,i,t8,rfl,rfl,rfl,il,M,D⟩
  have ln:=M.len
  have lm:∀ h:Hd,h[1]? = some (.lst (met.map d8))→zb [.ref 1] h = .ok (d8 met.length) h:=fun h e=>by rw [aiu e,List.length_map]
  by_cases lt:i<met.length
  ·refine .inr ⟨_,tof (ig (bh rfl) (a2a (bh rfl) (lm _ rfl)) (anm (by omega))), .inl ?_⟩
   have rl:met[i]<n:=M.lt _ (List.getElem_mem lt)
   have gm:met[i]? = some met[i]:=List.getElem?_eq_getElem lt
   generalize met[i]=r at rl gm
   have gr:rows[r]? = some ((rows[r]?).getD []):=by rw [List.getElem?_eq_getElem (by omega)];rfl
   have rn:=rr _ (List.mem_of_getElem? gr)
   obtain ⟨met',t8',e,M',⟨add,ea⟩,al⟩:=af4 (A:=A) (B:=B) (C:=C) (u:=u) (i:=i) (t8:=t8) (most:=most) (tg:=tg) (many:=many) (rows:=rows) (ks:=ks) n32 M rn.2
   refine ⟨τT most tg many rows ks (.ref 1) (i+1) t8' none,[u, .lst (met'.map d8)],32 - (i+1),?_,by omega,met',i+1,t8',rfl,rfl,rfl,by rw [ea,List.length_append];omega,M',fun j hj q hq x hx=>?_⟩
   ·unfold o9
    refine Eq.trans (a6j (a9f (ig (bh rfl) (ig (bh rfl) (bh rfl) (agh (xs:=met.map d8) rfl (y:=d8 r) (by rw [List.getElem?_map,gm];rfl))) (am9 (y:=a2g ((rows[r]?).getD [])) (by rw [List.getElem?_map,gr];rfl))) rfl)) ?_
    refine Eq.trans (congrArg (fun z=>MI.thn z _) e) ?_
    rw [xn]
    exact aoz rfl (g8 _ _ _) a1y
   ·by_cases je:j=i
    ·subst je
     rw [ea,List.getElem?_append_left lt,gm] at hq
     cases hq
     exact al x hx
    ·have jl:j<met.length:=by omega
     rw [ea,List.getElem?_append_left jl] at hq
     rw [ea]
     exact List.mem_append_left _ (D j (by omega) q hq x hx)
  ·refine .inl ⟨_,tof (ig (bh rfl) (a2a (bh rfl) (lm _ rfl)) (ap0 (by omega))),met,i,t8,rfl,rfl,M,?_⟩
   rw [show met.length=i by omega];exact D
end
end SRC
namespace SRC
open PySem PySem.Spec L2 MI AT HND EVX
theorem ac8 {i:Nat} {l m:List Nat} {h:Hd} (e:h[i]? = some (.lst (l.map d8))) (z:l.length<64) (em:PySem.W.sortI (cst l)=cst m):zg [.ref i] h = .ok (.ref h.length) (h++[.lst (m.map d8)]):=by
 have q:=a2z e
 unfold zg
 simp only [q]
 rw [if_pos (by unfold cst;rw [List.length_map];exact z),em,← ac6]
theorem aca {i x:Nat} {m:List Nat} {h:Hd} (e:h[i]? = some (.lst (m.map d8))) (hx:x∈m):a1v (.ref i) [d8 x] h = .ok (d8 (pos m x)) h:=by
 have q:=a2z e
 unfold a1v
 simp only [q,(agk hx).1]
section
variable {A B C:SF} {most n:Nat} {tg:List Nat} {many:Int} {rows:List (List Nat)} {ks:List Int}
abbrev a7d (rows:List (List Nat)) (m:List Nat):List (List Nat):=m.map fun r=>((rows[r]?).getD []).map (pos m)
abbrev a3a (ks:List Int) (m:List Nat):List Int:=m.map fun r=>(ks[r]?).getD 0
theorem acb {u:O} {N i:Nat} {t8:Option D} {met:List Nat} (P:Src u N) (n32:n≤32) (lr:rows.length=n) (lk:ks.length=n) (t6:tg.length≤6) (rr:∀ r∈rows,ac1 tg.length n r) (M:Met n met) (cl:∀ r∈met,∀ x∈(rows[r]?).getD [],x∈met) :
  ∃ m:List Nat,m.Perm met∧m.Pairwise (·≤·)∧∃ h:Hd,h.take 1=[u]∧toR (du (j7 6 (sA zg (ak (sV 6) dg)))
   (du (j7 9 (sA qy (ak (sZ (jo (sIt (sV 6)) t1 (oh A B C) [4,6])) dg)))
   (uc (sA a0v (ak (sV 2) (ak (sV 9) (ak (sA qy (ak (sZ (jo (sIt (sV 6)) t1 (ou A B C) [5])) dg)) dg)))))) (τT most tg many rows ks (.ref 1) i t8 none) [u, .lst (met.map d8)]) = .ok (.tup [.str (S tg), .tup ((a7d rows m).map ac0), .tup ((a3a ks m).map D.int)]) h:=by
 obtain ⟨m,em,pm,sm⟩:=a9a met
 have ln:=M.len
 have lm:m.length=met.length:=pm.length_eq
 let H:Hd:=[u, .lst (met.map d8), .lst (m.map d8)]
 have hc:∀ o∈H,a07 H.length o:=by
  intro o ho
  simp only [H,List.mem_cons,List.not_mem_nil,or_false] at ho
  rcases ho with rfl | rfl | rfl
  ·exact nj (Nat.zero_le _) P.clo
  ·exact nj (Nat.zero_le _) (kh _)
  ·exact nj (Nat.zero_le _) (kh _)
 have so:zg [.ref 1] [u, .lst (met.map d8)] = .ok (.ref 2) H:=by
  exact ac8 (l:=met) rfl (by omega) em
 have rw':∀ r∈m,rows[r]? = some ((rows[r]?).getD [])∧ac1 tg.length n ((rows[r]?).getD [])∧∀ x∈(rows[r]?).getD [],x∈m:=fun r hr=>by
  have h1:=M.lt r (pm.mem_iff.mp hr)
  have e:rows[r]? = some ((rows[r]?).getD []):=by rw [List.getElem?_eq_getElem (by omega)];rfl
  exact ⟨e,rr _ (List.mem_of_getElem? e),fun x hx=>pm.mem_iff.mpr (cl r (pm.mem_iff.mp hr) x hx)⟩
 have z1:sZ (jo (sIt (sV 6)) t1 (oh A B C) [4,6]) (τT most tg many rows ks (.ref 2) i t8 none) H = .ok (.rol ((a7d rows m).map ac0)) H:=by
  rw [List.map_map]
  refine a69 (amg (ck:=fun h=>h[2]? = some (.lst (m.map d8))) d8 (ac0 ∘ fun r=>((rows[r]?).getD []).map (pos m)) m rfl (a9f (bh rfl) rfl) (iu (by omega)) fun r hr=>?_) (gk fun x _=>sr (kh _)) hc
  obtain ⟨e1,⟨e2,_⟩,e3⟩:=rw' r hr
  rw [vp]
  unfold oh
  have z2:sZ (jo (sIt (s2 gIx (sV 1) (sV 0))) t1 (ur A B C) [2]) (some (d8 r)::frs' [4,6] (τT most tg many rows ks (.ref 2) i t8 none)) H = .ok (.rol ((((rows[r]?).getD []).map (pos m)).map d8)) H:=by
   rw [List.map_map]
   refine a69 (ye d8 (d8 ∘ pos m) ((rows[r]?).getD []) (a9f (ig (bh rfl) (bh rfl) (am9 (y:=a2g ((rows[r]?).getD [])) (by rw [List.getElem?_map,e1];rfl))) rfl) (iu (by omega)) fun x hx=>?_) (gk fun x _=>di _) hc
   rw [vp]
   unfold ur
   exact aoy (bh rfl) rfl (arg1 (bh rfl)) (aca rfl (e3 x hx))
  exact a2a z2 rfl
 have z3:∀ t9:Option D,sZ (jo (sIt (sV 6)) t1 (ou A B C) [5]) (τT most tg many rows ks (.ref 2) i t8 t9) H = .ok (.rol ((a3a ks m).map D.int)) H:=fun t9=>by
  rw [List.map_map]
  refine a69 (amg (ck:=fun h=>h[2]? = some (.lst (m.map d8))) d8 (D.int ∘ fun r=>(ks[r]?).getD 0) m rfl (a9f (bh rfl) rfl) (iu (by omega)) fun r hr=>?_) (gk fun x _=>di _) hc
  have h1:=M.lt r (pm.mem_iff.mp hr)
  have e:ks[r]? = some ((ks[r]?).getD 0):=by rw [List.getElem?_eq_getElem (by omega)];rfl
  rw [vp]
  unfold ou
  exact ig (bh rfl) (bh rfl) (am9 (by rw [List.getElem?_map,e];rfl))
 refine ⟨m,pm,sm,H,rfl,?_⟩
 refine Eq.trans (congrArg toR (iy (a2a (bh rfl) so))) ?_
 refine Eq.trans (congrArg toR (iy (a2a z1 (show qy [.rol ((a7d rows m).map ac0)] H = .ok (.tup ((a7d rows m).map ac0)) H from rfl)))) ?_
 exact congrArg toR (wj (abt (bh rfl) (bh rfl) (a2a (z3 _) (show qy [.rol ((a3a ks m).map D.int)] H = .ok (.tup ((a3a ks m).map D.int)) H from rfl)) ano))
end
theorem af5 {o:O} {N most:Nat} (P:Src o N) (hN:N≤999980000) (m1:1≤most) (m32:most≤32):∃ (T:Table) (o':O),T.Ok∧Dr jq 2 [d8 most] o T.d o'∧Src o' (N+400):=by
 obtain ⟨tg,o1,T1,e1,P1⟩:=abz P (by omega)
 obtain ⟨x,o2,e2,x0,x1,P2⟩:=jw (m:=7) P1 (by omega) (by omega) (by omega)
 obtain ⟨y,o3,e3,y0,y1,P3⟩:=jw (m:=6) P2 (by omega) (by omega) (by omega)
 obtain ⟨z,o4,e4,z0,z1,P4⟩:=jw (m:=(most:Nat)) P3 (by omega) (by omega) (by omega)
 have c1:j4 false 1 bw [.ref 0] [o] = .ok (.str (S tg)) [o1]:=e1 0 _ rfl
 have c2:j4 false 2 aa [.ref 0, .int 7] [o1] = .ok (.int x) [o2]:=e2 0 _ rfl
 have c3:j4 false 2 aa [.ref 0, .int 6] [o2] = .ok (.int y) [o3]:=e3 0 _ rfl
 have c4:j4 false 2 aa [.ref 0,d8 most] [o3] = .ok (.int z) [o4]:=e4 0 _ rfl
 obtain ⟨many,u,n1,Pu,eu⟩:∃ (many:Int) (u:O),1≤many∧Src u (N+10)∧∀ g:SS,du (j7 3 (s2 jm (sC (.int 2)) (sA (j4 false 2 aa) (ak (sV 0) (ak (sC (.int 7)) dg)))))
   (du (sIf (sT (s2 hEq (sA (j4 false 2 aa) (ak (sV 0) (ak (sC (.int 6)) dg))) (sC (.int 0))))
    (j7 3 (s2 jm (sC (.int 1)) (sA (j4 false 2 aa) (ak (sV 0) (ak (sV 1) dg)))))
    sNx) g) [some (.ref 0),some (d8 most),some (.str (S tg)),none,none,none,none,none,none,none] [o1]=g [some (.ref 0),some (d8 most),some (.str (S tg)),some (.int many),none,none,none,none,none,none] [u]:=by
  by_cases hy:y=0
  ·refine ⟨1+z,o4,by omega,P4,fun g=>?_⟩
   refine Eq.trans (iy (ig (g8 _ _ _) (u6 (bh rfl) (g8 _ _ _) c2) yr)) ?_
   exact yo (Eq.trans (ifT (tof (ig (u6 (bh rfl) (g8 _ _ _) c3) (g8 _ _ _) (a6k hy)))) (agg (ig (g8 _ _ _) (u6 (bh rfl) (bh rfl) c4) yr)))
  ·refine ⟨2+x,o3,by omega,P3.up (by omega),fun g=>?_⟩
   refine Eq.trans (iy (ig (g8 _ _ _) (u6 (bh rfl) (g8 _ _ _) c2) yr)) ?_
   exact ifN (tof (ig (u6 (bh rfl) (g8 _ _ _) c3) (g8 _ _ _) (a2f hy)))
 obtain ⟨n,hn1,hn2,mn⟩:∃ n:Nat,1≤n∧n≤32∧(if (most:Int)<many then (most:Int) else many)=(n:Nat):=by
  by_cases h:(most:Int)<many
  ·exact ⟨most,m1,m32,if_pos h⟩
  ·exact ⟨many.toNat,by omega,by omega,by rw [if_neg h];omega⟩
 obtain ⟨ks,rows,u2,lk,k0,kk,lr,rr,e5,P5⟩:=af3 (tg:=tg) (n:=n) Pu (by omega) T1.hi hn1 hn2
 have c5:j4 false 3 d7 [.ref 0, .str (S tg),d8 n] [u] = .ok (.tup [.rol (rows.map a2g), .rol (ks.map D.int)]) [u2]:=e5 0 _ rfl
 obtain ⟨met,i,t8,ew,M,cl⟩:=aiy (A:=aa) (B:=d7) (C:=bw) (u:=u2) (most:=most) (tg:=tg) (many:=many) (ks:=ks) hn1 hn2 lr rr
 obtain ⟨m,pm,sm,H,hH,ee⟩:=acb (A:=aa) (B:=d7) (C:=bw) (most:=most) (many:=many) (i:=i) (t8:=t8) P5 hn2 lr lk T1.hi rr M cl
 have lm:m.length=met.length:=pm.length_eq
 have ln:=M.len
 have zm:0∈m:=pm.mem_iff.mpr M.z
 have m0:m[0]? = some 0:=by
  cases m with
  | nil=>cases zm
  | cons a l =>
   rcases List.mem_cons.mp zm with q | q
   ·rw [← q];rfl
   ·have:=(List.pairwise_cons.mp sm).1 0 q
    rw [show a=0 by omega];rfl
 let T:Table:=⟨tg,a7d rows m,a3a ks m⟩
 have ml:1≤m.length:=by cases m with | nil=>cases zm | cons _ _=>simp
 have ok:T.Ok:=by
  refine ⟨T1,by simpa [T] using ml,by show (a7d rows m).length≤32;rw [List.length_map];omega,fun r hr=>?_,by simp [T],?_,fun k hk=>?_⟩
  ·obtain ⟨q,hq,rfl⟩:=List.mem_map.mp hr
   have h1:=M.lt q (pm.mem_iff.mp hq)
   have e:rows[q]? = some ((rows[q]?).getD []):=by rw [List.getElem?_eq_getElem (by omega)];rfl
   obtain ⟨a,b⟩:=rr _ (List.mem_of_getElem? e)
   refine ⟨by rw [List.length_map];exact a,fun x hx=>?_⟩
   obtain ⟨v,hv,rfl⟩:=List.mem_map.mp hx
   show pos m v<(a7d rows m).length
   rw [List.length_map]
   exact (agk (pm.mem_iff.mpr (cl q (pm.mem_iff.mp hq) v hv))).2
  ·show (a3a ks m)[0]? = _
   rw [List.getElem?_map,m0]
   show some ((ks[0]?).getD 0)=_
   rw [k0];rfl
  ·obtain ⟨q,hq,rfl⟩:=List.mem_map.mp hk
   have h1:=M.lt q (pm.mem_iff.mp hq)
   have e:ks[q]? = some ((ks[q]?).getD 0):=by rw [List.getElem?_eq_getElem (by omega)];rfl
   exact kk _ (List.mem_of_getElem? e)
 refine ⟨T,u2,ok,Dr.of rfl (by intro x hx;rw [List.mem_singleton] at hx;subst hx;exact di _) P.clo (r:=.ok T.d H) ?_ ((jk (aba (Nat.zero_le 1) Table.clo) (by rw [hH];intro x hx;rw [List.mem_singleton] at hx;subst hx;exact nj (by omega) P5.clo)).trans (by rw [hH])) Table.clo P5.clo,P5.up (by omega)⟩
 unfold jq
 rw [gj]
 show toR (vf aa d7 bw [some (.ref 0),some (d8 most),none,none,none,none,none,none,none,none] [o])=_
 unfold vf
 refine Eq.trans (congrArg toR (iy (a2a (bh rfl) c1))) ?_
 refine Eq.trans (congrArg toR (eu _)) ?_
 refine Eq.trans (congrArg toR (yo (ais (abt (bh rfl) (bh rfl) (u6 (bh rfl) (bh rfl) (show a5u [.int many, .int (most:Int)] [u] = .ok (d8 n) [u] by show R.ok (D.int (if (most:Int)<many then (most:Int) else many)) [u]=_;rw [mn])) c5) rfl))) ?_
 refine Eq.trans (congrArg toR (iy (d:=.ref 1) (h1:=[u2, .lst ([0].map d8)]) rfl)) ?_
 refine Eq.trans (congrArg toR (iy (g8 _ _ _))) ?_
 refine Eq.trans (congrArg toR (yo ew)) ?_
 exact ee
end SRC
namespace K21
open PySem PySem.Spec L2 MI
noncomputable def ph:SE :=
 (s2 (gIn false) (sV 0) (sV 1))
noncomputable def jy:SS :=
 (uc (zu (sA uf (ak (sV 1) (ak (sC (.ty "str")) dg))) (sA ag6 (ak (sZ (jo (sIt (sV 1)) t1 ph [0])) dg))))
noncomputable def jt (iw:SF):SS :=
 (du (sIf (a3m (a3l (sA (j4 false 2 iw) (ak (sV 0) (ak (sV 1) dg)))))
 (a6d "NoText" (ak (sC (.str "no text of the tongue")) dg))
 sNx)
 (uc (sV 1)))
end K21
namespace K23
open PySem PySem.Spec L2 MI
noncomputable def ph:SE :=
 (s2 (gIn false) (sV 0) (sV 1))
noncomputable def jy:SS :=
 (uc (zu (sA uf (ak (sV 1) (ak (sC (.ty "str")) dg))) (sA ag6 (ak (sZ (jo (sIt (sV 1)) t1 ph [0])) dg))))
noncomputable def ie:SS :=
 (p7 (sML a3u (sV 6) (ak (s2 gIx (s2 gIx (sV 4) (s2 gIx (sV 6) (s1 a8y (sC (.int 1))))) (sMS a2r (sV 3) (ak (sV 7) dg))) dg)))
noncomputable def j5:SS :=
 (du (a8w (sV 0) (a72 3 (mq (kN 3) (mq (kN 4) (mq (kN 5) a7l)))))
 (du (j7 6 (sA a71 (ak (sV 1) dg)))
 (du (a5q (sIt (sV 2)) (kN 7) ie)
 (uc (sV 6)))))
end K23
namespace K22
open PySem PySem.Spec L2 MI
end K22
namespace K22
open PySem PySem.Spec L2 MI AT HND
section
variable (T:Table)
def stp (r c:Nat):Nat:=(((T.go[r]?).getD [])[c]?).getD 0
def knd (r:Nat):Bool:=decide ((T.ks[r]?).getD (-1) ≠ -1)
def tgA (c:Nat):Nat:=(T.tg[c]?).getD 0
def hit (r0:Nat) (w:List Nat):Prop:=w≠[]∧knd T (BF.walk (stp T) r0 w)=true
end
section
variable {T:Table} (h:T.Ok)
theorem amh (h:T.Ok) (r c:Nat):stp T r c<T.go.length:=by
 have h1:=h.n1
 unfold stp
 cases e:T.go[r]? with
 | none=>simp;omega
 | some row =>
  simp only [Option.getD_some]
  cases e2:row[c]? with
  | none=>simp;omega
  | some x=>simp only [Option.getD_some];exact (h.row row (List.mem_of_getElem? e)).2 x (List.mem_of_getElem? e2)
theorem ami (h:T.Ok) {r:Nat} (hr:r<T.go.length):∃ row:List Nat,T.go[r]? = some row∧row.length=T.tg.length∧(∀ x∈row,x<T.go.length)∧∀ c,c<T.tg.length→row[c]? = some (stp T r c):=by
 refine ⟨T.go[r],List.getElem?_eq_getElem hr,(h.row _ (List.getElem_mem hr)).1,(h.row _ (List.getElem_mem hr)).2,fun c hc=>?_⟩
 have l:=(h.row _ (List.getElem_mem hr)).1
 unfold stp
 rw [List.getElem?_eq_getElem hr,Option.getD_some,List.getElem?_eq_getElem (by omega),Option.getD_some]
theorem amj (h:T.Ok) {r:Nat} (hr:r<T.go.length):∃ k:Int,T.ks[r]? = some k ∧ -1≤k∧knd T r=decide (k ≠ -1):=by
 have l:r<T.ks.length:=by rw [h.kl];exact hr
 refine ⟨T.ks[r],List.getElem?_eq_getElem l,(h.kk _ (List.getElem_mem l)).1,?_⟩
 unfold knd
 rw [List.getElem?_eq_getElem l,Option.getD_some]
end
end K22
namespace K22
open PySem PySem.Spec L2 MI AT HND
section
variable {T:Table}
abbrev FL (T:Table) (k r:Nat):Bool:=BF.fl T.tg.length (stp T) (knd T) k r
theorem ap3 (h:T.Ok) {r:Nat} (hr:r<T.go.length):T.go[r]? = some ((List.range T.tg.length).map (stp T r)):=by
 obtain ⟨row,e,l,_,at'⟩:=ami h hr
 rw [e]
 congr 1
 refine List.ext_getElem? fun i=>?_
 by_cases hi:i<T.tg.length
 ·rw [at' i hi,List.getElem?_map,List.getElem?_range hi];rfl
 ·rw [List.getElem?_eq_none (by omega),List.getElem?_eq_none (by simp;omega)]
def kI (T:Table) (r:Nat):Int:=(T.ks[r]?).getD (-1)
abbrev aq0 (T:Table) (r:Nat):D:=ac0 ((List.range T.tg.length).map (stp T r))
theorem aiz {α:Type} (l:List α) (x:α):atI (l++[x]) (-1)=some x:=by
 have:ixN (l++[x]).length (-1)=some l.length:=by
  unfold ixN
  rw [if_neg (by decide),List.length_append,List.length_singleton]
  rw [if_pos (by omega)]
  congr 1
  omega
 unfold atI
 rw [this]
 simp
end
end K22
namespace K22
open PySem PySem.Spec L2 MI AT HND
section
variable {T:Table}
def arf (T:Table) (r:Nat):Option Nat:=(List.range T.go.length).find? fun i=>FL T (1+i) r
def gtx (T:Table) (k r:Nat):List Nat:=(BF.gre T.tg.length (stp T) (knd T) k r).map (tgA T)
def A (T:Table) (r:Nat):D:=match arf T r with | none=>.non | some i=>.str (S (gtx T (1+i) r))
theorem agl (h:T.Ok) {r:Nat} (hr:r<T.go.length) (hh:Hd):gIx (.tup (T.go.map ac0)) (d8 r) hh = .ok (aq0 T r) hh:=a9g (by rw [List.getElem?_map,ap3 h hr];rfl)
end
end K22
namespace K23
open PySem PySem.Spec L2 MI AT HND K22
section
variable {T:Table}
def Pln:D→Prop
 | .non=>True | .bl _=>True | .int _=>True | .str x=>x.cps.toList.length≤1000 | .tup xs=>clos 0 xs | .rol xs=>clos 0 xs | .rod _ xs=>clos 0 xs | _=>False
theorem Pln.clo {d:D} (p:Pln d):clo 0 d:=by
 cases d<;>first | (simp only [Pln] at p;done) | (simp only [Pln] at p;simpa [MI.clo] using p) | simp [MI.clo]
def isStr:D→Bool | .str _=>true | _=>false
theorem amk {d:D} {h:Hd} (p:Pln d):uf [d, .ty "str"] h = .ok (.bl (isStr d)) h:=by
 cases d<;>first | (simp only [Pln] at p;done) | simp [uf,adp,tyD,aau,isStr]
def psn (T:Table) (c:Nat):Nat:=(zq (S T.tg) c).toNat
def ldw (T:Table) (r:Nat):List Nat→Nat
 | []=>r
 | c::l=>ldw T (stp T r (psn T c)) l
theorem a8b {c:Nat} (hc:c∈T.tg):zq (S T.tg) c=(psn T c:Nat)∧psn T c<T.tg.length:=by
 obtain ⟨i,e1,e2,_⟩:=a7k (T:=S T.tg) (c:=c) (by rw [a04];exact hc)
 rw [a04] at e2
 unfold psn
 rw [e1]
 exact ⟨by simp,by simpa using (List.getElem?_eq_some_iff.mp e2).1⟩
theorem acd (h:T.Ok):∀ (l:List Nat) {r:Nat},r<T.go.length→ldw T r l<T.go.length
 | [],_,hr=>hr
 | c::l,r,_=>acd h l (amh h r _)
theorem a4u (c:Nat):∀ (l:List Nat) (r:Nat),ldw T r (l++[c])=stp T (ldw T r l) (psn T c)
 | [],_=>rfl
 | d::l,r=>a4u c l _
theorem ajf (l:List Nat) (h:Hd):adk (.str (S l)) h = .ok ⟨l.map fun c=>.str (S [c]),fun _=>True⟩ h:=by
 show R.ok (⟨uv (S l),fun _=>True⟩:Itm) _=_
 unfold uv
 rw [a04]
theorem aml {c:Nat} (hc:c∈T.tg) (h:Hd):aax (.str (S T.tg)) [.str (S [c])] h = .ok (d8 (psn T c)) h:=by
 show R.ok (D.int (zq (S T.tg) c)) h=_
 rw [(a8b hc).1]
theorem aj0 {c:Nat} (hc:c∈T.tg) (h:Hd):a2r (.str (S T.tg)) [.str (S [c])] h = .ok (d8 (psn T c)) h:=by
 show (if c∈(S T.tg).cps.toList then R.ok (D.int (zq (S T.tg) c)) h else .no)=_
 rw [if_pos (by rw [a04];exact hc),(a8b hc).1]
theorem ap4 {g:D→List D→Hd→R D} {f:SE} {k:SA} {τ:Sd} {h h1 h2 h3:Hd} {z:Str} {ds:List D} {v:D} (e1:f τ h = .ok (.str z) h1) (e2:k τ h1 = .ok ds h2) (e3:g (.str z) ds h2 = .ok v h3):sMS g f k τ h = .ok v h3:=by
 unfold sMS
 rw [e1,cu]
 dsimp only
 rw [e2,cu,e3]
theorem amm (h:T.Ok) {r c:Nat} (hc:c<T.tg.length) (hh:Hd):gIx (aq0 T r) (d8 c) hh = .ok (d8 (stp T r c)) hh:=a9g (by rw [List.getElem?_map,List.getElem?_map,List.getElem?_range hc];rfl)
theorem ap5 {d e:D} (hd:clo 0 d) (he:clo 0 e):∀ x∈[T.d,d,e],clo 0 x:=by
 intro x hx
 simp only [List.mem_cons,List.not_mem_nil,or_false] at hx
 rcases hx with rfl | rfl | rfl
 ·exact Table.clo
 ·exact hd
 ·exact he
noncomputable def cj:SF:=jr j5 8
def rms (T:Table) (r:Nat) (l:List Nat):List Nat:=(List.range (l.length+1)).map fun i=>ldw T r (l.take i)
theorem af6 (r c:Nat) (l:List Nat):rms T r (l++[c])=rms T r l++[ldw T r (l++[c])]:=by
 unfold rms
 rw [List.length_append,List.length_singleton,List.range_succ (n:=l.length+1),List.map_append,List.map_singleton]
 congr 1
 ·refine List.map_congr_left fun i hi=>?_
  rw [List.mem_range] at hi
  rw [List.take_append_of_le_length (by omega)]
 ·rw [List.take_of_length_le (by simp)]
theorem af7 (r:Nat) (l:List Nat):∃ p,rms T r l=p++[ldw T r l]:=by
 unfold rms
 rw [List.range_succ,List.map_append,List.map_singleton]
 exact ⟨_,by rw [List.take_of_length_le (Nat.le_refl _)]⟩
theorem a4v (h:T.Ok) {r:Nat} {l:List Nat} (hr:r<T.go.length) (hl:∀ c∈l,c∈T.tg) (ll:l.length≤1000):Pu cj 3 [T.d,d8 r, .str (S l)] (.rol ((rms T r l).map d8)):=by
 refine Pu.of rfl (ap5 (di _) (iz _)) (r:=.ok (.ref 0) [.lst ((rms T r l).map d8)]) ?_ (a02 (Nat.le_refl _) rfl (kh _) (by simp)) (v7 (kh _))
 unfold cj
 rw [gj]
 show toR (j5 [some T.d,some (d8 r),some (.str (S l)),none,none,none,none,none] [])=_
 unfold j5
 refine Eq.trans (congrArg toR (yo (ais (bh rfl) rfl))) ?_
 refine Eq.trans (congrArg toR (iy (d:=.ref 0) (h1:=[.lst ((rms T r []).map d8)]) rfl)) ?_
 refine Eq.trans (congrArg toR (a6j (a9f (bh rfl) (ajf l _)))) ?_
 have lp:=qm (g:=kN 7) (b:=ie) (fun c:Nat=>D.str (S [c]))
  (fun pre τ hh=>∃ t7:Option D,τ=[some T.d,some (d8 r),some (.str (S l)),some (.str (S T.tg)),some (.tup (T.go.map ac0)),some (.tup (T.ks.map D.int)),some (.ref 0),t7]∧hh=[.lst ((rms T r pre).map d8)]) l
  [some T.d,some (d8 r),some (.str (S l)),some (.str (S T.tg)),some (.tup (T.go.map ac0)),some (.tup (T.ks.map D.int)),some (.ref 0),none] [.lst ((rms T r []).map d8)] ?_ ⟨none,rfl,rfl⟩
 ·obtain ⟨τ',h',e,t7,rfl,rfl⟩:=lp
  refine Eq.trans (congrArg (fun z=>toR (thn z _)) e) ?_
  rfl
 ·rintro pre c post τ hh all ⟨t7,rfl,rfl⟩
  have hc:=hl c (by rw [all];simp)
  have pl:pre.length≤l.length:=by rw [all];simp
  refine ⟨_,_,rfl,[some T.d,some (d8 r),some (.str (S l)),some (.str (S T.tg)),some (.tup (T.go.map ac0)),some (.tup (T.ks.map D.int)),some (.ref 0),some (.str (S [c]))],[.lst ((rms T r (pre++[c])).map d8)],?_,_,rfl,rfl⟩
  unfold ie
  obtain ⟨p,ep⟩:=af7 (T:=T) r pre
  have last:∀ hh:Hd,hh[0]? = some (.lst ((rms T r pre).map d8))→gIx (.ref 0) (.int (-1)) hh = .ok (d8 (ldw T r pre)) hh:=fun hh e0=>by
   rw [a2y]
   unfold xg
   simp only [e0]
   rw [ep,List.map_append,List.map_singleton,aiz]
  refine Eq.trans (a05 (v:=.non) (bh rfl) rfl (arg1 (ig (ig (bh rfl) (ig (bh rfl) (anl (g8 _ _ _) (af2 _)) (last _ rfl)) (agl h (acd h pre hr) _)) (ap4 (bh rfl) (arg1 (bh rfl)) (aj0 hc _)) (amm h (a8b hc).2 _))) (a0p (xs:=(rms T r pre).map d8) rfl (a0q (by simp [rms];omega)))) ?_
  rw [af6,List.map_append,a4u]
  rfl
noncomputable def iw:SF:=jr jy 2
def inT (T:Table) (l:List Nat):Bool:=l.all fun c=>decide (c∈T.tg)
theorem amn (bs:List Bool) (h:Hd):ag6 [.rol (bs.map D.bl)] h = .ok (.bl (bs.all id)) h:=by
 unfold ag6
 simp only [adu]
theorem af8 {l:List Nat} (ll:l.length≤1000) {ce:SE} (hce:∀ c:Nat,ce [some (.str (S [c])),some (.str (S T.tg))] [] = .ok (.bl (decide (c∈T.tg))) []) {τ:Sd} (h1:τ[1]? = some (some (.str (S l)))) (h0:τ[0]? = some (some (.str (S T.tg)))) :
  sA ag6 (ak (sZ (jo (sIt (sV 1)) t1 ce [0])) dg) τ [] = .ok (.bl (inT T l)) []:=by
 have cz:sZ (jo (sIt (sV 1)) t1 ce [0]) τ [] = .ok (.rol ((l.map fun c=>decide (c∈T.tg)).map D.bl)) []:=by
  rw [List.map_map]
  refine a69 (ye (fun c:Nat=>D.str (S [c])) (fun c=>.bl (decide (c∈T.tg))) l (a9f (bh h1) (ajf l _)) (iu (by omega)) fun c _=>?_) (gk fun c _=>xq _) (by simp)
  rw [vp,a88,abr,h0]
  exact hce c
 refine a2a cz ?_
 rw [amn]
 congr 2
 unfold inT
 rw [List.all_map]
 rfl
theorem aj1 (c:Nat) (h:Hd):gIn false (.str (S [c])) (.str (S T.tg)) h = .ok (.bl (decide (c∈T.tg))) h:=by
 show R.ok (D.bl (decide (c∈(S T.tg).cps.toList))) h=_
 rw [a04]
theorem ace {l:List Nat} (ll:l.length≤1000):Pu iw 2 [.str (S T.tg), .str (S l)] (.bl (inT T l)):=by
 refine Pu.of rfl (by intro x hx;simp only [List.mem_cons,List.not_mem_nil,or_false] at hx;rcases hx with rfl | rfl<;>exact iz _) (r:=.ok (.bl (inT T l)) []) ?_ (jk (xq _) (by simp)) (xq _)
 unfold iw
 rw [gj]
 show toR (jy [some (.str (S T.tg)),some (.str (S l))] [])=_
 unfold jy
 exact congrArg toR (wj (aiq (u6 (bh rfl) (g8 _ _ _) (amk (d:=.str (S l)) (by simp only [Pln,a04];exact ll))) (af8 ll (fun c=>ig (bh rfl) (bh rfl) (aj1 c _)) rfl rfl)))
theorem ap6 {f k:SE} {τ:Sd} {h h1:Hd} (e:f τ h = .ok (.bl false) h1):zu f k τ h = .ok (.bl false) h1:=by unfold zu;rw [e,cu]
theorem acf {d:D} (p:Pln d) (ns:isStr d=false):Pu iw 2 [.str (S T.tg),d] (.bl false):=by
 refine Pu.of rfl (by intro x hx;simp only [List.mem_cons,List.not_mem_nil,or_false] at hx;rcases hx with rfl | rfl;exact iz _;exact p.clo) (r:=.ok (.bl false) []) ?_ (jk (xq _) (by simp)) (xq _)
 unfold iw
 rw [gj]
 show toR (jy [some (.str (S T.tg)),some d] [])=_
 unfold jy
 exact congrArg toR (wj (ap6 (u6 (bh rfl) (g8 _ _ _) (by rw [amk p,ns]))))
end
end K23
namespace K21
open PySem PySem.Spec L2 MI AT HND K22 K23 EVX
section
variable {T:Table}
noncomputable def iw:SF:=jr jy 2
def txt (T:Table):D→Bool
 | .str x=>inT T x.cps.toList
 | _=>false
theorem aj2 (l:List Nat):txt T (.str (S l))=inT T l:=by simp only [txt,a04]
theorem a9b {d:D} (p:Pln d):Pu iw 2 [.str (S T.tg),d] (.bl (txt T d)):=by
 by_cases sd:isStr d=true
 ·obtain ⟨x,rfl⟩:∃ x,d = .str x:=by cases d<;>first | exact ⟨_,rfl⟩ | (simp [isStr] at sd)
  have ll:x.cps.toList.length≤1000:=p
  rw [← aew x] at ll ⊢
  rw [a04] at ll
  rw [aj2]
  exact K23.ace ll
 ·have sd':isStr d=false:=by simpa using sd
  have:txt T d=false:=by cases d<;>first | rfl | (simp [isStr] at sd)
  rw [this]
  exact K23.acf p sd'
theorem a1z {a b:D} (ha:MI.clo 0 a) (hb:MI.clo 0 b):∀ x∈[a,b],MI.clo 0 x:=by
 intro x hx
 simp only [List.mem_cons,List.not_mem_nil,or_false] at hx
 rcases hx with rfl | rfl
 ·exact ha
 ·exact hb
theorem agm {a b c:D} (ha:MI.clo 0 a) (hb:MI.clo 0 b) (hc:MI.clo 0 c):∀ x∈[a,b,c],MI.clo 0 x:=by
 intro x hx
 simp only [List.mem_cons,List.not_mem_nil,or_false] at hx
 rcases hx with rfl | rfl | rfl
 ·exact ha
 ·exact hb
 ·exact hc
noncomputable def bu:SF:=jr (jt iw) 2
theorem a3b {d:D} (p:Pln d):bu [.str (S T.tg),d] []=if txt T d=true then .ok d [] else .ex "NoText" []:=by
 unfold bu
 rw [gj]
 show toR (jt iw [some (.str (S T.tg)),some d] [])=_
 unfold jt
 have c:=a9b (T:=T) p []
 cases e:txt T d with
 | true =>
  rw [e] at c
  rw [if_pos rfl]
  refine Eq.trans (congrArg toR (ifN (af1 (a0t (u6 (bh rfl) (bh rfl) c) (qi _))))) ?_
  exact congrArg toR (wj (bh rfl))
 | false =>
  rw [e] at c
  rw [if_neg (by simp)]
  exact congrArg toR (amc (Eq.trans (ifT (ar7 (a0t (u6 (bh rfl) (bh rfl) c) (qi _)))) (aiv (arg1 (g8 _ _ _)) (by simp))))
theorem a4w {d:D} (p:Pln d) (t:txt T d=true) (h:Hd):ut 2 bu [.str (S T.tg),d] h = .ok d h:=by
 have r:=a3b (T:=T) p
 rw [if_pos t] at r
 exact abx (a1z (iz _) p.clo) r (Pu.of rfl (a1z (iz _) p.clo) r (jk p.clo (by simp)) p.clo)
theorem a4x {d:D} (p:Pln d) (t:txt T d=false) (h:Hd):ut 2 bu [.str (S T.tg),d] h = .ex "NoText" h:=by
 have r:=a3b (T:=T) p
 rw [if_neg (by simp [t])] at r
 exact abw rfl (a1z (iz _) p.clo) r
theorem af9 (h:Hd):gIx T.d (.int 0) h = .ok (.str (S T.tg)) h:=a9g (j:=0) rfl
theorem amo (h:Hd):gIx T.d (.int 2) h = .ok (.tup (T.ks.map D.int)) h:=a9g (j:=2) rfl
theorem amq {l:List Nat} (ll:l.length≤1000):Pln (.str (S l)):=by simp only [Pln,a04];exact ll
theorem amr {l:List Nat} (hl:∀ c∈l,c∈T.tg):inT T l=true:=by
 unfold inT
 rw [List.all_eq_true]
 exact fun c hc=>decide_eq_true (hl c hc)
theorem agn (h:T.Ok) {r:Nat} (hr:r<T.go.length) (hh:Hd):gIx (.tup (T.ks.map D.int)) (d8 r) hh = .ok (.int (kI T r)) hh:=by
 obtain ⟨k,e,_⟩:=amj h hr
 exact a9g (by rw [List.getElem?_map,e];simp [kI,e])
end
end K21
namespace K21
open PySem PySem.Spec L2 MI AT HND K22 K23 EVX
section
variable {T:Table}
abbrev ones (t:List Nat):List D:=t.map fun c=>.str (S [c])
theorem join_ones:∀ t:List Nat,Txt.join (S []) (t.map fun c=>S [c])=S t:=by
 have e:∀ zs:List Str,Txt.join (S []) zs=Str.join (S []) zs:=PySem.StrLaws.glued_eq_join (S [])
 have st:∀ (x y:Str) (r:List Str),Str.join (S []) (x::y::r)=x++S []++Str.join (S []) (y::r):=fun _ _ _=>rfl
 intro t
 rw [e]
 induction t with
 | nil=>rfl
 | cons a t ih =>
  cases t with
  | nil=>rfl
  | cons b t =>
   rw [List.map_cons,List.map_cons,st,show S [b]::t.map (fun c=>S [c])=(b::t).map (fun c=>S [c]) from rfl,ih,ain,ain]
   rfl
theorem a6l:∀ t:List Nat,a74 (ones t)=some (t.map fun c=>S [c])
 | []=>rfl
 | a::t=>by
  show (a74 (ones t)).map _=_
  rw [a6l t];rfl
theorem afa (t:List Nat):((t.map fun c=>S [c]).map (·.length)).sum=t.length:=by
 induction t with
 | nil=>rfl
 | cons a t ih=>rw [List.map_cons,List.map_cons,List.sum_cons,ih,a7a,List.length_cons];simp;omega
theorem acg {t:List Nat} {h:Hd} (z:t.length≤1000000):aaz (.str (S [])) [.rol (ones t)] h = .ok (.str (S t)) h:=by
 unfold aaz
 simp only [a6l,afa,a7a,List.length_nil,Nat.mul_zero,Nat.add_zero,join_ones]
 rw [if_pos (by omega)]
theorem arh {f:SE} {τ:Sd} {h h':Hd} {xs:List D} (hl:h'.length=h.length) (e:f τ h = .ok (.ref h'.length) (h'++[.lst xs])) (cx:clos h.length xs) (c:∀ o∈h',a07 h.length o):sZ f τ h = .ok (.rol xs) h':=by
 unfold sZ
 rw [e,a02 (by omega) (by simp) cx (by rw [← hl];simpa [hl] using c)]
 rw [← hl]
 simp
theorem afb {f:SE} {τ:Sd} {h h1:Hd} {i:Int} (e:f τ h = .ok (.int i) h1):oS f τ h = .ok (some i) h1:=by unfold oS;rw [e];rfl
theorem afc {f:SE} {lo hi:SO} {τ:Sd} {h h1 h2 h3 h4:Hd} {d v:D} {a b:Option Int} (e:f τ h = .ok d h1) (e1:lo τ h1 = .ok a h2) (e2:hi τ h2 = .ok b h3) (e3:ae3 d a b h3 = .ok v h4):a2d f lo hi τ h = .ok v h4:=by
 unfold a2d
 rw [e,cu,e1,cu,e2,cu,e3]
theorem a4y (n:Nat) (l:List Nat):clos n (ones l):=gk fun c _=>iz _
theorem a4z (tg:List Nat):∀ l:List Nat,(l.filterMap fun c=>if (!decide (c∈tg))=true then some (D.str (S [c])) else none)=ones (l.filter fun c => !decide (c∈tg))
 | []=>rfl
 | c::l=>by
  have ih:=a4z tg l
  by_cases h:c∈tg
  ·rw [List.filterMap_cons_none (by rw [decide_eq_true h];rfl),List.filter_cons_of_neg (by simp [h]),ih]
  ·rw [List.filterMap_cons_some (b:=D.str (S [c])) (by rw [decide_eq_false h];rfl),List.filter_cons_of_pos (by simp [h]),ih]
   rfl
theorem ams (c:Nat) (t:List Nat) (h:Hd):gIn true (.str (S [c])) (.str (S t)) h = .ok (.bl (!decide (c∈t))) h:=by
 show R.ok (D.bl (!decide (c∈(S t).cps.toList))) h=_
 rw [a04]
theorem aj3 {l:List Nat} {c:Nat} (hc:c∈l) (hn:c ∉ T.tg):txt T (.str (S l))=false:=by
 rw [aj2]
 unfold inT
 rw [List.all_eq_false]
 exact ⟨c,hc,by simpa using hn⟩
end
end K21
namespace SRC
open PySem PySem.Spec L2 MI AT HND EVX K22 K23 K21
noncomputable def m7:SF:=jr (SRC.yh SRC.aa) 3
theorem aj4 {o:O} {N:Nat} {tg:List Nat} (P:Src o N) (hN:N≤999990000) (t1':1≤tg.length) (t6:tg.length≤6):∃ t o',t.length≤240∧(∀ c∈t,c∈tg)∧Dr SRC.m7 2 [.str (S tg)] o (.str (S t)) o'∧Src o' (N+1000):=by
 obtain ⟨y,o2,e2,y0,y1,P2⟩:=jw (m:=25) P (by omega) (by omega) (by omega)
 obtain ⟨z,o3,e3,z0,z1,P3⟩:=jw (m:=6) P2 (by omega) (by omega) (by omega)
 obtain ⟨v,o4,e4,v0,v1,P4⟩:=jw (m:=241) P3 (by omega) (by omega) (by omega)
 have c2:j4 false 2 SRC.aa [.ref 0, .int 25] [o] = .ok (.int y) [o2]:=e2 0 _ rfl
 have c3:j4 false 2 SRC.aa [.ref 0, .int 6] [o2] = .ok (.int z) [o3]:=e3 0 _ rfl
 have c4:j4 false 2 SRC.aa [.ref 0, .int 241] [o3] = .ok (.int v) [o4]:=e4 0 _ rfl
 obtain ⟨n,u,n1,Pu,eu⟩:∃ (n:Nat) (u:O),n≤240∧Src u (N+3)∧∀ g:SS,du (j7 2 (sA (j4 false 2 SRC.aa) (ak (sV 0) (ak (sC (.int 25)) dg)))) (du (sIf (sT (s2 hEq (sA (j4 false 2 SRC.aa) (ak (sV 0) (ak (sC (.int 6)) dg))) (sC (.int 0))))  (j7 2 (sA (j4 false 2 SRC.aa) (ak (sV 0) (ak (sC (.int 241)) dg))))  sNx) g) [some (.ref 0),some (.str (S tg)),none] [o]=g [some (.ref 0),some (.str (S tg)),some (.int (n:Nat))] [u]:=by
  by_cases hz:z=0
  ·obtain ⟨n,rfl⟩:=Int.eq_ofNat_of_zero_le v0
   refine ⟨n,o4,by omega,P4,fun g=>?_⟩
   refine Eq.trans (iy (u6 (bh rfl) (g8 _ _ _) c2)) ?_
   exact yo (Eq.trans (ifT (tof (ig (u6 (bh rfl) (g8 _ _ _) c3) (g8 _ _ _) (a6k hz)))) (agg (u6 (bh rfl) (g8 _ _ _) c4)))
  ·obtain ⟨n,rfl⟩:=Int.eq_ofNat_of_zero_le y0
   refine ⟨n,o3,by omega,P3.up (by omega),fun g=>?_⟩
   refine Eq.trans (iy (u6 (bh rfl) (g8 _ _ _) c2)) ?_
   exact ifN (tof (ig (u6 (bh rfl) (g8 _ _ _) c3) (g8 _ _ _) (a2f hz)))
 have mp:=a4i (f:=a2b t1 (SRC.vg SRC.aa) (frs' [0,1] [some (.ref 0),some (.str (S tg)),some (.int (n:Nat))])) (fun i:Nat=>D.int (i:Nat))
  (fun pre ys h=>∃ (u:O) (t:List Nat),h=[u]∧Src u (N+3+pre.length)∧ys=ones t∧t.length=pre.length∧∀ c∈t,c∈tg)
  (List.range n) [] [] [u] ?_ ⟨u,[],rfl,Pu,rfl,rfl,by simp⟩
 ·obtain ⟨zs,h',em,u',t,rfl,P5,ez,tl,tt⟩:=mp
  rw [List.nil_append] at ez tl P5
  rw [List.length_range] at tl P5
  subst ez
  refine ⟨t,u',by omega,tt,Dr.of rfl (by intro x hx;rw [List.mem_singleton] at hx;subst hx;exact iz _) P.clo (r:=.ok (.str (S t)) [u']) ?_ (jk (iz _) (by simpa using nj (by omega) P5.clo)) (iz _) P5.clo,P5.up (by omega)⟩
  unfold SRC.m7
  rw [gj]
  show toR (SRC.yh SRC.aa [some (.ref 0),some (.str (S tg)),none] [o])=_
  unfold SRC.yh
  refine Eq.trans (congrArg toR (eu _)) ?_
  have cz:sZ (jo (sRg a0r (ak (sV 2) dg)) t1 (SRC.vg SRC.aa) [0,1]) [some (.ref 0),some (.str (S tg)),some (.int (n:Nat))] [u] = .ok (.rol (ones t)) [u']:=by
   refine arh rfl ?_ (gk fun l _=>iz _) (by intro o ho;rw [List.mem_singleton] at ho;subst ho;exact nj (by omega) P5.clo)
   unfold jo
   rw [a7c (bh rfl) (iu (by omega)),cu]
   dsimp only
   rw [if_pos (by rw [List.length_map,List.length_range];exact iu (by omega)),em]
   rfl
  exact congrArg toR (wj (ap4 (z:=S []) (g8 _ _ _) (arg1 cz) (acg (by omega))))
 ·rintro pre i post ys h all ⟨u,t,rfl,Pu,rfl,tl,tt⟩
  rw [List.nil_append] at all
  have hi:pre.length<n:=by
   have:=congrArg List.length all
   simp at this
   omega
  obtain ⟨x,u',e5,x0,x1,P5⟩:=jw (m:=(tg.length:Nat)) Pu (by omega) (by omega) (by omega)
  obtain ⟨j,rfl⟩:=Int.eq_ofNat_of_zero_le x0
  have hj:j<tg.length:=by omega
  have c5:j4 false 2 SRC.aa [.ref 0, .int (tg.length:Nat)] [u] = .ok (.int (j:Nat)) [u']:=e5 0 _ rfl
  refine ⟨.str (S [tg[j]]),[u'],?_,u',t++[tg[j]],rfl,by rw [List.length_append,List.length_singleton];exact P5,by simp [ones],by rw [List.length_append,List.length_append,tl];rfl,fun q hq=>?_⟩
  ·rw [vp]
   exact ig (bh rfl) (u6 (bh rfl) (a2a (bh rfl) (aex (iu (by omega)))) c5) (aot (iu (by omega)) (List.getElem?_eq_getElem hj))
  ·rcases List.mem_append.mp hq with h | h
   ·exact tt q h
   ·rw [List.mem_singleton] at h;subst h;exact List.getElem_mem hj
section
variable {T:Table}
def rm (T:Table) (l:List Nat) (k:Nat):Nat:=ldw T 0 (l.take k)
def best (T:Table) (a:Nat) (l:List Nat):Nat→D
 | 0=>.non
 | k+1=>if kI T (rm T l k) = -1 then best T a l k else .tup [.int (kI T (rm T l k)),d8 (a+k)]
theorem ach {a k:Nat} {l:List Nat} (e:kI T (rm T l k) = -1):best T a l (k+1)=best T a l k:=if_pos e
theorem aci {a k:Nat} {l:List Nat} (e:¬ kI T (rm T l k) = -1):best T a l (k+1) = .tup [.int (kI T (rm T l k)),d8 (a+k)]:=if_neg e
theorem kI0 (h:T.Ok):kI T 0 = -1:=by unfold kI;rw [h.k0];rfl
theorem ap7 (h:T.Ok) (a:Nat) (l:List Nat):best T a l 1 = .non:=by
 show (if kI T (rm T l 0) = -1 then best T a l 0 else _)=_
 rw [if_pos (show kI T (rm T l 0) = -1 from kI0 h)]
 rfl
theorem aj5 (h:T.Ok) (l:List Nat) (k:Nat):rm T l k<T.go.length:=acd h _ h.n1
theorem aj6 {l:List Nat} {k c:Nat} (e:l[k]? = some c):rm T l (k+1)=stp T (rm T l k) (psn T c):=by
 unfold rm
 rw [List.take_succ,e]
 exact a4u c _ _
theorem acj (a:Nat) (l:List Nat):∀ k,best T a l k = .non∨∃ x y:Int,best T a l k = .tup [.int x, .int y]
 | 0=>.inl rfl
 | k+1=>by
  unfold best
  split
  ·exact acj a l k
  ·exact .inr ⟨_,_,rfl⟩
theorem a1d (a:Nat) (l:List Nat) (k:Nat):MI.clo 0 (best T a l k):=by
 rcases acj (T:=T) a l k with e | ⟨x,y,e⟩<;>rw [e]
 ·exact aie
 ·exact sr (fj (di _) (fj (di _) v6))
noncomputable def dm:SF:=jr SRC.vh 6
theorem afd (h:T.Ok) {x:List Nat} {a:Nat} (ht:∀ c∈x,c∈T.tg) (xl:x.length≤1000) (al:a≤x.length):Pu SRC.dm 3 [T.d, .str (S x),d8 a] (best T a (x.drop a) (x.length - a+1)):=by
 refine Pu.of rfl (agm Table.clo (iz _) (di _)) (r:=.ok (best T a (x.drop a) (x.length - a+1)) []) ?_ (jk (a1d _ _ _) (by simp)) (a1d _ _ _)
 unfold SRC.dm
 rw [gj]
 show toR (SRC.vh [some T.d,some (.str (S x)),some (d8 a),none,none,none] [])=_
 unfold SRC.vh
 refine Eq.trans (congrArg toR (iy (g8 _ _ _))) ?_
 refine Eq.trans (congrArg toR (iy (g8 _ _ _))) ?_
 refine Eq.trans (congrArg toR (a6j (abp (a:=a) (n:=x.length) (bh rfl) (a2a (bh rfl) (aex (iu (by omega)))) (iu (by omega)) (iu (by omega))))) ?_
 have lp:=qm (g:=kN 5) (b:=SRC.p6) (fun i:Nat=>D.int ((a+i:Nat)))
  (fun pre τ hh=>∃ t5:Option D,τ=[some T.d,some (.str (S x)),some (d8 a),some (d8 (rm T (x.drop a) pre.length)),some (best T a (x.drop a) (pre.length+1)),t5]∧hh=[])
  (List.range (x.length - a)) [some T.d,some (.str (S x)),some (d8 a),some (d8 0),some .non,none] [] ?_ ⟨none,by rw [List.length_nil,ap7 h];rfl,rfl⟩
 ·obtain ⟨τ',h',e,t5,rfl,rfl⟩:=lp
  refine Eq.trans (congrArg (fun z=>toR (MI.thn z _)) e) ?_
  rw [xn,List.length_range]
  exact congrArg toR (wj (bh rfl))
 ·rintro pre i post τ hh all ⟨t5,rfl,rfl⟩
  obtain ⟨hi,hk⟩:=a06 all
  have ek:(x.drop a)[pre.length]? = some (x[a+i]'(by omega)):=by rw [List.getElem?_drop,← hi,List.getElem?_eq_getElem (by omega)]
  have ec:x[a+i]? = some (x[a+i]'(by omega)):=List.getElem?_eq_getElem (by omega)
  have hc:=ht _ (List.mem_of_getElem? ec)
  generalize x[a+i]'(by omega)=c at ek ec hc
  have rl:=aj5 h (x.drop a) pre.length
  have r2:=aj5 h (x.drop a) (pre.length+1)
  rw [List.length_append,List.length_singleton]
  have st:s2 gIx (s2 gIx (s2 gIx (sV 0) (sC (.int 1))) (sV 3)) (sMS aax (s2 gIx (sV 0) (sC (.int 0))) (ak (s2 gIx (sV 1) (sV 5)) dg)) [some T.d,some (.str (S x)),some (d8 a),some (d8 (rm T (x.drop a) pre.length)),some (best T a (x.drop a) (pre.length+1)),some (.int ((a+i:Nat)))] [] = .ok (d8 (rm T (x.drop a) (pre.length+1))) []:=by
   rw [aj6 ek]
   exact ig (ig (ig (bh rfl) (g8 _ _ _) (a9g (j:=1) rfl)) (bh rfl) (agl h rl _)) (ap4 (ig (bh rfl) (g8 _ _ _) (a9g (j:=0) rfl)) (arg1 (ig (bh rfl) (bh rfl) (aot (iu (by omega)) ec))) (aml hc _)) (amm h (a8b hc).2 _)
  have kg:∀ τ:Sd,τ[0]? = some (some T.d)→τ[3]? = some (some (d8 (rm T (x.drop a) (pre.length+1))))→s2 gIx (s2 gIx (sV 0) (sC (.int 2))) (sV 3) τ [] = .ok (.int (kI T (rm T (x.drop a) (pre.length+1)))) []:=fun τ h0 h3=>ig (ig (bh h0) (g8 _ _ _) (amo _)) (bh h3) (agn h r2 _)
  obtain ⟨kv,ke,k1,k2⟩:=amj h r2
  have kx:kI T (rm T (x.drop a) (pre.length+1))=kv:=by unfold kI;rw [ke];rfl
  by_cases hm:kI T (rm T (x.drop a) (pre.length+1)) = -1
  ·refine ⟨_,_,rfl,[some T.d,some (.str (S x)),some (d8 a),some (d8 (rm T (x.drop a) (pre.length+1))),some (best T a (x.drop a) (pre.length+1)),some (.int ((a+i:Nat)))],[],?_,_,by rw [ach (k:=pre.length+1) hm],rfl⟩
   unfold SRC.p6
   refine Eq.trans (iy st) ?_
   refine Eq.trans (ifF (tof (ig (kg _ rfl rfl) (g8 _ _ _) (show gGe (.int (kI T (rm T (x.drop a) (pre.length+1)))) (.int 0) [] = .ok (.bl false) [] by rw [hm];rfl)))) rfl
  ·refine ⟨_,_,rfl,[some T.d,some (.str (S x)),some (d8 a),some (d8 (rm T (x.drop a) (pre.length+1))),some (.tup [.int (kI T (rm T (x.drop a) (pre.length+1))), .int ((a+i:Nat)+1)]),some (.int ((a+i:Nat)))],[],?_,some (.int ((a+i:Nat))),?_,rfl⟩
   ·unfold SRC.p6
    refine Eq.trans (iy st) ?_
    refine Eq.trans (ifT (tof (ig (kg _ rfl rfl) (g8 _ _ _) (show gGe (.int (kI T (rm T (x.drop a) (pre.length+1)))) (.int 0) [] = .ok (.bl true) [] by
     show R.ok (D.bl (decide ((0:Int)≤kI T (rm T (x.drop a) (pre.length+1))))) []=_
     rw [decide_eq_true (by omega)])))) ?_
    exact agg (u6 (kg _ rfl rfl) (ig (bh rfl) (g8 _ _ _) yr) amb)
   ·rw [aci (k:=pre.length+1) hm,hi]
    rfl
noncomputable def fu:SF:=jr SRC.qp 3
theorem a3c {xs:List Int} (xl:xs.length≤10):Pu SRC.fu 2 [.tup (xs.map D.int),d8 xs.length] (.bl true):=by
 refine Pu.of rfl (a1z (sr (gk fun x _=>di x)) (di _)) (r:=.ok (.bl true) []) ?_ (jk (xq _) (by simp)) (xq _)
 unfold SRC.fu
 rw [gj]
 show toR (SRC.qp [some (.tup (xs.map D.int)),some (d8 xs.length),none] [])=_
 unfold SRC.qp
 have it:∀ h:Hd,uf [.tup (xs.map D.int), .ty "tuple"] h = .ok (.bl true) h:=fun h=>by simp [uf,adp,tyD,aau]
 refine Eq.trans (congrArg toR (ifN (orF (af1 (a0t (u6 (bh rfl) (g8 _ _ _) (it _)) (qi _))) (tof (ig (a2a (bh rfl) a0h) (bh rfl) (abu (by rw [List.length_map]))))))) ?_
 refine Eq.trans (congrArg toR (a6j (a9f (bh rfl) rfl))) ?_
 have lp:=qm (g:=kN 2) (b:=SRC.qg) D.int
  (fun pre τ hh=>∃ t2:Option D,τ=[some (.tup (xs.map D.int)),some (d8 xs.length),t2]∧hh=[]) xs [some (.tup (xs.map D.int)),some (d8 xs.length),none] [] ?_ ⟨none,rfl,rfl⟩
 ·obtain ⟨τ',h',e,t2,rfl,rfl⟩:=lp
  refine Eq.trans (congrArg (fun z=>toR (MI.thn z _)) e) ?_
  rfl
 ·rintro pre x post τ hh all ⟨t2,rfl,rfl⟩
  refine ⟨_,_,rfl,[some (.tup (xs.map D.int)),some (d8 xs.length),some (.int x)],[],?_,_,rfl,rfl⟩
  unfold SRC.qg
  have ii:∀ h:Hd,uf [.int x, .ty "int"] h = .ok (.bl true) h:=fun h=>by simp [uf,adp,tyD,aau]
  have ib:∀ h:Hd,uf [.int x, .ty "bool"] h = .ok (.bl false) h:=fun h=>by simp [uf,adp,tyD,aau]
  exact Eq.trans (ifF (orF (af1 (a0t (u6 (bh rfl) (g8 _ _ _) (ii _)) (qi _))) (a0t (u6 (bh rfl) (g8 _ _ _) (ib _)) (qi _)))) rfl
end
end SRC
namespace K34
open PySem PySem.Spec L2 MI AT HND EVX K22 K23 K21
section
variable {T:Table}
noncomputable def cj:SF:=jr K34.j5 8
noncomputable def dq:SF:=jr (qu K34.cj) 7
theorem a4v (h:T.Ok) {l:List Nat} (hl:∀ c∈l,c∈T.tg) (ll:l.length≤1000):Pu K34.cj 3 [T.d, .int 0, .str (S l)] (.rol ((rms T 0 l).map d8)):=K23.a4v (r:=0) h h.n1 hl ll
theorem ack {α β γ:Type} (f:α→β) (g:α × β→γ):∀ l:List α,(l.zip (l.map f)).map g=l.map fun x=>g (x,f x)
 | []=>rfl
 | a::l=>by rw [List.map_cons,List.zip_cons_cons,List.map_cons,List.map_cons,ack f g l]
theorem a1e (h:T.Ok) {x:List Nat} {a:Nat} (ht:∀ c∈x,c∈T.tg) (xl:x.length≤1000) (al:a≤x.length):Pu dq 3 [T.d, .str (S x),d8 a] (SRC.best T a (x.drop a) (x.length - a+1)):=by
 refine Pu.of rfl (agm Table.clo (iz _) (di _)) (r:=.ok (SRC.best T a (x.drop a) (x.length - a+1)) []) ?_ (jk (SRC.a1d _ _ _) (by simp)) (SRC.a1d _ _ _)
 unfold dq
 rw [gj]
 show toR (qu K34.cj [some T.d,some (.str (S x)),some (d8 a),none,none,none,none] [])=_
 unfold qu
 refine Eq.trans (congrArg toR (iy (ig (bh rfl) (g8 _ _ _) (amo _)))) ?_
 refine Eq.trans (congrArg toR (iy (g8 _ _ _))) ?_
 have dl:(x.drop a).length=x.length - a:=List.length_drop
 have e1:a6g (sA (j4 false 3 K34.cj) (ak (sV 0) (ak (sC (.int 0)) (ak (a2d (sV 1) (oS (sV 2)) oN) dg)))) (sV 2) [some T.d,some (.str (S x)),some (d8 a),some (.tup (T.ks.map D.int)),some .non,none,none] [] = .ok ⟨(List.range (x.length - a+1)).map fun k=>.tup [.int ((a+k:Nat):Int),d8 (SRC.rm T (x.drop a) k)],fun _=>True⟩ []:=by
  unfold a6g
  rw [abt (bh rfl) (g8 _ _ _) (afc (bh rfl) (afb (bh rfl)) rfl (abm a (iu (by omega)))) (a4v h (fun c hc=>ht c (List.mem_of_mem_drop hc)) (by omega) _),cu,bh rfl,cu]
  show (if 0≤(a:Int)∧(a:Int)≤16777216 then R.ok (⟨((List.range ((rms T 0 (x.drop a)).map d8).length).zip ((rms T 0 (x.drop a)).map d8)).map fun p=>.tup [.int (((a:Int).toNat+p.1:Nat):Int),p.2],fun _=>True⟩:Itm) [] else .no)=_
  rw [if_pos ⟨by omega,by omega⟩]
  congr 2
  have lr:((rms T 0 (x.drop a)).map d8).length=x.length - a+1:=by unfold rms;rw [List.length_map,List.length_map,List.length_range,dl]
  rw [lr]
  unfold rms
  rw [dl,List.map_map,ack]
  rfl
 refine Eq.trans (congrArg toR (a6j e1)) ?_
 have lp:=qm (g:=a72 2 (mq (kN 5) (mq (kN 6) a7l))) (b:=ju K34.cj) (fun k:Nat=>D.tup [.int ((a+k:Nat):Int),d8 (SRC.rm T (x.drop a) k)])
  (fun pre τ hh=>∃ t5 t6:Option D,τ=[some T.d,some (.str (S x)),some (d8 a),some (.tup (T.ks.map D.int)),some (SRC.best T a (x.drop a) pre.length),t5,t6]∧hh=[])
  (List.range (x.length - a+1)) [some T.d,some (.str (S x)),some (d8 a),some (.tup (T.ks.map D.int)),some .non,none,none] [] ?_ ⟨none,none,rfl,rfl⟩
 ·obtain ⟨τ',h',e,t5,t6,rfl,rfl⟩:=lp
  refine Eq.trans (congrArg (fun z=>toR (MI.thn z _)) e) ?_
  rw [xn,List.length_range]
  exact congrArg toR (wj (bh rfl))
 ·rintro pre k post τ hh all ⟨t5,t6,rfl,rfl⟩
  obtain ⟨hi,hk⟩:=a06 all
  subst hi
  rw [List.length_append,List.length_singleton]
  have kg:∀ τ:Sd,τ[3]? = some (some (.tup (T.ks.map D.int)))→τ[6]? = some (some (d8 (SRC.rm T (x.drop a) pre.length)))→s2 gIx (sV 3) (sV 6) τ [] = .ok (.int (kI T (SRC.rm T (x.drop a) pre.length))) []:=fun τ h3 h6=>ig (bh h3) (bh h6) (agn h (SRC.aj5 h _ _) _)
  by_cases hm:kI T (SRC.rm T (x.drop a) pre.length) = -1
  ·refine ⟨_,_,rfl,[some T.d,some (.str (S x)),some (d8 a),some (.tup (T.ks.map D.int)),some (SRC.best T a (x.drop a) pre.length),some (.int ((a+pre.length:Nat):Int)),some (d8 (SRC.rm T (x.drop a) pre.length))],[],?_,_,_,by rw [SRC.ach hm],rfl⟩
   unfold ju
   exact Eq.trans (ifF (tof (ig (kg _ rfl rfl) (anl (g8 _ _ _) (af2 _)) (abu hm)))) rfl
  ·refine ⟨_,_,rfl,[some T.d,some (.str (S x)),some (d8 a),some (.tup (T.ks.map D.int)),some (.tup [.int (kI T (SRC.rm T (x.drop a) pre.length)),d8 (a+pre.length)]),some (.int ((a+pre.length:Nat):Int)),some (d8 (SRC.rm T (x.drop a) pre.length))],[],?_,_,_,by rw [SRC.aci hm],rfl⟩
   unfold ju
   exact Eq.trans (ifT (tof (ig (kg _ rfl rfl) (anl (g8 _ _ _) (af2 _)) (ap1 hm)))) (agg (u6 (kg _ rfl rfl) (bh rfl) amb))
end
end K34
namespace K34
open PySem PySem.Spec L2 MI AT HND EVX K22 K23 K21
section
variable {T:Table}
theorem sub_len:∀ {l t:List Nat},l.Nodup→(∀ x∈l,x∈t)→l.length≤t.length
 | [],_,_,_=>Nat.zero_le _
 | a::l,t,nd,h=>by
  obtain ⟨na,nl⟩:=List.nodup_cons.mp nd
  have ha:=h a List.mem_cons_self
  have:=sub_len (t:=t.erase a) nl fun x hx=>(List.mem_erase_of_ne (fun e:x=a=>na (e ▸ hx))).mpr (h x (List.mem_cons_of_mem _ hx))
  rw [List.length_erase_of_mem ha] at this
  have:=List.length_pos_of_mem ha
  rw [List.length_cons]
  omega
abbrev others (tg:List Nat):List Nat:=sig.filter fun c => !decide (c∈tg)
theorem a9c {tg:List Nat} (t6:tg.length≤6):0<(others tg).length:=by
 rcases Nat.eq_zero_or_pos (others tg).length with z | z
 ·have e:=List.length_eq_zero_iff.mp z
  have:=sub_len (l:=sig) (t:=tg) agf fun c hc=>by
   have n:¬ c∈others tg:=by rw [e];simp
   rw [List.mem_filter] at n
   simpa [hc] using n
  rw [a4t] at this
  omega
 ·exact z
noncomputable def jg:SF:=jr (K34.jz SRC.aa SRC.bc) 6
theorem acl {o:O} {N:Nat} (h:T.Ok) {l:List Nat} (P:SRC.Src o N) (hN:N≤999990000) (ll:l.length≤1000):∃ d o',Pln d∧txt T d=false∧Dr K34.jg 3 [.str (S T.tg), .str (S l)] o d o'∧SRC.Src o' (N+3):=by
 obtain ⟨k,o1,e1,k0,k1,P1⟩:=SRC.jw (m:=6) P (by omega) (by omega) (by omega)
 have c1:j4 false 2 SRC.aa [.ref 0, .int 6] [o] = .ok (.int k) [o1]:=e1 0 _ rfl
 have args:∀ x∈[D.str (S T.tg), .str (S l)],MI.clo 0 x:=a1z (iz _) (iz _)
 have one:∀ {u:O} {M:Nat},SRC.Src u M→∀ x∈[u],a07 1 x:=fun Pu x hx=>by rw [List.mem_singleton] at hx;subst hx;exact nj (by omega) Pu.clo
 have fin:∀ d u,SRC.Src u (N+3)→Pln d→txt T d=false→toR (K34.jz SRC.aa SRC.bc [some (.ref 0),some (.str (S T.tg)),some (.str (S l)),none,none,none] [o]) = .ok d [u]→∃ d o',Pln d∧txt T d=false∧Dr K34.jg 3 [.str (S T.tg), .str (S l)] o d o'∧SRC.Src o' (N+3):=fun d u Pu p t e =>
  ⟨d,u,p,t,Dr.of rfl args P.clo (r:=.ok d [u]) (by unfold K34.jg;rw [gj];exact e) (jk (aba (Nat.zero_le 1) p.clo) (by simpa using one Pu)) p.clo Pu.clo,Pu⟩
 by_cases h0:k=0
 ·refine fin .non o1 (P1.up (by omega)) trivial rfl ?_
  unfold K34.jz
  refine Eq.trans (congrArg toR (iy (u6 (bh rfl) (g8 _ _ _) c1))) ?_
  exact congrArg toR (aip (Eq.trans (ifT (tof (ig (bh rfl) (g8 _ _ _) (a6k h0)))) (wj (g8 _ _ _))))
 by_cases h1:k=1
 ·refine fin (.int 7) o1 (P1.up (by omega)) trivial rfl ?_
  unfold K34.jz
  refine Eq.trans (congrArg toR (iy (u6 (bh rfl) (g8 _ _ _) c1))) ?_
  refine Eq.trans (congrArg toR (ifN (tof (ig (bh rfl) (g8 _ _ _) (a2f h0))))) ?_
  exact congrArg toR (aip (Eq.trans (ifT (tof (ig (bh rfl) (g8 _ _ _) (a6k h1)))) (wj (g8 _ _ _))))
 by_cases h2:k=2
 ·have cm:jo (sIt (sV 2)) t1 (K34.uh SRC.aa SRC.bc) [] [some (.ref 0),some (.str (S T.tg)),some (.str (S l)),some (.int k),none,none] [o1] = .ok (.ref 1) [o1, .lst (ones l)]:=by
   refine ye (fun c:Nat=>D.str (S [c])) (fun c=>D.str (S [c])) l (a9f (bh rfl) (ajf l _)) (iu (by omega)) fun c _=>?_
   rw [vp]
   exact bh rfl
  have pd:Pln (.rol (ones l)):=a4y 0 l
  refine ⟨.rol (ones l),o1,pd,rfl,Dr.of rfl args P.clo (r:=.ok (.ref 1) [o1, .lst (ones l)]) ?_ (a02 (Nat.le_refl _) rfl (a4y _ l) (by simpa using one P1)) pd.clo P1.clo,P1.up (by omega)⟩
  unfold K34.jg
  rw [gj]
  show toR (K34.jz SRC.aa SRC.bc [some (.ref 0),some (.str (S T.tg)),some (.str (S l)),none,none,none] [o])=_
  unfold K34.jz
  refine Eq.trans (congrArg toR (iy (u6 (bh rfl) (g8 _ _ _) c1))) ?_
  refine Eq.trans (congrArg toR (ifN (tof (ig (bh rfl) (g8 _ _ _) (a2f h0))))) ?_
  refine Eq.trans (congrArg toR (ifN (tof (ig (bh rfl) (g8 _ _ _) (a2f h1))))) ?_
  exact congrArg toR (aip (Eq.trans (ifT (tof (ig (bh rfl) (g8 _ _ _) (a6k h2)))) (wj cm)))
 ·let q:=l.take 239
  have ql:q.length≤239:=by show (l.take 239).length≤239;rw [List.length_take];omega
  have op:=a9c h.tong.hi
  have ol:(others T.tg).length≤95:=by have:=List.length_filter_le (fun c => !decide (c∈T.tg)) sig;rwa [a4t] at this
  obtain ⟨a,o2,e2,a0,a1,P2⟩:=SRC.jw (m:=(q.length:Int)+1) P1 (by omega) (by omega) (by omega)
  obtain ⟨b,o3,e3,b0,b1,P3⟩:=SRC.jw (m:=((others T.tg).length:Int)) P2 (by omega) (by omega) (by omega)
  obtain ⟨a,rfl⟩:=Int.eq_ofNat_of_zero_le a0
  obtain ⟨b,rfl⟩:=Int.eq_ofNat_of_zero_le b0
  have bl:b<(others T.tg).length:=by omega
  have ex:(others T.tg)[b]? = some (others T.tg)[b]:=List.getElem?_eq_getElem bl
  have nx:(others T.tg)[b] ∉ T.tg:=by
   have:=(List.mem_filter.mp (List.getElem_mem bl)).2
   simpa using this
  generalize (others T.tg)[b]=c at ex nx
  have c2:j4 false 2 SRC.aa [.ref 0, .int ((q.length:Int)+1)] [o1] = .ok (d8 a) [o2]:=e2 0 _ rfl
  have c3:j4 false 2 SRC.aa [.ref 0,d8 (others T.tg).length] [o2] = .ok (d8 b) [o3]:=e3 0 _ rfl
  have pl:(q.take a++[c]++q.drop a).length≤1000:=by
   simp only [List.length_append,List.length_take,List.length_drop,List.length_singleton]
   omega
  refine fin (.str (S (q.take a++[c]++q.drop a))) o3 P3 (amq pl) (aj3 (c:=c) (by simp) nx) ?_
  unfold K34.jz
  refine Eq.trans (congrArg toR (iy (u6 (bh rfl) (g8 _ _ _) c1))) ?_
  refine Eq.trans (congrArg toR (ifN (tof (ig (bh rfl) (g8 _ _ _) (a2f h0))))) ?_
  refine Eq.trans (congrArg toR (ifN (tof (ig (bh rfl) (g8 _ _ _) (a2f h1))))) ?_
  refine Eq.trans (congrArg toR (ifN (tof (ig (bh rfl) (g8 _ _ _) (a2f h2))))) ?_
  have cf:∀ τ:Sd,τ[1]? = some (some (.str (S T.tg)))→sZ (a1r (sIt (sA (j4 false 0 SRC.bc) dg)) t1 (K34.m5 SRC.aa SRC.bc) (K34.ul SRC.aa SRC.bc) [1]) τ [o1] = .ok (.rol (ones (others T.tg))) [o1]:=fun τ h0=>by
   rw [← a4z]
   refine a69 (abq (fun c:Nat=>D.str (S [c])) (fun c=>if (!decide (c∈T.tg))=true then some (D.str (S [c])) else none) sig (a9f (ar6 (SRC.a1c _)) (ajf sig _)) (iu (by rw [a4t];omega)) fun c _=>?_) (by rw [a4z];exact a4y _ _) (one P1)
   rw [aio,a88,abr,h0]
   have q:K34.m5 SRC.aa SRC.bc [some (.str (S [c])),some (.str (S T.tg))] [o1] = .ok (!decide (c∈T.tg)) [o1]:=tof (ig (bh rfl) (bh rfl) (K21.ams c T.tg _))
   show (K34.m5 SRC.aa SRC.bc [some (.str (S [c])),some (.str (S T.tg))] [o1]).bind _=_
   rw [q,cu]
   by_cases hc:c∈T.tg
   ·simp [hc]
   ·simp only [hc,decide_false,Bool.not_false,if_true]
    rfl
  refine Eq.trans (congrArg toR (iy (cf _ rfl))) ?_
  refine Eq.trans (congrArg toR (iy (afc (bh rfl) rfl (afb (g8 _ _ _)) (aou 239 (iu (by omega)))))) ?_
  refine Eq.trans (congrArg toR (iy (u6 (bh rfl) (ig (a2a (bh rfl) (aex (l:=q) (iu (by omega)))) (g8 _ _ _) yr) c2))) ?_
  have lr:∀ hh:Hd,zb [.rol (ones (others T.tg))] hh = .ok (d8 (others T.tg).length) hh:=fun hh=>by rw [yc,List.length_map]
  have ix:gIx (.rol (ones (others T.tg))) (d8 b) [o3] = .ok (.str (S [c])) [o3]:=am9 (by rw [List.getElem?_map,ex];rfl)
  exact congrArg toR (wj (ig (ig (afc (bh rfl) rfl (afb (bh rfl)) (aou (l:=q) a (iu (by omega)))) (ig (bh rfl) (u6 (bh rfl) (a2a (bh rfl) (lr _)) c3) ix) (abl (iu (by simp only [List.length_take,List.length_singleton];omega)))) (afc (bh rfl) (afb (bh rfl)) rfl (abm (l:=q) a (iu (by omega)))) (abl (iu (by simp only [List.length_append,List.length_take,List.length_drop,List.length_singleton];omega)))))
end
end K34
namespace K35
open PySem PySem.Spec L2 MI AT HND EVX K22 K23 K21
section
variable {T:Table}
noncomputable def iw:SF:=jr K35.jy 2
noncomputable def bu:SF:=jr (K35.jt K35.iw) 2
noncomputable def cj:SF:=jr K35.j5 8
noncomputable def dq:SF:=jr (K35.qu K35.cj) 7
abbrev bst (T:Table) (x:List Nat) (a:Nat):D:=SRC.best T a (x.drop a) (x.length - a+1)
theorem a4w {d:D} (p:Pln d) (t:txt T d=true) (h:Hd):ut 2 K35.bu [.str (S T.tg),d] h = .ok d h:=K21.a4w p t h
theorem a4x {d:D} (p:Pln d) (t:txt T d=false) (h:Hd):ut 2 K35.bu [.str (S T.tg),d] h = .ex "NoText" h:=K21.a4x p t h
theorem a1e (h:T.Ok) {x:List Nat} {a:Nat} (ht:∀ c∈x,c∈T.tg) (xl:x.length≤1000) (al:a≤x.length):Pu K35.dq 3 [T.d, .str (S x),d8 a] (bst T x a):=K34.a1e h ht xl al
noncomputable def jg:SF:=jr (K35.jz SRC.aa SRC.bc) 6
theorem acl {o:O} {N:Nat} (h:T.Ok) {l:List Nat} (P:SRC.Src o N) (hN:N≤999990000) (ll:l.length≤1000):∃ d o',Pln d∧txt T d=false∧Dr K35.jg 3 [.str (S T.tg), .str (S l)] o d o'∧SRC.Src o' (N+3):=K34.acl h P hN ll
theorem acn (h:T.Ok) (a:Nat) (l:List Nat):∀ k,SRC.best T a l k = .non∨∃ (q:Int) (j:Nat),1≤j∧j<k∧SRC.best T a l k = .tup [.int q,d8 (a+j)]
 | 0=>.inl rfl
 | k+1=>by
  by_cases e:kI T (SRC.rm T l k) = -1
  ·rw [SRC.ach e]
   rcases acn h a l k with z | ⟨q,j,j1,j2,z⟩
   ·exact .inl z
   ·exact .inr ⟨q,j,j1,by omega,z⟩
  ·refine .inr ⟨_,k,?_,by omega,SRC.aci e⟩
   rcases Nat.eq_zero_or_pos k with z | z
   ·subst z
    exact absurd (show kI T (SRC.rm T l 0) = -1 from SRC.kI0 h) e
   ·exact z
def dec:D→Option (Int × Nat)
 | .tup [.int q, .int e]=>some (q,e.toNat)
 | _=>none
theorem a8c (h:T.Ok) {x:List Nat} {a:Nat} (al:a≤x.length):(bst T x a = .non∧dec (bst T x a)=none)∨∃ (q:Int) (e:Nat),bst T x a = .tup [.int q,d8 e]∧dec (bst T x a)=some (q,e)∧a<e∧e≤x.length:=by
 rcases acn h a (x.drop a) (x.length - a+1) with z | ⟨q,j,j1,j2,z⟩
 ·exact .inl ⟨z,by show dec (SRC.best T a (x.drop a) (x.length - a+1))=none;rw [z];rfl⟩
 ·exact .inr ⟨q,a+j,z,by show dec (SRC.best T a (x.drop a) (x.length - a+1))=_;rw [z];rfl,by omega,by omega⟩
abbrev Pc:=Int × Nat × Nat
abbrev pcD (p:Pc):D:=.tup [.int p.1,d8 p.2.1,d8 p.2.2]
def a6m (T:Table) (x:List Nat):Nat→Nat→List Pc→List Pc × Nat
 | 0,p,acc=>(acc,p)
 | n+1,p,acc=>match dec (bst T x p) with
  | some (q,e)=>a6m T x n e (acc++[(q,p,e)])
  | none=>(acc,p)
abbrev res (T:Table) (x:List Nat):List Pc × Nat:=a6m T x (x.length+1) 0 []
theorem aco (T:Table) (x:List Nat):∀ (n p:Nat) (acc:List Pc),(a6m T x n p acc).1.length≤acc.length+n
 | 0,p,acc=>Nat.le_refl _
 | n+1,p,acc=>by
  unfold a6m
  split
  ·rename_i q e he
   have:=aco T x n e (acc++[(q,p,e)])
   rw [List.length_append,List.length_singleton] at this
   exact Nat.le_trans this (by omega)
  ·show acc.length≤_
   omega
theorem a5a (n:Nat) (ps:List Pc):clos n (ps.map pcD):=gk fun p _=>sr (fj (di _) (fj (di _) (fj (di _) v6)))
abbrev ap8 (T:Table) (x:List Nat):D:=.tup [.rol ((res T x).1.map pcD),d8 (res T x).2]
theorem a8d (T:Table) (x:List Nat):MI.clo 0 (ap8 T x):=sr (fj (v7 (a5a _ _)) (fj (di _) v6))
theorem acp {ps:List Pc} {p:Nat}:a7u 0 (.ok (.tup [.ref 0,d8 p]) [.lst (ps.map pcD)]) = .ok (.tup [.rol (ps.map pcD),d8 p]) []:=by
 have oc:∀ {k:Nat} {d d':D} {ds ds':List D},a00 0 [.lst (ps.map pcD)] k d=some d'→wg (a00 0 [.lst (ps.map pcD)] k) ds=some ds'→wg (a00 0 [.lst (ps.map pcD)] k) (d::ds)=some (d'::ds'):=fun e1 e2=>by unfold wg;rw [e1,e2]
 refine a4h (h1:=[.lst (ps.map pcD)]) (a81 (k:=19) (oc (a0z (k:=17) (by omega) rfl (a5a _ _)) (oc (a4g (k:=18) (di _)) rfl)) ?_) (by simp)
 intro z
 have:=a01.mp z (.ref 0) List.mem_cons_self
 simp only [MI.clo] at this
 omega
noncomputable def vq:SF:=jr (a95 K35.bu K35.dq) 7
abbrev τc (T:Table) (x:List Nat) (p:Nat) (f:D) (a b:Option D):Sd:=[some T.d,some (.str (S x)),some (.ref 0),some (d8 p),some f,a,b]
theorem a7e (h:T.Ok) {x:List Nat} (ht:∀ c∈x,c∈T.tg) (xl:x.length≤900):vq [T.d, .str (S x)] [] = .ok (.tup [.ref 0,d8 (res T x).2]) [.lst ((res T x).1.map pcD)]:=by
 have w:=aif (c:=a86 K35.bu K35.dq) (f:=a4n K35.bu K35.dq)
  (fun m τ hp=>∃ (p:Nat) (acc:List Pc) (a b:Option D),τ=τc T x p (bst T x p) a b∧hp=[.lst (acc.map pcD)]∧m=x.length - p∧p≤x.length∧acc.length≤p∧a6m T x (x.length - p+1) p acc=res T x)
  (fun τ hp=>∃ (p:Nat) (acc:List Pc) (a b:Option D),τ=τc T x p (bst T x p) a b∧hp=[.lst (acc.map pcD)]∧(acc,p)=res T x)
  (fun _ _=>False) ?_ x.length 100000 (τc T x 0 (bst T x 0) none none) [.lst []] (by omega) ⟨0,[],none,none,rfl,rfl,rfl,by omega,by simp,rfl⟩
 ·rcases w with ⟨τ',h',e,p,acc,a,b,rfl,rfl,er⟩ | ⟨_,_,_,z⟩
  ·unfold vq
   rw [gj]
   show toR (a95 K35.bu K35.dq [some T.d,some (.str (S x)),none,none,none,none,none] [])=_
   unfold a95
   have lk:=a4w (T:=T) (amq (l:=x) (by omega)) (by rw [aj2];exact amr ht) []
   have dr:p7 (sA (ut 2 K35.bu) (ak (s2 gIx (sV 0) (sC (.int 0))) (ak (sV 1) dg))) [some T.d,some (.str (S x)),none,none,none,none,none] [] = .nx [some T.d,some (.str (S x)),none,none,none,none,none] []:=by
    unfold p7
    rw [(aje (qb (ig (bh rfl) (g8 _ _ _) (af9 _)) (qb (bh rfl) rfl))).trans lk]
    rfl
   refine Eq.trans (congrArg toR (yo dr)) ?_
   refine Eq.trans (congrArg toR (iy (d:=.ref 0) (h1:=[.lst []]) rfl)) ?_
   refine Eq.trans (congrArg toR (iy (g8 _ _ _))) ?_
   refine Eq.trans (congrArg toR (iy (abt (bh rfl) (bh rfl) (bh rfl) (a1e h (a:=0) ht (by omega) (by omega) _)))) ?_
   refine Eq.trans (congrArg toR (yo (aqu e))) ?_
   rw [← er]
   exact congrArg toR (wj (u6 (bh rfl) (bh rfl) amb))
  ·exact z.elim
 ·rintro m τ hp ⟨p,acc,a,b,rfl,rfl,rfl,pl,al,er⟩
  rcases a8c h pl with ⟨z1,z2⟩ | ⟨q,e,z1,z2,pe,el⟩
  ·refine .inl ⟨_,tof (ig (bh rfl) (g8 _ _ _) ((pq _).trans (by rw [z1];rfl))),p,acc,a,b,rfl,rfl,?_⟩
   rw [← er]
   unfold a6m
   rw [z2]
  ·refine .inr ⟨_,tof (ig (bh rfl) (g8 _ _ _) ((pq _).trans (by rw [z1];rfl))), .inl ⟨τc T x e (bst T x e) (some (.int q)) (some (d8 e)),[.lst ((acc++[(q,p,e)]).map pcD)],x.length - e,?_,by omega,e,acc++[(q,p,e)],_,_,rfl,rfl,rfl,el,by rw [List.length_append,List.length_singleton];omega,?_⟩⟩
   ·unfold a4n
    have as:a8w (sV 4) (a72 2 (mq (kN 5) (mq (kN 6) a7l))) (τc T x p (bst T x p) a b) [.lst (acc.map pcD)] = .nx (τc T x p (bst T x p) (some (.int q)) (some (d8 e))) [.lst (acc.map pcD)]:=ais (bh rfl) (by rw [z1];rfl)
    refine Eq.trans (yo as) ?_
    rw [List.map_append]
    refine Eq.trans (yo (a05 (bh rfl) rfl (arg1 (abt (bh rfl) (bh rfl) (bh rfl) ano)) (a0p (xs:=acc.map pcD) rfl (by rw [List.length_map];exact a0q (by omega))))) ?_
    refine Eq.trans (iy (bh rfl)) ?_
    exact agg (abt (bh rfl) (bh rfl) (bh rfl) (a1e h (a:=e) ht (by omega) el _))
   ·rw [← er]
    have more:∀ (n k p:Nat) (acc:List Pc),p≤x.length→x.length - p+1≤n→a6m T x (n+k) p acc=a6m T x n p acc:=by
     intro n
     induction n with
     | zero=>intro k p acc hp hn;omega
     | succ n ih =>
      intro k p acc hp hn
      rw [show n+1+k=(n+k)+1 by omega]
      unfold a6m
      rcases a8c h hp with ⟨_,y2⟩ | ⟨q',e',_,y2,pe',el'⟩
      ·rw [y2]
      ·rw [y2]
       exact ih k e' _ el' (by omega)
    conv=>rhs;unfold a6m
    rw [z2]
    dsimp only
    have:=more (x.length - e+1) (x.length - p - (x.length - e+1)) e (acc++[(q,p,e)]) el (Nat.le_refl _)
    rw [show x.length - e+1+(x.length - p - (x.length - e+1))=x.length - p by omega] at this
    exact this.symm
theorem a8e {x:List Nat}:∀ d∈[T.d, .str (S x)],MI.clo 0 d:=a1z Table.clo (iz _)
theorem afe (h:T.Ok) {x:List Nat} (ht:∀ c∈x,c∈T.tg) (xl:x.length≤900) (hh:Hd):ut 2 vq [T.d, .str (S x)] hh = .ok (ap8 T x) hh :=
 abx a8e (a7e h ht xl) (Pu.of rfl a8e (a7e h ht xl) acp (a8d T x))
theorem afg (h:T.Ok) {x:List Nat} (ht:∀ c∈x,c∈T.tg) (xl:x.length≤900) (hh:Hd):a6f 2 vq [T.d, .str (S x)] hh = .ok (.tup [.ref hh.length,d8 (res T x).2]) (hh++[.lst ((res T x).1.map pcD)]) :=
 aim rfl a8e (a7e h ht xl) rfl (a5a _ _) (di _)
theorem aj7 {d:D} (p:Pln d) (t:txt T d=false) (hh:Hd):ut 2 vq [T.d,d] hh = .ex "NoText" hh:=by
 refine abw rfl (a1z Table.clo p.clo) (h1:=[]) ?_
 unfold vq
 rw [gj]
 show toR (a95 K35.bu K35.dq [some T.d,some d,none,none,none,none,none] [])=_
 unfold a95
 exact congrArg toR (amc (agi ((aje (qb (ig (bh rfl) (g8 _ _ _) (af9 _)) (qb (bh rfl) rfl))).trans (a4x p t _))))
end
end K35
namespace K35
open PySem PySem.Spec L2 MI AT HND EVX K22 K23 K21
section
variable {T:Table}
noncomputable def mj:SF:=jr (K35.a03 SRC.dm) 5
abbrev τl (T:Table) (x:List Nat) (p:Nat):Sd:=[some T.d,some (.str (S x)),some (.ref 0),some (d8 p),some (bst T x p)]
theorem ago (h:T.Ok) {x:List Nat} {a:Nat} (ht:∀ c∈x,c∈T.tg) (xl:x.length≤900) (al:a≤x.length) (hh:Hd):j4 false 3 SRC.dm [T.d, .str (S x),d8 a] hh = .ok (bst T x a) hh:=SRC.afd h ht (by omega) al hh
theorem afh (h:T.Ok) {x:List Nat} (ht:∀ c∈x,c∈T.tg) (xl:x.length≤900):mj [T.d, .str (S x)] [] = .ok (.tup [.ref 0,d8 (res T x).2]) [.lst ((res T x).1.map pcD)]:=by
 have w:=aif (c:=a0o SRC.dm) (f:=xx SRC.dm)
  (fun m τ hp=>∃ (p:Nat) (acc:List Pc),τ=τl T x p∧hp=[.lst (acc.map pcD)]∧m=x.length - p∧p≤x.length∧acc.length≤p∧a6m T x (x.length - p+1) p acc=res T x)
  (fun τ hp=>∃ (p:Nat) (acc:List Pc),τ=τl T x p∧hp=[.lst (acc.map pcD)]∧(acc,p)=res T x)
  (fun _ _=>False) ?_ x.length 100000 (τl T x 0) [.lst []] (by omega) ⟨0,[],rfl,rfl,rfl,by omega,by simp,rfl⟩
 ·rcases w with ⟨τ',h',e,p,acc,rfl,rfl,er⟩ | ⟨_,_,_,z⟩
  ·unfold mj
   rw [gj]
   show toR (K35.a03 SRC.dm [some T.d,some (.str (S x)),none,none,none] [])=_
   unfold K35.a03
   refine Eq.trans (congrArg toR (iy (d:=.ref 0) (h1:=[.lst []]) rfl)) ?_
   refine Eq.trans (congrArg toR (iy (g8 _ _ _))) ?_
   refine Eq.trans (congrArg toR (iy (abt (bh rfl) (bh rfl) (bh rfl) (ago h (a:=0) ht xl (by omega) _)))) ?_
   refine Eq.trans (congrArg toR (yo e)) ?_
   rw [← er]
   exact congrArg toR (wj (u6 (bh rfl) (bh rfl) amb))
  ·exact z.elim
 ·rintro m τ hp ⟨p,acc,rfl,rfl,rfl,pl,al,er⟩
  rcases a8c h pl with ⟨z1,z2⟩ | ⟨q,e,z1,z2,pe,el⟩
  ·refine .inl ⟨_,tof (ig (bh rfl) (g8 _ _ _) ((pq _).trans (by rw [z1];rfl))),p,acc,rfl,rfl,?_⟩
   rw [← er]
   unfold a6m
   rw [z2]
  ·refine .inr ⟨_,tof (ig (bh rfl) (g8 _ _ _) ((pq _).trans (by rw [z1];rfl))), .inl ⟨τl T x e,[.lst ((acc++[(q,p,e)]).map pcD)],x.length - e,?_,by omega,e,acc++[(q,p,e)],rfl,rfl,rfl,el,by rw [List.length_append,List.length_singleton];omega,?_⟩⟩
   ·unfold K35.xx
    have i0:∀ hh:Hd,gIx (bst T x p) (.int 0) hh = .ok (.int q) hh:=fun hh=>by rw [z1];exact a9g (j:=0) rfl
    have i1:∀ hh:Hd,gIx (bst T x p) (.int 1) hh = .ok (d8 e) hh:=fun hh=>by rw [z1];exact a9g (j:=1) rfl
    rw [List.map_append]
    refine Eq.trans (yo (a05 (bh rfl) rfl (arg1 (abt (ig (bh rfl) (g8 _ _ _) (i0 _)) (bh rfl) (ig (bh rfl) (g8 _ _ _) (i1 _)) ano)) (a0p (xs:=acc.map pcD) rfl (by rw [List.length_map];exact a0q (by omega))))) ?_
    refine Eq.trans (iy (ig (bh rfl) (g8 _ _ _) (i1 _))) ?_
    exact agg (abt (bh rfl) (bh rfl) (bh rfl) (ago h (a:=e) ht xl el _))
   ·rw [← er]
    have more:∀ (n k p:Nat) (acc:List Pc),p≤x.length→x.length - p+1≤n→a6m T x (n+k) p acc=a6m T x n p acc:=by
     intro n
     induction n with
     | zero=>intro k p acc hp hn;omega
     | succ n ih =>
      intro k p acc hp hn
      rw [show n+1+k=(n+k)+1 by omega]
      unfold a6m
      rcases a8c h hp with ⟨_,y2⟩ | ⟨q',e',_,y2,pe',el'⟩
      ·rw [y2]
      ·rw [y2]
       exact ih k e' _ el' (by omega)
    conv=>rhs;unfold a6m
    rw [z2]
    dsimp only
    have:=more (x.length - e+1) (x.length - p - (x.length - e+1)) e (acc++[(q,p,e)]) el (Nat.le_refl _)
    rw [show x.length - e+1+(x.length - p - (x.length - e+1))=x.length - p by omega] at this
    exact this.symm
theorem aj8 (h:T.Ok) {x:List Nat} (ht:∀ c∈x,c∈T.tg) (xl:x.length≤900):Pu mj 2 [T.d, .str (S x)] (ap8 T x):=Pu.of rfl a8e (afh h ht xl) acp (a8d T x)
noncomputable def jh:SF:=jr (K35.yj SRC.fu) 3
abbrev rD (ps:List Pc) (p:Nat):D:=.tup [.rol (ps.map pcD),d8 p]
theorem agp (ps:List Pc) (p:Nat):MI.clo 0 (rD ps p):=sr (fj (v7 (a5a _ _)) (fj (di _) v6))
theorem afi (ps:List Pc) (p:Nat) (pl:ps.length≤1000):Pu jh 2 [rD ps p,rD ps p] (.bl true):=by
 refine Pu.of rfl (a1z (agp ps p) (agp ps p)) (r:=.ok (.bl true) []) ?_ (jk (xq _) (by simp)) (xq _)
 unfold jh
 rw [gj]
 show toR (K35.yj SRC.fu [some (rD ps p),some (rD ps p),none] [])=_
 unfold K35.yj
 have i0:gIx (rD ps p) (.int 0) [] = .ok (.rol (ps.map pcD)) []:=a9g (j:=0) rfl
 have i1:gIx (rD ps p) (.int 1) [] = .ok (d8 p) []:=a9g (j:=1) rfl
 have t1:uf [rD ps p, .ty "tuple"] [] = .ok (.bl true) []:=by simp [uf,adp,tyD,aau]
 have t2:uf [.rol (ps.map pcD), .ty "list"] [] = .ok (.bl true) []:=by simp [uf,adp,tyD,aau]
 have nn:∀ a b c:Int,hNe (.tup [.int a, .int b, .int c]) (.tup [.int a, .int b, .int c]) [] = .ok (.bl false) []:=fun a b c=>by
  unfold hNe
  rw [if_pos ⟨rfl,rfl⟩]
  simp [eqD,adv]
 refine Eq.trans (congrArg toR (ifN (orF (af1 (a0t (u6 (bh rfl) (g8 _ _ _) t1) (qi _))) (orF (tof (ig (a2a (bh rfl) a0h) (g8 _ _ _) (abu rfl))) (af1 (a0t (u6 (ig (bh rfl) (g8 _ _ _) i0) (g8 _ _ _) t2) (qi _))))))) ?_
 refine Eq.trans (congrArg toR (ifN (orF (af1 (a0t (u6 (a2a (ig (bh rfl) (g8 _ _ _) i1) rfl) (g8 _ _ _) (SRC.a3c (xs:=[(p:Int)]) (by simp) _)) (qi _))) (orF (tof (ig (ig (bh rfl) (g8 _ _ _) i1) (ig (bh rfl) (g8 _ _ _) i1) (abu rfl))) (tof (ig (a2a (ig (bh rfl) (g8 _ _ _) i0) yc) (a2a (ig (bh rfl) (g8 _ _ _) i0) yc) (abu rfl))))))) ?_
 refine Eq.trans (congrArg toR (a6j (a7c (n:=(ps.map pcD).length) (a2a (ig (bh rfl) (g8 _ _ _) i0) yc) (iu (by rw [List.length_map];omega))))) ?_
 have lp:=qm (g:=kN 2) (b:=K35.vo SRC.fu) d8
  (fun pre τ hh=>∃ t2:Option D,τ=[some (rD ps p),some (rD ps p),t2]∧hh=[])
  (List.range (ps.map pcD).length) [some (rD ps p),some (rD ps p),none] [] ?_ ⟨none,rfl,rfl⟩
 ·obtain ⟨τ',h',e,t2,rfl,rfl⟩:=lp
  refine Eq.trans (congrArg (fun z=>toR (MI.thn z _)) e) ?_
  rw [xn]
  exact congrArg toR (wj (g8 _ _ _))
 ·rintro pre a post τ hh all ⟨t2,rfl,rfl⟩
  have al:a<ps.length:=by
   have:a∈List.range (ps.map pcD).length:=by rw [all];simp
   rw [List.mem_range,List.length_map] at this
   exact this
  refine ⟨_,_,rfl,[some (rD ps p),some (rD ps p),some (d8 a)],[],?_,_,rfl,rfl⟩
  unfold K35.vo
  have ia:gIx (.rol (ps.map pcD)) (d8 a) [] = .ok (pcD ps[a]) []:=am9 (by rw [List.getElem?_map,List.getElem?_eq_getElem al];rfl)
  have e1:∀ τ:Sd,τ[0]? = some (some (rD ps p))→τ[2]? = some (some (d8 a))→s2 gIx (s2 gIx (sV 0) (sC (.int 0))) (sV 2) τ [] = .ok (pcD ps[a]) []:=fun τ h0 h2=>ig (ig (bh h0) (g8 _ _ _) i0) (bh h2) ia
  have e2:∀ τ:Sd,τ[1]? = some (some (rD ps p))→τ[2]? = some (some (d8 a))→s2 gIx (s2 gIx (sV 1) (sC (.int 0))) (sV 2) τ [] = .ok (pcD ps[a]) []:=fun τ h0 h2=>ig (ig (bh h0) (g8 _ _ _) i0) (bh h2) ia
  exact Eq.trans (ifF (orF (af1 (a0t (u6 (e1 _ rfl rfl) (g8 _ _ _) (SRC.a3c (xs:=[ps[a].1,(ps[a].2.1:Int),(ps[a].2.2:Int)]) (by simp) _)) (qi _))) (tof (ig (e1 _ rfl rfl) (e2 _ rfl rfl) (nn _ _ _))))) rfl
noncomputable def jc:SF:=jr (K35.qt vq) 4
theorem a9d {d:D} (p:Pln d) (t:txt T d=false):Pu K35.jc 2 [T.d,d] (.bl true):=by
 refine Pu.of rfl (a1z Table.clo p.clo) (r:=.ok (.bl true) []) ?_ (jk (xq _) (by simp)) (xq _)
 unfold K35.jc
 rw [gj]
 show toR (K35.qt vq [some T.d,some d,none,none] [])=_
 unfold K35.qt
 refine Eq.trans (congrArg toR (iy (g8 _ _ _))) ?_
 refine Eq.trans (congrArg toR (yo (amd (c := "NoText") (h1:=[]) ?_ (by decide) (Eq.trans (iy (aiq (aiw (b:=true) rfl (by decide)) (aiw (b:=true) rfl (by decide)))) (Eq.trans (ifF (a0t (aiw (c := "NoText") rfl (b:=false) (by decide)) (qi _))) rfl))))) ?_
 ·exact agi ((aje (qof (qb (bh rfl) (qb (bh rfl) rfl)))).trans (aj7 p t _))
 ·exact congrArg toR (wj (bh rfl))
noncomputable def afj:SF:=jr (K35.aev K35.jg mj K35.jc SRC.j9 SRC.jq SRC.m7 jh vq) 8
theorem amt (ns:List Int):∃ h',K35.afj [.scr (ns.map D.int)] [] = .ok (.bl true) h':=by
 obtain ⟨o,P,e0⟩:=SRC.aby ns []
 obtain ⟨T,o1,hT,e1,P1⟩:=SRC.af5 (most:=32) P (by omega) (by omega) (by omega)
 obtain ⟨l,o2,ll,lt,e2,P2⟩:=SRC.aj4 P1 (by omega) hT.tong.lo hT.tong.hi
 obtain ⟨d,o3,pd,td,e3,P3⟩:=acl hT (l:=l) P2 (by omega) (by omega)
 have c1:j4 false 2 SRC.jq [.ref 0, .int 32] [o] = .ok T.d [o1]:=e1 0 _ rfl
 have c2:j4 false 2 SRC.m7 [.ref 0, .str (S T.tg)] [o1] = .ok (.str (S l)) [o2]:=e2 0 _ rfl
 have c3:j4 false 3 K35.jg [.ref 0, .str (S T.tg), .str (S l)] [o2] = .ok d [o3]:=e3 0 _ rfl
 have rl:(res T l).1.length≤300:=by
  have:=aco T l (l.length+1) 0 []
  simp only [List.length_nil] at this
  show (a6m T l (l.length+1) 0 []).1.length≤300
  omega
 have ct:∀ hh:Hd,ut 2 vq [T.d, .str (S l)] hh = .ok (rD (res T l).1 (res T l).2) hh:=fun hh=>afe hT lt (by omega) hh
 have lc:∀ hh:Hd,j4 false 2 mj [T.d, .str (S l)] hh = .ok (rD (res T l).1 (res T l).2) hh:=fun hh=>aj8 hT lt (by omega) hh
 have th:a6f 2 vq [T.d, .str (S l)] [o3] = .ok (.tup [.ref 1,d8 (res T l).2]) [o3, .lst ((res T l).1.map pcD)]:=afg hT lt (by omega) [o3]
 generalize (res T l).1=ps at ct lc th rl
 generalize (res T l).2=p at ct lc th
 have tl:∀ hh:Hd,j4 false 2 jh [rD ps p,rD ps p] hh = .ok (.bl true) hh:=fun hh=>afi ps p (by omega) hh
 have i0:∀ hh:Hd,gIx (.tup [.ref 1,d8 p]) (.int 0) hh = .ok (.ref 1) hh:=fun hh=>a9g (j:=0) rfl
 have pp:∃ y,(ps.map pcD++[D.tup [.int 0, .int 0, .int 0]])[0]? = some y:=⟨_,List.getElem?_eq_getElem (by simp)⟩
 obtain ⟨y,pp⟩:=pp
 refine ⟨[o3, .lst ((ps.map pcD++[D.tup [.int 0, .int 0, .int 0]]).eraseIdx 0)],?_⟩
 unfold K35.afj
 rw [gj]
 show toR (K35.aev K35.jg mj K35.jc SRC.j9 SRC.jq SRC.m7 jh vq [some (.scr (ns.map D.int)),none,none,none,none,none,none,none] [])=_
 unfold K35.aev
 refine Eq.trans (congrArg toR (iy (a2a (bh rfl) e0))) ?_
 refine Eq.trans (congrArg toR (iy (u6 (bh rfl) (g8 _ _ _) c1))) ?_
 refine Eq.trans (congrArg toR (iy (u6 (bh rfl) (ig (bh rfl) (g8 _ _ _) (af9 _)) c2))) ?_
 refine Eq.trans (congrArg toR (iy (abt (bh rfl) (ig (bh rfl) (g8 _ _ _) (af9 _)) (bh rfl) c3))) ?_
 refine Eq.trans (congrArg toR (iy (u6 (bh rfl) (bh rfl) (lc _)))) ?_
 refine Eq.trans (congrArg toR (iy ((aje (qb (bh rfl) (qb (bh rfl) rfl))).trans (ct _)))) ?_
 refine Eq.trans (congrArg toR (ifN (af1 (a0t (u6 (bh rfl) (bh rfl) (tl _)) (qi _))))) ?_
 refine Eq.trans (congrArg toR (iy ((aje (qb (bh rfl) (qb (bh rfl) rfl))).trans th))) ?_
 refine Eq.trans (congrArg toR (yo (a05 (ig (bh rfl) (g8 _ _ _) (i0 _)) rfl (arg1 (abt (g8 _ _ _) (g8 _ _ _) (g8 _ _ _) ano)) (a0p (xs:=ps.map pcD) rfl (by rw [List.length_map];exact a0q (by omega)))))) ?_
 refine Eq.trans (congrArg toR (yo (a05 (ig (bh rfl) (g8 _ _ _) (i0 _)) rfl (arg1 (g8 _ _ _)) (ait (j:=0) (xs:=ps.map pcD++[D.tup [.int 0, .int 0, .int 0]]) rfl pp (iu (by simp only [List.length_append,List.length_map,List.length_singleton];omega)))))) ?_
 refine Eq.trans (congrArg toR (ifN (af1 (a0t (u6 (bh rfl) (bh rfl) (a9d pd td _)) (qi _))))) ?_
 exact congrArg toR (wj (aiq (u6 ((aje (qb (bh rfl) (qb (bh rfl) rfl))).trans (ct _)) (bh rfl) (tl _)) (u6 (bh rfl) (bh rfl) (tl _))))
end
end K35
namespace L2
open PySem PySem.Spec PySem.W PyProof.Rows
theorem aj9 {K:Frag} {C:Addr} (q:excIn K C [.type "ValueError", .type "Exception", .type "BaseException", .type "object"] "ValueError.__new__" = true):XCls K C:=by
 unfold excIn at q
 split at q
 ·rename_i dd cd sl lo
  split at q
  ·rename_i C' bm k0 k1 k2 k3 n k5 mo ss
   simp only [Bool.and_eq_true,beq_iff_eq,Bool.not_eq_true'] at q
   obtain ⟨⟨⟨⟨⟨e1,e2⟩,nd⟩,tl⟩,no⟩,ni⟩:=q
   subst e1 e2
   cases cd
   dsimp only at mo nd no ni
   subst mo nd
   obtain ⟨l⟩:=sl
   simp only at ss
   subst ss
   exact ⟨_,_,_,_,bm,_,_,_,_,_,dd,k0,k1,k2,k3,k5,lo,no,ni,tl⟩
  ·cases q
 ·cases q
end L2
namespace K35
open PySem PySem.Spec L2 MI
def afk (K:PySem.W.Frag):Sp:=fun vs H Q _=>∃ (a:Addr) (ns:List Int),vs=[.ref a]∧SqF K H a (ns.map V.int)∧ns.length≤63∧∀ H',Q (.bl true) H'
theorem a6n {K:PySem.W.Frag} {ι:List Addr} {H:Hp}:∀ ns:List Int,Reps K ι H (ns.map V.int) (ns.map D.int)
 | []=>.nil
 | n::ns=>.cons (.int n) (a6n ns)
theorem amu {K:PySem.W.Frag} (vs:List V) (H:Hp) (Q:VK) (E:XK) (h:afk K vs H Q E):ue K 1 K35.afj vs H Q E:=by
 obtain ⟨a,ns,rfl,hS,hl,q⟩:=h
 obtain ⟨h',e⟩:=K35.amt ns
 refine ⟨rfl,[],[.scr (ns.map D.int)],[], .cons (.scr hS (a6n ns)) .nil,⟨List.nodup_nil,rfl,fun i a o z=>by simp at z⟩,?_⟩
 rw [e]
 intro ι' H' b g r hr
 cases r
 exact q H'
theorem amv {K:PySem.W.Frag} {H:Hp} {a:Addr} {vs:List V} (hO:Only H) (hS:SqL K H a vs):SqF K H a vs:=by
 rcases hS with r | r
 ·rcases r with r | ⟨o,r⟩
  ·rcases hO a with z | ⟨o,xs,z⟩<;>rw [z] at r<;>cases r
  ·exact .inl ⟨o,r⟩
 ·exact .inr (.inr r)
abbrev fo (x:Str) (t:Stmt) (kV dc pm:Value) (an:Option Addr) (cd ct:Value):=PySem.W.fnOf x x (a0a t) (dz t) (aq t) .none kV dc pm an cd ct
theorem amw {l:PySem.W.OpenLaw} {w:World} {K:PySem.W.Frag} {h:Heap} {mg:Str→Option Value} {fa f1 f2 f3 f4 f5 f6 f7 f8 f9 f10 f11 f12 f13 f14 f15 f16 f17 f18 f19:Addr} (X:K.In h) (G:h.Ns mainGlobals mg) (hfa:mg "law" = some (.ref fa))
  {od1 an1 od2 an2 od3 an3 od4 an4 od5 an5 od6 an6 od7 an7 od8 an8 od9 an9 od10 an10 od11 an11 od12 an12 od13 an13 od14 an14 od15 an15 od16 an16 od17 an17 od18 an18 od19 an19:Option Addr} {sl1 sl2 sl3 sl4 sl5 sl6 sl7 sl8 sl9 sl10 sl11 sl12 sl13 sl14 sl15 sl16 sl17 sl18 sl19:Array (Option Value)} {oc1 kV1 dc1 pm1 cd1 ct1 oc2 kV2 dc2 pm2 cd2 ct2 oc3 kV3 dc3 pm3 cd3 ct3 oc4 kV4 dc4 pm4 cd4 ct4 oc5 kV5 dc5 pm5 cd5 ct5 oc6 kV6 dc6 pm6 cd6 ct6 oc7 kV7 dc7 pm7 cd7 ct7 oc8 kV8 dc8 pm8 cd8 ct8 oc9 kV9 dc9 pm9 cd9 ct9 oc10 kV10 dc10 pm10 cd10 ct10 oc11 kV11 dc11 pm11 cd11 ct11 oc12 kV12 dc12 pm12 cd12 ct12 oc13 kV13 dc13 pm13 cd13 ct13 oc14 kV14 dc14 pm14 cd14 ct14 oc15 kV15 dc15 pm15 cd15 ct15 oc16 kV16 dc16 pm16 cd16 ct16 oc17 kV17 dc17 pm17 cd17 ct17 oc18 kV18 dc18 pm18 cd18 ct18 oc19 kV19 dc19 pm19 cd19 ct19:Value}
  (a1:PySem.W.nsIn K mainGlobals "is_text" = some (some (.ref f1))) (l1:K.lookup f1=some ⟨oc1,od1, .func (fo "is_text" (top 8) kV1 dc1 pm1 an1 cd1 ct1),sl1⟩) (c1:PySem.W.codeIn K cd1 "is_text" = true) (k1:PySem.W.keepIn K (.ref f1)=true)
  (a2:PySem.W.nsIn K mainGlobals "looked_text" = some (some (.ref f2))) (l2:K.lookup f2=some ⟨oc2,od2, .func (fo "looked_text" (top 10) kV2 dc2 pm2 an2 cd2 ct2),sl2⟩) (c2:PySem.W.codeIn K cd2 "looked_text" = true) (k2:PySem.W.keepIn K (.ref f2)=true)
  (a3:PySem.W.nsIn K mainGlobals "rooms_along" = some (some (.ref f3))) (l3:K.lookup f3=some ⟨oc3,od3, .func (fo "rooms_along" (top 11) kV3 dc3 pm3 an3 cd3 ct3),sl3⟩) (c3:PySem.W.codeIn K cd3 "rooms_along" = true) (k3:PySem.W.keepIn K (.ref f3)=true)
  (a4:PySem.W.nsIn K mainGlobals "piece_at" = some (some (.ref f4))) (l4:K.lookup f4=some ⟨oc4,od4, .func (fo "piece_at" (top 13) kV4 dc4 pm4 an4 cd4 ct4),sl4⟩) (c4:PySem.W.codeIn K cd4 "piece_at" = true) (k4:PySem.W.keepIn K (.ref f4)=true)
  (a5:PySem.W.nsIn K mainGlobals "cut" = some (some (.ref f5))) (l5:K.lookup f5=some ⟨oc5,od5, .func (fo "cut" (top 14) kV5 dc5 pm5 an5 cd5 ct5),sl5⟩) (c5:PySem.W.codeIn K cd5 "cut" = true) (k5:PySem.W.keepIn K (.ref f5)=true)
  (a6:PySem.W.nsIn K mainGlobals "_law_source" = some (some (.ref f6))) (l6:K.lookup f6=some ⟨oc6,od6, .func (fo "_law_source" (top 16) kV6 dc6 pm6 an6 cd6 ct6),sl6⟩) (c6:PySem.W.codeIn K cd6 "_law_source" = true) (k6:PySem.W.keepIn K (.ref f6)=true)
  (a7:PySem.W.nsIn K mainGlobals "_law_draw" = some (some (.ref f7))) (l7:K.lookup f7=some ⟨oc7,od7, .func (fo "_law_draw" (top 17) kV7 dc7 pm7 an7 cd7 ct7),sl7⟩) (c7:PySem.W.codeIn K cd7 "_law_draw" = true) (k7:PySem.W.keepIn K (.ref f7)=true)
  (a8:PySem.W.nsIn K mainGlobals "_law_signs" = some (some (.ref f8))) (l8:K.lookup f8=some ⟨oc8,od8, .func (fo "_law_signs" (top 18) kV8 dc8 pm8 an8 cd8 ct8),sl8⟩) (c8:PySem.W.codeIn K cd8 "_law_signs" = true) (k8:PySem.W.keepIn K (.ref f8)=true)
  (a9:PySem.W.nsIn K mainGlobals "_law_tongue" = some (some (.ref f9))) (l9:K.lookup f9=some ⟨oc9,od9, .func (fo "_law_tongue" (top 19) kV9 dc9 pm9 an9 cd9 ct9),sl9⟩) (c9:PySem.W.codeIn K cd9 "_law_tongue" = true) (k9:PySem.W.keepIn K (.ref f9)=true)
  (a10:PySem.W.nsIn K mainGlobals "_law_rooms" = some (some (.ref f10))) (l10:K.lookup f10=some ⟨oc10,od10, .func (fo "_law_rooms" (top 20) kV10 dc10 pm10 an10 cd10 ct10),sl10⟩) (c10:PySem.W.codeIn K cd10 "_law_rooms" = true) (k10:PySem.W.keepIn K (.ref f10)=true)
  (a11:PySem.W.nsIn K mainGlobals "_law_table" = some (some (.ref f11))) (l11:K.lookup f11=some ⟨oc11,od11, .func (fo "_law_table" (top 21) kV11 dc11 pm11 an11 cd11 ct11),sl11⟩) (c11:PySem.W.codeIn K cd11 "_law_table" = true) (k11:PySem.W.keepIn K (.ref f11)=true)
  (a12:PySem.W.nsIn K mainGlobals "_law_text" = some (some (.ref f12))) (l12:K.lookup f12=some ⟨oc12,od12, .func (fo "_law_text" (top 22) kV12 dc12 pm12 an12 cd12 ct12),sl12⟩) (c12:PySem.W.codeIn K cd12 "_law_text" = true) (k12:PySem.W.keepIn K (.ref f12)=true)
  (a13:PySem.W.nsIn K mainGlobals "_law_first" = some (some (.ref f13))) (l13:K.lookup f13=some ⟨oc13,od13, .func (fo "_law_first" (top 23) kV13 dc13 pm13 an13 cd13 ct13),sl13⟩) (c13:PySem.W.codeIn K cd13 "_law_first" = true) (k13:PySem.W.keepIn K (.ref f13)=true)
  (a14:PySem.W.nsIn K mainGlobals "_law_cut" = some (some (.ref f14))) (l14:K.lookup f14=some ⟨oc14,od14, .func (fo "_law_cut" (top 24) kV14 dc14 pm14 an14 cd14 ct14),sl14⟩) (c14:PySem.W.codeIn K cd14 "_law_cut" = true) (k14:PySem.W.keepIn K (.ref f14)=true)
  (a15:PySem.W.nsIn K mainGlobals "_law_numbers" = some (some (.ref f15))) (l15:K.lookup f15=some ⟨oc15,od15, .func (fo "_law_numbers" (top 25) kV15 dc15 pm15 an15 cd15 ct15),sl15⟩) (c15:PySem.W.codeIn K cd15 "_law_numbers" = true) (k15:PySem.W.keepIn K (.ref f15)=true)
  (a16:PySem.W.nsIn K mainGlobals "_law_bad" = some (some (.ref f16))) (l16:K.lookup f16=some ⟨oc16,od16, .func (fo "_law_bad" (top 26) kV16 dc16 pm16 an16 cd16 ct16),sl16⟩) (c16:PySem.W.codeIn K cd16 "_law_bad" = true) (k16:PySem.W.keepIn K (.ref f16)=true)
  (a17:PySem.W.nsIn K mainGlobals "_law_told" = some (some (.ref f17))) (l17:K.lookup f17=some ⟨oc17,od17, .func (fo "_law_told" (top 27) kV17 dc17 pm17 an17 cd17 ct17),sl17⟩) (c17:PySem.W.codeIn K cd17 "_law_told" = true) (k17:PySem.W.keepIn K (.ref f17)=true)
  (a18:PySem.W.nsIn K mainGlobals "_law_refused" = some (some (.ref f18))) (l18:K.lookup f18=some ⟨oc18,od18, .func (fo "_law_refused" (top 28) kV18 dc18 pm18 an18 cd18 ct18),sl18⟩) (c18:PySem.W.codeIn K cd18 "_law_refused" = true) (k18:PySem.W.keepIn K (.ref f18)=true)
  (a19:PySem.W.nsIn K mainGlobals "law" = some (some (.ref f19))) (l19:K.lookup f19=some ⟨oc19,od19, .func (fo "law" (top 29) kV19 dc19 pm19 an19 cd19 ct19),sl19⟩) (c19:PySem.W.codeIn K cd19 "law" = true) (k19:PySem.W.keepIn K (.ref f19)=true)
  {y_NoText y_ReachError y_Closed y_NoQuote y_NoWord y_Stopped:Addr}
  (xg_NoText:PySem.W.nsIn K mainGlobals "NoText" = some (some (.ref y_NoText)))
  (xg_ReachError:PySem.W.nsIn K mainGlobals "ReachError" = some (some (.ref y_ReachError)))
  (xg_Closed:PySem.W.nsIn K mainGlobals "Closed" = some (some (.ref y_Closed)))
  (xg_NoQuote:PySem.W.nsIn K mainGlobals "NoQuote" = some (some (.ref y_NoQuote)))
  (xg_NoWord:PySem.W.nsIn K mainGlobals "NoWord" = some (some (.ref y_NoWord)))
  (xg_Stopped:PySem.W.nsIn K mainGlobals "Stopped" = some (some (.ref y_Stopped)))
  (xc_NoText:XCls K y_NoText)
  (xk_NoText:XKit K y_NoText)
  (xe_NoText_ReachError:PySem.W.exmOne K (.ref y_NoText) (.ref y_ReachError)=some true)
  (xi_NoText_ValueError:PySem.W.kitOne K (.ref y_NoText) (.type "ValueError")=some true)
  (xi_NoText_NoText:PySem.W.kitOne K (.ref y_NoText) (.ref y_NoText)=some true)
  (xi_NoText_Closed_NoQuote_NoWord_Stopped:PySem.W.kitAny K (.ref y_NoText) [.ref y_Closed, .ref y_NoQuote, .ref y_NoWord, .ref y_Stopped]=some false)
  (z1:PySem.W.nsIn K mainGlobals "ValueError" = some none) (z2:PySem.W.nsIn K mainGlobals "abs" = some none) (z3:PySem.W.nsIn K mainGlobals "all" = some none) (z4:PySem.W.nsIn K mainGlobals "bool" = some none) (z5:PySem.W.nsIn K mainGlobals "enumerate" = some none) (z6:PySem.W.nsIn K mainGlobals "int" = some none) (z7:PySem.W.nsIn K mainGlobals "isinstance" = some none) (z8:PySem.W.nsIn K mainGlobals "len" = some none) (z9:PySem.W.nsIn K mainGlobals "list" = some none) (z10:PySem.W.nsIn K mainGlobals "min" = some none) (z11:PySem.W.nsIn K mainGlobals "range" = some none) (z12:PySem.W.nsIn K mainGlobals "sorted" = some none) (z13:PySem.W.nsIn K mainGlobals "str" = some none) (z14:PySem.W.nsIn K mainGlobals "sum" = some none) (z15:PySem.W.nsIn K mainGlobals "tuple" = some none)  :
  ∃ fd:FuncData,(∀ (s:Shared) (v:Value),BindsTo s fd ⟨[v],[]⟩ [("_law_script",v)])∧∀ base:Heap,K.In base→base.Ns mainGlobals mg→FnOk l.prog w K mg base CX0 5 fa fd ["_law_script"] (afk K):=by
 have e:=hfa.symm.trans (PySem.W.mg_of X G a19)
 cases e
 have F1:=m8 (st:=top 8) l1 c1 k1
 have b1:=F1.binds (ps:=["tongue", "thing"]) fun _ _ _ _ _ _ us hl=>match us,hl with | [_,_],_=>rfl
 have F2:=m8 (st:=top 10) l2 c2 k2
 have b2:=F2.binds (ps:=["tongue", "thing"]) fun _ _ _ _ _ _ us hl=>match us,hl with | [_,_],_=>rfl
 have F3:=m8 (st:=top 11) l3 c3 k3
 have b3:=F3.binds (ps:=["table", "room", "word"]) fun _ _ _ _ _ _ us hl=>match us,hl with | [_,_,_],_=>rfl
 have F4:=m8 (st:=top 13) l4 c4 k4
 have b4:=F4.binds (ps:=["table", "text", "at"]) fun _ _ _ _ _ _ us hl=>match us,hl with | [_,_,_],_=>rfl
 have F5:=m8 (st:=top 14) l5 c5 k5
 have b5:=F5.binds (ps:=["table", "text"]) fun _ _ _ _ _ _ us hl=>match us,hl with | [_,_],_=>rfl
 have F6:=m8 (st:=top 16) l6 c6 k6
 have b6:=F6.binds (ps:=["_law_script"]) fun _ _ _ _ _ _ us hl=>match us,hl with | [_],_=>rfl
 have F7:=m8 (st:=top 17) l7 c7 k7
 have b7:=F7.binds (ps:=["_law_left", "_law_many"]) fun _ _ _ _ _ _ us hl=>match us,hl with | [_,_],_=>rfl
 have F8:=m8 (st:=top 18) l8 c8 k8
 have b8:=F8.binds (ps:=[]) fun _ _ _ _ _ _ us hl=>match us,hl with | [],_=>rfl
 have F9:=m8 (st:=top 19) l9 c9 k9
 have b9:=F9.binds (ps:=["_law_left"]) fun _ _ _ _ _ _ us hl=>match us,hl with | [_],_=>rfl
 have F10:=m8 (st:=top 20) l10 c10 k10
 have b10:=F10.binds (ps:=["_law_left", "_law_tongue_here", "_law_many"]) fun _ _ _ _ _ _ us hl=>match us,hl with | [_,_,_],_=>rfl
 have F11:=m8 (st:=top 21) l11 c11 k11
 have b11:=F11.binds (ps:=["_law_left", "_law_most"]) fun _ _ _ _ _ _ us hl=>match us,hl with | [_,_],_=>rfl
 have F12:=m8 (st:=top 22) l12 c12 k12
 have b12:=F12.binds (ps:=["_law_left", "_law_tongue_here"]) fun _ _ _ _ _ _ us hl=>match us,hl with | [_,_],_=>rfl
 have F13:=m8 (st:=top 23) l13 c13 k13
 have b13:=F13.binds (ps:=["_law_table_here", "_law_text_here", "_law_at"]) fun _ _ _ _ _ _ us hl=>match us,hl with | [_,_,_],_=>rfl
 have F14:=m8 (st:=top 24) l14 c14 k14
 have b14:=F14.binds (ps:=["_law_table_here", "_law_text_here"]) fun _ _ _ _ _ _ us hl=>match us,hl with | [_,_],_=>rfl
 have F15:=m8 (st:=top 25) l15 c15 k15
 have b15:=F15.binds (ps:=["_law_found", "_law_many"]) fun _ _ _ _ _ _ us hl=>match us,hl with | [_,_],_=>rfl
 have F16:=m8 (st:=top 26) l16 c16 k16
 have b16:=F16.binds (ps:=["_law_left", "_law_tongue_here", "_law_text_here"]) fun _ _ _ _ _ _ us hl=>match us,hl with | [_,_,_],_=>rfl
 have F17:=m8 (st:=top 27) l17 c17 k17
 have b17:=F17.binds (ps:=["_law_found", "_law_due"]) fun _ _ _ _ _ _ us hl=>match us,hl with | [_,_],_=>rfl
 have F18:=m8 (st:=top 28) l18 c18 k18
 have b18:=F18.binds (ps:=["_law_table_here", "_law_bad_here"]) fun _ _ _ _ _ _ us hl=>match us,hl with | [_,_],_=>rfl
 have F19:=m8 (st:=top 29) l19 c19 k19
 have b19:=F19.binds (ps:=["_law_script"]) fun _ _ _ _ _ _ us hl=>match us,hl with | [_],_=>rfl
 have M:Nm mg:=⟨PySem.W.mg_none_of X G z1,PySem.W.mg_none_of X G z2,PySem.W.mg_none_of X G z3,PySem.W.mg_none_of X G z4,PySem.W.mg_none_of X G z5,PySem.W.mg_none_of X G z6,PySem.W.mg_none_of X G z7,PySem.W.mg_none_of X G z8,PySem.W.mg_none_of X G z9,PySem.W.mg_none_of X G z10,PySem.W.mg_none_of X G z11,PySem.W.mg_none_of X G z12,PySem.W.mg_none_of X G z13,PySem.W.mg_none_of X G z14,PySem.W.mg_none_of X G z15⟩
 have Z:Xn K mg y_NoText y_ReachError y_Closed y_NoQuote y_NoWord y_Stopped:=⟨PySem.W.mg_of X G xg_NoText,PySem.W.mg_of X G xg_ReachError,PySem.W.mg_of X G xg_Closed,PySem.W.mg_of X G xg_NoQuote,PySem.W.mg_of X G xg_NoWord,PySem.W.mg_of X G xg_Stopped,xg_NoText,xc_NoText,xk_NoText,xe_NoText_ReachError,xi_NoText_ValueError,xi_NoText_NoText,xi_NoText_Closed_NoQuote_NoWord_Stopped⟩
 refine ⟨PySem.W.fnOf "law" "law" (a0a (top 29)) (dz (top 29)) (aq (top 29)) .none kV19 dc19 pm19 an19 cd19 ct19,fun s v=>.of_eq rfl,fun base _ _=>?_⟩
 have D_0:Dn l.prog w K mg base 1 "is_text" ["tongue", "thing"] (ue K 2 (K35.iw)) _ _:=⟨p8 F1 apm (m_0 M),PySem.W.mg_of X G a1,k1,b1⟩
 have D_1:DnX l.prog w K mg base 2 "looked_text" ["tongue", "thing"] (spX K mg 2 (K35.bu)) _ _:=⟨abg F2 apn (m_1 Z D_0 (by decide)),PySem.W.mg_of X G a2,k2,b2⟩
 have D_2:Dn l.prog w K mg base 1 "rooms_along" ["table", "room", "word"] (ue K 3 (K35.cj)) _ _:=⟨p8 F3 apo (m_2 ),PySem.W.mg_of X G a3,k3,b3⟩
 have D_3:Dn l.prog w K mg base 2 "piece_at" ["table", "text", "at"] (ue K 3 (K35.dq)) _ _:=⟨p8 F4 apq (m_3 M D_2 (by decide)),PySem.W.mg_of X G a4,k4,b4⟩
 have D_4:DnX l.prog w K mg base 3 "cut" ["table", "text"] (spX K mg 2 (K35.vq)) _ _:=⟨abg F5 apr (m_4 D_1 (by decide) D_3 (by decide)),PySem.W.mg_of X G a5,k5,b5⟩
 have D_5:Dn l.prog w K mg base 1 "_law_source" ["_law_script"] (ue K 1 (SRC.j9)) _ _:=⟨p8 F6 aps (m_5 M),PySem.W.mg_of X G a6,k6,b6⟩
 have D_6:Dn l.prog w K mg base 1 "_law_draw" ["_law_left", "_law_many"] (ue K 2 (SRC.aa)) _ _:=⟨p8 F7 apt (m_6 M),PySem.W.mg_of X G a7,k7,b7⟩
 have D_7:Dn l.prog w K mg base 1 "_law_signs" [] (ue K 0 (SRC.bc)) _ _:=⟨p8 F8 apu (m_7 ),PySem.W.mg_of X G a8,k8,b8⟩
 have D_8:Dn l.prog w K mg base 2 "_law_tongue" ["_law_left"] (ue K 1 (SRC.bw)) _ _:=⟨p8 F9 apv (m_8 M D_6 (by decide) D_7 (by decide)),PySem.W.mg_of X G a9,k9,b9⟩
 have D_9:Dn l.prog w K mg base 2 "_law_rooms" ["_law_left", "_law_tongue_here", "_law_many"] (ue K 3 (SRC.d7)) _ _:=⟨p8 F10 apw (m_9 M D_6 (by decide)),PySem.W.mg_of X G a10,k10,b10⟩
 have D_10:Dn l.prog w K mg base 3 "_law_table" ["_law_left", "_law_most"] (ue K 2 (SRC.jq)) _ _:=⟨p8 F11 alx (aqv M D_6 (by decide) D_9 (by decide) D_8 (by decide)),PySem.W.mg_of X G a11,k11,b11⟩
 have D_11:Dn l.prog w K mg base 2 "_law_text" ["_law_left", "_law_tongue_here"] (ue K 2 (SRC.m7)) _ _:=⟨p8 F12 aly (aqw M D_6 (by decide)),PySem.W.mg_of X G a12,k12,b12⟩
 have D_12:Dn l.prog w K mg base 1 "_law_first" ["_law_table_here", "_law_text_here", "_law_at"] (ue K 3 (SRC.dm)) _ _:=⟨p8 F13 alz (aqx M),PySem.W.mg_of X G a13,k13,b13⟩
 have D_13:Dn l.prog w K mg base 2 "_law_cut" ["_law_table_here", "_law_text_here"] (ue K 2 (K35.mj)) _ _:=⟨p8 F14 am0 (aqy D_12 (by decide)),PySem.W.mg_of X G a14,k14,b14⟩
 have D_14:Dn l.prog w K mg base 1 "_law_numbers" ["_law_found", "_law_many"] (ue K 2 (SRC.fu)) _ _:=⟨p8 F15 am1 (aqz M),PySem.W.mg_of X G a15,k15,b15⟩
 have D_15:Dn l.prog w K mg base 2 "_law_bad" ["_law_left", "_law_tongue_here", "_law_text_here"] (ue K 3 (K35.jg)) _ _:=⟨p8 F16 am2 (ar0 M D_6 (by decide) D_7 (by decide)),PySem.W.mg_of X G a16,k16,b16⟩
 have D_16:Dn l.prog w K mg base 2 "_law_told" ["_law_found", "_law_due"] (ue K 2 (K35.jh)) _ _:=⟨p8 F17 am3 (ar3 M D_14 (by decide)),PySem.W.mg_of X G a17,k17,b17⟩
 have D_17:Dn l.prog w K mg base 4 "_law_refused" ["_law_table_here", "_law_bad_here"] (ue K 2 (K35.jc)) _ _:=⟨p8 F18 am4 (ar4 M Z D_4 (by decide)),PySem.W.mg_of X G a18,k18,b18⟩
 have D_18:Dn l.prog w K mg base 5 "law" ["_law_script"] (ue K 1 (K35.afj)) _ _:=⟨p8 F19 am5 (ar5 D_15 (by decide) D_13 (by decide) D_17 (by decide) D_5 (by decide) D_10 (by decide) D_11 (by decide) D_16 (by decide) D_4 (by decide)),PySem.W.mg_of X G a19,k19,b19⟩
 exact D_18.ok.imp amu
theorem walk {l:PySem.W.OpenLaw} {q:Program} {loose:List Str} {XP:(Str→Option Value)→Heap→Prop} {YP:World→Heap→Prop} {d:DefRec} {K:Params→PySem.W.Frag} (hn:l.most=some 63) (hdf:d.params.defaults=[])
  (hY:∀ (w:World) (h:Heap),YP w h→(K w.params).In h)
  (F:∀ (w:World) (mg:Str→Option Value) (fa:Addr) (h:Heap),(K w.params).In h→h.Ns mainGlobals mg→mg d.name=some (.ref fa) →
   ∃ fd:FuncData,(∀ (s:Shared) (u:Value),BindsTo s fd ⟨[u],[]⟩ [("_law_script",u)])∧∀ base:Heap,(K w.params).In base→base.Ns mainGlobals mg→FnOk l.prog w (K w.params) mg base CX0 5 fa fd ["_law_script"] (afk (K w.params))) :
  PySem.W.WalkO q loose XP YP l.row.toRowW d [] (fun f vs=>PySem.call f vs) :=
 L2.aha (n:=63) (k:=5) (x := "_law_script") (CX:=fun _=>CX0) (sp:=fun w=>afk (K w.params)) hn (by decide) hdf ⟨rfl,by decide,by decide,rfl⟩ hY F (fun _ _ a ns hl hO hS=>⟨a,ns,rfl,amv hO hS,hl,fun _=>rfl⟩) fun _ _ _ _ _ z=>z
end K35
open PySem PySem.W PyProof.Rows
theorem K35.said:PySem.Challenge.rw_nearreach_k35_cuts.wellSaid=true:=by kernel_rfl
noncomputable def K35.hq:Program:=view PySem.Challenge.pw_nearreach_k35_cuts [PySem.Challenge.pw_nearreach_k35_cuts.main.body.length - 1]
noncomputable def K35.hl:List Str:=PySem.Challenge.pw_nearreach_k35_cuts.boundNames
local macro_rules | `(tactic| o_head $H) => `(tactic| refine PySem.W.holds_open (q:=K35.hq) (loose:=K35.hl) (Xt:=fun _=>true) (XP:=fun _ _=>True) (Yf:=Hook.obs $H) (Ya:=Hook.val $H) (YP:=Hook.says $H) (N:=20000) ?hl (Hook.of $H) (Hook.keeps $H) (fun _ _=>trivial) (fun _ _ _ _ _=>trivial) (by rfl) (by rfl) (by rfl) (fun _ _=>recFacts_nil rfl) (by rfl) (by assumption) (by decide +kernel) ⟨rfl,rfl,rfl,rfl,rfl,by decide +kernel⟩ ?hw ?hc)
set_option maxRecDepth 100000 in
set_option maxHeartbeats 0 in
theorem PySem.Challenge.cw_nearreach_k35_cuts_holds : PySem.Challenge.rw_nearreach_k35_cuts.Holds := by
 w_on;refine holds_law K35.said fun said=>?_;k_head
 (case hw=>w_witness2)
 (case hl=>intro w;kernel_rfl)
 k_fill
 refine K35.walk (l:=PySem.Challenge.rw_nearreach_k35_cuts) rfl rfl (fun w h Y=>PySem.W.kIn_of Y) ?F
 case F =>
  intro w mg fa h KX G hmg
  refine' K35.amw KX G hmg ?a1 ?l1 ?c1 ?k1 ?a2 ?l2 ?c2 ?k2 ?a3 ?l3 ?c3 ?k3 ?a4 ?l4 ?c4 ?k4 ?a5 ?l5 ?c5 ?k5 ?a6 ?l6 ?c6 ?k6 ?a7 ?l7 ?c7 ?k7 ?a8 ?l8 ?c8 ?k8 ?a9 ?l9 ?c9 ?k9 ?a10 ?l10 ?c10 ?k10 ?a11 ?l11 ?c11 ?k11 ?a12 ?l12 ?c12 ?k12 ?a13 ?l13 ?c13 ?k13 ?a14 ?l14 ?c14 ?k14 ?a15 ?l15 ?c15 ?k15 ?a16 ?l16 ?c16 ?k16 ?a17 ?l17 ?c17 ?k17 ?a18 ?l18 ?c18 ?k18 ?a19 ?l19 ?c19 ?k19 ?xg_NoText ?xg_ReachError ?xg_Closed ?xg_NoQuote ?xg_NoWord ?xg_Stopped ?xc_NoText ?xk_NoText ?xe_NoText_ReachError ?xi_NoText_ValueError ?xi_NoText_NoText ?xi_NoText_Closed_NoQuote_NoWord_Stopped ?z1 ?z2 ?z3 ?z4 ?z5 ?z6 ?z7 ?z8 ?z9 ?z10 ?z11 ?z12 ?z13 ?z14 ?z15
  (case a1=>k_is);(case l1=>k_is);(case c1=>k_is);(case k1=>k_is)
  (case a2=>k_is);(case l2=>k_is);(case c2=>k_is);(case k2=>k_is)
  (case a3=>k_is);(case l3=>k_is);(case c3=>k_is);(case k3=>k_is)
  (case a4=>k_is);(case l4=>k_is);(case c4=>k_is);(case k4=>k_is)
  (case a5=>k_is);(case l5=>k_is);(case c5=>k_is);(case k5=>k_is)
  (case a6=>k_is);(case l6=>k_is);(case c6=>k_is);(case k6=>k_is)
  (case a7=>k_is);(case l7=>k_is);(case c7=>k_is);(case k7=>k_is)
  (case a8=>k_is);(case l8=>k_is);(case c8=>k_is);(case k8=>k_is)
  (case a9=>k_is);(case l9=>k_is);(case c9=>k_is);(case k9=>k_is)
  (case a10=>k_is);(case l10=>k_is);(case c10=>k_is);(case k10=>k_is)
  (case a11=>k_is);(case l11=>k_is);(case c11=>k_is);(case k11=>k_is)
  (case a12=>k_is);(case l12=>k_is);(case c12=>k_is);(case k12=>k_is)
  (case a13=>k_is);(case l13=>k_is);(case c13=>k_is);(case k13=>k_is)
  (case a14=>k_is);(case l14=>k_is);(case c14=>k_is);(case k14=>k_is)
  (case a15=>k_is);(case l15=>k_is);(case c15=>k_is);(case k15=>k_is)
  (case a16=>k_is);(case l16=>k_is);(case c16=>k_is);(case k16=>k_is)
  (case a17=>k_is);(case l17=>k_is);(case c17=>k_is);(case k17=>k_is)
  (case a18=>k_is);(case l18=>k_is);(case c18=>k_is);(case k18=>k_is)
  (case a19=>k_is);(case l19=>k_is);(case c19=>k_is);(case k19=>k_is)
  (case xg_NoText=>k_is)
  (case xg_ReachError=>k_is)
  (case xg_Closed=>k_is)
  (case xg_NoQuote=>k_is)
  (case xg_NoWord=>k_is)
  (case xg_Stopped=>k_is)
  (case xc_NoText=>exact L2.aj9 (by kernel_rfl))
  (case xk_NoText=>constructor<;>first | k_is | kernel_rfl)
  (case xe_NoText_ReachError=>kernel_rfl)
  (case xi_NoText_ValueError=>kernel_rfl)
  (case xi_NoText_NoText=>kernel_rfl)
  (case xi_NoText_Closed_NoQuote_NoWord_Stopped=>kernel_rfl)
  (case z1=>k_is)
  (case z2=>k_is)
  (case z3=>k_is)
  (case z4=>k_is)
  (case z5=>k_is)
  (case z6=>k_is)
  (case z7=>k_is)
  (case z8=>k_is)
  (case z9=>k_is)
  (case z10=>k_is)
  (case z11=>k_is)
  (case z12=>k_is)
  (case z13=>k_is)
  (case z14=>k_is)
  (case z15=>k_is)
