import PyProof.Rows.All
import Wide.All
import OpenK.AllK
import Wide.FinOn
import Lean
import PyProof.EqAt
import PyProof.EqKinds
import PyProof.TupleCall
import PyProof.ListStr
import PyProof.TupleOfStr
import PyProof.ConsumeWalk
import PyProof.SliceStr2
import PyProof.CompUse
import PyProof.Rows.SetFrom
import PyProof.SetRoads
import PyProof.StrLawsIn
import PyProof.Rows.StrIndexOr
import PyProof.Rows.StrJoin2
import PyProof.Rows.SumAny
import PyProof.WalkInts
import PyProof.SeqI3
import PyProof.Draws
import PyProof.ZipIter
import PyProof.EnumMake
import Wide.Txt2
import PyProof.Rows.SortWalk
import PyProof.ListRange
import PyProof.Rows.Range3
import KE.KStateDown
import PyProof.ReprRoads
import PyProof.CallFns
import KE.KTryDeep
import PyProof.ExcBaseAll.ValueError
import KE.KTryMore
import KE.KIsNot
import PyProof.ExcAttrAll.ValueError
import PyProof.NsDelKeeps
import PySem.SetOps
import PyProof.SetScanFacts
import PyProof.Walks
import PyProof.CollectWalk
import PySem.Challenge.RW_nearreach_k44_reaches_of_kinds
set_option Elab.async false
set_option linter.all false
set_option maxRecDepth 100000
namespace L2
open PySem PySem.Spec PyProof.Rows
abbrev Key:=Sum Int Str
def ab1:Key→Value→Bool
 | .inl k,v=>Value.isInt k v
 | .inr x,v=>Value.isStrOf x v
def avk (w:World):Key→Int
 | .inl k=>hashInt k
 | .inr x=>hashStr w x
theorem jm:∀ {k:Key} {v:Value},ab1 k v=true→(∃ i t,k=Sum.inl i∧v=Value.int i t)∨(∃ x t,k=Sum.inr x∧v=Value.str x t)
 | .inl i,v,h=>by
  obtain ⟨t,e⟩:=Value.isInt_shape (k:=i) (v:=v) h
  exact .inl ⟨i,t,rfl,e⟩
 | .inr x,v,h=>by
  obtain ⟨t,e⟩:=Value.isStrOf_shape (x:=x) (v:=v) h
  exact .inr ⟨x,t,rfl,e⟩
theorem acv (i:Int) (t:Tok):ab1 (.inl i) (.int i t)=true:=by simp [ab1,Value.isInt]
theorem acw (x:Str) (t:Tok):ab1 (.inr x) (.str x t)=true:=by simp [ab1,Value.isStrOf]
theorem anr (a b:Int):decide ((Sum.inl a:Key)=Sum.inl b)=(a == b):=by
 by_cases e:a=b
 ·subst e;simp
 ·have h:¬ (Sum.inl a:Key)=Sum.inl b:=fun q=>e (Sum.inl.inj q)
  rw [decide_eq_false h]
  exact (beq_eq_false_iff_ne.mpr e).symm
theorem ant (a b:Str):decide ((Sum.inr a:Key)=Sum.inr b)=decide (a=b):=by
 by_cases e:a=b
 ·subst e;simp
 ·have h:¬ (Sum.inr a:Key)=Sum.inr b:=fun q=>e (Sum.inr.inj q)
  rw [decide_eq_false h,decide_eq_false e]
theorem anu (a:Int) (b:Str):decide ((Sum.inl a:Key)=Sum.inr b)=false:=decide_eq_false (fun q=>nomatch q)
theorem anv (a:Str) (b:Int):decide ((Sum.inr a:Key)=Sum.inl b)=false:=decide_eq_false (fun q=>nomatch q)
def jq (prog:Program) (w:World):PySem.KeyKind prog w Key where
 is:=ab1
 hash:=avk w
 inj:=fun v a b ha hb=>by
  rcases jm ha with ⟨i,t,rfl,rfl⟩ | ⟨x,t,rfl,rfl⟩
  ·rcases jm hb with ⟨j,u,rfl,e⟩ | ⟨y,u,rfl,e⟩
   ·injection e with e1 _;rw [e1]
   ·exact nomatch e
  ·rcases jm hb with ⟨j,u,rfl,e⟩ | ⟨y,u,rfl,e⟩
   ·exact nomatch e
   ·injection e with e1 _;rw [e1]
 byValue:=fun k v h=>by
  rcases jm h with ⟨i,t,rfl,rfl⟩ | ⟨x,t,rfl,rfl⟩<;>rfl
 pyHash:=fun hv h=>by
  rcases jm hv with ⟨i,t,rfl,rfl⟩ | ⟨x,t,rfl,rfl⟩
  ·exact wpAny_pyHash_int h
  ·exact wpAny_pyHash_str h
 eqBool:=fun hu hv h=>by
  rcases jm hu with ⟨i,t,rfl,rfl⟩ | ⟨x,t,rfl,rfl⟩
  ·rcases jm hv with ⟨j,u,rfl,rfl⟩ | ⟨y,u,rfl,rfl⟩
   ·rw [anr] at h;exact wpAny_eqBool_int h
   ·rw [anu] at h;exact SeqAt.EqAt.int_str i t y u _ _ _ _ h
  ·rcases jm hv with ⟨j,u,rfl,rfl⟩ | ⟨y,u,rfl,rfl⟩
   ·rw [anv] at h;exact SeqAt.EqAt.str_int x t j u _ _ _ _ h
   ·rw [ant] at h;exact wpAny_eqBool_str h
 «strs»:=fun k x t v h=>by
  rcases jm h with ⟨i,u,rfl,e⟩ | ⟨y,u,rfl,e⟩
  ·exact nomatch e
  ·injection e with e1 _
   subst e1
   cases v<;>rfl
theorem a8d (prog:Program) (w:World) (i:Int) (t:Tok):(jq prog w).is (.inl i) (.int i t)=true:=acv i t
theorem a8e (prog:Program) (w:World) (x:Str) (t:Tok):(jq prog w).is (.inr x) (.str x t)=true:=acw x t
end L2
namespace L2
open PySem PySem.Spec PyProof.Rows
inductive V where
 | non | bl (b:Bool) | int (i:Int) | str (x:Str) | byt (b:Array UInt8) | flt (b:UInt64) | ref (a:Addr) | ty (n:String)
 deriving DecidableEq
def RelV:V→Value→Prop
 | .non,u=>u=Value.none
 | .bl b,u=>u=Value.bool b
 | .int i,u=>∃ t,u=Value.int i t
 | .str x,u=>∃ t,u=Value.str x t
 | .byt b,u=>∃ t,u=Value.bytes b t
 | .flt b,u=>∃ t,u=Value.float b t
 | .ref a,u=>u=Value.ref a
 | .ty n,u=>u=Value.type n
abbrev Vals:List V→List Value→Prop:=Paired RelV
theorem Vals.length {xs:List V} {us:List Value} (r:Vals xs us):xs.length=us.length:=Paired.length r
theorem Vals.get:∀ {xs:List V} {us:List Value} {i:Nat} {x:V},Vals xs us→xs[i]? = some x→∃ u,us[i]? = some u∧RelV x u
 | _,_,_,_, .nil,e=>by simp at e
 | _,_,0,_, .cons r _,e=>by simp at e;subst e;exact ⟨_,rfl,r⟩
 | _,_,i+1,x, .cons _ t,e=>by
  obtain ⟨u,h1,h2⟩:=Vals.get (i:=i) (x:=x) t (by simpa using e)
  exact ⟨u,by simpa using h1,h2⟩
theorem Vals.set {x:V} {u:Value} (r:RelV x u):∀ {xs:List V} {us:List Value} (i:Nat),Vals xs us→Vals (xs.set i x) (us.set i u)
 | _,_,_, .nil=>.nil
 | _,_,0, .cons _ t=>.cons r t
 | _,_,i+1, .cons q t=>.cons q (Vals.set r i t)
theorem Vals.append:∀ {xs ys:List V} {us ws:List Value},Vals xs us→Vals ys ws→Vals (xs++ys) (us++ws)
 | _,_,_,_, .nil,s=>s
 | _,_,_,_, .cons r t,s=>.cons r (Vals.append t s)
theorem Vals.take:∀ {xs:List V} {us:List Value} (n:Nat),Vals xs us→Vals (xs.take n) (us.take n)
 | _,_,0,_=>.nil
 | _,_,_+1, .nil=>.nil
 | _,_,n+1, .cons r t=>.cons r (Vals.take n t)
theorem Vals.drop:∀ {xs:List V} {us:List Value} (n:Nat),Vals xs us→Vals (xs.drop n) (us.drop n)
 | _,_,0,r=>r
 | _,_,_+1, .nil=>.nil
 | _,_,n+1, .cons _ t=>Vals.drop n t
def RelO:Option V→Option Value→Prop
 | some v,some u=>RelV v u
 | none,none=>True
 | _,_=>False
def KV {κ:Type}:List (κ × V)→List (κ × Value)→Prop:=Paired fun (p:κ × V) (q:κ × Value)=>p.1=q.1∧RelV p.2 q.2
def kV:Key→V
 | .inl i=>.int i
 | .inr x=>.str x
inductive HO where
 | lst (xs:List V)
 | tup (xs:List V)
 | dK (kvs:List (Key × V)) | dT (kvs:List (List Key × V))
 | set (S:Int→Bool) (n:Nat)
 | ins (C dx:Addr) (fs:List (Str × V))
 | own (x:Addr)
 | xd (fs:List (Str × V))
 | met (f x:Addr)
 | rng (lo hi:Int)
 | frz (o:Obj) (u:HO)
 | tbl (ps:Array Value)
 | ext (φ:Heap→Prop)
abbrev Hp:=Addr→Option HO
def upd (H:Hp) (a:Addr) (o:HO):Hp:=fun b=>if b=a then some o else H b
theorem jc {H:Hp} {a:Addr} {o:HO}:upd H a o a=some o:=by unfold upd;rw [if_pos rfl]
theorem d9 {H:Hp} {a b:Addr} {o:HO} (h:b≠a):upd H a o b=H b:=by unfold upd;rw [if_neg h]
theorem asl {H:Hp} {a b:Addr} {o u:HO} (h:H a=some o) (h':H b=some u) (d:o≠u):a≠b:=by
 intro e;subst e;rw [h] at h';exact d (Option.some.inj h')
theorem bh {H:Hp} {a b:Addr} {o:HO} (h:H a=some o) (h':H b=none):a≠b:=by
 intro e;subst e;rw [h] at h';cases h'
section
variable (P:Program) (w:World)
def ObjOk (H:Hp) (h:Heap) (a:Addr):HO→Prop
 | .lst xs=>xs.length≤sizeLine∧∃ (its:List Value) (n:Nat),Vals xs its∧h.get? a=some { cls:=.type "list",data:=.seq its.toArray n }
 | .tup xs=>xs.length≤sizeLine∧∃ its:List Value,Vals xs its∧IsTup h a its.toArray
 | .dK kvs=>kvs.length≤sizeLine∧(a == sysModules)=false∧∃ vs,KV kvs vs∧h.DictOf (jq P w) a vs
 | .dT kvs=>kvs.length≤sizeLine∧(a == sysModules)=false∧∃ xs:List (List Key × Addr × Value),
   Paired (fun (p:List Key × V) (q:List Key × Addr × Value)=>p.1=q.1∧H q.2.1=some (.tup (p.1.map kV))∧RelV p.2 q.2.2) kvs xs ∧
   ∃ o es ep,h.get? a=some o∧o.ExactDict∧o.data = .dict es ep∧es.toList=xs.map (entryOfKey (tupleKind (jq P w)))∧(xs.map (·.1)).Nodup
 | .set S n=>h.SetOf (intKind P w) a S n
 | .ins C dx fs=>H dx=some (.own a)∧fs.length≤1000∧dx≠a∧h.get? a=some (PySem.W.instObj C dx) ∧
   ∃ mA,h.Ns1 dx mA∧(∀ f,RelO (fs.lookup f) (mA f))∧PySem.Within mA (fs.map (·.1))
 | .own _=>∃ o,h.get? a=some o
 | .xd fs=>∃ mA,h.Ns1 a mA∧∀ f,RelO (fs.lookup f) (mA f)
 | .rng lo hi=>∃ t u v,h.get? a=some { cls:=.type "range",data:=.fields #[.int lo t, .int hi u, .int 1 v] }
 | .frz o u=>h.get? a=some o∧ObjOk H h a u
 | .tbl ps=>h.get? a=some { cls:=.none,data:=.fields ps }
 | .met f x=>h.get? a=some (PySem.W.methodObj (.ref f) (.ref x))
 | .ext φ=>φ h∧(∃ o,h.get? a=some o)∧∀ h1 h2:Heap,φ h1→(∀ o,h1.get? a=some o→h2.get? a=some o)→φ h2
def HOk (H:Hp) (h:Heap):Prop:=∀ a o,H a=some o→ObjOk P w H h a o
end
section
variable {P:Program} {w:World} {H H':Hp} {h h':Heap} {a:Addr} {o:HO}
theorem ObjOk.lt (x:ObjOk P w H h a o):a<h.objs.size:=by
 cases o with
 | lst xs=>obtain ⟨_,_,_,_,e⟩:=x;exact Heap.lt_size e
 | tup xs=>obtain ⟨_,_,_,p⟩:=x;exact p.lt
 | dK kvs=>obtain ⟨_,_,_,_,o,_,_,e,_⟩:=x;exact Heap.lt_size e
 | dT kvs=>obtain ⟨_,_,_,_,o,_,_,e,_⟩:=x;exact Heap.lt_size e
 | set S n=>obtain ⟨o,_,_,_,e,_⟩:=x;exact Heap.lt_size e
 | ins C dx fs=>obtain ⟨_,_,_,e,_⟩:=x;exact Heap.lt_size e
 | own y=>obtain ⟨_,e⟩:=x;exact Heap.lt_size e
 | xd fs=>obtain ⟨_,⟨_,_,_,e,_⟩,_⟩:=x;exact Heap.lt_size e
 | rng lo hi=>obtain ⟨_,_,_,e⟩:=x;exact Heap.lt_size e
 | frz ob u=>obtain ⟨e,_⟩:=x;exact Heap.lt_size e
 | tbl ps=>exact Heap.lt_size (show h.get? a=some _ from x)
 | met f y=>exact Heap.lt_size (show h.get? a=some _ from x)
 | ext φ=>obtain ⟨_,⟨_,e⟩,_⟩:=x;exact Heap.lt_size e
theorem Paired.mapP {α β:Type} {F G:α→β→Prop}:∀ {l₁:List α} {l₂:List β},Paired F l₁ l₂→(∀ a b,F a b→G a b)→Paired G l₁ l₂
 | _,_, .nil,_=>.nil
 | _,_, .cons r t,f=>.cons (f _ _ r) (Paired.mapP t f)
theorem ObjOk.stay (x:ObjOk P w H h a o) (k:∀ b u,(b=a∨H b=some (.own a))→h.get? b=some u→h'.get? b=some u)
  (ho:∀ b,H b=some (.own a)→H' b=some (.own a)) (ht:∀ b xs,H b=some (.tup xs)→H' b=some (.tup xs)):ObjOk P w H' h' a o:=by
 induction o with
 | lst xs=>obtain ⟨z,its,n,r,e⟩:=x;exact ⟨z,its,n,r,k _ _ (.inl rfl) e⟩
 | tup xs=>obtain ⟨z,its,r,ob,e,c⟩:=x;exact ⟨z,its,r,ob,k _ _ (.inl rfl) e,c⟩
 | dK kvs=>obtain ⟨z,y,vs,r,ob,es,ep,e,c⟩:=x;exact ⟨z,y,vs,r,ob,es,ep,k _ _ (.inl rfl) e,c⟩
 | dT kvs =>
  obtain ⟨z,y,xs,r,ob,es,ep,e,c⟩:=x
  exact ⟨z,y,xs,Paired.mapP r fun p q z=>⟨z.1,ht _ _ z.2.1,z.2.2⟩,ob,es,ep,k _ _ (.inl rfl) e,c⟩
 | set S n=>obtain ⟨ob,es,ep,t,e,c⟩:=x;exact ⟨ob,es,ep,t,k _ _ (.inl rfl) e,c⟩
 | ins C dx fs =>
  obtain ⟨d,z,ne,e,mA,⟨od,es,ep,e2,c⟩,r⟩:=x
  exact ⟨ho _ d,z,ne,k _ _ (.inl rfl) e,mA,⟨od,es,ep,k _ _ (.inr d) e2,c⟩,r⟩
 | own y=>obtain ⟨ob,e⟩:=x;exact ⟨ob,k _ _ (.inl rfl) e⟩
 | xd fs=>obtain ⟨mA,⟨od,es,ep,e,c⟩,r⟩:=x;exact ⟨mA,⟨od,es,ep,k _ _ (.inl rfl) e,c⟩,r⟩
 | rng lo hi=>obtain ⟨t,u,v,e⟩:=x;exact ⟨t,u,v,k _ _ (.inl rfl) e⟩
 | frz ob u ih=>obtain ⟨e,q⟩:=x;exact ⟨k _ _ (.inl rfl) e,ih q⟩
 | tbl ps =>
  have e:h.get? a=some { cls:=.none,data:=.fields ps }:=x
  show h'.get? a=some { cls:=.none,data:=.fields ps }
  exact k a _ (.inl rfl) e
 | met f y =>
  have e:h.get? a=some (PySem.W.methodObj (.ref f) (.ref y)):=x
  show h'.get? a=some (PySem.W.methodObj (.ref f) (.ref y))
  exact k a _ (.inl rfl) e
 | ext φ=>obtain ⟨p,⟨o,e⟩,st⟩:=x;exact ⟨st _ _ p fun o q=>k _ _ (.inl rfl) q,⟨o,k _ _ (.inl rfl) e⟩,st⟩
theorem HOk.lt (x:HOk P w H h) (e:H a=some o):a<h.objs.size:=(x a o e).lt
theorem HOk.fresh (x:HOk P w H h) (e:h.objs.size≤a):H a=none:=by
 cases q:H a with
 | none=>rfl
 | some u=>exact absurd (Nat.lt_of_lt_of_le (x.lt q) e) (Nat.lt_irrefl _)
theorem HOk.kept (x:HOk P w H h) (k:∀ b u,h.get? b=some u→h'.get? b=some u):HOk P w H h':=fun a o e =>
 (x a o e).stay (fun b u _ q=>k b u q) (fun _ q=>q) fun _ _ q=>q
theorem HOk.laid (x:HOk P w H h) (k:∀ b u,h.get? b=some u→h'.get? b=some u) (hp:h.objs.size≤a) (new:ObjOk P w (upd H a o) h' a o):HOk P w (upd H a o) h':=fun b u e=>by
 have hn:=x.fresh hp
 by_cases hb:b=a
 ·subst hb;rw [jc] at e;cases e;exact new
 ·rw [d9 hb] at e
  exact (x b u e).stay (fun c v _ q=>k c v q) (fun c q=>by rw [d9 (bh q hn)];exact q) fun c xs q=>by rw [d9 (bh q hn)];exact q
end
def Rd (H:Hp) (a:Addr) (u:HO):Prop:=H a=some u∨∃ o,H a=some (.frz o u)
theorem Rd.of {H:Hp} {a:Addr} {u:HO} (h:H a=some u):Rd H a u:=.inl h
theorem Rd.ok {P:Program} {w:World} {H:Hp} {h:Heap} {a:Addr} {u:HO} (r:Rd H a u) (x:HOk P w H h):ObjOk P w H h a u:=by
 rcases r with r | ⟨o,r⟩
 ·exact x a u r
 ·obtain ⟨_,q⟩:=x a _ r
  exact q
def Mut:Option HO→Prop
 | some (.lst _)=>True
 | some (.dK _)=>True
 | some (.dT _)=>True
 | some (.set _ _)=>True
 | some (.ins _ _ _)=>True
 | some (.ext _)=>True
 | _=>False
section
variable {P:Program} {w:World} {H:Hp} {h h':Heap} {x e:Addr} {o':HO}
theorem HOk.write (ok:HOk P w H h) (mu:Mut (H x)) (he:e=x∨H e=some (.own x)) (k:∀ b u,b≠e→h.get? b=some u→h'.get? b=some u) (heo:∃ u,h'.get? e=some u)
  (new:ObjOk P w (upd H x o') h' x o'):HOk P w (upd H x o') h':=fun b u q=>by
 have nown:∀ c y,H c=some (.own y)→c≠x:=fun c y r z=>by subst z;rw [r] at mu;exact mu
 have ntup:∀ c xs,H c=some (.tup xs)→c≠x:=fun c xs r z=>by subst z;rw [r] at mu;exact mu
 by_cases hb:b=x
 ·subst hb;rw [jc] at q;cases q;exact new
 ·rw [d9 hb] at q
  by_cases hbe:b=e
  ·have q':H b=some (.own x):=by
    rcases he with z | z
    ·exact absurd (hbe.trans z) hb
    ·rw [hbe];exact z
   rw [q] at q';cases q'
   obtain ⟨v,hv⟩:=heo
   exact ⟨v,by rw [hbe];exact hv⟩
  ·refine (ok b u q).stay (fun c v hc r=>k c v ?_ r) (fun c r=>by rw [d9 (nown c b r)];exact r) fun c xs r=>by rw [d9 (ntup c xs r)];exact r
   rcases hc with rfl | hc
   ·exact hbe
   ·rintro rfl
    rcases he with z | z
    ·exact nown c b hc z
    ·rw [hc] at z;cases z;exact hb rfl
end
structure Un (fs ex:List Addr) (H H':Hp) (h h':Heap):Prop where
 keep:∀ b o,h.get? b=some o→H b=none→b ∉ fs→b ∉ ex→h'.get? b=some o
 slot:∀ b o,h.get? b=some o→H b=none→b∈fs→b ∉ ex→∃ sl,h'.get? b=some { o with slots:=sl }
 free:∀ b o,h.get? b=some o→H b=none→b ∉ ex→H' b=none
 there:∀ b o,h.get? b=some o→b ∉ ex→∃ o',h'.get? b=some o'
 tups:∀ b xs,H b=some (.tup xs)→H' b=some (.tup xs)
 frzs:∀ b o u,H b=some (.frz o u)→H' b=some (.frz o u)
 tbls:∀ b ps,H b=some (.tbl ps)→∃ more,H' b=some (.tbl (ps++more))
section
variable {fs fs' ex ex':List Addr} {H H1 H2:Hp} {h h1 h2 h':Heap} {a x e:Addr} {o:HO}
theorem Un.any (u:Un fs ex H H1 h h1) {b:Addr} {ob:Obj} (q:h.get? b=some ob) (n:H b=none) (hx:b ∉ ex):∃ sl,h1.get? b=some { ob with slots:=sl }:=by
 by_cases hb:b∈fs
 ·exact u.slot b ob q n hb hx
 ·exact ⟨ob.slots,u.keep b ob q n hb hx⟩
theorem Un.kept (k:∀ b u,h.get? b=some u→h'.get? b=some u):Un fs ex H H h h' :=
 ⟨fun b ob q _ _ _=>k b ob q,fun b ob q _ _ _=>⟨ob.slots,k b ob q⟩,fun _ _ _ n _=>n,fun b ob q _=>⟨ob,k b ob q⟩,fun _ _ q=>q,fun _ _ _ q=>q,fun _ ps q=>⟨#[],by rw [q];simp⟩⟩
theorem Un.refl:Un fs ex H H h h:=Un.kept fun _ _ q=>q
theorem Un.laid (k:∀ b u,h.get? b=some u→h'.get? b=some u) (hp:h.objs.size≤a) (hn:H a=none):Un fs ex H (upd H a o) h h' where
 keep:=fun b u q _ _ _=>k b u q
 slot:=fun b u q _ _ _=>⟨u.slots,k b u q⟩
 free:=fun b u q n _=>by rw [d9 (Nat.ne_of_lt (Nat.lt_of_lt_of_le (Heap.lt_size q) hp))];exact n
 there:=fun b u q _=>⟨u,k b u q⟩
 tups:=fun b xs q=>by rw [d9 (bh q hn)];exact q
 frzs:=fun b u xs q=>by rw [d9 (bh q hn)];exact q
 tbls:=fun b ps q=>⟨#[],by rw [d9 (bh q hn),q];simp⟩
theorem Un.write (mu:Mut (H x)) (he:e=x∨H e=some (.own x)) (k:∀ b u,b≠e→h.get? b=some u→h'.get? b=some u) (heo:∃ u,h'.get? e=some u):Un fs ex H (upd H x o) h h':=by
 have hx:∀ b,H b=none→b≠x:=fun b n z=>by subst z;rw [n] at mu;exact mu
 have hb:∀ b,H b=none→b≠e:=fun b n z=>by
  subst z
  rcases he with r | r
  ·exact hx b n r
  ·rw [n] at r;cases r
 have hm:∀ b u,H b=some u→¬ Mut (some u)→b≠x:=fun b u q nm z=>by subst z;rw [q] at mu;exact nm mu
 refine ⟨fun b u q n _ _=>k b u (hb b n) q,fun b u q n _ _=>⟨u.slots,k b u (hb b n) q⟩,fun b u q n _=>by rw [d9 (hx b n)];exact n,fun b u q _=>?_,
  fun b xs q=>by rw [d9 (hm b _ q fun z=>z)];exact q,fun b u xs q=>by rw [d9 (hm b _ q fun z=>z)];exact q,fun b ps q=>⟨#[],by rw [d9 (hm b _ q fun z=>z),q];simp⟩⟩
 by_cases hbe:b=e
 ·subst hbe;exact heo
 ·exact ⟨u,k b u hbe q⟩
end
def trk (h:Heap) (H:Hp):List Addr:=(List.range h.objs.size).filter fun a=>(H a).isSome
def agl (h:Heap) (H:Hp):Heap:=PySem.W.hideAll h (trk h H)
theorem acx (h:Heap) (H:Hp):(agl h H).objs.size=h.objs.size:=PySem.W.hideAll_size _ _
theorem agm {h:Heap} {H:Hp} {b:Addr} {o:Obj} (e:h.get? b=some o) (n:H b=none):(agl h H).get? b=some o :=
 PySem.W.hideAll_get _ e fun hm=>by
  have q:(H b).isSome=true:=(List.mem_filter.mp hm).2
  rw [n] at q;simp at q
theorem aka {h:Heap} {H:Hp} {b:Addr} {o:Obj} (e:(agl h H).get? b=some o):h.get? b=some o∧H b=none:=by
 have e':h.get? b=some o:=PySem.W.of_hideAll (trk h H) e
 refine ⟨e',?_⟩
 cases q:H b with
 | none=>rfl
 | some x =>
  have hm:b∈trk h H:=List.mem_filter.mpr ⟨List.mem_range.mpr (Heap.lt_size e'),by simp [q]⟩
  have z:(agl h H).get? b=none:=PySem.W.hideAll_none (trk h H) hm
  rw [z] at e;cases e
end L2
namespace L2
open PySem PySem.Spec PyProof.Rows
structure Mod (K:PySem.W.Frag) (mg:Str→Option Value) (base:Heap):Prop where
 kin:K.In base
 glob:base.Ns mainGlobals mg
 blt:∃ mb,base.Ns builtinsNs mb∧∀ x:Str,x ≠ "__name__"→mb x=bootBuiltins x
 nolimit:base.NoLimit
structure Cx where
 prog:Program
 w:World
 K:PySem.W.Frag
 mg:Str→Option Value
 base:Heap
 A:Around
 N:List Str
 s₀:Shared
 H₀:Hp
 env:Env
 outer:List Env
 stack:List Env
 ex:List Addr
 fn:Str→Bool
 calm:Bool
 pn:List (Addr × Obj)
 xe:Value→Shared→Prop
def frs (l:List Env):List Addr:=l.filterMap (·.frame)
abbrev Cx.fs (X:Cx):List Addr:=frs X.outer
def Vis (sc:Scope) (x:Str):Prop:=sc.names.lookup x=some .local∨sc.names.lookup x=some .cell∨sc.names.lookup x=some .free
def Loc (sc:Scope) (x:Str):Prop:=sc.names.lookup x=some .local∨sc.names.lookup x=some .cell
def Look (env:Env) (h:Heap) (m:Str→Option Value) (x:Str) (u:Value):Prop :=
 (env.kindOf x=some .local∧m x=some u)∨((env.kindOf x=some .cell∨env.kindOf x=some .free)∧∃ c,env.cells.lookup x=some c∧h.IsCell c (some u))
structure Cx.Ok (X:Cx):Prop where
 mod:Mod X.K X.mg X.base
 kind:X.env.scope.kind = .function
 glob:X.env.globals=mainGlobals
 blt:X.env.builtins=builtinsNs
 above:X.s₀.heap.objs.size≤X.env.locals
 inj:∀ x y c,X.env.cells.lookup x=some c→X.env.cells.lookup y=some c→x=y
 has:∀ x,(X.env.kindOf x=some .cell∨X.env.kindOf x=some .free)→∃ c,X.env.cells.lookup x=some c
 cab:∀ x c,X.fn x=true→X.env.cells.lookup x=some c→X.s₀.heap.objs.size≤c
 hd:X.calm=true→X.A.handled=none
 frames:X.A.frames=some X.stack
 stk:X.stack=X.outer∨(X.stack=X.env::X.outer∧X.env.frame=some X.env.locals)
 exf:∀ b∈X.ex,b≠X.env.locals∧∀ x c,X.env.cells.lookup x=some c→c≠b
 bs:∀ b o,X.base.get? b=some o→X.s₀.heap.get? b=some o∧X.H₀ b=none
 bsz:X.base.objs.size≤X.s₀.heap.objs.size
 noex:∀ b o,X.base.get? b=some o→b ∉ X.ex
 exfs:∀ b∈X.ex,b ∉ X.fs
 funs:X.s₀.heap.FunFrames X.base X.outer
 frf:∀ b∈X.fs,X.H₀ b=none
structure Inv (X:Cx) (pins:List (Addr × Obj)) (σ:List (Option V)) (H:Hp) (s:Shared):Prop where
 ok:X.Ok
 os:s.os=X.s₀.os
 bare:AllBare s.gens
 base:Un X.fs X.ex X.H₀ H X.s₀.heap s.heap
 loc:∃ m,s.heap.Ns X.env.locals m∧∀ (i:Nat) (x:Str) (v:V),X.N[i]? = some x→σ[i]? = some (some v)→Vis X.env.scope x→∃ u,RelV v u∧Look X.env s.heap m x u
 cell:∀ x c,X.env.cells.lookup x=some c→∃ v,s.heap.IsCell c v
 free:H X.env.locals=none
 freeC:∀ x c,X.env.cells.lookup x=some c→H c=none
 pin:∀ p∈X.pn++pins,s.heap.get? p.1=some p.2∧H p.1=none∧p.1≠X.env.locals∧p.1 ∉ X.fs∧∀ v,p.2.data≠.cell v
 hok:HOk X.prog X.w H s.heap
 len:σ.length=X.N.length
section
variable {X:Cx} {pins:List (Addr × Obj)} {σ:List (Option V)} {H H':Hp} {s:Shared} {h':Heap}
theorem Cx.Ok.nofr (ok:X.Ok) {b:Addr} {o:Obj} (e:X.base.get? b=some o):b ∉ X.fs:=fun hb=>by
 have:=(ok.funs.mem hb).1
 rw [e] at this;cases this
theorem Inv.bs (I:Inv X pins σ H s):∀ b o,X.base.get? b=some o→s.heap.get? b=some o∧H b=none:=fun b o e =>
 ⟨I.base.keep b o (I.ok.bs b o e).1 (I.ok.bs b o e).2 (I.ok.nofr e) (I.ok.noex b o e),I.base.free b o (I.ok.bs b o e).1 (I.ok.bs b o e).2 (I.ok.noex b o e)⟩
theorem Inv.bk (I:Inv X pins σ H s):∀ b o,X.base.get? b=some o→s.heap.get? b=some o:=fun b o e=>(I.bs b o e).1
theorem Inv.mod (I:Inv X pins σ H s):Mod X.K X.mg X.base:=I.ok.mod
theorem Inv.kIn (I:Inv X pins σ H s):X.K.In s.heap:=I.ok.mod.kin.keeps I.bk
theorem Inv.fr (I:Inv X pins σ H s):∃ m,Fr X.base X.env.locals s.heap m :=
 let ⟨m,hn,_⟩:=I.loc
 ⟨m,hn,I.bk,Nat.le_trans I.ok.bsz I.ok.above⟩
theorem Inv.lt (I:Inv X pins σ H s):X.env.locals<s.heap.objs.size:=let ⟨_,hn,_⟩:=I.loc;hn.lt
theorem Inv.sz (I:Inv X pins σ H s):X.s₀.heap.objs.size≤s.heap.objs.size:=Nat.le_trans I.ok.above (Nat.le_of_lt I.lt)
theorem Inv.nofs (I:Inv X pins σ H s) {a:Addr} (h:s.heap.objs.size≤a):a ∉ X.fs:=fun hb=>by
 obtain ⟨_,o,ho,_⟩:=I.ok.funs.mem hb
 exact absurd (Nat.lt_of_lt_of_le (Heap.lt_size ho) (Nat.le_trans I.sz h)) (Nat.lt_irrefl _)
theorem Inv.cne (I:Inv X pins σ H s):∀ x c,X.env.cells.lookup x=some c→c≠X.env.locals:=fun x c e z=>by
 obtain ⟨v,o,ho,hd⟩:=I.cell x c e
 obtain ⟨m,⟨o',es,ep,ho',hd',_⟩,_⟩:=I.loc
 rw [z,ho'] at ho;cases ho;rw [hd'] at hd;cases hd
theorem Inv.funs (I:Inv X pins σ H s):s.heap.FunFrames X.base X.outer:=by
 have all:∀ (l:List Env),(∀ b∈frs l,b∈X.fs)→X.s₀.heap.FunFrames X.base l→s.heap.FunFrames X.base l:=by
  intro l
  induction l with
  | nil=>intro _ _;trivial
  | cons env r ih =>
   intro hs hl
   obtain ⟨hk,⟨L,o,hf,hn,ho,hd⟩,hr⟩:=hl
   have hL:L∈X.fs:=hs L (by unfold frs;rw [List.filterMap_cons,hf];exact List.mem_cons_self)
   obtain ⟨sl,e⟩:=I.base.slot L o ho (I.ok.frf L hL) hL fun z=>I.ok.exfs L z hL
   exact ⟨hk,⟨L,_,hf,hn,e,hd⟩,ih (fun b hb=>hs b (by unfold frs;rw [List.filterMap_cons,hf];exact List.mem_cons_of_mem _ hb)) hr⟩
 exact all X.outer (fun _ hb=>hb) I.ok.funs
theorem Inv.stack (I:Inv X pins σ H s):s.heap.FunFrames X.base X.stack:=by
 rcases I.ok.stk with e | ⟨e,hf⟩
 ·rw [e];exact I.funs
 ·rw [e]
  obtain ⟨m,hn,_⟩:=I.loc
  refine .cons (by rw [I.ok.kind];decide) hf hn ?_ I.funs
  exact Heap.get?_none_of_le (Nat.le_trans I.ok.bsz I.ok.above)
theorem Inv.stkSub (I:Inv X pins σ H s):∀ b∈frs X.stack,b∈X.env.locals::X.fs:=fun b hb=>by
 rcases I.ok.stk with e | ⟨e,hf⟩
 ·rw [e] at hb;exact List.mem_cons_of_mem _ hb
 ·rw [e] at hb
  unfold frs at hb
  rw [List.filterMap_cons,hf] at hb
  exact hb
theorem Inv.stkFree (I:Inv X pins σ H s):∀ b∈frs X.stack,H b=none:=fun b hb=>by
 rcases List.mem_cons.mp (I.stkSub b hb) with e | hb
 ·rw [e];exact I.free
 ·obtain ⟨_,o,ho,_⟩:=I.ok.funs.mem hb
  exact I.base.free b o ho (I.ok.frf b hb) fun z=>I.ok.exfs b z hb
theorem Inv.step {g':Array GenState} {t':Nat} {d':Drawn} {ch:List Addr} (I:Inv X pins σ H s)
  (hch:∀ b∈ch,(b∈X.ex∨X.s₀.heap.objs.size≤b)∧b≠X.env.locals∧(∀ x c,X.env.cells.lookup x=some c→c≠b)∧∀ p∈X.pn++pins,p.1≠b)
  (keep:∀ b o,b≠X.env.locals→b ∉ X.fs→b ∉ ch→s.heap.get? b=some o→H b=none→h'.get? b=some o)
  (slot:∀ b o,b≠X.env.locals→b∈X.fs→b ∉ ch→s.heap.get? b=some o→H b=none→∃ sl,h'.get? b=some { o with slots:=sl }) (free:∀ b o,b ∉ ch→s.heap.get? b=some o→H b=none→H' b=none)
  (there:∀ b o,b ∉ ch→s.heap.get? b=some o→∃ o',h'.get? b=some o')
  (tups:∀ b xs,H b=some (.tup xs)→H' b=some (.tup xs)) (frzs:∀ b o u,H b=some (.frz o u)→H' b=some (.frz o u)) (tbls:∀ b ps,H b=some (.tbl ps)→∃ more,H' b=some (.tbl (ps++more)))
  (ns:∀ m,s.heap.Ns X.env.locals m→h'.Ns X.env.locals m) (hok:HOk X.prog X.w H' h') (hg:AllBare g') :
  Inv X pins σ H' { s with heap:=h',gens:=g',drawn:=d',toks:=t' }:=by
 have neL:∀ b o,X.s₀.heap.get? b=some o→b≠X.env.locals:=fun b o e=>Nat.ne_of_lt (Nat.lt_of_lt_of_le (Heap.lt_size e) I.ok.above)
 have neC:∀ b o,X.s₀.heap.get? b=some o→b ∉ X.ex→b ∉ ch:=fun b o e hx hb=>by
  rcases (hch b hb).1 with z | z
  ·exact hx z
  ·exact absurd (Nat.lt_of_lt_of_le (Heap.lt_size e) z) (Nat.lt_irrefl _)
 have cellK:∀ x c,X.env.cells.lookup x=some c→∀ v,s.heap.IsCell c v→h'.IsCell c v:=fun x c e v ⟨o,ho,hd⟩=>by
  have nch:c ∉ ch:=fun z=>(hch c z).2.2.1 x c e rfl
  by_cases hc:c∈X.fs
  ·obtain ⟨sl,q⟩:=slot c o (I.cne x c e) hc nch ho (I.freeC x c e)
   exact ⟨_,q,hd⟩
  ·exact ⟨o,keep c o (I.cne x c e) hc nch ho (I.freeC x c e),hd⟩
 refine ⟨I.ok,I.os,hg,⟨fun b o e n hb hx=>?_,fun b o e n hb hx=>?_,fun b o e n hx=>?_,fun b o e hx=>?_,fun b xs e=>tups b xs (I.base.tups b xs e),fun b o xs e=>frzs b o xs (I.base.frzs b o xs e),fun b ps e=>?_⟩,?_,fun x c e=>?_,?_,fun x c e=>?_,fun p hp=>?_,hok,I.len⟩
 ·exact keep b o (neL b o e) hb (neC b o e hx) (I.base.keep b o e n hb hx) (I.base.free b o e n hx)
 ·obtain ⟨sl,e1⟩:=I.base.slot b o e n hb hx
  obtain ⟨sl',e2⟩:=slot b _ (neL b o e) hb (neC b o e hx) e1 (I.base.free b o e n hx)
  exact ⟨sl',e2⟩
 ·obtain ⟨o',e1⟩:=I.base.there b o e hx
  exact free b o' (neC b o e hx) e1 (I.base.free b o e n hx)
 ·obtain ⟨o',e1⟩:=I.base.there b o e hx
  exact there b o' (neC b o e hx) e1
 ·obtain ⟨m1,e1⟩:=I.base.tbls b ps e
  obtain ⟨m2,e2⟩:=tbls b _ e1
  exact ⟨m1++m2,by rw [e2,Array.append_assoc]⟩
 ·obtain ⟨m,hn,hl⟩:=I.loc
  refine ⟨m,ns m hn,fun i x v e1 e2 e3=>?_⟩
  obtain ⟨u,r,l⟩:=hl i x v e1 e2 e3
  refine ⟨u,r,?_⟩
  rcases l with l | ⟨k,c,e,z⟩
  ·exact .inl l
  ·exact .inr ⟨k,c,e,cellK x c e _ z⟩
 ·obtain ⟨v,z⟩:=I.cell x c e
  exact ⟨v,cellK x c e v z⟩
 ·obtain ⟨m,⟨o,_,_,ho,_⟩,_⟩:=I.loc
  exact free _ o (fun z=>(hch _ z).2.1 rfl) ho I.free
 ·obtain ⟨v,o,ho,hd⟩:=I.cell x c e
  exact free c o (fun z=>(hch c z).2.2.1 x c e rfl) ho (I.freeC x c e)
 ·obtain ⟨e,n,ne,nf,d⟩:=I.pin p hp
  have nch:p.1 ∉ ch:=fun z=>(hch p.1 z).2.2.2 p hp rfl
  exact ⟨keep p.1 p.2 ne nf nch e n,free p.1 p.2 nch e n,ne,nf,d⟩
theorem Inv.un {t':Nat} (I:Inv X pins σ H s) (u:Un X.fs [] H H' s.heap h') (hok:HOk X.prog X.w H' h'):Inv X pins σ H' { s with heap:=h',toks:=t' }:=by
 obtain ⟨m,⟨o,es,ep,ho,r⟩,_⟩:=id I.loc
 obtain ⟨sl,hL⟩:=u.any ho I.free (by simp)
 exact I.step (g':=s.gens) (d':=s.drawn) (ch:=[]) (fun _ z=>nomatch z) (fun b o _ hb _ e n=>u.keep b o e n hb (by simp)) (fun b o _ hb _ e n=>u.slot b o e n hb (by simp)) (fun b o _ e n=>u.free b o e n (by simp)) (fun b o _ e=>u.there b o e (by simp)) u.tups u.frzs u.tbls (fun m' hm=>by
  obtain ⟨o',es',ep',ho',r'⟩:=hm
  rw [ho] at ho';cases ho'
  exact ⟨_,es',ep',hL,r'⟩) hok I.bare
theorem Inv.call {g':Array GenState} {t':Nat} {d':Drawn} {ch:List Addr} (I:Inv X pins σ H s) (u:Un (frs X.stack) ch H H' s.heap h') (hok:HOk X.prog X.w H' h') (hg:AllBare g')
  (hch:∀ b∈ch,(b∈X.ex∨X.s₀.heap.objs.size≤b)∧b≠X.env.locals∧(∀ x c,X.env.cells.lookup x=some c→c≠b)∧∀ p∈X.pn++pins,p.1≠b) :
  Inv X pins σ H' { s with heap:=h',gens:=g',drawn:=d',toks:=t' }:=by
 obtain ⟨m,⟨o,es,ep,ho,r⟩,_⟩:=id I.loc
 obtain ⟨sl,hL⟩:=u.any ho I.free fun z=>(hch _ z).2.1 rfl
 exact I.step (ch:=ch) hch (fun b o hL hb hc e n=>u.keep b o e n (fun z=>(List.mem_cons.mp (I.stkSub b z)).elim hL hb) hc) (fun b o _ _ hc e n=>u.any e n hc) (fun b o hc e n=>u.free b o e n hc) (fun b o hc e=>u.there b o e hc) u.tups u.frzs u.tbls (fun m' hm=>by
  obtain ⟨o',es',ep',ho',r'⟩:=hm
  rw [ho] at ho';cases ho'
  exact ⟨_,es',ep',hL,r'⟩) hok hg
theorem Inv.turned {t':Nat} {it:Addr} (I:Inv X pins σ H s) (k:∀ b o,b≠it→s.heap.get? b=some o→h'.get? b=some o) (hn:H it=none) (hL:it≠X.env.locals)
  (h1:it∈X.ex∨X.s₀.heap.objs.size≤it) (h2:∀ x c,X.env.cells.lookup x=some c→c≠it) (h3:∀ p∈X.pn++pins,p.1≠it):Inv X pins σ H { s with heap:=h',toks:=t' }:=by
 have nit:∀ b u,H b=some u→b≠it:=fun b u e z=>by rw [z,hn] at e;cases e
 refine I.step (g':=s.gens) (d':=s.drawn) (ch:=[it]) (fun b hb=>?_) (fun b o _ _ hc e _=>k b o (fun z=>hc (by simp [z])) e) (fun b o _ _ hc e _=>⟨o.slots,k b o (fun z=>hc (by simp [z])) e⟩) (fun _ _ _ _ n=>n)
  (fun b o hc e=>⟨o,k b o (fun z=>hc (by simp [z])) e⟩) (fun _ _ e=>e) (fun _ _ _ e=>e) (fun b ps e=>⟨#[],by rw [e];simp⟩) (fun m hm=>?_) (fun b u e=>?_) I.bare
 ·have e:b=it:=by simpa using hb
  subst e
  exact ⟨h1,hL,h2,h3⟩
 ·obtain ⟨o,es,ep,ho,r⟩:=hm
  exact ⟨o,es,ep,k _ o (Ne.symm hL) ho,r⟩
 ·refine (I.hok b u e).stay (fun c v hc q=>k c v ?_ q) (fun _ q=>q) fun _ _ q=>q
  rcases hc with z | z
  ·rw [z];exact nit b u e
  ·exact nit c _ z
theorem Inv.tok (I:Inv X pins σ H s) (t:Nat):Inv X pins σ H { s with toks:=t }:=I.un (h':=s.heap) (t':=t) Un.refl I.hok
theorem Inv.kept {t':Nat} (I:Inv X pins σ H s) (k:∀ b u,s.heap.get? b=some u→h'.get? b=some u):Inv X pins σ H { s with heap:=h',toks:=t' }:=I.un (Un.kept k) (I.hok.kept k)
theorem Inv.laid {a:Addr} {o:HO} {t':Nat} (I:Inv X pins σ H s) (k:∀ b u,s.heap.get? b=some u→h'.get? b=some u) (hp:s.heap.objs.size≤a) (new:ObjOk X.prog X.w (upd H a o) h' a o) :
  Inv X pins σ (upd H a o) { s with heap:=h',toks:=t' }:=I.un (Un.laid k hp (I.hok.fresh hp)) (I.hok.laid k hp new)
theorem Inv.write {x e:Addr} {o:HO} {t':Nat} (I:Inv X pins σ H s) (mu:Mut (H x)) (he:e=x∨H e=some (.own x)) (k:∀ b u,b≠e→s.heap.get? b=some u→h'.get? b=some u) (heo:∃ u,h'.get? e=some u)
  (new:ObjOk X.prog X.w (upd H x o) h' x o):Inv X pins σ (upd H x o) { s with heap:=h',toks:=t' }:=I.un (Un.write mu he k heo) (I.hok.write mu he k heo new)
theorem Inv.weak {σ':List (Option V)} (I:Inv X pins σ H s) (hl:σ'.length=σ.length) (w:∀ (i:Nat) v,σ'[i]? = some (some v)→σ[i]? = some (some v)):Inv X pins σ' H s :=
 ⟨I.ok,I.os,I.bare,I.base,let ⟨m,hn,hl'⟩:=I.loc; ⟨m,hn,fun i x v e1 e2 e3=>hl' i x v e1 (w i v e2) e3⟩,I.cell,I.free,I.freeC,I.pin,I.hok,hl.trans I.len⟩
theorem Inv.pins_of {pins':List (Addr × Obj)} (I:Inv X pins σ H s) (h:∀ p∈pins',s.heap.get? p.1=some p.2∧H p.1=none∧p.1≠X.env.locals∧p.1 ∉ X.fs∧∀ v,p.2.data≠.cell v):Inv X pins' σ H s :=
 ⟨I.ok,I.os,I.bare,I.base,I.loc,I.cell,I.free,I.freeC,fun p hp=>(List.mem_append.mp hp).elim (fun z=>I.pin p (List.mem_append_left _ z)) (h p),I.hok,I.len⟩
theorem a9f {N:List Str} (hN:N.Nodup) {i j:Nat} {x:Str} (a:N[i]? = some x) (b:N[j]? = some x):i=j:=by
 obtain ⟨h1,e1⟩:=List.getElem?_eq_some_iff.mp a
 obtain ⟨h2,e2⟩:=List.getElem?_eq_some_iff.mp b
 exact (List.getElem_inj hN).mp (e1.trans e2.symm)
theorem a6s {M:Model} {A:Around} {E:Value→Shared→Prop} {i:Nat} {x:Str} {v:V} {u:Value} {Q:Unit→Shared→Prop} (I:Inv X pins σ H s) (hN:X.N.Nodup) (hi:X.N[i]? = some x) (hx:Loc X.env.scope x) (r:RelV v u)
  (h:∀ s',Inv X pins (σ.set i (some v)) H s'→(∃ a,Heap.SameBut a s.heap s'.heap∧(a=X.env.locals∨X.env.cells.lookup x=some a))→Q () s') (hf:X.fn x=true∨X.env.scope.names.lookup x=some .local:=by first | exact .inl rfl | exact .inr rfl | assumption):wpAny M A (storeName X.env x u) Q E s:=by
 obtain ⟨m,hn,hl⟩:=id I.loc
 have hcls:(X.env.scope.kind == .class || (X.env.scope.kind == .module && X.env.locals != X.env.globals))=false:=by rw [I.ok.kind];rfl
 have hiσ:i<σ.length:=by rw [I.len];exact (List.getElem?_eq_some_iff.mp hi).1
 have cne:=I.cne
 have tracked:∀ {a:Addr} {h':Heap},(∃ o,s.heap.get? a=some o∧H a=none)→Heap.SameBut a s.heap h'→HOk X.prog X.w H h':=fun {a h'} ha hs b ob e=>by
  obtain ⟨_,_,hfree⟩:=ha
  refine (I.hok b ob e).stay (fun c w' hc q=>(hs.2 c ?_).trans q) (fun _ q=>q) fun _ _ q=>q
  rintro rfl
  rcases hc with rfl | hc
  ·rw [hfree] at e;cases e
  ·rw [hfree] at hc;cases hc
 rcases hx with hk | hk
 ·refine wpAny_storeName_local hk hn (fun h' hn' hs=>?_) hcls
  obtain ⟨oL,_,_,hoL,_⟩:=id hn
  refine h _ ⟨I.ok,I.os,I.bare,⟨fun b o e n hb hx=>?_,fun b o e n hb hx=>?_,I.base.free,fun b o e hx=>?_,I.base.tups,I.base.frzs,I.base.tbls⟩,⟨_,hn',fun j y v' e1 e2 e3=>?_⟩,fun y c e=>?_,I.free,I.freeC,fun p hp=>?_,tracked ⟨oL,hoL,I.free⟩ hs,by simpa using I.len⟩ ⟨_,hs, .inl rfl⟩
  ·exact (hs.2 b (Nat.ne_of_lt (Nat.lt_of_lt_of_le (Heap.lt_size e) I.ok.above))).trans (I.base.keep b o e n hb hx)
  ·obtain ⟨sl,e1⟩:=I.base.slot b o e n hb hx
   exact ⟨sl,(hs.2 b (Nat.ne_of_lt (Nat.lt_of_lt_of_le (Heap.lt_size e) I.ok.above))).trans e1⟩
  ·obtain ⟨o',e1⟩:=I.base.there b o e hx
   exact ⟨o',(hs.2 b (Nat.ne_of_lt (Nat.lt_of_lt_of_le (Heap.lt_size e) I.ok.above))).trans e1⟩
  ·by_cases hj:j=i
   ·subst hj
    rw [hi] at e1;cases e1
    rw [List.getElem?_set_self hiσ] at e2
    cases e2
    exact ⟨u,r, .inl ⟨hk,by simp⟩⟩
   ·rw [List.getElem?_set_ne (Ne.symm hj)] at e2
    obtain ⟨u',r',q⟩:=hl j y v' e1 e2 e3
    refine ⟨u',r',?_⟩
    rcases q with ⟨k,e⟩ | ⟨k,c,e,z⟩
    ·refine .inl ⟨k,?_⟩
     have:y≠x:=fun e=>hj (a9f hN e1 (e ▸ hi))
     simp [this,e]
    ·exact .inr ⟨k,c,e,z.sameBut hs (cne y c e)⟩
  ·obtain ⟨w',z⟩:=I.cell y c e
   exact ⟨w',z.sameBut hs (cne y c e)⟩
  ·obtain ⟨e,n,ne,nf,d⟩:=I.pin p hp
   exact ⟨(hs.2 p.1 ne).trans e,n,ne,nf,d⟩
 ·have hfn:X.fn x=true:=by
   rcases hf with z | z
   ·exact z
   ·rw [z] at hk;cases hk
  obtain ⟨c,hc⟩:=I.ok.has x (.inl hk)
  obtain ⟨w',z⟩:=I.cell x c hc
  refine wpAny_storeName_cell I.ok.kind hk hc z (fun h' hc' hs=>?_)
  obtain ⟨oc,hoc,hocd⟩:=id z
  refine h { s with heap:=h' } ⟨I.ok,I.os,I.bare,⟨fun b o e n hb hx=>?_,fun b o e n hb hx=>?_,I.base.free,fun b o e hx=>?_,I.base.tups,I.base.frzs,I.base.tbls⟩,⟨m,hn.sameBut hs (Ne.symm (cne x c hc)),fun j y v' e1 e2 e3=>?_⟩,fun y c' e=>?_,I.free,I.freeC,fun p hp=>?_,tracked ⟨oc,hoc,I.freeC x c hc⟩ hs,by simpa using I.len⟩ ⟨c,hs, .inr hc⟩
  ·exact (hs.2 b (Nat.ne_of_lt (Nat.lt_of_lt_of_le (Heap.lt_size e) (I.ok.cab x c hfn hc)))).trans (I.base.keep b o e n hb hx)
  ·obtain ⟨sl,e1⟩:=I.base.slot b o e n hb hx
   exact ⟨sl,(hs.2 b (Nat.ne_of_lt (Nat.lt_of_lt_of_le (Heap.lt_size e) (I.ok.cab x c hfn hc)))).trans e1⟩
  ·obtain ⟨o',e1⟩:=I.base.there b o e hx
   exact ⟨o',(hs.2 b (Nat.ne_of_lt (Nat.lt_of_lt_of_le (Heap.lt_size e) (I.ok.cab x c hfn hc)))).trans e1⟩
  ·by_cases hj:j=i
   ·subst hj
    rw [hi] at e1;cases e1
    rw [List.getElem?_set_self hiσ] at e2
    cases e2
    exact ⟨u,r, .inr ⟨.inl hk,c,hc,hc'⟩⟩
   ·rw [List.getElem?_set_ne (Ne.symm hj)] at e2
    obtain ⟨u',r',q⟩:=hl j y v' e1 e2 e3
    refine ⟨u',r',?_⟩
    rcases q with q | ⟨k,c',e,z'⟩
    ·exact .inl q
    ·refine .inr ⟨k,c',e,z'.sameBut hs ?_⟩
     rintro rfl
     exact hj (a9f hN e1 (I.ok.inj _ _ _ e hc ▸ hi))
  ·by_cases hcc:c'=c
   ·subst hcc;exact ⟨_,hc'⟩
   ·obtain ⟨w2,z2⟩:=I.cell y c' e
    exact ⟨w2,z2.sameBut hs hcc⟩
  ·obtain ⟨e,n,ne,nf,d⟩:=I.pin p hp
   refine ⟨(hs.2 p.1 ?_).trans e,n,ne,nf,d⟩
   intro q
   rw [q,hoc] at e
   have q':oc=p.2:=Option.some.inj e
   exact d w' (by rw [← q'];exact hocd)
theorem a5d {M:Model} {A:Around} {E:Value→Shared→Prop} {i:Nat} {x:Str} {v:V} {u:Value} {Q:Unit→Shared→Prop} (I:Inv X pins σ H s) (hN:X.N.Nodup) (hi:X.N[i]? = some x) (hx:Loc X.env.scope x) (r:RelV v u)
  (h:∀ s',Inv X pins (σ.set i (some v)) H s'→Q () s') (hf:X.fn x=true∨X.env.scope.names.lookup x=some .local:=by first | exact .inl rfl | exact .inr rfl | assumption):wpAny M A (storeName X.env x u) Q E s :=
 a6s I hN hi hx r (fun s' I' _=>h s' I') hf
end
abbrev XK:=Value→Option Addr→Hp→Prop
abbrev St:=List (Option V)
abbrev VK:=V→Hp→Prop
abbrev TE:=St→Hp→VK→Prop
abbrev TT:=St→Hp→(Bool→Hp→Prop)→Prop
abbrev TA:=St→Hp→(List V→Hp→Prop)→Prop
structure Ends where
 nx:St→Hp→Prop
 rt:VK
 bk:St→Hp→Prop:=fun _ _=>False
 ct:St→Hp→Prop:=fun _ _=>False
abbrev TS:=Ends→St→Hp→Prop
def EP (X:Cx) (pins:List (Addr × Obj)) (σ:St) (Q:VK) (u:Value) (s':Shared):Prop:=∃ v H',Inv X pins σ H' s'∧RelV v u∧Q v H'
def TP (X:Cx) (pins:List (Addr × Obj)) (σ:St) (Q:Bool→Hp→Prop) (b:Bool) (s':Shared):Prop:=∃ H',Inv X pins σ H' s'∧Q b H'
def AP (X:Cx) (pins:List (Addr × Obj)) (σ:St) (Q:List V→Hp→Prop) (us:List Value) (s':Shared):Prop:=∃ vs H',Inv X pins σ H' s'∧Vals vs us∧Q vs H'
def SP (X:Cx) (pins:List (Addr × Obj)) (D:Ends) (f:Flow) (s':Shared):Prop :=
 match f with
 | .next=>∃ σ' H',Inv X pins σ' H' s'∧D.nx σ' H'
 | .brk=>∃ σ' H',Inv X pins σ' H' s'∧D.bk σ' H'
 | .cont=>∃ σ' H',Inv X pins σ' H' s'∧D.ct σ' H'
 | .ret u=>∃ v σ' H',Inv X pins σ' H' s'∧RelV v u∧D.rt v H'
def PE (X:Cx) (e:Expr) (t:TE):Prop :=
 ∀ (pins:List (Addr × Obj)) (s:Shared) (σ:St) (H:Hp) (Q:VK),Inv X pins σ H s→t σ H Q→wpAny (model X.prog X.w) X.A (eval e X.env) (EP X pins σ Q) X.xe s
def PT (X:Cx) (e:Expr) (t:TT):Prop :=
 ∀ (pins:List (Addr × Obj)) (s:Shared) (σ:St) (H:Hp) (Q:Bool→Hp→Prop),Inv X pins σ H s→t σ H Q→wpAny (model X.prog X.w) X.A (isTrue e X.env (eval e X.env)) (TP X pins σ Q) X.xe s
def PW (X:Cx) (e:Expr) (t:TT):Prop :=
 ∀ (whole:Sem Value) (pins:List (Addr × Obj)) (s:Shared) (σ:St) (H:Hp) (Q:Bool→Hp→Prop),Inv X pins σ H s→t σ H Q→wpAny (model X.prog X.w) X.A (isTrue e X.env whole) (TP X pins σ Q) X.xe s
theorem PW.pt {X:Cx} {e:Expr} {t:TT} (h:PW X e t):PT X e t:=h _
def PA (X:Cx) (es:List Expr) (t:TA):Prop :=
 ∀ (pos:Pos) (pins:List (Addr × Obj)) (s:Shared) (σ:St) (H:Hp) (Q:List V→Hp→Prop),Inv X pins σ H s→t σ H Q→wpAny (model X.prog X.w) X.A (spliced (backTo pos (starEach es X.env))) (AP X pins σ Q) X.xe s
def PS (X:Cx) (st:Stmt) (t:TS):Prop :=
 ∀ (pins:List (Addr × Obj)) (s:Shared) (σ:St) (H:Hp) (D:Ends),Inv X pins σ H s→t D σ H→wpAny (model X.prog X.w) X.A (exec st X.env) (SP X pins D) X.xe s
def PSs (X:Cx) (st:List Stmt) (t:TS):Prop :=
 ∀ (pins:List (Addr × Obj)) (s:Shared) (σ:St) (H:Hp) (D:Ends),Inv X pins σ H s→t D σ H→wpAny (model X.prog X.w) X.A (execs st X.env) (SP X pins D) X.xe s
theorem thn {α:Type} {t:Sem α} {Q Q':α→Shared→Prop} {M:Model} {A:Around} {E:Value→Shared→Prop} {s:Shared} (h:wpAny M A t Q E s) (hQ:∀ a s,Q a s→Q' a s):wpAny M A t Q' E s:=wpAny_mono h hQ fun _ _ x=>x
end L2
namespace L2
open PySem PySem.Spec PyProof.Rows
section
variable {X:Cx}
def avl (i:Nat):TE:=fun σ H Q=>∃ v,σ[i]? = some (some v)∧Q v H
def tC (v:V):TE:=fun _ H Q=>Q v H
theorem anw {i:Nat} {x:Str} {pos:Pos} (hN:X.N[i]? = some x) (hv:Vis X.env.scope x) (hd:(x == ("__debug__" : Str))=false:=by decide) (hcd:(x == ("__classdict__" : Str))=false:=by decide):PE X (.Name x pos) (avl i):=by
 intro pins s σ H Q I h
 obtain ⟨v,e,h⟩:=h
 obtain ⟨m,hn,hl⟩:=I.loc
 obtain ⟨u,r,l⟩:=hl i x v hN e hv
 have fin:EP X pins σ Q u s:=⟨v,H,I,r,h⟩
 rcases l with ⟨hk,hm⟩ | ⟨hk,c,hc,hcell⟩
 ·exact wpAny_Name (wpAny_loadName_local I.ok.kind hk hn hm fin) hd
 ·rcases hk with hk | hk
  ·exact wpAny_Name (wpAny_loadName_cell I.ok.kind hk hc hcell fin) hd
  ·exact wpAny_Name (wpAny_loadName_free I.ok.kind hk hc hcell fin hcd) hd
theorem anx {i j pos}:PE X (.Constant (.int i) j pos) (tC (.int i)):=fun _ _ _ H _ I h=>wpAny_Constant_int ⟨.int i,H,I.tok _,⟨_,rfl⟩,h⟩
theorem asm {b j pos}:PE X (.Constant (.bool b) j pos) (tC (.bl b)):=fun _ _ _ H _ I h=>Constant_bool ⟨.bl b,H,I,rfl,h⟩
theorem anz {j pos}:PE X (.Constant .none j pos) (tC .non):=fun _ _ _ H _ I h=>Constant_none ⟨.non,H,I,rfl,h⟩
theorem ao0 {x j pos}:PE X (.Constant (.str x) j pos) (tC (.str x)):=fun _ _ _ H _ I h=>Calls.Constant_str ⟨.str x,H,I.tok _,⟨_,rfl⟩,h⟩
def Gl (X:Cx) (x:Str):Prop:=X.env.kindOf x=some .globalImplicit
theorem acy {E:Value→Shared→Prop} {pins:List (Addr × Obj)} {s:Shared} {σ:St} {H:Hp} {x:Str} {u:Value} {pos:Pos} {Q:Value→Shared→Prop} (I:Inv X pins σ H s) (hg:Gl X x) (hm:X.mg x=some u) (h:Q u s)
  (hd:(x == ("__debug__" : Str))=false:=by decide):wpAny (model X.prog X.w) X.A (eval (.Name x pos) X.env) Q E s :=
 Calls.Name_function_global I.ok.kind hg (Calls.loadGlobal_global (by rw [I.ok.glob];exact I.mod.glob.keeps I.bk) hm h) hd
theorem a2n {E:Value→Shared→Prop} {pins:List (Addr × Obj)} {s:Shared} {σ:St} {H:Hp} {x:Str} {u:Value} {pos:Pos} {Q:Value→Shared→Prop} (I:Inv X pins σ H s) (hg:Gl X x) (hm:X.mg x=none) (hv:bootBuiltins x=some u) (h:Q u s)
  (hn:x ≠ "__name__":=by decide) (hd:(x == ("__debug__" : Str))=false:=by decide):wpAny (model X.prog X.w) X.A (eval (.Name x pos) X.env) Q E s:=by
 obtain ⟨mb,h1,h2⟩:=I.mod.blt
 exact Calls.Name_function_global I.ok.kind hg (Calls.loadGlobal_builtin (by rw [I.ok.glob];exact I.mod.glob.keeps I.bk) hm (by rw [I.ok.blt];exact h1.keeps I.bk) ((h2 x hn).trans hv) h) hd
theorem akb {x:Str} {v:V} {u:Value} {pos:Pos} (hg:Gl X x) (hm:X.mg x=none) (hv:bootBuiltins x=some u) (r:RelV v u) (hn:x ≠ "__name__":=by decide) (hd:(x == ("__debug__" : Str))=false:=by decide):PE X (.Name x pos) (tC v) :=
 fun _ _ _ H _ I h=>a2n I hg hm hv ⟨v,H,I,r,h⟩ hn hd
variable {a b:Expr} {ta tb:TE} {pos:Pos}
variable {tA tB':TT} {rest:List Expr}
def avm (t u:TT):TT:=fun σ H Q=>t σ H fun c H1=>if c=true then u σ H1 Q else Q false H1
def tOr (t u:TT):TT:=fun σ H Q=>t σ H fun c H1=>if c=true then Q true H1 else u σ H1 Q
def avn (t:TT):TT:=fun σ H Q=>t σ H fun c H1=>Q (!c) H1
theorem akc (ha:PT X a tA):PW X (.BoolOp .And [a] pos) tA:=by
 intro wh pins s σ H Q I h
 refine isTrue_and (thn (ha pins s σ H Q I h) fun c s1 e=>?_)
 cases c with
 | true=>exact isTrue_and_nil e
 | false=>exact e
theorem ao1 (ha:PT X a tA):PW X (.BoolOp .Or [a] pos) tA:=by
 intro wh pins s σ H Q I h
 refine isTrue_or (thn (ha pins s σ H Q I h) fun c s1 e=>?_)
 cases c with
 | false=>exact isTrue_or_nil e
 | true=>exact e
theorem ao2 (ha:PT X a tA) (hb:PW X (.BoolOp .And (b::rest) pos) tB'):PW X (.BoolOp .And (a::b::rest) pos) (avm tA tB'):=by
 intro wh pins s σ H Q I h
 refine isTrue_and (thn (ha pins s σ H _ I h) fun c s1 ⟨H1,I1,q1⟩=>?_)
 cases c with
 | true=>exact hb wh pins s1 σ H1 Q I1 q1
 | false=>exact ⟨H1,I1,q1⟩
theorem asn (ha:PT X a tA) (hb:PW X (.BoolOp .Or (b::rest) pos) tB'):PW X (.BoolOp .Or (a::b::rest) pos) (tOr tA tB'):=by
 intro wh pins s σ H Q I h
 refine isTrue_or (thn (ha pins s σ H _ I h) fun c s1 ⟨H1,I1,q1⟩=>?_)
 cases c with
 | true=>exact ⟨H1,I1,q1⟩
 | false=>exact hb wh pins s1 σ H1 Q I1 q1
theorem ao3 (ha:PT X a tA):PT X (.UnaryOp .Not a pos) (avn tA):=by
 intro pins s σ H Q I h
 exact isTrue_not (ha pins s σ H (fun c H1=>Q (!c) H1) I h)
def aso (ta tb:TE):TE:=fun σ H Q=>ta σ H fun x H1=>∃ c,x = .bl c∧if c=true then tb σ H1 Q else Q (.bl false) H1
def asp (ta:TE):TE:=fun σ H Q=>ta σ H fun x H1=>∃ c,x = .bl c∧Q (.bl (!c)) H1
theorem ao4 {op} {t:TE} (h:PE X a t):PE X (.BoolOp op [a] pos) t:=fun pins s σ H Q I hw=>BoolOp_one (h pins s σ H Q I hw)
theorem ao5 (ha:PE X a ta) (hb:PE X (.BoolOp .And (b::rest) pos) tb):PE X (.BoolOp .And (a::b::rest) pos) (aso ta tb):=by
 intro pins s σ H Q I h
 refine BoolOp_and (thn (ha pins s σ H _ I h) fun v s1 ⟨x,H1,I1,r1,q1⟩=>?_)
 obtain ⟨c,rfl,q1⟩:=q1
 cases r1
 refine wpAny_truthy_bool ?_
 cases c with
 | true=>exact hb pins s1 σ H1 Q I1 q1
 | false=>exact ⟨.bl false,H1,I1,rfl,q1⟩
theorem ao6 (ha:PE X a ta):PE X (.UnaryOp .Not a pos) (asp ta):=by
 intro pins s σ H Q I h
 refine UnaryOp_ (thn (ha pins s σ H _ I h) fun v s1 ⟨x,H1,I1,r1,q1⟩=>?_)
 obtain ⟨c,rfl,q1⟩:=q1
 cases r1
 exact not_of (wpAny_truthy_bool ⟨.bl (!c),H1,I1,rfl,q1⟩)
def tIf (t:TT) (ta tb:TE):TE:=fun σ H Q=>t σ H fun c H1=>if c=true then ta σ H1 Q else tb σ H1 Q
theorem agn {c:Expr} (hc:PT X c tA) (ha:PE X a ta) (hb:PE X b tb):PE X (.IfExp c a b pos) (tIf tA ta tb):=by
 intro pins s σ H Q I h
 refine wpAny_IfExp (thn (hc pins s σ H _ I h) fun d s1 ⟨H1,I1,q1⟩=>?_)
 cases d with
 | true=>exact ha pins s1 σ H1 Q I1 q1
 | false=>exact hb pins s1 σ H1 Q I1 q1
end
end L2
namespace L2
open PySem PySem.Spec PyProof.Rows
def SqL (K:PySem.W.Frag) (H:Hp) (a:Addr) (xs:List V):Prop :=
 Rd H a (.lst xs) ∨
  ∃ (o:Obj) (its:Array Value) (n:Nat),K.lookup a=some o∧o.cls = .type "list"∧o.dict=none∧o.data = .seq its n∧its.size≤sizeLine∧Vals xs its.toList
def SqT (K:PySem.W.Frag) (H:Hp) (a:Addr) (xs:List V):Prop :=
 Rd H a (.tup xs) ∨
  ∃ (o:Obj) (its:Array Value) (n:Nat),K.lookup a=some o∧o.cls = .type "tuple"∧o.data = .seq its n∧its.size≤sizeLine∧Vals xs its.toList
def avo:Value→Option V
 | .none=>some .non
 | .bool b=>some (.bl b)
 | .int i _=>some (.int i)
 | .str x _=>some (.str x)
 | .bytes b _=>some (.byt b)
 | .float b _=>some (.flt b)
 | .ref a=>some (.ref a)
 | .type n=>some (.ty n)
 | _=>none
theorem RelV.abs {x:V} {u:Value} (r:RelV x u):avo u=some x:=by
 cases x with
 | non=>cases r;rfl
 | bl _=>cases r;rfl
 | int _=>obtain ⟨t,rfl⟩:=r;rfl
 | str _=>obtain ⟨t,rfl⟩:=r;rfl
 | byt _=>obtain ⟨t,rfl⟩:=r;rfl
 | flt _=>obtain ⟨t,rfl⟩:=r;rfl
 | ref _=>cases r;rfl
 | ty _=>cases r;rfl
theorem RelV.inj {x y:V} {u:Value} (r:RelV x u) (q:RelV y u):x=y:=Option.some.inj (r.abs.symm.trans q.abs)
theorem Vals.inj:∀ {xs ys:List V} {us:List Value},Vals xs us→Vals ys us→xs=ys
 | _,_,_, .nil, .nil=>rfl
 | _,_,_, .cons r t, .cons r' t'=>by rw [r.inj r',Vals.inj t t']
section
variable {X:Cx} {pins:List (Addr × Obj)} {σ:St} {H:Hp} {s:Shared} {a:Addr} {xs ys:List V}
theorem SqL.of {K:PySem.W.Frag} (h:H a=some (.lst xs)):SqL K H a xs:=.inl (.inl h)
theorem SqT.of {K:PySem.W.Frag} (h:H a=some (.tup xs)):SqT K H a xs:=.inl (.inl h)
theorem Inv.list (I:Inv X pins σ H s) (h:SqL X.K H a xs):∃ its:List Value,Vals xs its∧PlainL s.heap a its.toArray∧xs.length≤sizeLine:=by
 rcases h with h | ⟨o,its,n,hk,hc,hd,hs,hz,r⟩
 ·obtain ⟨z,its,n,r,e⟩:=h.ok I.hok
  exact ⟨its,r,⟨_,n,e,rfl,rfl,rfl⟩,z⟩
 ·refine ⟨its.toList,r,⟨o,n,I.kIn a o hk,hc,hd,by simpa using hs⟩,?_⟩
  have e:=r.length
  simp only [Array.length_toList] at e
  omega
theorem Inv.tuple (I:Inv X pins σ H s) (h:SqT X.K H a xs):∃ its:List Value,Vals xs its∧IsTup s.heap a its.toArray∧xs.length≤sizeLine:=by
 rcases h with h | ⟨o,its,n,hk,hc,hs,hz,r⟩
 ·obtain ⟨z,its,r,p⟩:=h.ok I.hok
  exact ⟨its,r,p,z⟩
 ·refine ⟨its.toList,r,⟨o,I.kIn a o hk,hc,n,by simpa using hs⟩,?_⟩
  have e:=r.length
  simp only [Array.length_toList] at e
  omega
theorem Inv.list_inj (I:Inv X pins σ H s) (h:SqL X.K H a xs) (h':SqL X.K H a ys):xs=ys:=by
 obtain ⟨its,r,⟨o,n,e,_,_,d⟩,_⟩:=I.list h
 obtain ⟨its',r',⟨o',n',e',_,_,d'⟩,_⟩:=I.list h'
 rw [e] at e';cases e'
 rw [d] at d'
 injection d' with d1 _
 have:its=its':=by simpa using congrArg Array.toList d1
 subst this
 exact r.inj r'
theorem Inv.tuple_inj (I:Inv X pins σ H s) (h:SqT X.K H a xs) (h':SqT X.K H a ys):xs=ys:=by
 obtain ⟨its,r,⟨o,e,_,n,d⟩,_⟩:=I.tuple h
 obtain ⟨its',r',⟨o',e',_,n',d'⟩,_⟩:=I.tuple h'
 rw [e] at e';cases e'
 rw [d] at d'
 injection d' with d1 _
 have:its=its':=by simpa using congrArg Array.toList d1
 subst this
 exact r.inj r'
end
abbrev Cx.wish (X:Cx) (E:Value→Shared→Prop):Cx:={ X with xe:=E }
abbrev Cx.nox (X:Cx):Cx:=X.wish fun _ _=>False
theorem Cx.Ok.wish {X:Cx} (ok:X.Ok) (E:Value→Shared→Prop):(X.wish E).Ok :=
 ⟨ok.mod,ok.kind,ok.glob,ok.blt,ok.above,ok.inj,ok.has,ok.cab,ok.hd,ok.frames,ok.stk,ok.exf,ok.bs,ok.bsz,ok.noex,ok.exfs,ok.funs,ok.frf⟩
theorem Cx.Ok.unwish {X:Cx} {E:Value→Shared→Prop} (ok:(X.wish E).Ok):X.Ok :=
 ⟨ok.mod,ok.kind,ok.glob,ok.blt,ok.above,ok.inj,ok.has,ok.cab,ok.hd,ok.frames,ok.stk,ok.exf,ok.bs,ok.bsz,ok.noex,ok.exfs,ok.funs,ok.frf⟩
section
variable {X:Cx} {pins:List (Addr × Obj)} {σ:St} {H:Hp} {s:Shared} {E:Value→Shared→Prop}
theorem Inv.wish (I:Inv X pins σ H s) (E:Value→Shared→Prop):Inv (X.wish E) pins σ H s:=⟨I.ok.wish E,I.os,I.bare,I.base,I.loc,I.cell,I.free,I.freeC,I.pin,I.hok,I.len⟩
theorem Inv.unwish (I:Inv (X.wish E) pins σ H s):Inv X pins σ H s:=⟨I.ok.unwish,I.os,I.bare,I.base,I.loc,I.cell,I.free,I.freeC,I.pin,I.hok,I.len⟩
theorem SP.unwish {D:Ends} {f:Flow} {s':Shared} (h:SP (X.wish E) pins D f s'):SP X pins D f s':=by
 cases f with
 | next=>obtain ⟨σ',H',I,q⟩:=h;exact ⟨σ',H',I.unwish,q⟩
 | brk=>obtain ⟨σ',H',I,q⟩:=h;exact ⟨σ',H',I.unwish,q⟩
 | cont=>obtain ⟨σ',H',I,q⟩:=h;exact ⟨σ',H',I.unwish,q⟩
 | ret u=>obtain ⟨v,σ',H',I,r,q⟩:=h;exact ⟨v,σ',H',I.unwish,r,q⟩
theorem PSs.nox {st:List Stmt} {t:TS} (h:PSs X.nox st t):PSs X st t:=fun pins s σ H D I hw =>
 wpAny_mono (h pins s σ H D (I.wish _) hw) (fun _ _ q=>q.unwish) fun _ _ z=>False.elim z
end
section
variable {X:Cx} {st:Stmt} {rest:List Stmt} {t u:TS} {e:Expr} {te:TE} {pos:Pos}
def asq:TS:=fun D σ H=>D.nx σ H
def avp (t u:TS):TS:=fun D σ H=>t { D with nx:=u D } σ H
theorem akd:PSs X [] asq:=fun _ _ σ H _ I h=>wpAny_execs_nil ⟨σ,H,I,h⟩
theorem ago (h1:PS X st t) (h2:PSs X rest u):PSs X (st::rest) (avp t u):=by
 intro pins s σ H D I h
 refine wpAny_execs_cons (thn (h1 pins s σ H { D with nx:=u D } I h) fun f s1 q=>?_)
 cases f with
 | next =>
  obtain ⟨σ',H',I',q⟩:=q
  exact h2 pins s1 σ' H' D I' q
 | ret v=>exact q
 | brk=>exact q
 | cont=>exact q
theorem ake (h1:PS X st t):PSs X [st] t:=by
 intro pins s σ H D I h
 refine wpAny_execs_cons (thn (h1 pins s σ H D I h) fun f s1 q=>?_)
 cases f with
 | next=>exact wpAny_execs_nil q
 | ret v=>exact q
 | brk=>exact q
 | cont=>exact q
theorem Inv.quiet {pins:List (Addr × Obj)} {σ:St} {H:Hp} {s:Shared} (I:Inv X pins σ H s):interactive X.env=false:=by simp [interactive,I.ok.kind]
def asr (te:TE):TS:=fun D σ H=>te σ H fun _ H1=>D.nx σ H1
theorem akf (he:PE X e te) (hs:swapsWith e none pos.line X.env=pure false:=by rfl):PS X (.Expr e pos) (asr te):=by
 intro pins s σ H D I h
 exact wpAny_Expr_any (thn (he pins s σ H _ I h) fun v s1 ⟨x,H1,I1,r1,q1⟩=>⟨σ,H1,I1,q1⟩) I.quiet hs
def avq (te:TE):TS:=fun D σ H=>te σ H D.rt
theorem ao7 (he:PE X e te):PS X (.Return (some e) pos) (avq te):=by
 intro pins s σ H D I h
 exact wpAny_Return_some (thn (he pins s σ H _ I h) fun v s1 ⟨x,H1,I1,r1,q1⟩=>⟨x,σ,H1,I1,r1,q1⟩)
def avr (c:TT) (t u:TS):TS:=fun D σ H=>c σ H fun b H1=>if b=true then t D σ H1 else u D σ H1
theorem ass {c:Expr} {a b:List Stmt} {tc:TT} (hc:PT X c tc) (ha:PSs X a t) (hb:PSs X b u):PS X (.If c a b pos) (avr tc t u):=by
 intro pins s σ H D I h
 refine wpAny_If (thn (hc pins s σ H _ I h) fun d s1 ⟨H1,I1,q1⟩=>?_)
 cases d with
 | true=>exact ha pins s1 σ H1 D I1 q1
 | false=>exact hb pins s1 σ H1 D I1 q1
end
abbrev TG:=V→St→Hp→(St→Hp→Prop)→Prop
abbrev TGs:=List V→St→Hp→(St→Hp→Prop)→Prop
def PG (X:Cx) (target:Expr) (t:TG):Prop :=
 ∀ (pins:List (Addr × Obj)) (s:Shared) (σ:St) (H:Hp) (v:V) (u:Value) (Q:St→Hp→Prop),Inv X pins σ H s→RelV v u→t v σ H Q →
  wpAny (model X.prog X.w) X.A (assign target X.env u) (fun _ s'=>∃ σ' H',Inv X pins σ' H' s'∧Q σ' H') X.xe s
def PGs (X:Cx) (ts:List Expr) (t:TGs):Prop :=
 ∀ (pins:List (Addr × Obj)) (s:Shared) (σ:St) (H:Hp) (vs:List V) (us:List Value) (Q:St→Hp→Prop),Inv X pins σ H s→Vals vs us→t vs σ H Q →
  wpAny (model X.prog X.w) X.A (assignInOrder ((assignEach ts X.env).map (·.2)) us) (fun _ s'=>∃ σ' H',Inv X pins σ' H' s'∧Q σ' H') X.xe s
abbrev ao8:=V→V→V→Hp→(Hp→Prop)→Prop
def asu (X:Cx) (t:ao8):Prop :=
 ∀ (pins:List (Addr × Obj)) (s:Shared) (σ:St) (H:Hp) (o i v:V) (ov iv u:Value) (Q:Hp→Prop),Inv X pins σ H s→RelV o ov→RelV i iv→RelV v u→t o i v H Q →
  wpAny (model X.prog X.w) X.A (setItem ov iv u) (fun _ s'=>∃ H',Inv X pins σ H' s'∧Q H') X.xe s
abbrev TIp:=V→V→Hp→VK→Prop
def PIp (X:Cx) (op:Operator) (t:TIp):Prop :=
 ∀ (pins:List (Addr × Obj)) (s:Shared) (σ:St) (H:Hp) (x y:V) (v u:Value) (Q:VK),Inv X pins σ H s→RelV x v→RelV y u→t x y H Q →
  wpAny (model X.prog X.w) X.A (inplaceOp op v u) (EP X pins σ Q) X.xe s
section
variable {X:Cx} {pos:Pos}
def a07 (i:Nat):TG:=fun v σ H Q=>Q (σ.set i (some v)) H
theorem j9 {i:Nat} {x:Str} (hN:X.N.Nodup) (hi:X.N[i]? = some x) (hx:Loc X.env.scope x) (hf:X.fn x=true∨X.env.scope.names.lookup x=some .local:=by first | exact .inl rfl | exact .inr rfl | assumption):PG X (.Name x pos) (a07 i):=by
 intro pins s σ H v u Q I r h
 exact wpAny_assign_Name (a5d I hN hi hx r (fun s' I'=>⟨_,H,I',h⟩) hf)
def auk:TGs:=fun vs σ H Q=>vs=[]∧Q σ H
def agp (t:TG) (u:TGs):TGs:=fun vs σ H Q=>∃ v r,vs=v::r∧t v σ H fun σ' H'=>u r σ' H' Q
theorem a8f:PGs X [] auk:=by
 intro pins s σ H vs us Q I r h
 obtain ⟨e,h⟩:=h
 subst e
 cases r
 exact assignInOrder_nil ⟨σ,H,I,h⟩
theorem a08 {e:Expr} {es:List Expr} {t:TG} {u:TGs} (h1:PG X e t) (h2:PGs X es u)
  (hs:(assignEach (e::es) X.env).map (·.2)=assign e X.env::(assignEach es X.env).map (·.2):=by rfl):PGs X (e::es) (agp t u):=by
 intro pins s σ H vs us Q I r h
 obtain ⟨v,vr,e1,h⟩:=h
 subst e1
 cases r with
 | cons r rr =>
  rw [hs]
  refine assignInOrder_cons (thn (h1 pins s σ H _ _ _ I r h) fun _ s1 ⟨σ1,H1,I1,q1⟩=>?_)
  exact h2 pins s1 σ1 H1 _ _ Q I1 rr q1
def a4h (K:PySem.W.Frag) (n:Nat) (t:TGs):TG:=fun v σ H Q=>∃ a xs,v = .ref a∧SqT K H a xs∧xs.length=n∧t xs σ H Q
theorem acz {es:List Expr} {k:Nat} {t:TGs} {n:Nat} (hc:X.calm=true) (h:PGs X es t)
  (hn:(assignEach es X.env).length=n:=by rfl) (hst:(assignEach es X.env).findIdx? (·.1)=none:=by rfl):PG X (.Tuple es k pos) (a4h X.K n t):=by
 intro pins s σ H v u Q I r hw
 obtain ⟨a,xs,e1,hq,hl,hw⟩:=hw
 subst e1
 cases r
 obtain ⟨its,rv,ht,hz⟩:=I.tuple hq
 refine assign_Tuple_tuple (I.ok.hd hc) ht (by simp [hn,← hl,rv.length]) hst fun h' hx=>?_
 have I1:Inv X pins σ H { s with heap:=h' }:=I.kept (t':=s.toks) fun b o e=>hx b o (Nat.ne_of_lt (Heap.lt_size e)) e
 exact h pins _ σ H xs _ Q I1 (by simpa using rv) hw
def ab2 (to ti:TE) (t:ao8):TG:=fun v σ H Q=>to σ H fun o H1=>ti σ H1 fun i H2=>t o i v H2 fun H3=>Q σ H3
theorem ao9 {o i:Expr} {to ti:TE} {t:ao8} (ho:PE X o to) (hi:PE X i ti) (hs:asu X t)
  (ha:∀ v,assign (.Subscript o i pos) X.env v=(do
   let ov ← holding [v] (eval o X.env)
   let iv ← holding [v,ov] (eval i X.env)
   standAt pos
   holding [v,ov,iv] (setItem ov iv v)
   release [v,ov,iv] []):=by intro _;rfl):PG X (.Subscript o i pos) (ab2 to ti t):=by
 intro pins s σ H v u Q I r h
 rw [ha]
 refine wpAny_bind (wpAny_holding (thn (ho pins s σ H _ I h) fun ov s1 ⟨x,H1,I1,r1,q1⟩=>?_))
 refine wpAny_bind (wpAny_holding (thn (hi pins s1 σ H1 _ I1 q1) fun iv s2 ⟨y,H2,I2,r2,q2⟩=>?_))
 refine wpAny_bind (wpAny_standAt (wpAny_bind (wpAny_holding (thn (hs pins s2 σ H2 x y v ov iv u _ I2 r1 r2 r q2) fun _ s3 ⟨H3,I3,q3⟩=>?_))))
 exact wpAny_release ⟨σ,H3,I3,q3⟩
def aoa (te:TE) (g:TG):TS:=fun D σ H=>te σ H fun x H1=>g x σ H1 D.nx
theorem aiv {tg e:Expr} {te:TE} {g:TG} (he:PE X e te) (hg:PG X tg g) (hs:swapsWithSole [tg] e pos.line X.env=pure false:=by rfl) (hw:swappedStores [tg] e X.env=pure none:=by rfl)
  (h1:(assignEach [tg] X.env).map (·.2)=[assign tg X.env]:=by rfl):PS X (.Assign [tg] e pos) (aoa te g):=by
 intro pins s σ H D I h
 refine wpAny_Assign_stores (thn (he pins s σ H _ I h) fun v s1 ⟨x,H1,I1,r1,q1⟩=>?_) hs hw
 rw [h1]
 exact thn (hg pins s1 σ H1 x v _ I1 r1 q1) fun _ s2 q=>q
theorem aob {i:Nat} {x:Str} {e:Expr} {te:TE} {pos':Pos} (hN:X.N.Nodup) (hi:X.N[i]? = some x) (hx:Loc X.env.scope x) (he:PE X e te) (hs:swapsWith e (some (.Name x pos')) pos.line X.env=pure false:=by rfl) (hf:X.fn x=true∨X.env.scope.names.lookup x=some .local:=by first | exact .inl rfl | exact .inr rfl | assumption) :
  PS X (.Assign [.Name x pos'] e pos) (aoa te (a07 i)):=by
 intro pins s σ H D I h
 refine wpAny_Assign_Name (thn (he pins s σ H _ I h) fun v s1 ⟨y,H1,I1,r1,q1⟩=>?_) hs
 exact a5d I1 hN hi hx r1 (fun s2 I2=>⟨_,H1,I2,q1⟩) hf
def avs (i:Nat) (te:TE) (ti:TIp):TS:=fun D σ H=>∃ x,σ[i]? = some (some x)∧te σ H fun y H1=>ti x y H1 fun z H2=>D.nx (σ.set i (some z)) H2
theorem aoc {i:Nat} {x:Str} {e:Expr} {te:TE} {op:Operator} {ti:TIp} {pos':Pos} (hN:X.N.Nodup) (hi:X.N[i]? = some x) (hx:Loc X.env.scope x) (he:PE X e te) (ho:PIp X op ti) (hf:X.fn x=true∨X.env.scope.names.lookup x=some .local:=by first | exact .inl rfl | exact .inr rfl | assumption) :
  PS X (.AugAssign (.Name x pos') op e pos) (avs i te ti):=by
 intro pins s σ H D I h
 obtain ⟨v,e1,h⟩:=h
 obtain ⟨m,hn,hl⟩:=I.loc
 have vis:Vis X.env.scope x:=by rcases hx with k | k;exact .inl k;exact .inr (.inl k)
 obtain ⟨u,r,l⟩:=hl i x v hi e1 vis
 refine wpAny_AugAssign_Name ?_
 have go:wpAny (model X.prog X.w) X.A (eval e X.env) (fun w s₂=>wpAny (model X.prog X.w) X.A (inplaceOp op u w) (fun r s₃=>wpAny (model X.prog X.w) X.A (storeName X.env x r) (fun _=>SP X pins D .next) X.xe s₃) X.xe s₂) X.xe s:=by
  refine thn (he pins s σ H _ I h) fun w s1 ⟨y,H1,I1,r1,q1⟩=>?_
  refine thn (ho pins s1 σ H1 v y u w _ I1 r r1 q1) fun z s2 ⟨zv,H2,I2,r2,q2⟩=>?_
  exact a5d I2 hN hi hx r2 (fun s3 I3=>⟨_,H2,I3,q2⟩) hf
 rcases l with ⟨hk,hm⟩ | ⟨hk,c,hc,hcell⟩
 ·exact wpAny_loadName_local I.ok.kind hk hn hm go
 ·rcases hk with hk | hk
  ·exact wpAny_loadName_cell I.ok.kind hk hc hcell go
  ·rcases hx with k | k
   ·have:X.env.scope.names.lookup x=some .free:=hk
    rw [k] at this;cases this
   ·have:X.env.scope.names.lookup x=some .free:=hk
    rw [k] at this;cases this
def asv (to ti te:TE) (tget:V→V→Hp→VK→Prop) (tip:TIp) (tset:ao8):TS:=fun D σ H=>to σ H fun o H1=>ti σ H1 fun i H2=>tget o i H2 fun x H3=>te σ H3 fun y H4=>tip x y H4 fun z H5=>tset o i z H5 fun H6=>D.nx σ H6
def aul (X:Cx) (t:V→V→Hp→VK→Prop):Prop :=
 ∀ (pins:List (Addr × Obj)) (s:Shared) (σ:St) (H:Hp) (o i:V) (ov iv:Value) (Q:VK),Inv X pins σ H s→RelV o ov→RelV i iv→t o i H Q →
  wpAny (model X.prog X.w) X.A (getItem ov iv) (EP X pins σ Q) X.xe s
theorem akg {o i e:Expr} {to ti te:TE} {tget:V→V→Hp→VK→Prop} {tip:TIp} {tset:ao8} {op:Operator} {tpos:Pos} (ho:PE X o to) (hi:PE X i ti) (hg:aul X tget) (he:PE X e te) (hp:PIp X op tip) (hs:asu X tset)
  (ha:∀ ov iv new,augStore i ov iv new=(do holding [new,ov,iv] (setItem ov iv new);release [new,ov,iv] [];pure .next):=by intros;rfl):PS X (.AugAssign (.Subscript o i tpos) op e pos) (asv to ti te tget tip tset):=by
 intro pins s σ H D I h
 refine wpAny_AugAssign_SubscriptAny (thn (ho pins s σ H _ I h) fun ov s1 ⟨x1,H1,I1,r1,q1⟩=>?_) ha
 refine thn (hi pins s1 σ H1 _ I1 q1) fun iv s2 ⟨x2,H2,I2,r2,q2⟩=>?_
 refine thn (hg pins s2 σ H2 x1 x2 ov iv _ I2 r1 r2 q2) fun old s3 ⟨x3,H3,I3,r3,q3⟩=>?_
 refine thn (he pins s3 σ H3 _ I3 q3) fun v s4 ⟨x4,H4,I4,r4,q4⟩=>?_
 refine thn (hp pins s4 σ H4 x3 x4 old v _ I4 r3 r4 q4) fun new s5 ⟨x5,H5,I5,r5,q5⟩=>?_
 exact thn (hs pins s5 σ H5 x1 x2 x5 ov iv new _ I5 r1 r2 r5 q5) fun _ s6 ⟨H6,I6,q6⟩=>⟨σ,H6,I6,q6⟩
end
section
variable {X:Cx} {pos:Pos}
def aod (c:TT) (tb:TS):TS:=fun D σ H=>∃ W:Nat→St→Hp→Prop,(∃ m,W m σ H)∧∀ m σ H,W m σ H →
 c σ H fun b H1=>if b=true then ∃ N:St→Hp→Prop,(∀ σ' H',N σ' H'→∃ m',m'<m∧W m' σ' H')∧tb { D with nx:=N,ct:=N,bk:=D.nx } σ H1 else D.nx σ H1
theorem agq {c:Expr} {body:List Stmt} {tc:TT} {tb:TS} (hp:PassesOwn (model X.prog X.w) X.A X.env X.xe) (hc:PT X c tc) (hb:PSs X body tb):PS X (.While c body [] pos) (aod tc tb):=by
 intro pins s σ H D I h
 obtain ⟨W,⟨m0,w0⟩,turn⟩:=h
 refine wpAny_While (codeAny_whileLoop (fun n s'=>∃ σ' H',Inv X pins σ' H' s'∧W n σ' H') ?_ m0 ⟨σ,H,I,w0⟩)
 rintro n s1 ⟨σ1,H1,I1,w1⟩
 refine wpAny_passesOwn hp (thn (hc pins s1 σ1 H1 _ I1 (turn n σ1 H1 w1)) fun b s2 ⟨H2,I2,q2⟩=>?_)
 cases b with
 | true =>
  obtain ⟨N,hN,q2⟩:=q2
  rw [if_pos rfl]
  refine wpAny_passesOwn hp (thn (hb pins s2 σ1 H2 _ I2 q2) fun f s3 q3=>?_)
  cases f with
  | next =>
   obtain ⟨σ3,H3,I3,n3⟩:=q3
   obtain ⟨m',hm,w3⟩:=hN σ3 H3 n3
   exact ⟨m',hm,σ3,H3,I3,w3⟩
  | cont =>
   obtain ⟨σ3,H3,I3,n3⟩:=q3
   obtain ⟨m',hm,w3⟩:=hN σ3 H3 n3
   exact ⟨m',hm,σ3,H3,I3,w3⟩
  | brk=>exact q3
  | ret v=>exact q3
 | false =>
  rw [if_neg Bool.false_ne_true]
  exact wpAny_execs_nil ⟨σ1,H2,I2,q2⟩
end
structure It where
 go:Nat→Hp→Prop
 yld:Nat→Hp→V→Hp→Prop
 stop:Nat→Hp→Prop
def FpOk (X:Cx) (pins:List (Addr × Obj)) (H:Hp) (b:Addr):Prop :=
 H b=none∧b≠X.env.locals∧b ∉ X.fs∧(b∈X.ex∨X.s₀.heap.objs.size≤b)∧(∀ x c,X.env.cells.lookup x=some c→c≠b)∧∀ p∈X.pn++pins,p.1≠b
theorem Inv.fpOk {X:Cx} {pins:List (Addr × Obj)} {σ:St} {H H':Hp} {s:Shared} {b:Addr} (I:Inv X pins σ H s) (hb:s.heap.objs.size≤b) (hn:H' b=none):FpOk X pins H' b:=by
 refine ⟨hn,Nat.ne_of_gt (Nat.lt_of_lt_of_le I.lt hb),I.nofs hb, .inr (Nat.le_trans I.sz hb),fun x c e z=>?_,fun p hp z=>?_⟩
 ·obtain ⟨v,q⟩:=I.cell x c e
  exact absurd (Nat.lt_of_lt_of_le q.lt (by rw [z];exact hb)) (Nat.lt_irrefl _)
 ·exact absurd (Nat.lt_of_lt_of_le (Heap.lt_size (I.pin p hp).1) (by rw [z];exact hb)) (Nat.lt_irrefl _)
structure Turn (P:Program) (w:World) (K:PySem.W.Frag) (tg:Expr) (J:It) (fp:List Addr) (it:Addr) (tn:Nat→Heap→Prop):Prop where
 mem:it∈fp
 obj:∀ i h,tn i h→∀ b∈fp,∃ o,h.get? b=some o∧∀ v,o.data≠.cell v
 keep:∀ i h h',tn i h→(∀ b∈fp,∀ o,h.get? b=some o→h'.get? b=some o)→tn i h'
 item:∀ (X:Cx),X.prog=P→X.w=w→X.K=K→X.calm=true→∀ (i:Nat) (pins:List (Addr × Obj)) (s:Shared) (σ:St) (H:Hp) (E:Value→Shared→Prop),Inv X pins σ H s→(∀ b∈fp,FpOk X pins H b)→tn i s.heap→J.go i H →
  wpAny (model P w) X.A (pyNext (.ref it)) (fun r s1=>∃ u,r=some u ∧
   wpAny (model P w) X.A (letOwnedTupleGo tg (.ref it) u) (fun _ s2=>∃ x H',Inv X pins σ H' s2∧RelV x u∧J.yld i H x H'∧tn (i+1) s2.heap∧∀ b∈fp,H' b=none) E s1) E s
 done:∀ (X:Cx),X.prog=P→X.w=w→X.K=K→X.calm=true→∀ (i:Nat) (pins:List (Addr × Obj)) (s:Shared) (σ:St) (H:Hp) (E:Value→Shared→Prop),Inv X pins σ H s→(∀ b∈fp,FpOk X pins H b)→tn i s.heap→J.stop i H →
  wpAny (model P w) X.A (pyNext (.ref it)) (fun r s1=>r=none∧Inv X pins σ H s1) E s
 self:∀ (A:Around) (i:Nat) (s:Shared) (Q:Value→Shared→Prop) (E:Value→Shared→Prop),tn i s.heap→Q (.ref it) s→wpAny (model P w) A (pyIter (.ref it)) Q E s
abbrev TI:=St→Hp→(It→Hp→Prop)→Prop
def PIE (X:Cx) (pins:List (Addr × Obj)) (σ:St) (tg:Expr) (R:It→Hp→Prop) (itv:Value) (s2:Shared):Prop :=
 ∃ (it:Addr) (fp:List Addr) (tn:Nat→Heap→Prop) (J:It) (H':Hp),itv = .ref it∧Inv X pins σ H' s2∧Turn X.prog X.w X.K tg J fp it tn∧tn 0 s2.heap∧(∀ b∈fp,FpOk X pins H' b)∧R J H'
def PI (X:Cx) (tg iter:Expr) (wi:TI):Prop :=
 ∀ (pins:List (Addr × Obj)) (s:Shared) (σ:St) (H:Hp) (R:It→Hp→Prop),Inv X pins σ H s→wi σ H R →
  wpAny (model X.prog X.w) X.A (eval iter X.env) (fun v s1=>wpAny (model X.prog X.w) X.A (pyIter v) (PIE X pins σ tg R) X.xe s1) X.xe s
theorem agr {M:Model} {A:Around} {E:Value→Shared→Prop} {s:Shared} {tg:Expr} {it:Addr} {u:Value} {o:Obj} {n:String} {vs:Array Value} {Q:Unit→Shared→Prop} (ho:s.heap.get? it=some o) (hc:o.cls = .type n) (hd:o.data = .fields vs)
  (hn:["enumerate", "zip", "dict_itemiterator", "dict_reverseitemiterator", "odict_iterator", "itertools.zip_longest", "itertools.pairwise"].contains n=false) (hQ:Q () s):wpAny M A (letOwnedTupleGo tg (.ref it) u) Q E s:=by
 unfold letOwnedTupleGo
 cases tg<;>first
  | exact wpAny_pure hQ
  | (cases u<;>first
    | exact wpAny_pure hQ
    | (refine wpAny_bind (wpAny_load ho ?_)
       rw [hc,hd]
       show wpAny M A (if (["enumerate", "zip", "dict_itemiterator", "dict_reverseitemiterator", "odict_iterator", "itertools.zip_longest", "itertools.pairwise"].contains n && vs[0]? == some (rawInt _))=true then _ else _) Q E s
       rw [if_neg (by intro h;rw [hn,Bool.false_and] at h;cases h)]
       exact wpAny_pure hQ))
def Itl (K:PySem.W.Frag) (a:Addr):It :=
 ⟨fun i H=>∃ xs x,SqL K H a xs∧xs[i]? = some x,fun i H x H'=>H'=H∧∀ xs,SqL K H a xs→xs[i]? = some x,fun i H=>∃ xs,SqL K H a xs∧xs.length≤i⟩
def Itt (K:PySem.W.Frag) (a:Addr):It :=
 ⟨fun i H=>∃ xs x,SqT K H a xs∧xs[i]? = some x,fun i H x H'=>H'=H∧∀ xs,SqT K H a xs→xs[i]? = some x,fun i H=>∃ xs,SqT K H a xs∧xs.length≤i⟩
def Itr (lo:Int) (n:Nat):It:=⟨fun i _=>i<n,fun i H x H'=>H'=H∧x = .int (lo+i),fun i _=>n≤i⟩
theorem ad0 {P:Program} {w:World} {K:PySem.W.Frag} {tg:Expr} (a it:Addr):Turn P w K tg (Itl K a) [it] it (fun i h=>h.IsListIter it a i) where
 mem:=by simp
 obj:=fun i h st b hb=>by
  have e:b=it:=by simpa using hb
  subst e
  obtain ⟨o,e,c,d⟩:=st
  exact ⟨o,e,fun v z=>by rw [d] at z;cases z⟩
 keep:=fun i h h' st k=>st.at fun o e=>k it (by simp) o e
 item:=by
  intro X hP hw hK hc i pins s σ H E I hf st hg
  subst hP hw hK
  obtain ⟨xs,x,hq,hx⟩:=hg
  obtain ⟨its,rv,p,hz⟩:=I.list hq
  obtain ⟨u,hu,ru⟩:=rv.get hx
  obtain ⟨f0,f1,f2,f3,f4,f5⟩:=hf it (by simp)
  refine wpAny_pyNext_list_item st p.isList (x:=u) (by simpa using hu) fun h' st' sb=>?_
  have I1:Inv X pins σ H { s with heap:=h' }:=I.turned (t':=s.toks) (fun b o hb e=>(sb.2 b hb).trans e) f0 f1 f3 f4 f5
  obtain ⟨o,e,c,d⟩:=id st'
  exact ⟨u,rfl,agr (s:={ s with heap:=h' }) e c d (by decide) ⟨x,H,I1,ru,⟨rfl,fun ys hy=>by rw [I.list_inj hy hq];exact hx⟩,st',fun b hb=>(hf b hb).1⟩⟩
 done:=by
  intro X hP hw hK hc i pins s σ H E I hf st hg
  subst hP hw hK
  obtain ⟨xs,hq,hx⟩:=hg
  obtain ⟨its,rv,p,hz⟩:=I.list hq
  obtain ⟨f0,f1,f2,f3,f4,f5⟩:=hf it (by simp)
  have hl:=rv.length
  exact wpAny_pyNext_list_end (I.ok.hd hc) st p.isList (by simp;omega) fun h' eb=>⟨rfl,I.turned (t':=s.toks) (fun b o hb e=>eb b o hb e) f0 f1 f3 f4 f5⟩
 self:=fun _ _ _ _ _ st h=>wpAny_pyIter_listiter st h
theorem ab3 {P:Program} {w:World} {K:PySem.W.Frag} {tg:Expr} (a it:Addr):Turn P w K tg (Itt K a) [it] it (fun i h=>h.IsTupleIter it a i) where
 mem:=by simp
 obj:=fun i h st b hb=>by
  have e:b=it:=by simpa using hb
  subst e
  obtain ⟨o,e,c,d⟩:=st
  exact ⟨o,e,fun v z=>by rw [d] at z;cases z⟩
 keep:=fun i h h' st k=>st.at fun o e=>k it (by simp) o e
 item:=by
  intro X hP hw hK hc i pins s σ H E I hf st hg
  subst hP hw hK
  obtain ⟨xs,x,hq,hx⟩:=hg
  obtain ⟨its,rv,p,hz⟩:=I.tuple hq
  obtain ⟨u,hu,ru⟩:=rv.get hx
  obtain ⟨f0,f1,f2,f3,f4,f5⟩:=hf it (by simp)
  refine wpAny_pyNext_tuple_item st (show s.heap.IsTuple a its.toArray from p) (x:=u) (by simpa using hu) fun h' st' sb=>?_
  have I1:Inv X pins σ H { s with heap:=h' }:=I.turned (t':=s.toks) (fun b o hb e=>(sb.2 b hb).trans e) f0 f1 f3 f4 f5
  obtain ⟨o,e,c,d⟩:=id st'
  exact ⟨u,rfl,agr (s:={ s with heap:=h' }) e c d (by decide) ⟨x,H,I1,ru,⟨rfl,fun ys hy=>by rw [I.tuple_inj hy hq];exact hx⟩,st',fun b hb=>(hf b hb).1⟩⟩
 done:=by
  intro X hP hw hK hc i pins s σ H E I hf st hg
  subst hP hw hK
  obtain ⟨xs,hq,hx⟩:=hg
  obtain ⟨its,rv,p,hz⟩:=I.tuple hq
  obtain ⟨f0,f1,f2,f3,f4,f5⟩:=hf it (by simp)
  have hl:=rv.length
  exact wpAny_pyNext_tuple_end (I.ok.hd hc) st (show s.heap.IsTuple a its.toArray from p) (by simp;omega) fun h' eb=>⟨rfl,I.turned (t':=s.toks) (fun b o hb e=>eb b o hb e) f0 f1 f3 f4 f5⟩
 self:=fun _ _ _ _ _ st h=>wpAny_pyIter_tupleiter st h
theorem ab4 {P:Program} {w:World} {K:PySem.W.Frag} {tg:Expr} (it:Addr) (lo:Int) (n:Nat):Turn P w K tg (Itr lo n) [it] it (fun i h=>IsRangeIter h it (lo+(i:Nat)*1) ((n:Int) - (i:Nat)) 1) where
 mem:=by simp
 obj:=fun i h st b hb=>by
  have e:b=it:=by simpa using hb
  subst e
  exact ⟨_,st,fun v z=>by
   have z':Data.fields _=Data.cell v:=z
   cases z'⟩
 keep:=fun i h h' st k=>k it (by simp) _ st
 item:=by
  intro X hP hw hK hc i pins s σ H E I hf st hg
  subst hP hw hK
  obtain ⟨f0,f1,f2,f3,f4,f5⟩:=hf it (by simp)
  have W:=Walks.range (prog:=X.prog) (w:=X.w) (I.ok.hd hc) it lo 1 n
  refine W.item i s _ _ hg st fun v h' tk hv st' kk=>?_
  obtain ⟨t,rfl⟩:=hv
  have I1:Inv X pins σ H { s with heap:=h',toks:=tk }:=I.turned (fun b o hb e=>kk b o (by simpa using hb) e) f0 f1 f3 f4 f5
  refine ⟨_,rfl,agr (s:={ s with heap:=h',toks:=tk }) (n := "range_iterator") st' rfl rfl (by decide) ⟨.int (lo+i),H,I1,⟨t,?_⟩,⟨rfl,rfl⟩,st',fun b hb=>(hf b hb).1⟩⟩
  rw [Int.mul_one]
 done:=by
  intro X hP hw hK hc i pins s σ H E I hf st hg
  subst hP hw hK
  obtain ⟨f0,f1,f2,f3,f4,f5⟩:=hf it (by simp)
  exact wpAny_pyNext_range_end (I.ok.hd hc) st (by have:n≤i:=hg;omega) fun h' eb=>⟨rfl,I.turned (t':=s.toks) (fun b o hb e=>eb b o hb e) f0 f1 f3 f4 f5⟩
 self:=fun _ _ _ _ _ st h=>wpAny_pyIter_rangeiter st h
end L2
namespace L2
open PySem PySem.Spec PyProof.Rows
section
variable {X:Cx} {tg:Expr}
def asw (K:PySem.W.Frag) (tl:TE):TI:=fun σ H R=>tl σ H fun x H1=>∃ a,x = .ref a∧(∃ xs,SqL K H1 a xs)∧R (Itl K a) H1
def avt (K:PySem.W.Frag) (tl:TE):TI:=fun σ H R=>tl σ H fun x H1=>∃ a,x = .ref a∧(∃ xs,SqT K H1 a xs)∧R (Itt K a) H1
theorem ad1 {l:Expr} {tl:TE} (hl:PE X l tl):PI X tg l (asw X.K tl):=by
 intro pins s σ H R I h
 refine thn (hl pins s σ H _ I h) fun v s1 ⟨x,H1,I1,r1,q1⟩=>?_
 obtain ⟨a,e,⟨xs,hq⟩,q⟩:=q1
 subst e
 cases r1
 obtain ⟨its,rv,p,hz⟩:=I1.list hq
 refine wpAny_pyIter_list p.isList ?_
 refine ⟨s1.heap.objs.size,[s1.heap.objs.size],_,_,H1,rfl,I1.kept (t':=s1.toks) fun b o e=>Heap.get?_push_of_some _ e,ad0 a _,⟨_,Heap.get?_push_size _ rfl,rfl,rfl⟩,fun b hb=>?_,q⟩
 have e:b=s1.heap.objs.size:=by simpa using hb
 subst e
 exact I1.fpOk (Nat.le_refl _) (I1.hok.fresh (Nat.le_refl _))
theorem aoe {l:Expr} {tl:TE} (hl:PE X l tl):PI X tg l (avt X.K tl):=by
 intro pins s σ H R I h
 refine thn (hl pins s σ H _ I h) fun v s1 ⟨x,H1,I1,r1,q1⟩=>?_
 obtain ⟨a,e,⟨xs,hq⟩,q⟩:=q1
 subst e
 cases r1
 obtain ⟨its,rv,p,hz⟩:=I1.tuple hq
 refine wpAny_pyIter_tuple (show s1.heap.IsTuple a its.toArray from p) ?_
 refine ⟨s1.heap.objs.size,[s1.heap.objs.size],_,_,H1,rfl,I1.kept (t':=s1.toks) fun b o e=>Heap.get?_push_of_some _ e,ab3 a _,⟨_,Heap.get?_push_size _ rfl,rfl,rfl⟩,fun b hb=>?_,q⟩
 have e:b=s1.heap.objs.size:=by simpa using hb
 subst e
 exact I1.fpOk (Nat.le_refl _) (I1.hok.fresh (Nat.le_refl _))
theorem a9g {pins:List (Addr × Obj)} {σ:St} {H:Hp} {s:Shared} {R:It→Hp→Prop} {E:Value→Shared→Prop} {lo hi:Int} {t u v:Tok} {tk:Nat} (I:Inv X pins σ H s) (h1 : -(2 ^ 62)≤lo) (h2:lo<2 ^ 62) (h3 : -(2 ^ 62)≤hi) (h4:hi<2 ^ 62)
  (q:R (Itr lo (hi - lo).toNat) H):wpAny (model X.prog X.w) X.A (pyIter (.ref s.heap.objs.size)) (PIE X pins σ tg R) E { s with heap:=s.heap.push { cls:=.type "range",data:=.fields #[.int lo t, .int hi u, .int 1 v] },toks:=tk }:=by
 refine wpAny_pyIter_range (IsRange.new ..) (small_one h1 h2 h3 h4) ?_
 have I1:Inv X pins σ H { s with heap:=s.heap.push { cls:=.type "range",data:=.fields #[.int lo t, .int hi u, .int 1 v] },toks:=tk }:=I.kept fun b o e=>Heap.get?_push_of_some _ e
 refine ⟨(s.heap.push { cls:=.type "range",data:=.fields #[.int lo t, .int hi u, .int 1 v] }).objs.size,[(s.heap.push { cls:=.type "range",data:=.fields #[.int lo t, .int hi u, .int 1 v] }).objs.size],_,_,H,rfl,
  I1.kept (t':=tk) fun b o e=>Heap.get?_push_of_some _ e,ab4 _ lo (hi - lo).toNat,?_,fun b hb=>?_,q⟩
 ·have e1:lo+((0:Nat):Int)*1=lo:=by simp
  have e2:(((hi - lo).toNat:Nat):Int) - ((0:Nat):Int)=Builtin.Range.rangeSize lo hi 1:=by rw [rangeSize_one];split<;>omega
  show IsRangeIter _ _ (lo+((0:Nat):Int)*1) ((((hi - lo).toNat:Nat):Int) - ((0:Nat):Int)) 1
  rw [e1,e2]
  exact Heap.get?_push_size _ rfl
 ·have e:b=(s.heap.push { cls:=.type "range",data:=.fields #[.int lo t, .int hi u, .int 1 v] }).objs.size:=by simpa using hb
  subst e
  exact I1.fpOk (Nat.le_refl _) (I1.hok.fresh (Nat.le_refl _))
def asx (ta:TA):TI:=fun σ H R=>ta σ H fun vs H1=>∃ j:Int,vs=[.int j] ∧ -(2 ^ 62)≤j∧j<2 ^ 62∧R (Itr 0 j.toNat) H1
def asy (ta:TA):TI:=fun σ H R=>ta σ H fun vs H1=>∃ i j:Int,vs=[.int i, .int j]∧(-(2 ^ 62)≤i∧i<2 ^ 62 ∧ -(2 ^ 62)≤j∧j<2 ^ 62)∧R (Itr i (j - i).toNat) H1
theorem ad2 {a:Expr} {ta:TA} {p pos:Pos} (hg:Gl X "range") (hm:X.mg "range" = none) (ha:PA X [a] ta) (hs:starEach [a] X.env=[(false,eval a X.env)]:=by rfl):PI X tg (.Call (.Name "range" p) [a] [] pos) (asx ta):=by
 intro pins s σ H R I h
 refine Call_ (a2n I hg hm boot_range (PyProof.Rows.callWith_type1 (thn (ha pos pins s σ H _ I h) fun us s1 ⟨vs,H1,I1,r1,q1⟩=>?_) hs rfl))
 obtain ⟨j,e,q1,q2,q⟩:=q1
 subst e
 cases r1 with
 | cons r rr =>
  cases rr
  obtain ⟨t,rfl⟩:=r
  exact call_range_1 (a9g I1 (by omega) (by omega) q1 q2 (by simpa using q))
theorem ad3 {a b:Expr} {ta:TA} {p pos:Pos} (hg:Gl X "range") (hm:X.mg "range" = none) (ha:PA X [a,b] ta) (hs:starEach [a,b] X.env=[(false,eval a X.env),(false,eval b X.env)]:=by rfl) (hs2:starEach [b] X.env=[(false,eval b X.env)]:=by rfl) :
  PI X tg (.Call (.Name "range" p) [a,b] [] pos) (asy ta):=by
 intro pins s σ H R I h
 refine Call_ (a2n I hg hm boot_range (PyProof.Rows.callWith_type1 (thn (ha pos pins s σ H _ I h) fun us s1 ⟨vs,H1,I1,r1,q1⟩=>?_) (by rw [hs,hs2]) (by rw [hs2];rfl)))
 obtain ⟨i,j,e,⟨q1,q2,q3,q4⟩,q⟩:=q1
 subst e
 cases r1 with
 | cons r rr =>
  cases rr with
  | cons r' rr =>
   cases rr
   obtain ⟨t,rfl⟩:=r
   obtain ⟨t',rfl⟩:=r'
   exact call_range_2 (a9g I1 q1 q2 q3 q4 q)
def avu (wi:TI) (g:TG) (tb:TS):TS:=fun D σ H=>wi σ H fun J H1=>∃ W:Nat→Nat→St→Hp→Prop,(∃ m,W 0 m σ H1)∧∀ i m σ H,W i m σ H →
 (J.stop i H∧D.nx σ H)∨(J.go i H∧∃ N:St→Hp→Prop,(∀ σ' H',N σ' H'→∃ m',m'<m∧W (i+1) m' σ' H')∧∀ x H',J.yld i H x H'→g x σ H' fun σ2 H2=>tb { D with nx:=N,ct:=N,bk:=D.nx } σ2 H2)
def o6 (fp:List Addr) (h:Heap):List (Addr × Obj):=fp.filterMap fun b=>(h.get? b).map fun o=>(b,o)
theorem gj {fp:List Addr} {h:Heap} {b:Addr} {o:Obj} (hb:b∈fp) (e:h.get? b=some o):(b,o)∈o6 fp h:=List.mem_filterMap.mpr ⟨b,hb,by rw [e];rfl⟩
theorem a6t {fp:List Addr} {h:Heap} {p:Addr × Obj} (hp:p∈o6 fp h):p.1∈fp∧h.get? p.1=some p.2:=by
 obtain ⟨b,hb,e⟩:=List.mem_filterMap.mp hp
 cases q:h.get? b with
 | none=>rw [q] at e;cases e
 | some o =>
  rw [q] at e
  have e':(b,o)=p:=Option.some.inj e
  subst e'
  exact ⟨hb,q⟩
theorem Inv.pinned {pins:List (Addr × Obj)} {σ:St} {H:Hp} {s:Shared} {fp:List Addr} (I:Inv X pins σ H s) (hf:∀ b∈fp,FpOk X pins H b) (ho:∀ b∈fp,∃ o,s.heap.get? b=some o∧∀ v,o.data≠.cell v):Inv X (pins++o6 fp s.heap) σ H s :=
 I.pins_of fun p hp=>(List.mem_append.mp hp).elim (fun z=>I.pin p (List.mem_append_right _ z)) fun z=>by
  obtain ⟨hb,e⟩:=a6t z
  obtain ⟨f0,f1,f2,_⟩:=hf p.1 hb
  obtain ⟨o,e',d⟩:=ho p.1 hb
  rw [e] at e';cases e'
  exact ⟨e,f0,f1,f2,d⟩
theorem Inv.unpinned {pins pl:List (Addr × Obj)} {σ:St} {H:Hp} {s:Shared} (I:Inv X (pins++pl) σ H s):Inv X pins σ H s:=I.pins_of fun p hp=>I.pin p (List.mem_append_right _ (List.mem_append_left _ hp))
theorem aof {iter:Expr} {body:List Stmt} {wi:TI} {g:TG} {tb:TS} {pos:Pos} (hp:PassesOwn (model X.prog X.w) X.A X.env X.xe) (hc:X.calm=true) (hi:PI X tg iter wi) (hg:PG X tg g) (hb:PSs X body tb)
  (hs:∀ x,foldedSetIterable iter X.env x=pure x:=by intro _;rfl):PS X (.For tg iter body [] pos) (avu wi g tb):=by
 intro pins s σ H D I h
 refine wpAny_For (thn (hi pins s σ H _ I h) fun v s1 h1=>thn h1 fun itv s2 h2=>?_) hs
 obtain ⟨it,fp,tn,J,H2,e,I2,T,st2,f2,W,⟨m0,w0⟩,turn⟩:=h2
 subst e
 have stat:∀ {H':Hp},(∀ b∈fp,H' b=none)→∀ b∈fp,FpOk X pins H' b:=fun hn b hb=>⟨hn b hb,(f2 b hb).2⟩
 refine codeAny_forLoop_any (fun n s'=>∃ i σ' H',Inv X pins σ' H' s'∧tn i s'.heap∧(∀ b∈fp,H' b=none)∧W i n σ' H') ?_ m0 ⟨0,σ,H2,I2,st2,fun b hb=>(f2 b hb).1,w0⟩
 rintro n s3 ⟨i,σ3,H3,I3,st3,fr3,w3⟩
 rcases turn i n σ3 H3 w3 with ⟨stop,qn⟩ | ⟨go,N,hN,step⟩
 ·refine wpAny_passesOwn hp (thn (T.done X rfl rfl rfl hc i pins s3 σ3 H3 X.xe I3 (stat fr3) st3 stop) fun r s4 ⟨hr,I4⟩=>?_)
  subst hr
  exact wpAny_execs_nil ⟨σ3,H3,I4,qn⟩
 ·refine wpAny_passesOwn hp (thn (T.item X rfl rfl rfl hc i pins s3 σ3 H3 X.xe I3 (stat fr3) st3 go) fun r s4 ⟨u,hr,h4⟩=>?_)
  subst hr
  refine wpAny_passesOwn hp (thn h4 fun _ s5 ⟨x,H5,I5,r5,y5,st5,fr5⟩=>?_)
  have I5':=I5.pinned (stat fr5) (T.obj _ _ st5)
  refine wpAny_passesOwn hp (thn (hg _ s5 σ3 H5 x u _ I5' r5 (step x H5 y5)) fun _ s6 ⟨σ6,H6,I6,q6⟩=>?_)
  refine wpAny_passesOwn hp (thn (hb _ s6 σ6 H6 _ I6 q6) fun f s7 q7=>?_)
  have again:∀ {σ7:St} {H7:Hp},Inv X (pins++o6 fp s5.heap) σ7 H7 s7→N σ7 H7→∃ m,m<n∧∃ i σ' H',Inv X pins σ' H' s7∧tn i s7.heap∧(∀ b∈fp,H' b=none)∧W i m σ' H':=fun {σ7 H7} I7 n7=>by
   obtain ⟨m',hm,w7⟩:=hN σ7 H7 n7
   refine ⟨m',hm,i+1,σ7,H7,I7.unpinned,T.keep _ _ _ st5 fun b hb o e=>(I7.pin (b,o) (List.mem_append_right _ (List.mem_append_right _ (gj hb e)))).1,fun b hb=>?_,w7⟩
   obtain ⟨o,e,d⟩:=T.obj _ _ st5 b hb
   exact (I7.pin (b,o) (List.mem_append_right _ (List.mem_append_right _ (gj hb e)))).2.1
  cases f with
  | next=>obtain ⟨σ7,H7,I7,n7⟩:=q7;exact again I7 n7
  | cont=>obtain ⟨σ7,H7,I7,n7⟩:=q7;exact again I7 n7
  | brk=>obtain ⟨σ7,H7,I7,q7⟩:=q7;exact ⟨σ7,H7,I7.unpinned,q7⟩
  | ret v=>obtain ⟨x7,σ7,H7,I7,r7,q7⟩:=q7;exact ⟨x7,σ7,H7,I7.unpinned,r7,q7⟩
end
end L2
namespace L2
open PySem PySem.Spec PyProof.Rows
abbrev R2:=V→V→Hp→VK→Prop
def OpR (X:Cx) (f:Value→Value→Sem Value) (r:R2):Prop :=
 ∀ (pins:List (Addr × Obj)) (s:Shared) (σ:St) (H:Hp) (x y:V) (v u:Value) (Q:VK),Inv X pins σ H s→RelV x v→RelV y u→r x y H Q →
  wpAny (model X.prog X.w) X.A (f v u) (EP X pins σ Q) X.xe s
def UnR (X:Cx) (f:Value→Sem Value) (r:V→Hp→VK→Prop):Prop :=
 ∀ (pins:List (Addr × Obj)) (s:Shared) (σ:St) (H:Hp) (x:V) (v:Value) (Q:VK),Inv X pins σ H s→RelV x v→r x H Q →
  wpAny (model X.prog X.w) X.A (f v) (EP X pins σ Q) X.xe s
def CallR (X:Cx) (f:Value) (r:List V→Hp→VK→Prop):Prop :=
 ∀ (pins:List (Addr × Obj)) (s:Shared) (σ:St) (H:Hp) (xs:List V) (us:List Value) (Q:VK),Inv X pins σ H s→Vals xs us→r xs H Q →
  wpAny (model X.prog X.w) X.A (call f us) (EP X pins σ Q) X.xe s
def avv (X:Cx) (r:V→Hp→(Bool→Hp→Prop)→Prop):Prop :=
 ∀ (pins:List (Addr × Obj)) (s:Shared) (σ:St) (H:Hp) (x:V) (v:Value) (Q:Bool→Hp→Prop),Inv X pins σ H s→RelV x v→r x H Q →
  wpAny (model X.prog X.w) X.A (truthy v) (TP X pins σ Q) X.xe s
def tOp (r:R2) (ta tb:TE):TE:=fun σ H Q=>ta σ H fun x H1=>tb σ H1 fun y H2=>r x y H2 Q
def tUn (r:V→Hp→VK→Prop) (ta:TE):TE:=fun σ H Q=>ta σ H fun x H1=>r x H1 Q
def rI (C:Int→Int→Prop) (g:Int→Int→V):R2:=fun x y H Q=>∃ i j,x = .int i∧y = .int j∧C i j∧Q (g i j) H
def rI0 (g:Int→Int→V):R2:=fun x y H Q=>∃ i j,x = .int i∧y = .int j∧Q (g i j) H
def rU (g:Int→V):V→Hp→VK→Prop:=fun x H Q=>∃ i,x = .int i∧Q (g i) H
section
variable {X:Cx} {a b c:Expr} {ta tb tc:TE} {pos:Pos}
theorem asz (ha:PE X a ta) (hb:PE X b tb) {pins:List (Addr × Obj)} {s:Shared} {σ:St} {H:Hp} {R:V→V→Hp→Prop} (I:Inv X pins σ H s)
  (h:ta σ H fun x H1=>tb σ H1 fun y H2=>R x y H2) {Q:Value→Shared→Prop} {f:Value→Value→Sem Value}
  (hf:∀ v u s2 x y H2,Inv X pins σ H2 s2→RelV x v→RelV y u→R x y H2→wpAny (model X.prog X.w) X.A (f v u) Q X.xe s2) :
  wpAny (model X.prog X.w) X.A (eval a X.env) (fun v s₁=>wpAny (model X.prog X.w) X.A (eval b X.env) (fun u s₂=>wpAny (model X.prog X.w) X.A (f v u) Q X.xe s₂) X.xe s₁) X.xe s:=by
 refine thn (ha pins s σ H _ I h) fun v s1 ⟨x,H1,I1,r1,q1⟩=>?_
 refine thn (hb pins s1 σ H1 _ I1 q1) fun u s2 ⟨y,H2,I2,r2,q2⟩=>?_
 exact hf v u s2 x y H2 I2 r1 r2 q2
theorem at5 {op:Operator} {r:R2} (ho:OpR X (binaryOp op) r) (ha:PE X a ta) (hb:PE X b tb):PE X (.BinOp a op b pos) (tOp r ta tb):=by
 intro pins s σ H Q I h
 exact wpAny_BinOp (asz ha hb I h fun v u s2 x y H2 I2 rx ry q=>ho pins s2 σ H2 x y v u Q I2 rx ry q)
theorem at6 {op:UnaryOp} {r:V→Hp→VK→Prop} (ho:UnR X (unaryOp op) r) (ha:PE X a ta):PE X (.UnaryOp op a pos) (tUn r ta):=by
 intro pins s σ H Q I h
 exact UnaryOp_ (thn (ha pins s σ H _ I h) fun v s1 ⟨x,H1,I1,r1,q1⟩=>ho pins s1 σ H1 x v Q I1 r1 q1)
theorem opI {f:Value→Value→Sem Value} {C:Int→Int→Prop} {g:Int→Int→Int}
  (rule:∀ (i j:Int) (t u:Tok) (s:Shared) (Q:Value→Shared→Prop) (E:Value→Shared→Prop),C i j→Q (.int (g i j) s.toks) { s with toks:=s.toks+1 }→wpAny (model X.prog X.w) X.A (f (.int i t) (.int j u)) Q E s) :
  OpR X f (rI C fun i j=>.int (g i j)):=by
 intro pins s σ H x y v u Q I rx ry h
 obtain ⟨i,j,rfl,rfl,hc,q⟩:=h
 obtain ⟨t,rfl⟩:=rx
 obtain ⟨t',rfl⟩:=ry
 exact rule i j t t' s _ _ hc ⟨.int (g i j),H,I.tok _,⟨_,rfl⟩,q⟩
theorem at7 {f:Value→Value→Sem Value} {g:Int→Int→Int}
  (rule:∀ (i j:Int) (t u:Tok) (s:Shared) (Q:Value→Shared→Prop) (E:Value→Shared→Prop),Q (.int (g i j) s.toks) { s with toks:=s.toks+1 }→wpAny (model X.prog X.w) X.A (f (.int i t) (.int j u)) Q E s) :
  OpR X f (rI0 fun i j=>.int (g i j)):=by
 intro pins s σ H x y v u Q I rx ry h
 obtain ⟨i,j,rfl,rfl,q⟩:=h
 obtain ⟨t,rfl⟩:=rx
 obtain ⟨t',rfl⟩:=ry
 exact rule i j t t' s _ _ ⟨.int (g i j),H,I.tok _,⟨_,rfl⟩,q⟩
theorem arx {f:Value→Value→Sem Value} {g:Int→Int→Bool}
  (rule:∀ (i j:Int) (t u:Tok) (s:Shared) (Q:Value→Shared→Prop) (E:Value→Shared→Prop),Q (.bool (g i j)) s→wpAny (model X.prog X.w) X.A (f (.int i t) (.int j u)) Q E s) :
  OpR X f (rI0 fun i j=>.bl (g i j)):=by
 intro pins s σ H x y v u Q I rx ry h
 obtain ⟨i,j,rfl,rfl,q⟩:=h
 obtain ⟨t,rfl⟩:=rx
 obtain ⟨t',rfl⟩:=ry
 exact rule i j t t' s _ _ ⟨.bl (g i j),H,I,rfl,q⟩
def at8 (i j:Int):Prop:=0<j∧j<1073741824
def aum (i j:Int):Prop:=0≤j∧j≤1000000∧i.natAbs<2 ^ 64
def CMul (i j:Int):Prop:=(-(2 ^ 64)<i∧i<2 ^ 64)∨(-(2 ^ 64)<j∧j<2 ^ 64)
theorem CMul.ok {i j:Int} (h:CMul i j):IntMulOk i j:=by
 rcases h with ⟨h1,h2⟩ | ⟨h1,h2⟩
 ·exact .of_left (intBits_le_64 h1 h2)
 ·exact .of_right (intBits_le_64 h1 h2)
theorem aog:OpR X (binaryOp .Add) (rI0 fun i j=>.int (i+j)):=at7 fun _ _ _ _ _ _ _ q=>add_int q
theorem aoh:OpR X (binaryOp .Sub) (rI0 fun i j=>.int (i - j)):=at7 fun _ _ _ _ _ _ _ q=>sub_int q
theorem aoi:OpR X (binaryOp .Mult) (rI CMul fun i j=>.int (i*j)):=opI fun _ _ _ _ _ _ _ hc q=>mul_int q hc.ok
theorem akh:OpR X (binaryOp .FloorDiv) (rI at8 fun i j=>.int (i / j)):=opI fun i j _ _ _ _ _ hc q=>by
 have h1:(0:Int)<j:=hc.1
 have h2:j<1073741824:=hc.2
 exact floordiv_int (by omega) (by rw [Int.fdiv_eq_ediv_of_nonneg i (by omega)];exact q) (.inl (PyProof.noPylong_small (by omega)))
theorem aoj:OpR X (binaryOp .Mod) (rI (fun _ j=>0<j) fun i j=>.int (i % j)):=opI fun i j _ _ _ _ _ hc q=>by
 have h1:(0:Int)<j:=hc
 exact mod_int' (by omega) (by rw [Int.fmod_eq_emod_of_nonneg i (by omega)];exact q)
theorem aok:OpR X (binaryOp .Pow) (rI aum fun i j=>.int (i ^ j.toNat)):=opI fun _ _ _ _ _ _ _ hc q=>pow_int_small hc.1 hc.2.1 hc.2.2 q
theorem a2o:OpR X (inplaceOp .Add) (rI0 fun i j=>.int (i+j)):=at7 fun _ _ _ _ _ _ _ q=>iadd_int q
theorem ags:OpR X (inplaceOp .FloorDiv) (rI at8 fun i j=>.int (i / j)):=opI fun i j _ _ _ _ _ hc q=>by
 have h1:(0:Int)<j:=hc.1
 have h2:j<1073741824:=hc.2
 exact ifloordiv_int (by omega) (by rw [Int.fdiv_eq_ediv_of_nonneg i (by omega)];exact q) (.inl (PyProof.noPylong_small (by omega)))
theorem unI {f:Value→Sem Value} {g:Int→Int}
  (rule:∀ (i:Int) (t:Tok) (s:Shared) (Q:Value→Shared→Prop) (E:Value→Shared→Prop),Q (.int (g i) s.toks) { s with toks:=s.toks+1 }→wpAny (model X.prog X.w) X.A (f (.int i t)) Q E s) :
  UnR X f (rU fun i=>.int (g i)):=by
 intro pins s σ H x v Q I rx h
 obtain ⟨i,rfl,q⟩:=h
 obtain ⟨t,rfl⟩:=rx
 exact rule i t s _ _ ⟨.int (g i),H,I.tok _,⟨_,rfl⟩,q⟩
theorem aol:UnR X (unaryOp .USub) (rU fun i=>.int (-i)):=unI fun _ _ _ _ _ q=>neg_int q
end
section
variable {X:Cx} {a b c:Expr} {ta tb tc:TE} {pos:Pos}
theorem a1l {pins:List (Addr × Obj)} {σ:St} {H:Hp} {s:Shared} {Q:VK} {k k':Bool} (I:Inv X pins σ H s) (q:Q (.bl k) H) (e:k=k'):EP X pins σ Q (.bool k') s:=by
 subst e
 exact ⟨.bl k,H,I,rfl,q⟩
theorem a8g:OpR X (compareOp .Lt) (rI0 fun i j=>.bl (decide (i<j))):=arx fun _ _ _ _ _ _ _ q=>lt_int q
theorem aom:OpR X (compareOp .LtE) (rI0 fun i j=>.bl (decide (i≤j))):=arx fun _ _ _ _ _ _ _ q=>le_int q
theorem aon:OpR X (compareOp .Gt) (rI0 fun i j=>.bl (decide (j<i))):=arx fun _ _ _ _ _ _ _ q=>gt_int q
theorem aki:OpR X (compareOp .GtE) (rI0 fun i j=>.bl (decide (j≤i))):=arx fun _ _ _ _ _ _ _ q=>ge_int q
theorem rm:OpR X (compareOp .Lt) (fun x y H Q=>∃ i j,x = .str i∧y = .str j∧Q (.bl (decide (i.cps.toList<j.cps.toList))) H):=by
 intro pins s σ H x y v u Q I rx ry h
 obtain ⟨i,j,rfl,rfl,q⟩:=h
 obtain ⟨t,rfl⟩:=rx
 obtain ⟨t',rfl⟩:=ry
 exact lt_str (a1l I q rfl)
theorem ad4:OpR X (compareOp .In) (fun x y H Q=>∃ i j,x = .str i∧y = .str j∧Q (.bl (!(Builtin.Str.occurrences j i 0 j.length 1).isEmpty)) H):=by
 intro pins s σ H x y v u Q I rx ry h
 obtain ⟨i,j,rfl,rfl,q⟩:=h
 obtain ⟨t,rfl⟩:=rx
 obtain ⟨t',rfl⟩:=ry
 exact in_str (a1l I q rfl)
theorem aiw:OpR X (compareOp .Is) (fun x y H Q=>y = .non∧Q (.bl (decide (x = .non))) H):=by
 intro pins s σ H x y v u Q I rx ry h
 obtain ⟨rfl,q⟩:=h
 cases ry
 refine is_none_gen (a1l I q ?_)
 cases x<;>first
  | (cases rx;rfl)
  | (obtain ⟨t,rfl⟩:=rx;rfl)
theorem akj:OpR X (compareOp .IsNot) (fun x y H Q=>y = .non∧Q (.bl (!decide (x = .non))) H):=by
 intro pins s σ H x y v u Q I rx ry h
 obtain ⟨rfl,q⟩:=h
 cases ry
 refine isnot_none_gen (a1l I q ?_)
 cases x<;>first
  | (cases rx;rfl)
  | (obtain ⟨t,rfl⟩:=rx;rfl)
theorem a6u:OpR X (compareOp .NotIn) (fun x y H Q=>∃ i j,x = .str i∧y = .str j∧Q (.bl (!(!(Builtin.Str.occurrences j i 0 j.length 1).isEmpty))) H):=by
 intro pins s σ H x y v u Q I rx ry h
 obtain ⟨i,j,rfl,rfl,q⟩:=h
 obtain ⟨t,rfl⟩:=rx
 obtain ⟨t',rfl⟩:=ry
 exact notIn_str (a1l I q rfl)
theorem OpR.or {f:Value→Value→Sem Value} {r r':R2} (h:OpR X f r) (h':OpR X f r'):OpR X f (fun x y H Q=>r x y H Q∨r' x y H Q):=by
 intro pins s σ H x y v u Q I rx ry q
 rcases q with q | q
 ·exact h pins s σ H x y v u Q I rx ry q
 ·exact h' pins s σ H x y v u Q I rx ry q
theorem jf (b:Expr) {op:CmpOp} (h:op≠.In:=by decide) (h2:op≠.NotIn:=by decide):behindInMarks op b=false:=by
 have e1:(op == CmpOp.In)=false:=by cases op<;>first | rfl | exact absurd rfl h
 have e2:(op == CmpOp.NotIn)=false:=by cases op<;>first | rfl | exact absurd rfl h2
 cases b<;>simp [behindInMarks,e1,e2]
theorem akk {op:CmpOp} {r:R2} (ho:OpR X (compareOp op) r) (ha:PE X a ta) (hb:PE X b tb) (hm:behindInMarks op b=false):PE X (.Compare a [op] [b] pos) (tOp r ta tb):=by
 intro pins s σ H Q I h
 exact wpAny_Compare1 (asz ha hb I h fun v u s2 x y H2 I2 rx ry q=>ho pins s2 σ H2 x y v u Q I2 rx ry q) hm
def aoo (t:TE):TT:=fun σ H Q=>t σ H fun x H'=>∃ k,x = .bl k∧Q k H'
theorem akl {op:CmpOp} {r:R2} (ho:OpR X (compareOp op) r) (ha:PE X a ta) (hb:PE X b tb) (hm:behindInMarks op b=false):PT X (.Compare a [op] [b] pos) (aoo (tOp r ta tb)):=by
 intro pins s σ H Q I h
 refine wpAny_isTrue_Compare1 (thn (ha pins s σ H _ I h) fun v s1 ⟨x,H1,I1,r1,q1⟩=>thn (hb pins s1 σ H1 _ I1 q1) fun u s2 ⟨y,H2,I2,r2,q2⟩ =>
  thn (ho pins s2 σ H2 x y v u _ I2 r1 r2 q2) fun c s3 ⟨z,H3,I3,r3,k,e,q3⟩=>?_) hm
 subst e
 cases r3
 exact wpAny_truthy_bool ⟨H3,I3,q3⟩
def at9 (K:PySem.W.Frag) (x:V) (H:Hp) (k:Bool):Prop :=
 match x with
 | .non=>k=false
 | .bl b=>k=b
 | .int i=>k=(i != 0)
 | .str y=>y.length≤sizeLine∧k=((y.length:Int) != 0)
 | .byt y=>y.size≤sizeLine∧k=((y.size:Int) != 0)
 | .ref p=>(∃ xs,SqL K H p xs∧k = !xs.isEmpty)∨(∃ xs,SqT K H p xs∧k = !xs.isEmpty)∨∃ kvs,H p=some (.dK kvs)∧k = !kvs.isEmpty
 | _=>False
theorem ab5 {κ:Type} {kvs:List (κ × V)} {vs:List (κ × Value)} (r:KV kvs vs):(!vs.isEmpty) = !kvs.isEmpty:=by
 cases r<;>rfl
theorem a4i {xs:List V} {its:List Value} (r:Vals xs its):(!its.toArray.isEmpty) = !xs.isEmpty:=by
 cases r<;>simp
theorem a1m:(sizeLine:Nat)<2 ^ 63:=by rw [sizeLine_eq];decide
theorem aop:avv X (fun x H Q=>∃ k,at9 X.K x H k∧Q k H):=by
 intro pins s σ H x v Q I rx h
 obtain ⟨k,e,q⟩:=h
 have hl:=a1m
 have hs:sizeLine=16777216:=sizeLine_eq
 cases x with
 | non =>
  cases rx
  have e':k=false:=e
  subst e'
  exact truthy_none ⟨H,I,q⟩
 | bl b =>
  cases rx
  have e':k=b:=e
  subst e'
  exact wpAny_truthy_bool ⟨H,I,q⟩
 | int i =>
  obtain ⟨t,rfl⟩:=rx
  have e':k=(i != 0):=e
  subst e'
  exact PySem.P.truthy_int ⟨H,I,q⟩
 | str y =>
  obtain ⟨t,rfl⟩:=rx
  obtain ⟨hy,e'⟩:y.length≤sizeLine∧k=((y.length:Int) != 0):=e
  subst e'
  exact PySem.P.truthy_str (by omega) ⟨H,I.tok _,q⟩
 | byt y =>
  obtain ⟨t,rfl⟩:=rx
  obtain ⟨hy,e'⟩:y.size≤sizeLine∧k=((y.size:Int) != 0):=e
  subst e'
  exact PySem.W.truthy_bytes (by omega) ⟨H,I.tok _,q⟩
 | ref p =>
  cases rx
  have e':(∃ xs,SqL X.K H p xs∧k = !xs.isEmpty)∨(∃ xs,SqT X.K H p xs∧k = !xs.isEmpty)∨∃ kvs,H p=some (.dK kvs)∧k = !kvs.isEmpty:=e
  rcases e' with ⟨xs,hx,e'⟩ | ⟨xs,hx,e'⟩ | ⟨kvs,hx,e'⟩
  ·subst e'
   obtain ⟨its,r,pl,hz⟩:=I.list hx
   have hlen:=r.length
   exact wpAny_truthy_list pl.isList (by simp only [List.size_toArray];omega) ⟨H,I.tok _,by rw [a4i r];exact q⟩
  ·subst e'
   obtain ⟨its,r,pl,hz⟩:=I.tuple hx
   have hlen:=r.length
   exact truthy_tuple pl (by simp only [List.size_toArray];omega) ⟨H,I.tok _,by rw [a4i r];exact q⟩
  ·subst e'
   obtain ⟨hz,hS,vs,r,m⟩:kvs.length≤sizeLine∧(p == sysModules)=false∧∃ vs,KV kvs vs∧s.heap.DictOf (jq X.prog X.w) p vs:=I.hok p _ hx
   have hlen:kvs.length=vs.length:=Paired.length r
   exact wpAny_truthy_dict hS m (by omega) ⟨H,I.tok _,by rw [ab5 r];exact q⟩
 | _=>exact (show False from e).elim
theorem agt (ha:PE X a ta) (he:∀ whole,isTrue a X.env whole=(do let v ← whole;standAt a.pos;holding [v] (truthy v))) :
  PT X a (fun σ H Q=>ta σ H fun x H'=>∃ k,at9 X.K x H' k∧Q k H'):=by
 intro pins s σ H Q I h
 exact isTrue_plain (thn (ha pins s σ H _ I h) fun v s1 ⟨x,H1,I1,r1,q1⟩=>aop pins s1 σ H1 x v Q I1 r1 q1) (he _)
theorem ab6:OpR X (binaryOp .Add) (fun x y H Q=>∃ i j,x = .str i∧y = .str j∧i.length+j.length≤sizeLine∧Q (.str (i++j)) H):=by
 intro pins s σ H x y v u Q I rx ry h
 obtain ⟨i,j,rfl,rfl,hz,q⟩:=h
 obtain ⟨t,rfl⟩:=rx
 obtain ⟨t',rfl⟩:=ry
 exact add_str (fun t' tk=>⟨.str (i++j),H,I.tok _,⟨_,rfl⟩,q⟩) hz
theorem sr:OpR X (inplaceOp .Add) (fun x y H Q=>∃ i j,x = .str i∧y = .str j∧i.length+j.length≤sizeLine∧Q (.str (i++j)) H):=by
 intro pins s σ H x y v u Q I rx ry h
 obtain ⟨i,j,rfl,rfl,hz,q⟩:=h
 obtain ⟨t,rfl⟩:=rx
 obtain ⟨t',rfl⟩:=ry
 exact iadd_str (fun t' tk=>⟨.str (i++j),H,I.tok _,⟨_,rfl⟩,q⟩) hz
theorem vals1 {x:V} {us:List Value} (r:Vals [x] us):∃ u,us=[u]∧RelV x u:=by
 cases r with
 | cons r1 r2=>cases r2;exact ⟨_,rfl,r1⟩
theorem vals2 {x y:V} {us:List Value} (r:Vals [x,y] us):∃ u w',us=[u,w']∧RelV x u∧RelV y w':=by
 cases r with
 | cons r1 r2 =>
  cases r2 with
  | cons r3 r4=>cases r4;exact ⟨_,_,rfl,r1,r3⟩
theorem agu:CallR X (.builtin "abs") (fun xs H Q=>∃ i,xs=[.int i]∧Q (.int (if i<0 then -i else i)) H):=by
 intro pins s σ H xs us Q I r h
 obtain ⟨i,rfl,q⟩:=h
 obtain ⟨u,rfl,t,rfl⟩:=vals1 r
 exact call_abs_int fun u tk=>⟨.int (if i<0 then -i else i),H,I.tok _,⟨_,rfl⟩,q⟩
theorem ad5 (hc:X.calm=true):CallR X (.builtin "min") (fun xs H Q=>∃ i j,xs=[.int i, .int j]∧Q (.int (if j<i then j else i)) H):=by
 intro pins s σ H xs us Q I r h
 obtain ⟨i,j,rfl,q⟩:=h
 obtain ⟨u,w',rfl,⟨t,rfl⟩,⟨t',rfl⟩⟩:=vals2 r
 refine min_two_ints (I.ok.hd hc) fun h' tk k=>⟨_,H,I.kept k,?_,q⟩
 by_cases hj:j<i
 ·rw [if_pos hj,if_pos hj];exact ⟨_,rfl⟩
 ·rw [if_neg hj,if_neg hj];exact ⟨_,rfl⟩
theorem ad6:CallR X (.type "int") (fun xs H Q=>(∃ i,xs=[.int i]∧Q (.int i) H)∨∃ k,xs=[.bl k]∧Q (.int (if k then 1 else 0)) H):=by
 intro pins s σ H xs us Q I r h
 rcases h with ⟨i,rfl,q⟩ | ⟨k,rfl,q⟩
 ·obtain ⟨u,rfl,t,rfl⟩:=vals1 r
  exact call_int_int ⟨.int i,H,I,⟨_,rfl⟩,q⟩
 ·obtain ⟨u,rfl,r1⟩:=vals1 r
  cases r1
  exact call_int_bool ⟨.int (if k then 1 else 0),H,I.tok _,⟨_,rfl⟩,q⟩
end
end L2
namespace L2
open PySem PySem.Spec PyProof.Rows
structure ObjM (h:Heap) (x dx C:Addr) (mA:Str→Option Value):Prop where
 obj:h.get? x=some (PySem.W.instObj C dx)
 ns:h.Ns1 dx mA
 ne:dx≠x
theorem ad7 {h:Heap} {dx:Addr} {mA:Str→Option Value} (n:h.Ns1 dx mA):∃ od,h.get? dx=some od∧∀ name,PySem.W.lookIn name od=some (mA name):=by
 obtain ⟨o,es,ep,ho,hd,hk,_,hm⟩:=n
 refine ⟨o,ho,fun name=>?_⟩
 have e:=hm name
 unfold nsFind findBy at e
 rw [← Array.find?_toList] at e
 unfold PySem.W.lookIn
 rw [hd]
 dsimp only
 split
 ·rename_i y q
  rw [q] at e
  exact congrArg some e
 ·rename_i q
  rw [q] at e
  have a:es.toList.any (·.refKey)=false:=by
   rw [List.any_eq_false]
   intro y hy
   obtain ⟨z,t,hkey⟩:=hk y (Array.mem_toList_iff.mp hy)
   simp [DictEntry.refKey,hkey]
  have a':¬ es.toList.any (·.refKey)=true:=by rw [a];exact Bool.false_ne_true
  rw [if_neg a']
  exact congrArg some e
theorem ObjM.look {h:Heap} {x dx C:Addr} {mA:Str→Option Value} (I:ObjM h x dx C mA):∃ od,PySem.W.InstAt h x (PySem.W.instObj C dx) C (some od)∧∀ name,PySem.W.lookIn name od=some (mA name) :=
 let ⟨od,ho,hl⟩:=ad7 I.ns
 ⟨od,⟨I.obj,rfl,rfl,ho⟩,hl⟩
theorem RelO.some_of {v:V} {o:Option Value} (r:RelO (some v) o):∃ u,o=some u∧RelV v u:=by
 cases o with
 | none=>exact (show False from r).elim
 | some u=>exact ⟨u,rfl,r⟩
section
variable {P:Program} {w:World} {H H':Hp} {h h':Heap} {a C dx:Addr} {fs fs':List (Str × V)}
theorem akm (hok:HOk P w H h) (e:H a=some (.ins C dx fs)):∃ mA,ObjM h a dx C mA∧(∀ f,RelO (fs.lookup f) (mA f))∧PySem.Within mA (fs.map (·.1))∧fs.length≤1000∧H dx=some (.own a):=by
 obtain ⟨d,z,ne,ob,mA,n,r,q⟩:=(show ObjOk P w H h a (.ins C dx fs) from hok a _ e)
 exact ⟨mA,⟨ob,n,ne⟩,r,q,z,d⟩
end
structure Cls (K:PySem.W.Frag) (C:Addr):Prop where
 pg:PySem.W.plainGet K C Str.empty=true
 hd:PySem.W.hasDictIn K C=true
 po:PySem.W.plainOver K C=true
 sa:PySem.W.findIn K (.ref C) "__setattr__" = some (some (.builtin "object.__setattr__"))
theorem Cls.get {K:PySem.W.Frag} {C:Addr} (c:Cls K C) (f:Str):PySem.W.plainGet K C f=true:=c.pg
section
variable {X:Cx} {pins:List (Addr × Obj)} {σ:St} {H:Hp} {s:Shared} {A:Around} {E:Value→Shared→Prop} {Q:Value→Shared→Prop} {c:Value} {b:Bool}
inductive TyOf (K:PySem.W.Frag) (H:Hp):V→Value→Prop where
 | non:TyOf K H .non (.type "NoneType")
 | bl (x:Bool):TyOf K H (.bl x) (.type "bool")
 | int (i:Int):TyOf K H (.int i) (.type "int")
 | str (x:Str):TyOf K H (.str x) (.type "str")
 | flt (x:UInt64):TyOf K H (.flt x) (.type "float")
 | lst {a:Addr} {xs:List V} (e:H a=some (.lst xs)):TyOf K H (.ref a) (.type "list")
 | frz {a:Addr} {o:Obj} {xs:List V} (e:H a=some (.frz o (.lst xs))):TyOf K H (.ref a) (.type "list")
 | tup {a:Addr} {xs:List V} (e:H a=some (.tup xs)):TyOf K H (.ref a) (.type "tuple")
 | dK {a:Addr} {kvs:List (Key × V)} (e:H a=some (.dK kvs)):TyOf K H (.ref a) (.type "dict")
 | dT {a:Addr} {kvs:List (List Key × V)} (e:H a=some (.dT kvs)):TyOf K H (.ref a) (.type "dict")
 | ins {a C dx:Addr} {fs:List (Str × V)} (e:H a=some (.ins C dx fs)) (cl:Cls K C) (ha:PySem.W.findIn K (.ref C) "__class__" = some (some (.builtin "object.__class__")))
   (hn:PySem.W.specialIn K (.builtin "object.__class__") "__get__" = some (some (.builtin "getset_descriptor.__get__"))) (htk:PySem.W.takesIn K (.builtin "object.__class__")=some true)
   (hm:PySem.W.mroIn K C (.type "object")=some true):TyOf K H (.ref a) (.ref C)
theorem ad8 {x:V} {u t:Value} (I:Inv X pins σ H s) (rx:RelV x u) (ty:TyOf X.K H x t) (e:PySem.W.kitOne X.K t c=some b) (h:∀ tk,Q (.bool b) { s with toks:=tk }) :
  wpAny (model X.prog X.w) A (call (.builtin "isinstance") [u,c]) Q E s:=by
 cases ty with
 | non=>cases (show u=Value.none from rx);exact PySem.W.kia_one PySem.W.kitx_none I.kIn True.intro e (fun z=>nomatch z) h
 | bl y=>cases (show u=Value.bool y from rx);exact PySem.W.kia_one PySem.W.kitx_bool I.kIn True.intro e (fun z=>nomatch z) h
 | int i=>obtain ⟨t,q⟩:=(show ∃ t,u=Value.int i t from rx);cases q;exact PySem.W.kia_one PySem.W.kitx_int I.kIn True.intro e (fun z=>nomatch z) h
 | str y=>obtain ⟨t,q⟩:=(show ∃ t,u=Value.str y t from rx);cases q;exact PySem.W.kia_one PySem.W.kitx_str I.kIn True.intro e (fun z=>nomatch z) h
 | flt y=>obtain ⟨t,q⟩:=(show ∃ t,u=Value.float y t from rx);cases q;exact PySem.W.kia_one PySem.W.kitx_float I.kIn True.intro e (fun z=>nomatch z) h
 | @lst a xs ea =>
  cases (show u=Value.ref a from rx)
  obtain ⟨_,_,n,_,h1⟩:=(show ObjOk X.prog X.w H s.heap a (.lst xs) from I.hok a _ ea)
  exact PySem.W.kia_one PySem.W.kitx_list I.kIn ⟨_,h1,rfl⟩ e (fun z=>nomatch z) h
 | @frz a ob xs ea =>
  cases (show u=Value.ref a from rx)
  obtain ⟨_,_,_,n,_,h1⟩:=(show ObjOk X.prog X.w H s.heap a (.frz ob (.lst xs)) from I.hok a _ ea)
  exact PySem.W.kia_one PySem.W.kitx_list I.kIn ⟨_,h1,rfl⟩ e (fun z=>nomatch z) h
 | @tup a xs ea =>
  cases (show u=Value.ref a from rx)
  obtain ⟨_,_,_,p⟩:=(show ObjOk X.prog X.w H s.heap a (.tup xs) from I.hok a _ ea)
  obtain ⟨o,h1,h2,_⟩:=p
  exact PySem.W.kia_one PySem.W.kitx_tuple I.kIn ⟨o,h1,h2⟩ e (fun z=>nomatch z) h
 | @dK a kvs ea =>
  cases (show u=Value.ref a from rx)
  obtain ⟨_,_,vs,_,p⟩:=(show ObjOk X.prog X.w H s.heap a (.dK kvs) from I.hok a _ ea)
  obtain ⟨o,es,ep,h1,h2,_⟩:=p
  exact PySem.W.kia_one PySem.W.kitx_dict I.kIn ⟨o,h1,h2.1⟩ e (fun z=>nomatch z) h
 | @dT a kvs ea =>
  cases (show u=Value.ref a from rx)
  obtain ⟨_,_,xs,_,o,es,ep,h1,h2,_⟩:=(show ObjOk X.prog X.w H s.heap a (.dT kvs) from I.hok a _ ea)
  exact PySem.W.kia_one PySem.W.kitx_dict I.kIn ⟨o,h1,h2.1⟩ e (fun z=>nomatch z) h
 | @ins a C dx fs ea cl ha hn htk hm =>
  cases (show u=Value.ref a from rx)
  obtain ⟨mA,O,_⟩:=akm I.hok ea
  obtain ⟨od,J,_⟩:=O.look
  exact PySem.W.kia_one (PySem.W.kitx_own (cl.get _) cl.hd ha hn htk hm) I.kIn J e (fun z=>nomatch z) h
end
end L2
namespace L2
open PySem PySem.Spec PyProof.Rows
structure Room (k:Nat) (A:Around):Prop where
 hd:A.handled=none
 dp:A.depth+3*k+5<recursionLimit
 un:A.units+16*k+200<cLine
 gd:A.guards=some []
theorem Room.mono {j k:Nat} {A:Around} (r:Room k A) (h:j≤k):Room j A:=⟨r.hd,by have:=r.dp;omega,by have:=r.un;omega,r.gd⟩
theorem Room.deeper {k:Nat} {A:Around} (r:Room (k+1) A) (env:Env):Room k (A.deeper env) :=
 ⟨r.hd,by have:=r.dp;show A.depth+1+3*k+5<_;omega,by have:=r.un;show A.units+3+16*k+200<_;omega,r.gd⟩
theorem Room.depth {k:Nat} {A:Around} (r:Room k A):A.depth<recursionLimit:=by have:=r.dp;omega
theorem Room.units {k:Nat} {A:Around} (r:Room k A):A.units+64<cLine:=by have:=r.un;omega
def aun:TA:=fun _ H Q=>Q [] H
def ata (ta:TE) (tr:TA):TA:=fun σ H Q=>ta σ H fun x H1=>tr σ H1 fun xs H2=>Q (x::xs) H2
section
variable {X:Cx} {e:Expr} {es:List Expr} {te:TE} {t:TA} {pos:Pos}
theorem a9h:PA X [] aun:=fun _ _ _ _ H Q I h=>Calls.spliced_nil ⟨[],H,I, .nil,h⟩
theorem a2p (ha:PE X e te) (hr:PA X es t) (hs:starEach (e::es) X.env=(false,eval e X.env)::starEach es X.env:=by rfl):PA X (e::es) (ata te t):=by
 intro pos pins s σ H Q I h
 rw [hs]
 show wpAny _ _ (spliced ((false,eval e X.env)::backTo pos (starEach es X.env))) _ _ s
 refine Calls.spliced_cons (thn (ha pins s σ H _ I h) fun u s1 ⟨x,H1,I1,r1,q1⟩=>?_)
 exact thn (hr pos pins s1 σ H1 _ I1 q1) fun us s2 ⟨xs,H2,I2,r2,q2⟩=>⟨x::xs,H2,I2, .cons r1 r2,q2⟩
def avw (t:TA):TE:=fun σ H Q=>t σ H fun xs H1=>xs.length≤sizeLine∧∀ p,H1 p=none→Q (.ref p) (upd H1 p (.tup xs))
def avx (t:TA):TE:=fun σ H Q=>t σ H fun xs H1=>xs.length≤sizeLine∧∀ p,H1 p=none→Q (.ref p) (upd H1 p (.lst xs))
theorem aoq {x1} (h:PA X es t):PE X (.Tuple es x1 pos) (avw t):=by
 intro pins s σ H Q I hq
 refine wpAny_Tuple_spliced (thn (h pos pins s σ H _ I hq) fun us s1 ⟨xs,H1,I1,r,z,q⟩=>⟨by rw [← r.length];exact z,?_⟩)
 have hf:H1 s1.heap.objs.size=none:=I1.hok.fresh (Nat.le_refl _)
 refine ⟨.ref s1.heap.objs.size,upd H1 s1.heap.objs.size (.tup xs),I1.laid (t':=s1.toks) (fun b u e=>Heap.get?_push_of_some _ e) (Nat.le_refl _) ?_,rfl,q _ hf⟩
 exact ⟨z,us,r,⟨_,Heap.get?_push_size _ rfl,rfl,_,rfl⟩⟩
theorem aor (h:PA X es t):PE X (.List es pos) (avx t):=by
 intro pins s σ H Q I hq
 refine wpAny_List_spliced (thn (h pos pins s σ H _ I hq) fun us s1 ⟨xs,H1,I1,r,z,q⟩=>⟨by rw [← r.length];exact z,?_⟩)
 have hf:H1 s1.heap.objs.size=none:=I1.hok.fresh (Nat.le_refl _)
 refine ⟨.ref s1.heap.objs.size,upd H1 s1.heap.objs.size (.lst xs),I1.laid (t':=s1.toks) (fun b u e=>Heap.get?_push_of_some _ e) (Nat.le_refl _) ?_,rfl,q _ hf⟩
 exact ⟨z,us,0,r,Heap.get?_push_size _ rfl⟩
end
abbrev Sp:=List V→Hp→VK→XK→Prop
abbrev CXT:=List Env→Hp→Shared→XK→Value→Shared→Prop
structure Env0 (P:Program) (w:World) (K:PySem.W.Frag) (mg:Str→Option Value) (base:Heap) (A:Around) (outer:List Env) (s:Shared) (H:Hp):Prop where
 frames:A.frames=some outer
 mod:Mod K mg base
 bs:∀ b o,base.get? b=some o→s.heap.get? b=some o∧H b=none
 bsz:base.objs.size≤s.heap.objs.size
 funs:s.heap.FunFrames base outer
 frf:∀ b∈frs outer,H b=none
 hok:HOk P w H s.heap
 bare:AllBare s.gens
def CE (outer:List Env) (P:Program) (w:World) (H:Hp) (s:Shared) (Q:VK) (u:Value) (s':Shared):Prop :=
 ∃ v H',s'.os=s.os∧AllBare s'.gens∧Un (frs outer) [] H H' s.heap s'.heap∧HOk P w H' s'.heap∧RelV v u∧Q v H'
def CR (CX:CXT) (outer:List Env) (P:Program) (w:World) (H:Hp) (s:Shared) (Q:VK) (E:XK) (r:Result) (s':Shared):Prop :=
 match r with
 | .ok (.ret u)=>CE outer P w H s Q u s'
 | .ok _=>False
 | .error e=>CX outer H s E e s'
structure FnOk (P:Program) (w:World) (K:PySem.W.Frag) (mg:Str→Option Value) (base:Heap) (CX:CXT) (k:Nat) (f:Addr) (fd:FuncData) (ps:List Str) (sp:Sp):Prop where
 len:∀ vs H Q E,sp vs H Q E→vs.length=ps.length
 run:∀ (A:Around) (outer:List Env) (s:Shared) (H:Hp) (args:Args) (us:List Value) (vs:List V) (Q:VK) (E:XK),Room k A→Env0 P w K mg base A outer s H→BindsTo s fd args (ps.zip us)→Vals vs us→sp vs H Q E →
  codeAny (model P w) A (.call (.ref f) args) (CR CX outer P w H s Q E) s
theorem FnOk.imp {P:Program} {w:World} {K:PySem.W.Frag} {mg:Str→Option Value} {base:Heap} {CX:CXT} {k:Nat} {f:Addr} {fd:FuncData} {ps:List Str} {sp sp':Sp} (F:FnOk P w K mg base CX k f fd ps sp)
  (h:∀ vs H Q E,sp' vs H Q E→sp vs H Q E):FnOk P w K mg base CX k f fd ps sp' :=
 ⟨fun vs H Q E q=>F.len vs H Q E (h _ _ _ _ q),fun A outer s H args us vs Q E hr he hb hv hs=>F.run A outer s H args us vs Q E hr he hb hv (h _ _ _ _ hs)⟩
section
variable {X:Cx} {pins:List (Addr × Obj)} {σ:St} {H:Hp} {s s':Shared}
theorem Inv.env0 (I:Inv X pins σ H s):Env0 X.prog X.w X.K X.mg X.base X.A X.stack s H :=
 ⟨I.ok.frames,I.ok.mod,I.bs,Nat.le_trans I.ok.bsz I.sz,I.stack,I.stkFree,I.hok,I.bare⟩
theorem Inv.after {Q:VK} {u:Value} (I:Inv X pins σ H s) (h:CE X.stack X.prog X.w H s Q u s'):EP X pins σ Q u s':=by
 obtain ⟨v,H',os,bare,un,hok,r,q⟩:=h
 obtain ⟨hh,g,d,t,os'⟩:=s'
 obtain rfl:os'=s.os:=os
 exact ⟨v,H',I.call (h':=hh) (g':=g) (d':=d) (t':=t) (ch:=[]) un hok bare (fun b z=>absurd z (by simp)),r,q⟩
end
def aos (sp:Sp) (dvs:List V) (E:XK) (t:TA):TE:=fun σ H Q=>t σ H fun vs H1=>sp (vs++dvs) H1 Q E
def Binds (K:PySem.W.Frag) (fd:FuncData) (ps:List Str) (ds:List Value):Prop :=
 ∀ (s:Shared) (us:List Value),K.In s.heap→(us++ds).length=ps.length→BindsTo s fd ⟨us,[]⟩ (ps.zip (us++ds))
theorem Binds.all {K:PySem.W.Frag} {fd:FuncData} {ps:List Str} (h:∀ us:List Value,us.length=ps.length→bindArgs fd ⟨us,[]⟩=pure (ps.zip us)):Binds K fd ps []:=fun s us _ hl=>by
 rw [List.append_nil] at hl ⊢
 exact .of_eq (h us hl)
def a9i (CX:CXT) (X:Cx) (E:XK):Prop:=∀ (pins:List (Addr × Obj)) (σ:St) (H:Hp) (s:Shared) (e:Value) (s':Shared),Inv X pins σ H s→CX X.stack H s E e s'→X.xe e s'
section
variable {X:Cx} {CX:CXT} {k:Nat} {f C:Addr} {fd:FuncData} {ps:List Str} {sp:Sp} {dvs:List V} {ds:List Value} {E:XK} {x m:Str} {p pos apos:Pos} {e o:Expr} {es:List Expr} {ta:TE} {t:TA}
theorem aix {pins:List (Addr × Obj)} {σ:St} {H:Hp} {s:Shared} {Q:VK} {us:List Value} {vs:List V} (F:FnOk X.prog X.w X.K X.mg X.base CX k f fd ps sp) (hr:Room k X.A) (hb:Binds X.K fd ps ds) (hd:Vals dvs ds) (hx:a9i CX X E)
  (I:Inv X pins σ H s) (r:Vals vs us) (h:sp (vs++dvs) H Q E):wpAny (model X.prog X.w) X.A (call (.ref f) us) (EP X pins σ Q) X.xe s:=by
 have r2:Vals (vs++dvs) (us++ds):=r.append hd
 have hl:(us++ds).length=ps.length:=by rw [← r2.length];exact F.len _ _ _ _ h
 refine wpAny_call (codeAny_mono (F.run X.A X.stack s H ⟨us,[]⟩ (us++ds) (vs++dvs) Q E hr I.env0 (hb s us I.kIn hl) r2 h) fun r s' hq=>?_)
 cases r with
 | error e=>exact hx pins σ H s e s' I hq
 | ok fl =>
  cases fl with
  | ret u=>exact I.after hq
  | next=>exact False.elim hq
  | brk=>exact False.elim hq
  | cont=>exact False.elim hq
theorem akn (F:FnOk X.prog X.w X.K X.mg X.base CX k f fd ps sp) (hr:Room k X.A) (hg:Gl X x) (hm:X.mg x=some (.ref f)) (hk:PySem.W.keepIn X.K (.ref f)=true) (hb:Binds X.K fd ps ds) (hd:Vals dvs ds) (hx:a9i CX X E)
  (ha:PA X (e::es) t) (hdb:(x == ("__debug__" : Str))=false:=by decide) (he:starEach (e::es) X.env=(false,eval e X.env)::starEach es X.env:=by rfl) (hpl:(backTo pos (starEach es X.env)).any (·.1)=false:=by rfl) :
  PE X (.Call (.Name x p) (e::es) [] pos) (aos sp dvs E t):=by
 intro pins s σ H Q I h
 refine wpAny_Call_Name_kw (acy I hg hm ?_ hdb)
 refine PySem.W.callWith_K (h₀:=X.base) I.ok.mod.kin hk (thn (ha pos pins s σ H _ I h) fun us s1 ⟨vs,H1,I1,r,q⟩=>⟨I1.kIn,?_⟩) he hpl
 exact aix F hr hb hd hx I1 r q
theorem agv (F:FnOk X.prog X.w X.K X.mg X.base CX k f fd ps sp) (hr:Room k X.A) (hg:Gl X x) (hm:X.mg x=some (.ref f)) (hk:PySem.W.keepIn X.K (.ref f)=true) (hb:Binds X.K fd ps ds) (hd:Vals dvs ds) (hx:a9i CX X E)
  (hdb:(x == ("__debug__" : Str))=false:=by decide):PE X (.Call (.Name x p) [] [] pos) (aos sp dvs E aun):=by
 intro pins s σ H Q I h
 refine wpAny_Call_Name_kw (acy I hg hm ?_ hdb)
 exact PySem.W.callWith_K0 I.kIn hk (aix (us:=[]) F hr hb hd hx I .nil h)
end
structure FnScope (N P:List Str) (sc:Scope):Prop where
 kind:sc.kind = .function
 co:sc.isCoroutine=false
 gen:sc.isGenerator=false
 nd:N.Nodup
 pre:N.take P.length=P
 par:∀ x∈P,sc.names.lookup x=some .local∨sc.names.lookup x=some .cell
 nofree:∀ y∈sc.names,y.2≠.free
theorem a6v {kindOf:Str→Option NameKind} {x:Str}:∀ {binds:List (Str × Value)} {m:Str→Option Value},(∀ v,(x,v) ∉ binds)→bindL kindOf binds m x=m x
 | [],_,_=>rfl
 | (n,v)::r,m,h=>by
  unfold bindL
  rw [a6v fun w hw=>h w (List.mem_cons_of_mem _ hw)]
  split
  ·have:x≠n:=by rintro rfl;exact h v List.mem_cons_self
   simp [this]
  ·rfl
theorem a6w {kindOf:Str→Option NameKind} {x:Str}:∀ {binds:List (Str × Value)} {m:Str→Option Value},(∀ v,(x,v) ∉ binds)→bindC kindOf binds m x=m x
 | [],_,_=>rfl
 | (n,v)::r,m,h=>by
  unfold bindC
  rw [a6w fun w hw=>h w (List.mem_cons_of_mem _ hw)]
  split
  ·rfl
  ·have:x≠n:=by rintro rfl;exact h v List.mem_cons_self
   simp [this]
theorem a6x {kindOf:Str→Option NameKind} {x:Str} {v:Value}:∀ {P:List Str} {vs:List Value} {i:Nat} {m:Str→Option Value},P.Nodup→P[i]? = some x→vs[i]? = some v→kindOf x=some .local →
  bindL kindOf (P.zip vs) m x=some v
 | [],_,_,_,_,h,_,_=>by simp at h
 | _::_,[],_,_,_,_,h,_=>by simp at h
 | p::P,w::vs,0,m,nd,h1,h2,hk=>by
  simp at h1 h2;subst h1;subst h2
  show bindL kindOf ((p,w)::P.zip vs) m p=_
  unfold bindL
  rw [a6v fun v hv=>(List.nodup_cons.mp nd).1 (List.of_mem_zip hv).1,if_pos hk]
  simp
 | p::P,w::vs,i+1,m,nd,h1,h2,hk=>by
  show bindL kindOf ((p,w)::P.zip vs) m x=_
  unfold bindL
  exact a6x (i:=i) (List.nodup_cons.mp nd).2 (by simpa using h1) (by simpa using h2) hk
theorem a6y {kindOf:Str→Option NameKind} {x:Str} {v:Value}:∀ {P:List Str} {vs:List Value} {i:Nat} {m:Str→Option Value},P.Nodup→P[i]? = some x→vs[i]? = some v→kindOf x≠some .local →
  bindC kindOf (P.zip vs) m x=some v
 | [],_,_,_,_,h,_,_=>by simp at h
 | _::_,[],_,_,_,_,h,_=>by simp at h
 | p::P,w::vs,0,m,nd,h1,h2,hk=>by
  simp at h1 h2;subst h1;subst h2
  show bindC kindOf ((p,w)::P.zip vs) m p=_
  unfold bindC
  rw [a6w fun v hv=>(List.nodup_cons.mp nd).1 (List.of_mem_zip hv).1,if_neg hk]
  simp
 | p::P,w::vs,i+1,m,nd,h1,h2,hk=>by
  show bindC kindOf ((p,w)::P.zip vs) m x=_
  unfold bindC
  exact a6y (i:=i) (List.nodup_cons.mp nd).2 (by simpa using h1) (by simpa using h2) hk
def start (N:List Str) (vs:List V):St:=vs.map some++List.replicate (N.length - vs.length) none
def a1x (CX:CXT) (P:Program) (w:World) (K:PySem.W.Frag) (mg:Str→Option Value) (base:Heap) (N:List Str) (qual:Str) (scope:Scope) (f:Addr) (cd:Value) (A:Around) (outer:List Env) (s:Shared) (H:Hp) (E:XK):Cx where
 prog:=P
 w:=w
 K:=K
 mg:=mg
 base:=base
 A:=A.deeper (envOfC qual scope s.heap.objs.size f cd)
 N:=N
 s₀:=s
 H₀:=H
 env:=envOfC qual scope s.heap.objs.size f cd
 outer:=outer
 stack:=envOfC qual scope s.heap.objs.size f cd::outer
 ex:=[]
 calm:=true
 fn:=fun _=>true
 pn:=[]
 xe:=fun e s'=>wpAny (model P w) (A.deeper (envOfC qual scope s.heap.objs.size f cd)) (leaving (envOfC qual scope s.heap.objs.size f cd) e) (fun _ s''=>CX outer H s E e s'') (fun e' s''=>CX outer H s E e' s'') s'
theorem a9j {sc:Scope} {n:Nat} {x:Str} (h:sc.names.lookup x=some .cell):∃ c,(cellsFrom n sc.names []).lookup x=some c:=by
 have q:=PySem.W.cellsFrom_some sc.names n [] (.inl h)
 exact Option.isSome_iff_exists.mp q
theorem ad9 {CX:CXT} {P:Program} {w:World} {K:PySem.W.Frag} {mg:Str→Option Value} {base:Heap} {N ps:List Str} {qual:Str} {scope:Scope} {f:Addr} {cd:Value} {A:Around} {outer:List Env} {s s1:Shared} {H:Hp} {E:XK} {us:List Value} {vs:List V}
  (S:FnScope N ps scope) (hd:A.handled=none) (e0:Env0 P w K mg base A outer s H) (hl:vs.length=ps.length) (r:Vals vs us)
  (x:InCallC s s.heap.objs.size (bindL (envOfC qual scope s.heap.objs.size f cd).kindOf (ps.zip us) fun _=>none) (cellsFrom (s.heap.objs.size+1) scope.names []) (bindC (envOfC qual scope s.heap.objs.size f cd).kindOf (ps.zip us) fun _=>none) s1) :
  Inv (a1x CX P w K mg base N qual scope f cd A outer s H E) [] (start N vs) H s1:=by
 have hpl:ps.length≤N.length:=by have:=congrArg List.length S.pre;rw [List.length_take] at this;omega
 obtain ⟨h1,tk,rfl,hk⟩:=x.done
 have noA:∀ b:Addr,b ∉ (a1x CX P w K mg base N qual scope f cd A outer s H E).ex:=fun b z=>absurd (show b∈([]:List Addr) from z) (by simp)
 refine ⟨⟨e0.mod,S.kind,rfl,rfl,Nat.le_refl _,fun y z c h1 h2=>?_,fun y hy=>?_,fun y c _ h=>?_,fun _=>hd,Around.frames_deeper e0.frames, .inr ⟨rfl,rfl⟩,fun b z=>absurd z (noA b),e0.bs,e0.bsz,fun b _ _=>noA b,fun b z=>absurd z (noA b),e0.funs,e0.frf⟩,
  rfl,e0.bare,Un.kept hk,⟨_,x.toInCall.ns,fun i y v h1 h2 h3=>?_⟩,fun y c h=>⟨_,x.cell y c h⟩,e0.hok.fresh (Nat.le_refl _),fun y c h=>?_,fun p hp=>absurd (show p∈([]:List (Addr × Obj)) from hp) (by simp),e0.hok.kept hk,?_⟩
 ·exact name_of_addr x.apart (PySem.mem_of_lookup h1) (PySem.mem_of_lookup h2)
 ·have hy:scope.names.lookup y=some .cell∨scope.names.lookup y=some .free:=hy
  rcases hy with hy | hy
  ·exact a9j hy
  ·exact absurd rfl (S.nofree _ (PySem.mem_of_lookup hy))
 ·exact Nat.le_of_lt (x.above y c (PySem.mem_of_lookup h))
 ·have hi:i<vs.length:=by
   unfold start at h2
   by_cases hi:i<vs.length
   ·exact hi
   ·rw [List.getElem?_append_right (by simpa using hi)] at h2
    rw [List.getElem?_replicate] at h2
    split at h2<;>cases h2
  have ha:vs[i]? = some v:=by
   unfold start at h2
   rw [List.getElem?_append_left (by simpa using hi),List.getElem?_map] at h2
   cases e:vs[i]? with
   | none=>rw [e] at h2;cases h2
   | some a=>rw [e] at h2;cases h2;rfl
  obtain ⟨u,hu,rv⟩:=r.get ha
  have hp:ps[i]? = some y:=by
   rw [← S.pre,List.getElem?_take_of_lt (by omega)];exact h1
  have ndP:ps.Nodup:=by rw [← S.pre];exact S.nd.sublist (List.take_sublist _ _)
  refine ⟨u,rv,?_⟩
  rcases S.par y (List.mem_of_getElem? hp) with k | k
  ·exact .inl ⟨k,a6x ndP hp hu k⟩
  ·obtain ⟨c,e⟩:=a9j (n:=s.heap.objs.size+1) k
   refine .inr ⟨.inl k,c,e,?_⟩
   have q:=x.cell y c e
   rw [a6y ndP hp hu (by show scope.names.lookup y≠_;rw [k];decide)] at q
   exact q
 ·exact e0.hok.fresh (Nat.le_of_lt (x.above y c (PySem.mem_of_lookup h)))
 ·unfold start
  show _=N.length
  rw [List.length_append,List.length_map,List.length_replicate]
  omega
theorem atb {CX:CXT} {P:Program} {w:World} {K:PySem.W.Frag} {mg:Str→Option Value} {base:Heap} {k:Nat} {f:Addr} {name qual:Str} {params:Arguments} {body:List Stmt} {scope:Scope} {dV kV doc pm cdv ct oc:Value} {an od:Option Addr}
  {osl:Array (Option Value)} {N ps:List Str} {sp:Sp} (lk:K.lookup f=some ⟨oc,od, .func (PySem.W.fnOf name qual params body scope dV kV doc pm an cdv ct),osl⟩) (hcd:PySem.W.codeIn K cdv qual=true) (S:FnScope N ps scope)
  (len:∀ vs H Q E,sp vs H Q E→vs.length=ps.length)
  (hbody:∀ (A:Around) (outer:List Env) (s:Shared) (H:Hp) (vs:List V) (Q:VK) (E:XK),Room k (A.deeper (envOfC qual scope s.heap.objs.size f cdv))→sp vs H Q E →
   ∃ t,PSs (a1x CX P w K mg base N qual scope f cdv A outer s H E) body t∧t { nx:=fun _ H'=>Q .non H',rt:=Q } (start N vs) H) :
  FnOk P w K mg base CX (k+1) f (PySem.W.fnOf name qual params body scope dV kV doc pm an cdv ct) ps sp:=by
 refine ⟨len,fun A outer s H args us vs Q E hr e0 hb r hsp=>?_⟩
 have hl:=len _ _ _ _ hsp
 have KX:K.In s.heap:=e0.mod.kin.keeps fun b o e=>(e0.bs b o e).1
 have lim:s.heap.NoLimit:=e0.mod.nolimit.keeps fun b o e=>(e0.bs b o e).1
 have hkind:∀ y∈ps.zip us,scope.names.lookup y.1=some .local∨(scope.names.lookup y.1=some .cell∧((cellsFrom (s.heap.objs.size+1) scope.names []).lookup y.1).isSome=true):=fun ⟨n,v⟩ hy=>by
  rcases S.par n (List.of_mem_zip hy).1 with q | q
  ·exact .inl q
  ·exact .inr ⟨q,PySem.W.cellsFrom_some _ _ _ (.inl q)⟩
 refine codeAny_call_function hr.depth (KX _ _ lk) rfl S.co S.gen rfl (PySem.W.codeRec_of KX hcd) (hb _ _ _ _ ?_)
 refine wpAny_newFunctionEnv_cells S.kind hkind fun env he s1 x=>?_
 subst he
 refine ⟨lim.keeps x.toInCall.keep,codeAny_func ?_⟩
 obtain ⟨t,ht,hq⟩:=hbody A outer s H vs Q E (hr.deeper _) hsp
 have I:Inv (a1x CX P w K mg base N qual scope f cdv A outer s H E) [] (start N vs) H s1:=ad9 S hr.hd e0 hl r x
 refine wpAny_mono (ht [] s1 (start N vs) H _ I hq) (fun fl s' hs=>?_) fun e s' hs=>hs
 have fin:∀ {σ':St} {H':Hp} {v:V} {u:Value},Inv (a1x CX P w K mg base N qual scope f cdv A outer s H E) [] σ' H' s'→RelV v u→Q v H'→CE outer P w H s Q u s' :=
  fun {σ' H' v u} J rv q=>⟨v,H',J.os,J.bare,J.base,J.hok,rv,q⟩
 cases fl with
 | ret u =>
  obtain ⟨v,σ',H',J,rv,q⟩:=hs
  exact fin J rv q
 | next =>
  obtain ⟨σ',H',J,q⟩:=hs
  exact fin (v:=V.non) (u:=Value.none) J rfl q
 | brk =>
  obtain ⟨_,_,_,q⟩:=hs
  exact False.elim q
 | cont =>
  obtain ⟨_,_,_,q⟩:=hs
  exact False.elim q
end L2
namespace L2
open PySem PySem.Spec PyProof.Rows
section
variable {X:Cx} {x:Str} {p pos:Pos} {e:Expr} {es:List Expr} {t:TA} {id T:String} {r:List V→Hp→VK→Prop}
def tCB (r:List V→Hp→VK→Prop) (t:TA):TE:=fun σ H Q=>t σ H fun vs H1=>r vs H1 Q
theorem a9k (hc:CallR X (.builtin id) r) (hg:Gl X x) (hm:X.mg x=none) (hv:bootBuiltins x=some (.builtin id)) (ha:PA X (e::es) t) (hn:x ≠ "__name__":=by decide) (hdb:(x == ("__debug__" : Str))=false:=by decide)
  (he:starEach (e::es) X.env=(false,eval e X.env)::starEach es X.env:=by rfl) (hpl:(backTo pos (starEach es X.env)).any (·.1)=false:=by rfl):PE X (.Call (.Name x p) (e::es) [] pos) (tCB r t):=by
 intro pins s σ H Q I h
 refine wpAny_Call_Name_kw (a2n I hg hm hv ?_ hn hdb)
 exact PyProof.Rows.callWith_builtin1 (thn (ha pos pins s σ H _ I h) fun us s1 ⟨vs,H1,I1,r1,q1⟩=>hc pins s1 σ H1 vs us Q I1 r1 q1) he hpl
theorem ada (hc:CallR X (.type T) r) (hg:Gl X x) (hm:X.mg x=none) (hv:bootBuiltins x=some (.type T)) (ha:PA X (e::es) t) (hn:x ≠ "__name__":=by decide) (hdb:(x == ("__debug__" : Str))=false:=by decide)
  (he:starEach (e::es) X.env=(false,eval e X.env)::starEach es X.env:=by rfl) (hpl:(backTo pos (starEach es X.env)).any (·.1)=false:=by rfl):PE X (.Call (.Name x p) (e::es) [] pos) (tCB r t):=by
 intro pins s σ H Q I h
 refine wpAny_Call_Name_kw (a2n I hg hm hv ?_ hn hdb)
 exact PyProof.Rows.callWith_type1 (thn (ha pos pins s σ H _ I h) fun us s1 ⟨vs,H1,I1,r1,q1⟩=>hc pins s1 σ H1 vs us Q I1 r1 q1) he hpl
end
end L2
namespace HT
open PySem PyProof.Rows
section
variable {prog:Program} {w:World} {A:Around} {E:Value→Shared→Prop} {s:Shared}
theorem ako {t b:Addr} {vs ws:List Value} {Q:Value→Shared→Prop} (ht:IsTup s.heap t vs.toArray) (hb:IsTup s.heap b ws.toArray) (hv:vs≠[])
  (h1:ws=[]→Q (.ref t) s) (h2:ws≠[]→Q (.ref s.heap.objs.size) { s with heap:=s.heap.push { cls:=.type "tuple",data:=.seq (vs++ws).toArray } })
  (hsz:vs.length+ws.length≤sizeLine):wpAny (model prog w) A (binaryOp .Add (.ref t) (.ref b)) Q E s:=by
 obtain ⟨⟨cls,dd,data,sl⟩,ho,hc,n,hd⟩:=id ht
 obtain ⟨⟨cls2,dd2,data2,sl2⟩,ho2,hc2,n2,hd2⟩:=id hb
 simp only at hc hd hc2 hd2
 subst hc hd hc2 hd2
 have e:vs.toArray++ws.toArray=(vs++ws).toArray:=by simp
 by_cases hw:ws=[]
 ·exact concat_meets ⟨_,ho,rfl⟩ ⟨_,ho2,rfl⟩ noFill_tuple_add seq_tuple_add PySem.F.slot_tuple_add PySem.F.entry_tuple_add (PySem.F.args_tuple_add_2 _ _)
   (tuple_addW1 t b vs.toArray ws.toArray n n2 dd dd2 sl sl2 (by simpa using hv) (by simp [hw])) ⟨ho,ho2,h1 hw⟩
 ·refine concat_meets ⟨_,ho,rfl⟩ ⟨_,ho2,rfl⟩ noFill_tuple_add seq_tuple_add PySem.F.slot_tuple_add PySem.F.entry_tuple_add (PySem.F.args_tuple_add_2 _ _)
   (tuple_addW2 t b vs.toArray ws.toArray n n2 dd dd2 sl sl2 (by simpa using hv) (by simpa using hw) (by rw [List.size_toArray,List.size_toArray];exact hsz)) ⟨ho,ho2,?_⟩
  rw [e]
  exact h2 hw
def sIx (n d:Nat):Option Int→Nat
 | none=>d
 | some v=>if v<0 then (v+(n:Int)).toNat else min v.toNat n
theorem a9l (n d:Nat):sIx n d none=d:=rfl
theorem adb (n d k:Nat):sIx n d (some (k:Int))=min k n:=by
 show (if (k:Int)<0 then ((k:Int)+(n:Int)).toNat else min (k:Int).toNat n)=min k n
 rw [if_neg (by omega),Int.toNat_natCast]
theorem adc (n d:Nat) (hd:d≤n) (o:Option Int):sIx n d o≤n:=by
 cases o with
 | none=>exact hd
 | some v =>
  show (if v<0 then (v+(n:Int)).toNat else min v.toNat n)≤n
  by_cases hv:v<0
  ·rw [if_pos hv];omega
  ·rw [if_neg hv];exact Nat.min_le_right _ _
theorem ade (v:Int) (n d:Nat):(if v<0 then max (v+(n:Int)) 0 else min v (n:Int))=((sIx n d (some v):Nat):Int):=by
 show (if v<0 then max (v+(n:Int)) 0 else min v (n:Int))=(((if v<0 then (v+(n:Int)).toNat else min v.toNat n):Nat):Int)
 by_cases hv:v<0
 ·simp only [if_pos hv];omega
 ·simp only [if_neg hv];omega
theorem ab7 (lo hi:Option Int) (n:Nat):Builtin.Slice.sliceAdjust lo hi 1 (n:Int)=(((sIx n 0 lo:Nat):Int),((sIx n n hi:Nat):Int)):=by
 have h1:¬ ((1:Int)<0):=by omega
 unfold Builtin.Slice.sliceAdjust
 simp only [h1,if_false]
 refine Prod.ext ?_ ?_
 ·cases lo with
  | none=>rfl
  | some v=>exact ade v n 0
 ·cases hi with
  | none=>rfl
  | some v=>exact ade v n n
theorem ab8 (i j:Nat):Builtin.Slice.slicePlaces (i:Int) (j:Int) 1=j - i:=by
 unfold Builtin.Slice.slicePlaces
 have h1:(1:Int) > 0:=by omega
 simp only [h1,if_true,Int.ediv_one]
 split<;>omega
theorem a4j {v:Value} {o:Option Int} {Q:Option Int→Shared→Prop} (p:IsPart v o) (h:Q o s):wpAny (model prog w) A (Builtin.Slice.slicePartIndex v) Q E s:=by
 cases p with
 | none=>exact slicePart_none h
 | int i t=>exact slicePart_int h
theorem xj {sl:Addr} {vl vu:Value} {lo hi:Option Int} {n:Nat} {Q:Int × Int × Nat→Shared→Prop} (hs:s.heap.IsSliceOf sl vl vu .none) (pl:IsPart vl lo) (pu:IsPart vu hi)
  (h:Q (((sIx n 0 lo:Nat):Int),1,sIx n n hi - sIx n 0 lo) s):wpAny (model prog w) A (Builtin.Slice.sliceApplied (.ref sl) (pure (n:Int))) Q E s:=by
 obtain ⟨os,hos,hcs,hds⟩:=id hs
 unfold Builtin.Slice.sliceApplied Builtin.Slice.sliceFields
 refine wpAny_bind (wpAny_bind (wpAny_field hos hds (x:=vl) rfl (wpAny_bind (wpAny_field hos hds (x:=vu) rfl (wpAny_bind (wpAny_field hos hds (x:=.none) rfl (wpAny_pure ?_)))))))
 refine wpAny_bind (slicePart_none ?_)
 show wpAny _ _ (if ((1:Int) == 0)=true then _ else _) _ _ s
 rw [if_neg (by decide)]
 refine wpAny_bind (a4j pl (wpAny_bind (a4j pu (wpAny_bind (wpAny_pure ?_)))))
 show wpAny _ _ (match Builtin.Slice.sliceAdjust lo hi 1 (n:Int) with | (lo,hi)=>pure (lo,(1:Int),Builtin.Slice.slicePlaces lo hi 1)) _ _ s
 rw [ab7 lo hi n]
 show wpAny _ _ (pure (((sIx n 0 lo:Nat):Int),(1:Int),Builtin.Slice.slicePlaces ((sIx n 0 lo:Nat):Int) ((sIx n n hi:Nat):Int) 1)) _ _ s
 rw [ab8]
 exact wpAny_pure h
theorem agw (xs:Array Value) (i k:Nat):((List.range k).filterMap fun (m:Nat)=>xs[((i:Int)+(m:Int)*1).toNat]?).toArray=((xs.toList.drop i).take k).toArray:=by
 have e:(fun (m:Nat)=>xs[((i:Int)+(m:Int)*1).toNat]?)=fun m=>xs[i+m]?:=by
  funext m
  have:((i:Int)+(m:Int)*1).toNat=i+m:=by omega
  rw [this]
 rw [e]
 have:=pick_run xs i k
 rw [List.filterMap_map] at this
 have e2:((fun x=>xs[x]?) ∘ fun x=>i+x)=fun m=>xs[i+m]?:=rfl
 rw [e2] at this
 rw [this]
theorem a0t {t sl:Addr} {items:Array Value} {vl vu:Value} {lo hi:Option Int} {Q:Value→Shared→Prop} (ht:IsTup s.heap t items) (hs:s.heap.IsSliceOf sl vl vu .none) (pl:IsPart vl lo) (pu:IsPart vu hi)
  (hw:¬ (sIx items.size 0 lo=0∧sIx items.size items.size hi=items.size))
  (h:Q (.ref s.heap.objs.size) { s with heap:=s.heap.push { cls:=.type "tuple",data:=.seq ((items.toList.drop (sIx items.size 0 lo)).take (sIx items.size items.size hi - sIx items.size 0 lo)).toArray } })
  (hsz:items.size≤sizeLine):wpAny (model prog w) A (getItem (.ref t) (.ref sl)) Q E s:=by
 have htake:sizeOk (.seq ((items.toList.drop (sIx items.size 0 lo)).take (sIx items.size items.size hi - sIx items.size 0 lo)).toArray):=by
  show ((items.toList.drop (sIx items.size 0 lo)).take (sIx items.size items.size hi - sIx items.size 0 lo)).toArray.size≤sizeLine
  rw [List.size_toArray,List.length_take,List.length_drop,Array.length_toList]
  omega
 have hj:sIx items.size items.size hi≤items.size:=adc _ _ (Nat.le_refl _) hi
 obtain ⟨os,hos,hcs,hds⟩:=id hs
 have hTs:s.TypeIs (.ref sl) "slice":=⟨os,hos,hcs⟩
 unfold getItem
 try with_reducible refine wpAny_holding ?_
 first | refine wpAny_bind (wpAny_pure ?_) | skip
 refine wpAny_bind (wpAny_sequenceKey ht.typeIs (by decide) ?_)
 refine wpAny_bind (wpAny_callSpecial?_slot (name:=Str.ofString "__getitem__") ht.typeIs PyProof.Rows.slot_tuple_getitem
  (wpAny_call_entry PyProof.Rows.slot_tuple_getitem ht.typeIs entry_tuple_getitem ?_ (args_tuple_getitem _ _)))
 show wpAny _ _ (Builtin.Tuple.tupleItemsOf (.ref t)>>=_) _ _ s
 refine wpAny_bind (tupleItemsOf_ ht ?_)
 refine wpAny_bind (wpAny_typeOf hTs ?_)
 rw [if_pos (by decide)]
 refine wpAny_bind (xj hs pl pu ?_)
 have hno:¬ ((((sIx items.size 0 lo:Nat):Int) == 0 && (1:Int) == 1 && (sIx items.size items.size hi - sIx items.size 0 lo) == items.size)=true):=by
  intro q
  rw [Bool.and_eq_true,Bool.and_eq_true] at q
  have q1:((sIx items.size 0 lo:Nat):Int)=0:=eq_of_beq q.1.1
  have q2:sIx items.size items.size hi - sIx items.size 0 lo=items.size:=eq_of_beq q.2
  exact hw ⟨by omega,by omega⟩
 show wpAny _ _ (if (((sIx items.size 0 lo:Nat):Int) == 0 && (1:Int) == 1 && (sIx items.size items.size hi - sIx items.size 0 lo) == items.size)=true then _ else _) _ _ s
 rw [if_neg hno,agw]
 first
  | exact wpAny_bind (m:=Builtin.Tuple.tupleExact _) (wpAny_newObj_type (wpAny_pure ⟨_,rfl,wpAny_pure h⟩) htake)
  | exact wpAny_bind (m:=Builtin.Tuple.tupleExact _) (wpAny_newObj_type (wpAny_bind (wpAny_pure (wpAny_pure ⟨_,rfl,wpAny_pure h⟩))) htake)
  | exact wpAny_bind (wpAny_bind (m:=Builtin.Tuple.tupleExact _) (wpAny_newObj_type (wpAny_pure (wpAny_pure ⟨_,rfl,wpAny_pure h⟩)) htake))
  | exact wpAny_bind (wpAny_bind (m:=Builtin.Tuple.tupleExact _) (wpAny_newObj_type (wpAny_pure ⟨_,rfl,wpAny_pure h⟩) htake))
end
end HT
namespace L2
open PySem PySem.Spec PyProof.Rows
abbrev TO:=St→Hp→(Option Int→Hp→Prop)→Prop
def PO (X:Cx) (e:Option Expr) (t:TO):Prop :=
 ∀ (pins:List (Addr × Obj)) (s:Shared) (σ:St) (H:Hp) (Q:Option Int→Hp→Prop),Inv X pins σ H s→t σ H Q →
  wpAny (model X.prog X.w) X.A (evalPart e X.env) (fun u s'=>∃ o H',Inv X pins σ H' s'∧IsPart u o∧Q o H') X.xe s
def akp:TO:=fun _ H Q=>Q none H
def atc (t:TE):TO:=fun σ H Q=>t σ H fun x H1=>∃ i,x = .int i∧Q (some i) H1
theorem intsAre_of {ns:List Int}:∀ {us:List Value},Vals (ns.map V.int) us→IntsAre us ns:=by
 induction ns with
 | nil=>intro us r;rw [List.map_nil] at r;cases r;exact .nil
 | cons n ns ih =>
  intro us r
  rw [List.map_cons] at r
  cases r with
  | cons r1 r2 =>
   obtain ⟨t,e⟩:=r1
   subst e
   exact .cons n t (ih r2)
section
variable {X:Cx} {e:Expr} {te:TE} {lo hi:Option Expr} {tl th:TO} {pos p2:Pos}
theorem akq:PO X none akp:=by
 intro pins s σ H Q I h
 rw [evalPart_none]
 exact wpAny_pure ⟨none,H,I, .none,h⟩
theorem akr (h:PE X e te):PO X (some e) (atc te):=by
 intro pins s σ H Q I hw
 rw [evalPart_some]
 refine thn (h pins s σ H _ I hw) fun u s1 ⟨x,H1,I1,r1,q1⟩=>?_
 obtain ⟨i,rfl,q⟩:=q1
 obtain ⟨t,rfl⟩:=r1
 exact ⟨some i,H1,I1, .int i t,q⟩
def SlR (X:Cx) (r:V→Option Int→Option Int→Hp→VK→Prop):Prop :=
 ∀ (pins:List (Addr × Obj)) (s:Shared) (σ:St) (H:Hp) (x:V) (v vl vu:Value) (lo hi:Option Int) (sl:Addr) (Q:VK),Inv X pins σ H s→RelV x v→s.heap.IsSliceOf sl vl vu .none→IsPart vl lo→IsPart vu hi→r x lo hi H Q →
  ∃ T id,typeLookup (.type T) "__getitem__" = pure (some (.builtin id))∧s.TypeIs v T∧wpAny (model X.prog X.w) X.A (getItem v (.ref sl)) (EP X pins σ Q) X.xe s
theorem SlR.or {r r':V→Option Int→Option Int→Hp→VK→Prop} (h:SlR X r) (h':SlR X r'):SlR X (fun x lo hi H Q=>r x lo hi H Q∨r' x lo hi H Q):=by
 intro pins s σ H x v vl vu lo hi sl Q I rx hs pl pu q
 rcases q with q | q
 ·exact h pins s σ H x v vl vu lo hi sl Q I rx hs pl pu q
 ·exact h' pins s σ H x v vl vu lo hi sl Q I rx hs pl pu q
def tSl (r:V→Option Int→Option Int→Hp→VK→Prop) (te:TE) (tl th:TO):TE:=fun σ H Q=>te σ H fun x H1=>tl σ H1 fun l H2=>th σ H2 fun u H3=>r x l u H3 Q
theorem agx {r:V→Option Int→Option Int→Hp→VK→Prop} (hr:SlR X r) (he:PE X e te) (hl:PO X lo tl) (hu:PO X hi th):PE X (.Subscript e (.Slice lo hi none p2) pos) (tSl r te tl th):=by
 intro pins s σ H Q I h
 refine Subscript_ (thn (he pins s σ H _ I h) fun v s1 ⟨x,H1,I1,r1,q1⟩=>?_)
 refine wpAny_Slice (thn (hl pins s1 σ H1 _ I1 q1) fun vl s2 ⟨l,H2,I2,pl,q2⟩=>thn (hu pins s2 σ H2 _ I2 q2) fun vu s3 ⟨u,H3,I3,pu,q3⟩=>?_)
 rw [evalPart_none]
 refine wpAny_pure ?_
 have I4:Inv X pins σ H3 { s3 with heap:=s3.heap.push { cls:=.type "slice",data:=.fields #[vl,vu, .none] } }:=I3.kept (t':=s3.toks) fun b ob q=>Heap.get?_push_of_some _ q
 obtain ⟨T,id,hT,ht,hg⟩:=hr pins { s3 with heap:=s3.heap.push { cls:=.type "slice",data:=.fields #[vl,vu, .none] } } σ H3 x v vl vu l u s3.heap.objs.size Q I4 r1 (Heap.IsSliceOf.new ..) pl pu q3
 show wpAny (model X.prog X.w) X.A (subscriptTail e (.Slice lo hi none p2) v (.ref s3.heap.objs.size)) (EP X pins σ Q) X.xe { s3 with heap:=s3.heap.push { cls:=.type "slice",data:=.fields #[vl,vu, .none] } }
 exact tail_any (ops:=[.ref s3.heap.objs.size,v]) ht hT hg (by with_unfolding_all rfl)
def aiy (xs:List V) (lo hi:Option Int):List V:=(xs.drop (HT.sIx xs.length 0 lo)).take (HT.sIx xs.length xs.length hi - HT.sIx xs.length 0 lo)
theorem a2q (xs:List V) (lo hi:Option Int):(aiy xs lo hi).length≤xs.length:=by
 unfold aiy
 rw [List.length_take,List.length_drop]
 omega
def atd (K:PySem.W.Frag):V→Option Int→Option Int→Hp→VK→Prop:=fun x lo hi H Q=>∃ a xs,x = .ref a∧SqT K H a xs ∧
 ¬ (HT.sIx xs.length 0 lo=0∧HT.sIx xs.length xs.length hi=xs.length)∧∀ p,H p=none→Q (.ref p) (upd H p (.tup (aiy xs lo hi)))
theorem aot:SlR X (atd X.K):=by
 intro pins s σ H x v vl vu lo hi sl Q I rx hs pl pu h
 obtain ⟨a,xs,rfl,hx,hw,q⟩:=h
 cases rx
 obtain ⟨its,r,ht,hz⟩:=I.tuple hx
 have hlen:its.toArray.size=xs.length:=by rw [List.size_toArray];exact r.length.symm
 refine ⟨"tuple",_,PyProof.Rows.slot_tuple_getitem.lookup,ht.typeIs,?_⟩
 refine HT.a0t ht hs pl pu (by rw [hlen];exact hw) ?_ (by rw [hlen];exact hz)
 rw [hlen]
 refine ⟨.ref s.heap.objs.size,_,I.laid (t':=s.toks) (o:=.tup (aiy xs lo hi)) (fun b ob q=>Heap.get?_push_of_some _ q) (Nat.le_refl _) ?_,rfl,q _ (I.hok.fresh (Nat.le_refl _))⟩
 exact ⟨Nat.le_trans (a2q xs lo hi) hz,_,(r.drop (HT.sIx xs.length 0 lo)).take (HT.sIx xs.length xs.length hi - HT.sIx xs.length 0 lo),IsTup.new _ _⟩
def aou (K:PySem.W.Frag):R2:=fun x y H Q=>∃ a b xs ys,x = .ref a∧y = .ref b∧SqT K H a xs∧SqT K H b ys∧xs≠[]∧xs.length+ys.length≤sizeLine ∧
 (ys=[]→Q (.ref a) H)∧(ys≠[]→∀ p,H p=none→Q (.ref p) (upd H p (.tup (xs++ys))))
theorem Vals.nil_iff {xs:List V} {us:List Value} (r:Vals xs us):us=[]↔xs=[]:=by
 cases r with
 | nil=>simp
 | cons _ _=>simp
theorem aks:OpR X (binaryOp .Add) (aou X.K):=by
 intro pins s σ H x y v u Q I rx ry h
 obtain ⟨a,b,xs,ys,rfl,rfl,ha,hb,hx,hz,q1,q2⟩:=h
 cases rx
 cases ry
 obtain ⟨its,r1,p1,_⟩:=I.tuple ha
 obtain ⟨its2,r2,p2,_⟩:=I.tuple hb
 refine HT.ako p1 p2 (fun z=>hx (r1.nil_iff.mp z)) (fun z=>⟨.ref a,H,I,rfl,q1 (r2.nil_iff.mp z)⟩) (fun z=>?_) (by rw [← r1.length,← r2.length];exact hz)
 refine ⟨.ref s.heap.objs.size,_,I.laid (t':=s.toks) (o:=.tup (xs++ys)) (fun b ob q=>Heap.get?_push_of_some _ q) (Nat.le_refl _) ?_,rfl,q2 (fun w=>z (r2.nil_iff.mpr w)) _ (I.hok.fresh (Nat.le_refl _))⟩
 exact ⟨by rw [List.length_append];exact hz,_,r1.append r2,IsTup.new _ _⟩
end
end L2
namespace L2
open PySem PySem.Spec PyProof.Rows
def ixN (n:Nat) (i:Int):Option Nat:=if 0≤i then (if i<n then some i.toNat else none) else if -(n:Int)≤i then some (i+n).toNat else none
def atI {α:Type} (xs:List α) (i:Int):Option α:=(ixN xs.length i).bind fun j=>xs[j]?
theorem adf {n:Nat} {i:Int} {j:Nat} (h:ixN n i=some j):seqIndex? i n=some j∧j<n ∧ -(n:Int)≤i∧i<n:=by
 unfold ixN at h
 by_cases h0:0≤i
 ·rw [if_pos h0] at h
  by_cases h1:i<n
  ·rw [if_pos h1] at h
   have e:i.toNat=j:=Option.some.inj h
   exact ⟨by rw [seqIndex_of h0 h1,e],by omega,by omega,h1⟩
  ·rw [if_neg h1] at h;cases h
 ·rw [if_neg h0] at h
  by_cases h1 : -(n:Int)≤i
  ·rw [if_pos h1] at h
   have e:(i+n).toNat=j:=Option.some.inj h
   exact ⟨by rw [seqIndex_neg (by omega) h1,e],by omega,h1,by omega⟩
  ·rw [if_neg h1] at h;cases h
theorem a5e {α:Type} {xs:List α} {i:Int} {v:α} (h:atI xs i=some v):∃ j,seqIndex? i xs.length=some j∧xs[j]? = some v∧j<xs.length ∧ -(xs.length:Int)≤i∧i<xs.length:=by
 unfold atI at h
 cases e:ixN xs.length i with
 | none=>rw [e] at h;cases h
 | some j =>
  rw [e] at h
  obtain ⟨h1,h2,h3,h4⟩:=adf e
  exact ⟨j,h1,h,h2,h3,h4⟩
theorem o9 {α:Type} {xs:List α} {j:Nat} {v:α} (h:xs[j]? = some v):atI xs (j:Int)=some v:=by
 have hj:j<xs.length:=(List.getElem?_eq_some_iff.mp h).1
 have e:ixN xs.length (j:Int)=some j:=by
  unfold ixN
  rw [if_pos (by omega),if_pos (by omega)];simp
 unfold atI;rw [e];exact h
def a8h (b:Expr):Prop:=∀ o i,subscripted b false o i=operate [o,i] (getItem o i)
def IxR (X:Cx) (r:R2):Prop :=
 ∀ (value slice:Expr) (pins:List (Addr × Obj)) (s:Shared) (σ:St) (H:Hp) (x y:V) (v u:Value) (Q:VK),Inv X pins σ H s→RelV x v→RelV y u→r x y H Q →
  subscripted slice false v u=operate [v,u] (getItem v u)→wpAny (model X.prog X.w) X.A (subscriptTail value slice v u) (EP X pins σ Q) X.xe s
def MtR (X:Cx) (id:String) (r:V→List V→Hp→VK→Prop):Prop :=
 ∀ (pins:List (Addr × Obj)) (s:Shared) (σ:St) (H:Hp) (x:V) (xs:List V) (v:Value) (us:List Value) (Q:VK),Inv X pins σ H s→RelV x v→Vals xs us→r x xs H Q →
  wpAny (model X.prog X.w) X.A (call (.builtin id) (v::us)) (EP X pins σ Q) X.xe s
section
variable {X:Cx} {a b:Expr} {ta tb:TE} {pos:Pos}
theorem IxR.or {r r':R2} (h:IxR X r) (h':IxR X r'):IxR X (fun x y H Q=>r x y H Q∨r' x y H Q):=by
 intro value slice pins s σ H x y v u Q I rx ry q hs
 rcases q with q | q
 ·exact h value slice pins s σ H x y v u Q I rx ry q hs
 ·exact h' value slice pins s σ H x y v u Q I rx ry q hs
theorem ate {r:R2} (hr:IxR X r) (ha:PE X a ta) (hb:PE X b tb) (hs:a8h b):PE X (.Subscript a b pos) (tOp r ta tb):=by
 intro pins s σ H Q I h
 exact Subscript_ (asz ha hb I h fun v u s2 x y H2 I2 rx ry q=>hr a b pins s2 σ H2 x y v u Q I2 rx ry q (hs _ _))
def arz (K:PySem.W.Frag):R2:=fun x y H Q=>∃ p xs i v,x = .ref p∧y = .int i∧SqL K H p xs∧atI xs i=some v∧Q v H
def auo (K:PySem.W.Frag):R2:=fun x y H Q=>∃ p xs i v,x = .ref p∧y = .int i∧SqT K H p xs∧atI xs i=some v∧Q v H
def aup:R2:=fun x y H Q=>∃ z i c,x = .str z∧y = .int i∧z.length≤sizeLine∧atI z.cps.toList i=some c∧Q (.str ⟨#[c]⟩) H
theorem akt:IxR X (arz X.K):=by
 intro value slice pins s σ H x y v u Q I rx ry h hs
 obtain ⟨p,xs,i,z,rfl,rfl,hq,he,q⟩:=h
 cases rx
 obtain ⟨t,rfl⟩:=ry
 obtain ⟨its,r,pl,hz⟩:=I.list hq
 obtain ⟨j,h1,h2,h3,h4,h5⟩:=a5e he
 obtain ⟨w,ew,rw'⟩:=r.get h2
 have hl:=r.length
 have hn:=a1m
 have fin:EP X pins σ Q w s:=⟨z,H,I,rw',q⟩
 by_cases h0:0≤i
 ·have hj:i.toNat=j:=by
   rw [seqIndex_of h0 h5] at h1
   exact Option.some.inj h1
  exact item_listR pl.isList h0 (by omega) (by rw [hj];simpa using ew) fin hs
 ·have hj:(i+(its.toArray.size:Int)).toNat=j:=by
   rw [seqIndex_neg (by omega) h4] at h1
   rw [List.size_toArray,← hl]
   exact Option.some.inj h1
  exact subscriptTail_builtinR (x:=w) pl.isList.typeIs slot_list_getitem.lookup
   (wpAny_getItem_list_neg (Q:=fun r s'=>r=w∧EP X pins σ Q r s') pl.isList (by omega) (by rw [List.size_toArray]<;>omega) (by omega) (by rw [hj];simpa using ew) ⟨rfl,fin⟩) hs
theorem a2r:IxR X (auo X.K):=by
 intro value slice pins s σ H x y v u Q I rx ry h hs
 obtain ⟨p,xs,i,z,rfl,rfl,hq,he,q⟩:=h
 cases rx
 obtain ⟨t,rfl⟩:=ry
 obtain ⟨its,r,pl,hz⟩:=I.tuple hq
 obtain ⟨j,h1,h2,h3,h4,h5⟩:=a5e he
 obtain ⟨w,ew,rw'⟩:=r.get h2
 have hl:=r.length
 have hn:=a1m
 have fin:EP X pins σ Q w s:=⟨z,H,I,rw',q⟩
 exact subscriptTail_builtinR (x:=w) pl.typeIs slot_tuple_getitem.lookup
  (getItem_tuple (j:=j) (Q:=fun r s'=>r=w∧EP X pins σ Q r s') pl (by omega) (by omega) (by rw [List.size_toArray,← hl];exact h1) (by simpa using ew) ⟨rfl,fin⟩) hs
theorem aov:IxR X aup:=by
 intro value slice pins s σ H x y v u Q I rx ry h hs
 obtain ⟨z,i,c,rfl,rfl,hz,he,q⟩:=h
 obtain ⟨t,rfl⟩:=rx
 obtain ⟨t',rfl⟩:=ry
 obtain ⟨j,h1,h2,h3,h4,h5⟩:=a5e he
 have hl:z.cps.toList.length=z.length:=by simp [Str.length]
 rw [hl] at h1 h4 h5
 have hn:=a1m
 exact tail_any (typeIs_str s z t) slot_str_getitem.lookup (getItem_str (c:=c) (by
  have e1:decide (i < -(2 ^ 63:Int))=false:=decide_eq_false (by omega)
  have e2:decide (i≥2 ^ 63)=false:=decide_eq_false (by omega)
  rw [e1,e2,Bool.or_false]) (by rw [h1];simpa using h2) ⟨.str ⟨#[c]⟩,H,I.tok _,⟨_,rfl⟩,q⟩) hs
def rIx (K:PySem.W.Frag):R2:=fun x y H Q=>arz K x y H Q∨auo K x y H Q∨aup x y H Q
theorem aow:IxR X (rIx X.K):=akt.or (a2r.or aov)
theorem ab9 (its:List Value) (n j:Nat) (u:Value):Obj.mapSeq (·.setIfInBounds j u) { cls:=.type "list",data:=.seq its.toArray n }={ cls:=.type "list",data:=.seq (its.set j u).toArray n }:=by
 simp [Obj.mapSeq]
theorem Inv.lst {pins:List (Addr × Obj)} {σ:St} {H:Hp} {s:Shared} {p:Addr} {xs:List V} (I:Inv X pins σ H s) (h:H p=some (.lst xs)) :
  ∃ (its:List Value) (n:Nat),Vals xs its∧s.heap.get? p=some { cls:=.type "list",data:=.seq its.toArray n }∧xs.length≤sizeLine:=by
 obtain ⟨z,its,n,r,e⟩:=I.hok p _ h
 exact ⟨its,n,r,e,z⟩
theorem Inv.lstUpd {pins:List (Addr × Obj)} {σ:St} {H:Hp} {s:Shared} {p:Addr} {xs ys:List V} {its its':List Value} {n n':Nat} {f:Obj→Obj} (I:Inv X pins σ H s) (h:H p=some (.lst xs))
  (ho:s.heap.get? p=some { cls:=.type "list",data:=.seq its.toArray n }) (hf:f { cls:=.type "list",data:=.seq its.toArray n }={ cls:=.type "list",data:=.seq its'.toArray n' }) (r:Vals ys its') (hz:ys.length≤sizeLine) (t:Nat) :
  Inv X pins σ (upd H p (.lst ys)) { s with heap:=s.heap.update p f,toks:=t }:=by
 have e:(s.heap.update p f).get? p=some { cls:=.type "list",data:=.seq its'.toArray n' }:=by
  rw [Heap.get?_update_self f ho (by rw [hf]<;>rfl),hf]
 refine I.write (x:=p) (e:=p) (by rw [h];trivial) (.inl rfl) (fun b u hb q=>(Heap.get?_update_other _ _ (Ne.symm hb)).trans q) ⟨_,e⟩ ?_
 exact ⟨hz,its',n',r,e⟩
def aox:V→V→V→Hp→(Hp→Prop)→Prop:=fun o i v H Q=>∃ p xs k j,o = .ref p∧i = .int k∧H p=some (.lst xs)∧ixN xs.length k=some j∧Q (upd H p (.lst (xs.set j v)))
theorem set_list:asu X aox:=by
 intro pins s σ H o i v ov iv u Q I ro ri rv h
 obtain ⟨p,xs,k,j,rfl,rfl,hp,hj,q⟩:=h
 cases ro
 obtain ⟨t,rfl⟩:=ri
 obtain ⟨its,n,r,ho,hz⟩:=I.lst hp
 obtain ⟨h1,h2,h3,h4⟩:=adf hj
 have hl:=r.length
 have hn:=a1m
 have I':Inv X pins σ (upd H p (.lst (xs.set j v))) { s with heap:=s.heap.update p (Obj.mapSeq (·.setIfInBounds j u)) } :=
  I.lstUpd hp ho (ab9 its n j u) (r.set rv j) (by rw [List.length_set];exact hz) s.toks
 by_cases h0:0≤k
 ·have hk:k.toNat=j:=by
   rw [seqIndex_of h0 h4] at h1
   exact Option.some.inj h1
  exact PySem.W.ki_setAt ho h0 (by omega) (by rw [List.size_toArray,← hl];exact h4) (by rw [hk];exact ⟨_,I',q⟩)
 ·have hk:(k+(its.toArray.size:Int)).toNat=j:=by
   rw [seqIndex_neg (by omega) h3] at h1
   rw [List.size_toArray,← hl]
   exact Option.some.inj h1
  exact PySem.W.ki_setBack ho (by omega) (by rw [List.size_toArray,← hl];exact h3) (by omega) (by rw [hk];exact ⟨_,I',q⟩)
theorem a6z (lo hi:Option Int) (n:Nat):(sliceBounds lo hi none n).1=((HT.sIx n 0 lo:Nat):Int)∧(sliceBounds lo hi none n).2.1=((HT.sIx n n hi:Nat):Int)∧(sliceBounds lo hi none n).2.2=1:=by
 refine ⟨?_,?_,rfl⟩
 ·cases lo with
  | none=>simp [sliceBounds,HT.sIx]
  | some i =>
   simp only [sliceBounds,HT.sIx,Option.getD_none,show (1:Int) > 0 by decide,if_true]
   by_cases h:i<0
   ·simp only [h,if_true]<;>omega
   ·simp only [h,if_false]<;>omega
 ·cases hi with
  | none=>simp [sliceBounds,HT.sIx]
  | some i =>
   simp only [sliceBounds,HT.sIx,Option.getD_none,show (1:Int) > 0 by decide,if_true]
   by_cases h:i<0
   ·simp only [h,if_true]<;>omega
   ·simp only [h,if_false]<;>omega
theorem a5f (its:List Value) (lo hi:Option Int):slicePick its.toArray lo hi none=((its.drop (HT.sIx its.length 0 lo)).take (HT.sIx its.length its.length hi - HT.sIx its.length 0 lo)).toArray:=by
 obtain ⟨h1,h2,h3⟩:=a6z lo hi its.toArray.size
 unfold slicePick
 rw [h1,h2,h3]
 simp only [sliceRange_one,pick_run,List.size_toArray]<;>rfl
def atf (K:PySem.W.Frag):V→Option Int→Option Int→Hp→VK→Prop:=fun x lo hi H Q=>∃ a xs,x = .ref a∧SqL K H a xs∧∀ p,H p=none→Q (.ref p) (upd H p (.lst (aiy xs lo hi)))
theorem aku:SlR X (atf X.K):=by
 intro pins s σ H x v vl vu lo hi sl Q I rx hs pl pu h
 obtain ⟨a,xs,rfl,hx,q⟩:=h
 cases rx
 obtain ⟨its,r,ht,hz⟩:=I.list hx
 have hlen:=r.length
 refine ⟨"list",_,slot_list_getitem.lookup,ht.isList.typeIs,?_⟩
 refine wpAny_getItem_list_slice ht.isList hs pl pu .none (by simp) ?_ (by rw [List.size_toArray]<;>omega)
 rw [a5f,← hlen]
 refine ⟨.ref s.heap.objs.size,_,I.laid (t':=s.toks) (o:=.lst (aiy xs lo hi)) (fun b ob q=>Heap.get?_push_of_some _ q) (Nat.le_refl _) ?_,rfl,q _ (I.hok.fresh (Nat.le_refl _))⟩
 exact ⟨Nat.le_trans (a2q xs lo hi) hz,_,0,(r.drop (HT.sIx xs.length 0 lo)).take (HT.sIx xs.length xs.length hi - HT.sIx xs.length 0 lo),Heap.get?_push_size _ rfl⟩
def zu:V→Bool
 | .non=>true
 | .bl _=>true
 | .int _=>true
 | .str _=>true
 | _=>false
def eqV:V→V→Bool
 | .non, .non=>true
 | .bl a, .bl b=>a == b
 | .bl a, .int b=>(if a then 1 else 0) == b
 | .int a, .bl b=>a == (if b then 1 else 0)
 | .int a, .int b=>a == b
 | .str a, .str b=>a == b
 | _,_=>false
theorem adg {A:Around} {s:Shared} {y x:V} {u v:Value} (ry:RelV y u) (rx:RelV x v) (fy:zu y=true) (fx:zu x=true):SeqAt.EqAt A s u v (eqV y x):=by
 cases y with
 | non =>
  cases ry
  cases x with
  | non=>cases rx;exact SeqAt.EqAt.same _
  | bl b=>cases rx;exact SeqAt.EqAt.none_bool b
  | int b=>obtain ⟨t,rfl⟩:=rx;exact SeqAt.EqAt.none_int b t
  | str b=>obtain ⟨t,rfl⟩:=rx;exact SeqAt.EqAt.none_str b t
  | _=>exact absurd (show false=true from fx) Bool.false_ne_true
 | bl a =>
  cases ry
  cases x with
  | non=>cases rx;exact SeqAt.EqAt.bool_none a
  | bl b=>cases rx;exact SeqAt.EqAt.bool_bool a b
  | int b=>obtain ⟨t,rfl⟩:=rx;exact SeqAt.EqAt.bool_int a b t
  | str b=>obtain ⟨t,rfl⟩:=rx;exact SeqAt.EqAt.bool_str a b t
  | _=>exact absurd (show false=true from fx) Bool.false_ne_true
 | int a =>
  obtain ⟨t',rfl⟩:=ry
  cases x with
  | non=>cases rx;exact SeqAt.EqAt.int_none a t'
  | bl b=>cases rx;exact SeqAt.EqAt.int_bool a t' b
  | int b=>obtain ⟨t,rfl⟩:=rx;exact SeqAt.EqAt.int_int a t' b t
  | str b=>obtain ⟨t,rfl⟩:=rx;exact SeqAt.EqAt.int_str a t' b t
  | _=>exact absurd (show false=true from fx) Bool.false_ne_true
 | str a =>
  obtain ⟨t',rfl⟩:=ry
  cases x with
  | non=>cases rx;exact SeqAt.EqAt.str_none a t'
  | bl b=>cases rx;exact SeqAt.EqAt.str_bool a t' b
  | int b=>obtain ⟨t,rfl⟩:=rx;exact SeqAt.EqAt.str_int a t' b t
  | str b=>obtain ⟨t,rfl⟩:=rx;exact SeqAt.EqAt.str_str a t' b t
  | _=>exact absurd (show false=true from fx) Bool.false_ne_true
 | _=>exact absurd (show false=true from fy) Bool.false_ne_true
def eqU (x:V) (u:Value):Bool:=match u with
 | .none=>eqV .non x
 | .bool b=>eqV (.bl b) x
 | .int i _=>eqV (.int i) x
 | .str z _=>eqV (.str z) x
 | _=>false
theorem aiz {x y:V} {u:Value} (r:RelV y u) (f:zu y=true):eqU x u=eqV y x:=by
 cases y with
 | non=>cases r;rfl
 | bl b=>cases r;rfl
 | int i=>obtain ⟨t,rfl⟩:=r;rfl
 | str z=>obtain ⟨t,rfl⟩:=r;rfl
 | _=>exact absurd (show false=true from f) Bool.false_ne_true
theorem a2s {x:V}:∀ {xs:List V} {us:List Value},Vals xs us→xs.all zu=true→us.any (eqU x)=xs.any fun y=>eqV y x
 | _,_, .nil,_=>rfl
 | y::xs,u::us, .cons r t,f=>by
  rw [List.all_cons,Bool.and_eq_true] at f
  rw [List.any_cons,List.any_cons,aiz r f.1,a2s t f.2]
theorem a09 {A:Around} {s:Shared} {x:V} {v:Value} (rx:RelV x v) (fx:zu x=true):∀ {xs:List V} {us:List Value},Vals xs us→xs.all zu=true→∀ u∈us,SeqAt.EqAt A s u v (eqU x u)
 | _,_, .nil,_=>fun u hu=>by cases hu
 | y::xs,u::us, .cons r t,f=>fun u' hu=>by
  rw [List.all_cons,Bool.and_eq_true] at f
  rcases List.mem_cons.mp hu with rfl | hu
  ·rw [aiz r f.1];exact adg r rx f.1 fx
  ·exact a09 rx fx t f.2 u' hu
def inV (x:V) (xs:List V):Bool:=xs.any fun y=>eqV y x
def rIn (K:PySem.W.Frag) (neg:Bool):R2:=fun x y H Q=>∃ p xs,y = .ref p∧(SqL K H p xs∨SqT K H p xs)∧zu x=true∧xs.all zu=true∧Q (.bl (if neg then !inV x xs else inV x xs)) H
theorem adh:OpR X (compareOp .In) (rIn X.K false):=by
 intro pins s σ H x y v u Q I rx ry h
 obtain ⟨p,xs,rfl,hq,fx,fs,q⟩:=h
 cases ry
 rcases hq with hq | hq
 ·obtain ⟨its,r,pl,hz⟩:=I.list hq
  refine SeqAt.in_listAt (eqU x) pl.isList (fun w hw=>a09 rx fx r fs w (by simpa using hw)) ⟨.bl _,H,I,rfl,?_⟩
  rw [show its.toArray.any (eqU x)=its.any (eqU x) by simp,a2s r fs]
  exact q
 ·obtain ⟨its,r,pl,hz⟩:=I.tuple hq
  refine SeqAt.in_tupleAt (eqU x) pl (fun w hw=>a09 rx fx r fs w (by simpa using hw)) ⟨.bl _,H,I,rfl,?_⟩
  rw [show its.toArray.any (eqU x)=its.any (eqU x) by simp,a2s r fs]
  exact q
theorem a1n:OpR X (compareOp .NotIn) (rIn X.K true):=by
 intro pins s σ H x y v u Q I rx ry h
 obtain ⟨p,xs,rfl,hq,fx,fs,q⟩:=h
 cases ry
 rcases hq with hq | hq
 ·obtain ⟨its,r,pl,hz⟩:=I.list hq
  refine SeqAt.notIn_listAt (eqU x) pl.isList (fun w hw=>a09 rx fx r fs w (by simpa using hw)) ⟨.bl _,H,I,rfl,?_⟩
  rw [show its.toArray.any (eqU x)=its.any (eqU x) by simp,a2s r fs]
  exact q
 ·obtain ⟨its,r,pl,hz⟩:=I.tuple hq
  refine SeqAt.notIn_tupleAt (eqU x) pl (fun w hw=>a09 rx fx r fs w (by simpa using hw)) ⟨.bl _,H,I,rfl,?_⟩
  rw [show its.toArray.any (eqU x)=its.any (eqU x) by simp,a2s r fs]
  exact q
theorem iw:CallR X (.builtin "len") (fun xs H Q=>∃ p ys,xs=[.ref p]∧(SqL X.K H p ys∨SqT X.K H p ys)∧Q (.int ys.length) H):=by
 intro pins s σ H xs us Q I r h
 obtain ⟨p,ys,rfl,hq,q⟩:=h
 obtain ⟨u,rfl,rx⟩:=vals1 r
 cases rx
 have hn:=a1m
 rcases hq with hq | hq
 ·obtain ⟨its,r',pl,hz⟩:=I.list hq
  have hlen:=r'.length
  exact Calls.call_len_list pl.isList (by simp only [List.size_toArray]<;>omega) ⟨.int ys.length,H,I.tok _,⟨s.toks+1,by rw [List.size_toArray,hlen]⟩,q⟩
 ·obtain ⟨its,r',pl,hz⟩:=I.tuple hq
  have hlen:=r'.length
  exact len_tuple pl (by simp only [List.size_toArray]<;>omega) ⟨.int ys.length,H,I.tok _,⟨s.toks+1,by rw [List.size_toArray,hlen]⟩,q⟩
theorem iy:CallR X (.builtin "len") (fun xs H Q=>∃ z,xs=[.str z]∧z.length≤sizeLine∧Q (.int z.length) H):=by
 intro pins s σ H xs us Q I r h
 obtain ⟨z,rfl,hz,q⟩:=h
 obtain ⟨u,rfl,t,rfl⟩:=vals1 r
 have hn:=a1m
 exact len_str (by omega) ⟨.int z.length,H,I.tok _,⟨_,rfl⟩,q⟩
theorem CallR.or {f:Value} {r r':List V→Hp→VK→Prop} (h:CallR X f r) (h':CallR X f r'):CallR X f (fun xs H Q=>r xs H Q∨r' xs H Q):=by
 intro pins s σ H xs us Q I rs q
 rcases q with q | q
 ·exact h pins s σ H xs us Q I rs q
 ·exact h' pins s σ H xs us Q I rs q
theorem m9:CallR X (.type "tuple") (fun xs H Q=>∃ p ys,xs=[.ref p]∧((SqL X.K H p ys∧∀ l,H l=none→Q (.ref l) (upd H l (.tup ys)))∨(SqT X.K H p ys∧Q (.ref p) H))):=by
 intro pins s σ H xs us Q I r h
 obtain ⟨p,ys,rfl,h⟩:=h
 obtain ⟨u,rfl,rx⟩:=vals1 r
 cases rx
 rcases h with ⟨hq,q⟩ | ⟨hq,q⟩
 ·obtain ⟨its,r',pl,hz⟩:=I.list hq
  have hlen:=r'.length
  refine call_tuple_list pl.isList (fun h' kp=>?_) (by simp only [List.size_toArray]<;>omega)
  have I1:Inv X pins σ H { s with heap:=h' }:=I.kept (t':=s.toks) kp
  have I2:Inv X pins σ (upd H h'.objs.size (.tup ys)) { s with heap:=h'.push { cls:=.type "tuple",data:=.seq its.toArray } } :=
   I1.laid (t':=s.toks) (fun b o e=>Heap.get?_push_of_some _ e) (Nat.le_refl _) (show ObjOk X.prog X.w _ _ _ (.tup ys) from ⟨hz,its,r',IsTup.new _ _⟩)
  exact ⟨.ref h'.objs.size,_,I2,rfl,q _ (I1.hok.fresh (Nat.le_refl _))⟩
 ·obtain ⟨its,r',pl,hz⟩:=I.tuple hq
  exact call_tuple_same pl ⟨.ref p,H,I,rfl,q⟩
def tyV (K:PySem.W.Frag) (T:String) (x:V) (H:Hp):Prop:=match x with
 | .str _=>T = "str"
 | .int _=>T = "int"
 | .ref p=>(T = "list"∧∃ xs,SqL K H p xs)∨(T = "tuple"∧∃ o,K.lookup p=some o∧o.cls = .type "tuple"∧o.dict=none) ∨
   (T = "dict"∧((∃ kvs,H p=some (.dK kvs))∨∃ kvs,H p=some (.dT kvs)))∨(T = "set"∧∃ S n,H p=some (.set S n))
 | _=>False
theorem aoy {pins:List (Addr × Obj)} {σ:St} {H:Hp} {s:Shared} {T:String} {x:V} {v:Value} (I:Inv X pins σ H s) (r:RelV x v) (ty:tyV X.K T x H) :
  s.TypeIs v T∧∀ a,v = .ref a→∃ ob,s.heap.get? a=some ob∧ob.dict=none:=by
 cases x with
 | str z =>
  obtain ⟨t,rfl⟩:=r
  cases (show T = "str" from ty)
  exact ⟨typeIs_str s z t,fun _ e=>nomatch e⟩
 | int i =>
  obtain ⟨t,rfl⟩:=r
  cases (show T = "int" from ty)
  exact ⟨typeIs_int s i t,fun _ e=>nomatch e⟩
 | ref p =>
  cases r
  rcases ty with ⟨rfl,xs,hq⟩ | ⟨rfl,o,hk,hc,hd⟩ | ⟨rfl,hk⟩ | ⟨rfl,S,n,hk⟩
  ·obtain ⟨its,_,pl,_⟩:=I.list hq
   refine ⟨pl.isList.typeIs,fun a e=>?_⟩
   cases e
   obtain ⟨o,n,e,c,hd,_⟩:=pl
   exact ⟨o,e,hd⟩
  ·refine ⟨⟨o,I.kIn p o hk,hc⟩,fun a e=>?_⟩
   cases e
   exact ⟨o,I.kIn _ o hk,hd⟩
  ·have z:∃ o,s.heap.get? p=some o∧o.ExactDict:=by
    rcases hk with ⟨kvs,hk⟩ | ⟨kvs,hk⟩
    ·obtain ⟨_,_,_,_,o,_,_,e,ex,_⟩:=I.hok p _ hk
     exact ⟨o,e,ex⟩
    ·obtain ⟨_,_,_,_,o,_,_,e,ex,_⟩:=I.hok p _ hk
     exact ⟨o,e,ex⟩
   obtain ⟨o,e,ex⟩:=z
   refine ⟨⟨o,e,ex.1⟩,fun a e2=>?_⟩
   cases e2
   exact ⟨o,e,ex.2.1⟩
  ·obtain ⟨o,_,_,_,e,ex,_⟩:=I.hok p _ hk
   refine ⟨⟨o,e,ex.1⟩,fun a e2=>?_⟩
   cases e2
   exact ⟨o,e,ex.2.1⟩
 | _=>exact False.elim ty
def tBM (K:PySem.W.Frag) (T:String) (r:V→List V→Hp→VK→Prop) (to:TE) (t:TA):TE:=fun σ H Q=>to σ H fun x H1=>tyV K T x H1∧t σ H1 fun xs H2=>r x xs H2 Q
variable {o e:Expr} {es:List Expr} {to:TE} {t:TA} {name:Str} {apos cpos:Pos} {T id:String} {r:V→List V→Hp→VK→Prop}
theorem atg (pa:PlainAttrs T) (slot:Slot T name id) (hty:typeOf (.builtin id)=pure (.type "method_descriptor")) (hm:MtR X id r) (ho:PE X o to) (ha:PA X (e::es) t)
  (hbase:attributeBase o name X.env (eval o X.env)=eval o X.env:=by rfl)
  (hfew:((backTo cpos (starEach (e::es) X.env)).all (fun x => !x.1) && (backToKw cpos (keywordEach [] X.env)).all (fun x=>x.1.isSome)
   && decide ((e::es).length+([]:List Keyword).length+(if ([]:List Keyword).isEmpty then 0 else 1)<30))=true:=by rfl)
  (hline:(apos.endLine == cpos.line)=true:=by rfl) (hs:starEach (e::es) X.env=(false,eval e X.env)::starEach es X.env:=by rfl) (hplain:(backTo cpos (starEach es X.env)).any (·.1)=false:=by rfl) :
  PE X (.Call (.Attribute o name apos) (e::es) [] cpos) (tBM X.K T r to t):=by
 intro pins s σ H Q I h
 refine wpAny_Call_method_late hbase hfew hline rfl (thn (ho pins s σ H _ I h) fun v s1 ⟨x,H1,I1,r1,ty,q1⟩=>?_)
 obtain ⟨h1,h2⟩:=aoy I1 r1 ty
 refine ⟨T,id,pa,slot,hty,h1,h2,?_⟩
 have hA:=ha cpos pins s1 σ H1 _ I1 q1
 rw [hs] at hA ⊢
 refine Calls.callWith_builtin (by show (false || (backTo cpos (starEach es X.env)).any (·.1))=false;rw [hplain]<;>rfl) (Calls.evalArgs_plain ?_)
 exact thn hA fun us s2 ⟨vs,H2,I2,r2,q2⟩=>hm pins s2 σ H2 x vs v us Q I2 r1 r2 q2
end
end L2
namespace L2
open PySem PySem.Spec PyProof.Rows
def MtM (X:Cx) (id:String) (r:V→List V→Hp→VK→Prop):Prop :=
 ∀ (pins:List (Addr × Obj)) (s:Shared) (σ:St) (H:Hp) (x:V) (xs:List V) (v:Value) (us:List Value) (Q:VK),Inv X pins σ H s→RelV x v→Vals xs us→r x xs H Q →
  wpAny (model X.prog X.w) X.A (call (.builtin id) (v::us)) (EP X pins σ Q) X.xe s
theorem Vals.one:∀ {x:V} {us:List Value},Vals [x] us→∃ u,us=[u]∧RelV x u
 | _,_, .cons r .nil=>⟨_,rfl,r⟩
theorem Vals.rep {xs:List V} {us:List Value} (h:Vals xs us):∀ k:Nat,Vals (List.replicate k xs).flatten (List.replicate k us).flatten
 | 0=>.nil
 | k+1=>by
  rw [List.replicate_succ,List.replicate_succ,List.flatten_cons,List.flatten_cons]
  exact Vals.append h (Vals.rep h k)
theorem foldl_rep (its:List Value):∀ (k:Nat) (acc:List Value),
  List.foldl (fun x1 x2=>x1++x2) acc.toArray (List.replicate k its.toArray)=(acc++(List.replicate k its).flatten).toArray
 | 0,acc=>by simp
 | k+1,acc=>by
  have e:acc.toArray++its.toArray=(acc++its).toArray:=by simp
  have e2:(acc++its)++(List.replicate k its).flatten=acc++(List.replicate (k+1) its).flatten:=by
   rw [List.replicate_succ,List.flatten_cons,List.append_assoc]
  rw [← e2,← foldl_rep its k (acc++its),← e,List.replicate_succ,List.foldl_cons]
section
variable {X:Cx} {pins:List (Addr × Obj)} {σ:St} {H:Hp} {s:Shared} {l b:Addr} {xs ys zs:List V}
theorem Inv.lset {its its':List Value} {n:Nat} {f:Array Value→Array Value} {t':Nat} (I:Inv X pins σ H s) (hH:H l=some (.lst xs))
  (e:s.heap.get? l=some { cls:=.type "list",data:=.seq its.toArray n }) (hf:f its.toArray=its'.toArray) (hv:Vals ys its') (hz:ys.length≤sizeLine) :
  Inv X pins σ (upd H l (.lst ys)) { s with heap:=s.heap.update l (Obj.mapSeq f),toks:=t' }:=by
 have q:=PySem.IsL.update e f
 rw [hf] at q
 refine I.write (x:=l) (e:=l) (by rw [hH];exact trivial) (.inl rfl) (fun b' u hb hu=>(Heap.get?_update_other s.heap (Obj.mapSeq f) (Ne.symm hb)).trans hu) ⟨_,q⟩ ?_
 exact ⟨hz,its',_,hv,q⟩
theorem Inv.lnew {its:List Value} {t':Nat} (I:Inv X pins σ H s) (hv:Vals ys its) (hz:ys.length≤sizeLine) :
  Inv X pins σ (upd H s.heap.objs.size (.lst ys)) { s with heap:=s.heap.push { cls:=.type "list",data:=.seq its.toArray },toks:=t' } :=
 I.laid (fun _ _ q=>Heap.get?_push_of_some _ q) (Nat.le_refl _) ⟨hz,its,0,hv,Heap.get?_push_size _ rfl⟩
theorem Inv.fresh (I:Inv X pins σ H s):H s.heap.objs.size=none:=I.hok.fresh (Nat.le_refl _)
theorem Inv.lstM (I:Inv X pins σ H s) (hH:H l=some (.lst xs)):xs.length≤sizeLine∧∃ (its:List Value) (n:Nat),Vals xs its∧xs.length=its.length∧s.heap.get? l=some { cls:=.type "list",data:=.seq its.toArray n }:=by
 obtain ⟨z,its,n,r,e⟩:=I.hok l _ hH
 exact ⟨z,its,n,r,r.length,e⟩
theorem agy {n:Nat} (h:n≤sizeLine):Builtin.List.listTooLong n=false:=by
 unfold Builtin.List.listTooLong
 exact decide_eq_false (by omega)
end
section
variable {X:Cx}
def adi:V→List V→Hp→VK→Prop:=fun x vs H Q=>∃ l xs y,x = .ref l∧vs=[y]∧H l=some (.lst xs)∧xs.length<sizeLine∧Q .non (upd H l (.lst (xs++[y])))
theorem yc:MtM X "list.append" adi:=by
 intro pins s σ H x vs v us Q I rx rv h
 obtain ⟨l,xs,y,rfl,rfl,hH,hz,q⟩:=h
 cases rx
 obtain ⟨u,rfl,ru⟩:=rv.one
 obtain ⟨z,its,n,r,hl,e⟩:=I.lstM hH
 refine call_meets F.slot_list_append ⟨_,e,rfl⟩ F.entry_list_append (F.args_list_append_2 _ _) (PySem.list_append l its.toArray n u (by rw [List.size_toArray];omega)) ⟨e,?_⟩
 refine ⟨.non,_,I.lset (its':=its++[u]) hH e (by simp) (r.append (.cons ru .nil)) ?_,rfl,q⟩
 rw [List.length_append,List.length_singleton]
 omega
theorem len_rep {α:Type} (xs:List α) (k:Nat):(List.replicate k xs).flatten.length=k*xs.length:=by
 induction k with
 | zero=>simp
 | succ k ih=>rw [List.replicate_succ,List.flatten_cons,List.length_append,ih,Nat.succ_mul,Nat.add_comm]
end
end L2
namespace Att
open PySem PySem.W PySem.Calls PyProof.Rows
theorem a2t {P:Params} {h:Heap}:∀ (ns:List Int) (vs:List Value),WellAll P h vs (ns.map WData.int)→IntsAre vs ns:=by
 intro ns
 induction ns with
 | nil =>
  intro vs w
  rw [List.map_nil] at w
  cases w
  exact .nil
 | cons n ns ih =>
  intro vs w
  rw [List.map_cons] at w
  cases w with
  | cons a b =>
   cases a
   exact .cons _ _ (ih _ b)
theorem adk {l:OpenLaw} {n:Nat} (hn:l.most=some n) {P:Params} {h:Heap} {args:List WData} {vals:List Value}
  (hpre:l.row.toRowW.claim.pre args=true) (hwl:WellAll P h vals args) :
  ∃ a vs ns,vals=[Value.ref a]∧args=[WData.list (ns.map WData.int)]∧h.get? a=some { cls:=.type "list",data:=.seq vs.toArray }∧IntsAre vs ns∧ns.length≤n:=by
 have hsh:WShape.hasAll [] args [.list .int]=true:=(pre_splitW hpre).1
 have hc:l.pre.holds [] { args:=args }=true:=(pre_splitW hpre).2
 obtain ⟨d,r,rfl,h1,h2⟩:=hasAllW_cons hsh
 obtain rfl:=hasAllW_nil h2
 obtain ⟨xs,rfl,h3⟩:=hasW_list h1
 obtain ⟨ns,rfl⟩:=items_int h3
 have hlen:ns.length≤n:=by
  unfold OpenLaw.pre at hc
  have h4:(WTm.not (.lt (.lit (.int (n:Int))) (.len (.arg 0)))).holds [] { args:=[.list (ns.map .int)] }=true:=by
   have h4:=(holds_andW hc).1
   rw [hn] at h4
   exact h4
  have h5:=condW_of h4 (w_not (w_lt w_lit (w_len_list (w_arg rfl))))
  rw [List.length_map] at h5
  refine Nat.le_of_not_lt fun q=>?_
  have q':(n:Int)<((ns.length:Nat):Int):=by omega
  first
   | (rw [decide_eq_true q'] at h5;exact absurd h5 (by decide))
   | (simp at h5;omega)
 cases hwl with
 | cons w1 w2 =>
  cases w2
  cases w1 with
  | list ho hall=>exact ⟨_,_,ns,rfl,rfl,ho,a2t ns _ hall,hlen⟩
theorem adl (l:OpenLaw) (args:List WData):l.row.toRowW.claim.post args (.bool true) args=true :=
 postW_of (r:=l.row.toRowW) (X:=(true == true))
  (show WShape.has [] (.bool true) .bool=true by first | rfl | decide | simp [WShape.has,WShape.arms,WShape.armsAll])
  (show (WTm.eq .res (.lit (.bool true))).value [] { args:=args,res:=some (.bool true),after:=args }=some (.bool (true == true)) from w_eq_bool (w_res rfl) w_lit) rfl
theorem a8i {l:OpenLaw} {n:Nat} {q:Program} {loose:List Str} {XP:(Str→Option Value)→Heap→Prop} {YP:World→Heap→Prop} {d:DefRec}
  (hn:l.most=some n) (hdf:d.params.defaults=[])
  (call:∀ (w:World) (s₀ s₁:Shared) (mg mb:Str→Option Value) (fa:Addr) (o:Obj) (pm cd doc:Value) (a:Addr) (vs:List Value) (ns:List Int),
   Ground q loose [] XP w s₀ mg mb s₁.heap→YP w s₁.heap →
   s₁.heap.get? fa=some o→o.data = .func (docDef d.name d.params d.body d.scope pm cd doc)→s₁.heap.CodeRec cd d.name→mg d.name=some (.ref fa) →
   s₁.heap.get? a=some { cls:=.type "list",data:=.seq vs.toArray }→IntsAre vs ns→ns.length≤n→s₁.gens = #[] →
   codeAny (model l.prog w) callerA (.call (.ref fa) ⟨[.ref a],[]⟩) (fun r s'=>r = .ok (.ret (.bool true))∧OldK s₁.heap s'.heap∧s'.os=s₁.os∧AllBare s'.gens) s₁) :
  WalkO q loose XP YP l.row.toRowW d [] (fun f vs=>PySem.call f vs):=by
 intro w s₀ s₁ mg mb G Y fa o pm cd doc dV kV ho hd hcd hD hmg hg args vals as hpre hlay hrd hwl hlo
 obtain rfl:dV = .none:=Dflts.none hD hdf
 obtain rfl:kV = .none:=Dflts.noKw hD
 obtain ⟨a,vs,ns,rfl,rfl,hobj,hints,hlen⟩:=adk hn hpre hwl
 refine enter_call (codeAny_mono (call w s₀ s₁ mg mb fa o pm cd doc a vs ns G Y ho (fd_plain hd) hcd hmg hobj hints hlen hg) fun r s' hq=>?_)
 obtain ⟨rfl,h2,h3,h4⟩:=hq
 exact ⟨.inl ⟨.bool true, .bool true,[],rfl,fun _=>rfl, .bool true,adl l _,fun _=>⟨List.Pairwise.nil,fun _ hm=>(nomatch hm)⟩⟩,h2,h3,h4⟩
end Att
namespace L2
open PySem PySem.Spec PyProof.Rows
theorem a0a:∀ {vs:List Value} {ns:List Int},IntsAre vs ns→Vals (ns.map V.int) vs
 | _,_, .nil=>.nil
 | _,_, .cons n t h=>.cons ⟨t,rfl⟩ (a0a h)
def Only (H:Hp):Prop:=∀ b,H b=none∨∃ o xs,H b=some (.frz o (.lst xs))
theorem agz {P:Program} {w:World} {K:PySem.W.Frag} {mg mb:Str→Option Value} {CX:CXT} {k:Nat} {fa a:Addr} {fd:FuncData} {x:Str} {sp:Sp} {s₁:Shared} {vs:List Value} {ns:List Int}
  (KX:K.In s₁.heap) (hns:s₁.heap.Ns mainGlobals mg) (hb:s₁.heap.Ns builtinsNs mb) (hbb:∀ x:Str,x ≠ "__name__"→mb x=bootBuiltins x) (hlim:s₁.heap.NoLimit) (hg:s₁.gens = #[])
  (ha:s₁.heap.get? a=some { cls:=.type "list",data:=.seq vs.toArray }) (hi:IntsAre vs ns) (hl:ns.length≤sizeLine) (hr:Room k callerA)
  (F:∀ base:Heap,K.In base→base.Ns mainGlobals mg→FnOk P w K mg base CX k fa fd [x] sp) (hbind:∀ (s:Shared) (u:Value),BindsTo s fd ⟨[u],[]⟩ [(x,u)])
  (hsp:∀ H:Hp,Only H→SqL K H a (ns.map V.int)→sp [.ref a] H (fun v _=>v = .bl true) fun _ _ _=>False)
  (hCX:∀ H e s',CX [] H s₁ (fun _ _ _=>False) e s'→False) :
  codeAny (model P w) callerA (.call (.ref fa) ⟨[.ref a],[]⟩) (fun r s'=>r = .ok (.ret (.bool true))∧OldK s₁.heap s'.heap∧s'.os=s₁.os∧AllBare s'.gens) s₁:=by
 have rv:=a0a hi
 have lenV:=hi.length
 have core:∀ H:Hp,Only H→SqL K H a (ns.map V.int)→HOk P w H s₁.heap→(∀ b,H b≠none→b=a)→(H a≠none→K.lookup a=none) →
   codeAny (model P w) callerA (.call (.ref fa) ⟨[.ref a],[]⟩) (fun r s'=>r = .ok (.ret (.bool true))∧OldK s₁.heap s'.heap∧s'.os=s₁.os∧AllBare s'.gens) s₁:=by
  intro H hO hS hok hA hK
  have base_of:∀ {b:Addr} {o:Obj},s₁.heap.get? b=some o→H b=none→(agl s₁.heap H).get? b=some o:=fun e n=>agm e n
  have noA:∀ {b:Addr} {o:Obj} {es:Array DictEntry} {ep:Nat},s₁.heap.get? b=some o→o.data = .dict es ep→H b=none:=fun {b o es ep} e d=>by
   cases q:H b with
   | none=>rfl
   | some u =>
    have e':b=a:=hA b (by rw [q];simp)
    subst e'
    rw [ha] at e;cases e
    have d':Data.seq vs.toArray _=Data.dict es ep:=d
    cases d'
  have nsK:∀ {b:Addr} {m:Str→Option Value},s₁.heap.Ns b m→(agl s₁.heap H).Ns b m:=fun {b m} ⟨o,es,ep,e,d,r⟩=>⟨o,es,ep,base_of e (noA e d),d,r⟩
  have hKb:K.In (agl s₁.heap H):=fun b o e=>base_of (KX b o e) (by
   cases q:H b with
   | none=>rfl
   | some u =>
    have e':b=a:=hA b (by rw [q];simp)
    subst e'
    rw [hK (by rw [q];simp)] at e;cases e)
  have hM:Mod K mg (agl s₁.heap H):=⟨hKb,nsK hns,⟨mb,nsK hb,hbb⟩,let ⟨mc,h1,h2⟩:=hlim; ⟨mc,nsK h1,h2⟩⟩
  have e0:Env0 P w K mg (agl s₁.heap H) callerA [] s₁ H:=⟨rfl,hM,fun b o e=>aka e,Nat.le_of_eq (acx _ _),trivial,fun b hb=>absurd (show b∈([]:List Addr) from hb) (by simp),hok, .of_eq hg⟩
  refine codeAny_mono ((F _ hKb (nsK hns)).run callerA [] s₁ H ⟨[.ref a],[]⟩ [.ref a] [.ref a] _ _ hr e0 (hbind s₁ (.ref a)) (.cons rfl .nil) (hsp H hO hS)) fun r s' h=>?_
  cases r with
  | error e=>exact (hCX H e s' h).elim
  | ok fl =>
   cases fl with
   | next=>exact False.elim h
   | brk=>exact False.elim h
   | cont=>exact False.elim h
   | ret u =>
    obtain ⟨v,H',os,bare,un,hok',r',q⟩:=h
    have q':v = .bl true:=q
    subst q'
    obtain rfl:u=Value.bool true:=r'
    refine ⟨rfl,OldK.of_keep fun b o e=>?_,os,bare⟩
    cases q:H b with
    | none=>exact un.keep b o e q (by intro z;exact absurd (show b∈([]:List Addr) from z) (by simp)) (by simp)
    | some u =>
     rcases hO b with z | ⟨ob,xs,z⟩
     ·rw [q] at z;cases z
     ·have z2:=un.frzs b ob _ z
      obtain ⟨e1,_⟩:=hok b _ z
      obtain ⟨e2,_⟩:=hok' b _ z2
      rw [e] at e1;cases e1
      exact e2
 cases hk:K.lookup a with
 | some o =>
  have e:=KX a o hk
  rw [ha] at e
  cases e
  refine core (fun _=>none) (fun _=>.inl rfl) (.inr ⟨_,vs.toArray,_,hk,rfl,rfl,rfl,by rw [List.size_toArray,lenV];exact hl,by simpa using rv⟩) (fun b u z=>by have z':(none:Option HO)=some u:=z;cases z') (fun b z=>absurd rfl z) fun z=>absurd rfl z
 | none =>
  refine core (fun b=>if b=a then some (.frz { cls:=.type "list",data:=.seq vs.toArray } (.lst (ns.map V.int))) else none) (fun b=>?_) (.inl (.inr ⟨{ cls:=.type "list",data:=.seq vs.toArray },if_pos rfl⟩)) (fun b u z=>?_) (fun b z=>?_) fun _=>hk
  ·by_cases hb:b=a
   ·exact .inr ⟨_,_,if_pos hb⟩
   ·exact .inl (if_neg hb)
  ·by_cases hb:b=a
   ·have z':=(if_pos hb).symm.trans z
    cases z'
    subst hb
    exact ⟨ha,by rw [List.length_map];exact hl,vs,_,rv,ha⟩
   ·have z':=(if_neg hb).symm.trans z
    cases z'
  ·by_cases hb:b=a
   ·exact hb
   ·exact absurd (if_neg hb) z
end L2
namespace L2
open PySem PySem.Spec PyProof.Rows
theorem akv {l:PySem.W.OpenLaw} {n k:Nat} {q:Program} {loose:List Str} {XP:(Str→Option Value)→Heap→Prop} {YP:World→Heap→Prop} {d:DefRec} {K:Params→PySem.W.Frag} {CX:World→CXT} {sp:World→Sp} {x:Str}
  (hn:l.most=some n) (hn2:n≤sizeLine) (hdf:d.params.defaults=[]) (hr:Room k callerA)
  (hY:∀ (w:World) (h:Heap),YP w h→(K w.params).In h)
  (F:∀ (w:World) (mg:Str→Option Value) (fa:Addr) (h:Heap),(K w.params).In h→h.Ns mainGlobals mg→mg d.name=some (.ref fa) →
   ∃ fd:FuncData,(∀ (s:Shared) (u:Value),BindsTo s fd ⟨[u],[]⟩ [(x,u)]) ∧
    ∀ base:Heap,(K w.params).In base→base.Ns mainGlobals mg→FnOk l.prog w (K w.params) mg base (CX w) k fa fd [x] (sp w))
  (hsp:∀ (w:World) (H:Hp) (a:Addr) (ns:List Int),ns.length≤n→Only H→SqL (K w.params) H a (ns.map V.int)→sp w [.ref a] H (fun v _=>v = .bl true) fun _ _ _=>False)
  (hCX:∀ (w:World) (H:Hp) (s:Shared) (e:Value) (s':Shared),CX w [] H s (fun _ _ _=>False) e s'→False) :
  PySem.W.WalkO q loose XP YP l.row.toRowW d [] (fun f vs=>PySem.call f vs):=by
 refine Att.a8i hn hdf fun w s₀ s₁ mg mb fa o pm cd doc a vs ns G Y ho hd hcd hmg hobj hints hlen hg=>?_
 have KX:=hY w _ Y
 obtain ⟨fd,hb,hF⟩:=F w mg fa _ KX G.T.g hmg
 exact agz KX G.T.g G.T.b G.T.builtins G.T.nolimit hg hobj hints (Nat.le_trans hlen hn2) hr hF hb (fun H hO hS=>hsp w H a ns hlen hO hS) fun H e s'=>hCX w H s₁ e s'
end L2
namespace L2
open PySem PySem.Spec PyProof.Rows
def a0u (s:Stmt):Arguments:=match s with
 | .FunctionDef _ a _ _ _ _ _ _ _ _=>a
 | _=>{ posonlyargs:=[],args:=[],vararg:=none,kwonlyargs:=[],kw_defaults:=[],kwarg:=none,defaults:=[] }
def iz (s:Stmt):List Stmt:=match s with
 | .FunctionDef _ _ b _ _ _ _ _ _ _=>b
 | _=>[]
def au (s:Stmt):Scope:=match s with
 | .FunctionDef _ _ _ _ _ _ sc _ _ _=>sc
 | _=>{ kind:=.function,names:=[],isGenerator:=false,isCoroutine:=false }
abbrev CX0:CXT:=fun _ _ _ _ _ _=>False
abbrev E0:XK:=fun _ _ _=>False
theorem aoz {X:Cx}:a9i CX0 X E0:=fun _ _ _ _ _ _ _ h=>h.elim
structure Fun (K:PySem.W.Frag) (x qual:Str) (st:Stmt) (f:Addr) (fd:FuncData):Prop where
 ex:∃ (oc:Value) (od:Option Addr) (kV doc pm:Value) (an:Option Addr) (cdv ct:Value) (osl:Array (Option Value)),
  fd=PySem.W.fnOf x qual (a0u st) (iz st) (au st) .none kV doc pm an cdv ct∧K.lookup f=some ⟨oc,od, .func fd,osl⟩∧PySem.W.codeIn K cdv qual=true
 kp:PySem.W.keepIn K (.ref f)=true
section
variable {P:Program} {w:World} {K:PySem.W.Frag} {mg:Str→Option Value} {base:Heap}
theorem Fun.ok {x qual:Str} {st:Stmt} {f:Addr} {fd:FuncData} {N ps:List Str} {k:Nat} {sp:Sp} (F:Fun K x qual st f fd) (S:FnScope N ps (au st)) (len:∀ vs H Q E,sp vs H Q E→vs.length=ps.length)
  (hbody:∀ (cdv:Value) (A:Around) (outer:List Env) (s:Shared) (H:Hp) (vs:List V) (Q:VK) (E:XK),Room k (A.deeper (envOfC qual (au st) s.heap.objs.size f cdv))→sp vs H Q E →
   ∃ t,PSs (a1x CX0 P w K mg base N qual (au st) f cdv A outer s H E).nox (iz st) t∧t { nx:=fun _ H'=>Q .non H',rt:=Q } (start N vs) H):FnOk P w K mg base CX0 (k+1) f fd ps sp:=by
 obtain ⟨oc,od,kV,doc,pm,an,cdv,ct,osl,rfl,lk,hcd⟩:=F.ex
 refine atb lk hcd S len fun A outer s H vs Q E hr hsp=>?_
 obtain ⟨t,h,q⟩:=hbody cdv A outer s H vs Q E hr hsp
 exact ⟨t,h.nox,q⟩
theorem Fun.binds {x qual:Str} {st:Stmt} {f:Addr} {fd:FuncData} {ps:List Str} (F:Fun K x qual st f fd)
  (h:∀ (kV doc pm:Value) (an:Option Addr) (cdv ct:Value) (us:List Value),us.length=ps.length→bindArgs (PySem.W.fnOf x qual (a0u st) (iz st) (au st) .none kV doc pm an cdv ct) ⟨us,[]⟩=pure (ps.zip us)):Binds K fd ps []:=by
 obtain ⟨oc,od,kV,doc,pm,an,cdv,ct,osl,rfl,lk,hcd⟩:=F.ex
 exact .all (h kV doc pm an cdv ct)
theorem qi {x qual:Str} {st:Stmt} {f:Addr} {oc:Value} {od an:Option Addr} {osl:Array (Option Value)} {kV doc pm cdv ct:Value} (l:K.lookup f=some ⟨oc,od, .func (PySem.W.fnOf x qual (a0u st) (iz st) (au st) .none kV doc pm an cdv ct),osl⟩)
  (c:PySem.W.codeIn K cdv qual=true) (k:PySem.W.keepIn K (.ref f)=true):Fun K x qual st f (PySem.W.fnOf x qual (a0u st) (iz st) (au st) .none kV doc pm an cdv ct):=⟨⟨oc,od,kV,doc,pm,an,cdv,ct,osl,rfl,l,c⟩,k⟩
end
def Same (H H':Hp):Prop:=∀ b o,H b=some o→H' b=some o
theorem Same.seq {K:PySem.W.Frag} {H H':Hp} {a:Addr} {xs:List V} (e:Same H H') (h:SqL K H a xs):SqL K H' a xs:=by
 rcases h with (h | ⟨o,h⟩) | h
 ·exact .inl (.inl (e _ _ h))
 ·exact .inl (.inr ⟨o,e _ _ h⟩)
 ·exact .inr h
end L2
namespace L2
open PySem PySem.Spec PyProof.Rows
section
variable {κ:Type} [DecidableEq κ]
def a9m (kvs:List (κ × V)) (k:κ):Option V:=(kvs.find? fun kv=>decide (kv.1=k)).map (·.2)
def putK (kvs:List (κ × V)) (k:κ) (v:V):List (κ × V) :=
 if (kvs.any fun kv=>decide (kv.1=k))=true then kvs.map (fun kv=>if kv.1=k then (kv.1,v) else kv) else kvs++[(k,v)]
theorem a5g {p:κ × V} {r:List (κ × V)} {k:κ} (e:p.1=k):a9m (p::r) k=some p.2:=by simp [a9m,List.find?_cons,e]
theorem a5h {p:κ × V} {r:List (κ × V)} {k:κ} (e:¬ p.1=k):a9m (p::r) k=a9m r k:=by simp [a9m,List.find?_cons,e]
theorem a9n (k:κ):∀ kvs:List (κ × V),(kvs.any fun kv=>decide (kv.1=k))=(a9m kvs k).isSome
 | []=>rfl
 | p::r=>by
  rw [List.any_cons]
  by_cases e:p.1=k
  ·simp only [a5g e,decide_eq_true e,Bool.true_or,Option.isSome_some]
  ·rw [a5h e,decide_eq_false e,Bool.false_or];exact a9n k r
theorem zx (kvs:List (κ × V)) (k:κ) (v:V):(putK kvs k v).length≤kvs.length+1:=by
 unfold putK
 split
 ·rw [List.length_map];omega
 ·rw [List.length_append,List.length_cons,List.length_nil];omega
theorem RelO.isSome_eq {o:Option V} {u:Option Value} (r:RelO o u):o.isSome=u.isSome:=by
 cases o with
 | none=>cases u with
  | none=>rfl
  | some _=>exact (show False from r).elim
 | some _=>cases u with
  | none=>exact (show False from r).elim
  | some _=>rfl
theorem KV.val {kvs:List (κ × V)} {vs:List (κ × Value)} (r:KV kvs vs) (k:κ):RelO (a9m kvs k) (valueAt vs k):=by
 unfold KV at r
 induction r with
 | nil=>exact True.intro
 | @cons p q ps qs h t ih =>
  obtain ⟨h1,h2⟩:=h
  by_cases e:p.1=k
  ·have e':q.1=k:=h1.symm.trans e
   have b:valueAt (q::qs) k=some q.2:=by simp [valueAt,List.find?_cons,e']
   rw [a5g e,b];exact h2
  ·have e':¬ q.1=k:=fun z=>e (h1.trans z)
   have b:valueAt (q::qs) k=valueAt qs k:=by simp [valueAt,List.find?_cons,e']
   rw [a5h e,b];exact ih
theorem KV.any {kvs:List (κ × V)} {vs:List (κ × Value)} (r:KV kvs vs) (k:κ):(kvs.any fun kv=>decide (kv.1=k))=vs.any fun kv=>decide (kv.1=k):=by
 unfold KV at r
 induction r with
 | nil=>rfl
 | cons h t ih=>rw [List.any_cons,List.any_cons,ih,h.1]
theorem KV.repl {kvs:List (κ × V)} {vs:List (κ × Value)} (r:KV kvs vs) (k:κ) {y:V} {u:Value} (ry:RelV y u) :
  KV (kvs.map fun kv=>if kv.1=k then (kv.1,y) else kv) (vs.map fun kv=>if kv.1=k then (kv.1,u) else kv):=by
 unfold KV at r ⊢
 induction r with
 | nil=>exact .nil
 | @cons p q ps qs h t ih =>
  rw [List.map_cons,List.map_cons]
  refine .cons ?_ ih
  obtain ⟨h1,h2⟩:=h
  by_cases e:p.1=k
  ·rw [if_pos e,if_pos (h1.symm.trans e)];exact ⟨h1,ry⟩
  ·rw [if_neg e,if_neg (fun z=>e (h1.trans z))];exact ⟨h1,h2⟩
theorem KV.put {kvs:List (κ × V)} {vs:List (κ × Value)} (r:KV kvs vs) (k:κ) {y:V} {u:Value} (ry:RelV y u):KV (putK kvs k y) (stored vs k u):=by
 unfold putK stored
 rw [r.any k]
 by_cases e:(vs.any fun kv=>decide (kv.1=k))=true
 ·rw [if_pos e,if_pos e];exact r.repl k ry
 ·rw [if_neg e,if_neg e];exact Paired.snoc r ⟨rfl,ry⟩
theorem KV.length {kvs:List (κ × V)} {vs:List (κ × Value)} (r:KV kvs vs):kvs.length=vs.length:=Paired.length r
end
theorem ah0 {P:Program} {w:World} {k:Key} {u:Value} (r:RelV (kV k) u):(jq P w).is k u=true:=by
 cases k with
 | inl i=>obtain ⟨t,e⟩:=(show ∃ t,u=Value.int i t from r);subst e;exact a8d P w i t
 | inr x=>obtain ⟨t,e⟩:=(show ∃ t,u=Value.str x t from r);subst e;exact a8e P w x t
theorem a70 {P:Program} {w:World}:∀ {ks:List Key} {us:List Value},Vals (ks.map kV) us→ItemsAre (jq P w) ks us
 | [],_,r=>by rw [List.map_nil] at r;cases r;exact .nil
 | k::ks,_,r=>by
  rw [List.map_cons] at r
  cases r with
  | cons h t=>exact .cons (ah0 h) (a70 t)
abbrev KT (H:Hp):List (List Key × V)→List (List Key × Addr × Value)→Prop:=Paired fun p q=>p.1=q.1∧H q.2.1=some (.tup (p.1.map kV))∧RelV p.2 q.2.2
theorem KT.val {H:Hp} {kvs:List (List Key × V)} {xs:List (List Key × Addr × Value)} (r:KT H kvs xs) (k:List Key):RelO (a9m kvs k) ((atKey xs k).map (·.2)):=by
 induction r with
 | nil=>exact True.intro
 | @cons p q ps qs h t ih =>
  obtain ⟨h1,_,h2⟩:=h
  by_cases e:p.1=k
  ·have e':q.1=k:=h1.symm.trans e
   have b:atKey (q::qs) k=some q.2:=by simp [atKey,List.find?_cons,e']
   rw [a5g e,b];exact h2
  ·have e':¬ q.1=k:=fun z=>e (h1.trans z)
   have b:atKey (q::qs) k=atKey qs k:=by simp [atKey,List.find?_cons,e']
   rw [a5h e,b];exact ih
theorem KT.repl {H:Hp} {kvs:List (List Key × V)} {xs:List (List Key × Addr × Value)} (r:KT H kvs xs) (k:List Key) {y:V} {u:Value} (ry:RelV y u) :
  KT H (kvs.map fun kv=>if kv.1=k then (kv.1,y) else kv) (xs.map (putAt k u)):=by
 induction r with
 | nil=>exact .nil
 | @cons p q ps qs h t ih =>
  rw [List.map_cons,List.map_cons]
  refine .cons ?_ ih
  obtain ⟨h1,h2,h3⟩:=h
  unfold putAt
  by_cases e:p.1=k
  ·rw [if_pos e,if_pos (h1.symm.trans e)];exact ⟨h1,h2,ry⟩
  ·rw [if_neg e,if_neg (fun z=>e (h1.trans z))];exact ⟨h1,h2,h3⟩
theorem KT.put {H:Hp} {kvs:List (List Key × V)} {xs:List (List Key × Addr × Value)} (r:KT H kvs xs) (k:List Key) {b:Addr} {y:V} {u:Value} (hb:H b=some (.tup (k.map kV))) (ry:RelV y u) :
  KT H (putK kvs k y) (storedH xs k b u):=by
 have e:(kvs.any fun kv=>decide (kv.1=k))=(atKey xs k).isSome:=by
  rw [a9n,(r.val k).isSome_eq,Option.isSome_map]
 unfold putK storedH
 rw [e]
 by_cases q:(atKey xs k).isSome=true
 ·rw [if_pos q,if_pos q];exact r.repl k ry
 ·rw [if_neg q,if_neg q];exact Paired.snoc r ⟨rfl,hb,ry⟩
theorem KT.keeps {H H':Hp} {kvs:List (List Key × V)} {xs:List (List Key × Addr × Value)} (r:KT H kvs xs) (ht:∀ b ys,H b=some (.tup ys)→H' b=some (.tup ys)):KT H' kvs xs :=
 Paired.mapP r fun _ _ z=>⟨z.1,ht _ _ z.2.1,z.2.2⟩
section
variable {P:Program} {w:World} {H:Hp} {h:Heap} {a:Addr}
theorem ap0 {u:HO} (ok:HOk P w H h) (e:Rd H a u):ObjOk P w H h a u:=e.ok ok
theorem ap1 {kvs:List (Key × V)} (ok:HOk P w H h) (e:Rd H a (.dK kvs)):kvs.length≤sizeLine∧(a == sysModules)=false∧∃ vs,KV kvs vs∧h.DictOf (jq P w) a vs :=
 show ObjOk P w H h a (.dK kvs) from ap0 ok e
theorem ap2 {kvs:List (Key × V)} (ok:HOk P w H h) (e:H a=some (.dK kvs)):kvs.length≤sizeLine∧(a == sysModules)=false∧∃ vs,KV kvs vs∧h.DictOf (jq P w) a vs:=ap1 ok (.inl e)
theorem adm {ks:List Key} (ok:HOk P w H h) (e:H a=some (.tup (ks.map kV))):(tupleKind (jq P w)).is h ks a:=by
 obtain ⟨_,its,r,o,h1,h2,n,h3⟩:=(show ObjOk P w H h a (.tup (ks.map kV)) from ok a _ e)
 exact ⟨o,its.toArray,n,h1,h2,h3,by simpa using a70 r⟩
theorem ap3 {kvs:List (List Key × V)} (ok:HOk P w H h) (e:Rd H a (.dT kvs)):kvs.length≤sizeLine∧(a == sysModules)=false ∧
  ∃ xs,KT H kvs xs∧h.DictOfH (tupleKind (jq P w)) a xs:=by
 obtain ⟨z,y,xs,r,o,es,ep,h1,h2,h3,h4,h5⟩:=(show ObjOk P w H h a (.dT kvs) from ap0 ok e)
 refine ⟨z,y,xs,r,o,es,ep,h1,h2,h3,h4,fun x hx=>?_,h5⟩
 have all:∀ {l:List (List Key × V)} {m:List (List Key × Addr × Value)},KT H l m→∀ x∈m,(tupleKind (jq P w)).is h x.1 x.2.1:=by
  intro l m q
  induction q with
  | nil=>intro x hx;exact nomatch hx
  | @cons p q ps qs hq t ih =>
   intro x hx
   rcases List.mem_cons.mp hx with e | hx
   ·subst e
    exact adm ok (by rw [← hq.1];exact hq.2.1)
   ·exact ih x hx
 exact all r x hx
theorem ath {kvs:List (List Key × V)} (ok:HOk P w H h) (e:H a=some (.dT kvs)):kvs.length≤sizeLine∧(a == sysModules)=false ∧
  ∃ xs,KT H kvs xs∧h.DictOfH (tupleKind (jq P w)) a xs:=ap3 ok (.inl e)
end
def as3 (H:Hp) (a:Addr) (y:V) (r:Option V):Prop :=
 (∃ kvs k,Rd H a (.dK kvs)∧y=kV k∧r=a9m kvs k)∨∃ kvs k b,Rd H a (.dT kvs)∧y = .ref b∧H b=some (.tup (k.map kV))∧r=a9m kvs k
def ati (H:Hp) (a:Addr) (y v:V) (H':Hp):Prop :=
 (∃ kvs k,H a=some (.dK kvs)∧y=kV k∧kvs.length<sizeLine∧H'=upd H a (.dK (putK kvs k v))) ∨
 ∃ kvs k b,H a=some (.dT kvs)∧y = .ref b∧H b=some (.tup (k.map kV))∧kvs.length<sizeLine∧H'=upd H a (.dT (putK kvs k v))
section
variable {X:Cx} {pins:List (Addr × Obj)} {σ:St} {H:Hp} {s:Shared} {a:Addr} {y v:V} {u r:Value} {o:Option V} {A:Around} {E:Value→Shared→Prop}
theorem Inv.big (I:Inv X pins σ H s):sysModules<s.heap.objs.size:=by
 have h:mainGlobals<s.heap.objs.size:=(I.mod.glob.keeps I.bk).lt
 exact Nat.lt_trans (by decide) h
theorem akx {Q:Value→Shared→Prop} (hu:A.units+1<cLine) (I:Inv X pins σ H s) (g:as3 H a y o) (ry:RelV y u) (h:∀ s',Inv X pins σ H s'→Q (.bool (!o.isSome)) s') :
  wpAny (model X.prog X.w) A (compareOp .NotIn u (.ref a)) Q E s:=by
 rcases g with ⟨kvs,k,e,ey,l⟩ | ⟨kvs,k,b,e,ey,eb,l⟩
 ·subst ey
  obtain ⟨z,hd,vs,rel,dd⟩:=ap1 I.hok e
  refine wpAny_notIn_of (ah0 ry) hd dd.mapOf ?_
  rw [← (rel.val k).isSome_eq,← l]
  exact h _ (I.tok _)
 ·subst ey
  cases (show u=Value.ref b from ry)
  obtain ⟨z,hd,xs,rel,dd⟩:=ap3 I.hok e
  refine wpAny_notIn_heap (tupleKind_room_in1 hu) (adm I.hok eb) hd dd ?_
  have q:=(rel.val k).isSome_eq
  rw [Option.isSome_map] at q
  rw [← q,← l]
  exact h _ (I.tok _)
theorem a8j {h':Heap} {t':Nat} {ob:HO} (I:Inv X pins σ H s) (mu:Mut (H a)) (hs:Heap.SameBut a s.heap h') (he:∃ q,h'.get? a=some q) (new:ObjOk X.prog X.w (upd H a ob) h' a ob) :
  Inv X pins σ (upd H a ob) { s with heap:=h',toks:=t' } :=
 I.write (x:=a) (e:=a) mu (.inl rfl) (fun b q hb z=>(hs.2 b hb).trans z) he new
theorem aj0 {P:Program} {w:World} {H':Hp} {h':Heap} {kvs:List (Key × V)} {vs:List (Key × Value)} (z:kvs.length≤sizeLine) (hd:(a == sysModules)=false) (rel:KV kvs vs) (dd:h'.DictOf (jq P w) a vs) :
  ObjOk P w H' h' a (.dK kvs):=⟨z,hd,vs,rel,dd⟩
theorem adn {H':Hp} {Q:Unit→Shared→Prop} (hu:A.units+1<cLine) (I:Inv X pins σ H s) (g:ati H a y v H') (ry:RelV y u) (rv:RelV v r) (h:∀ s',Inv X pins σ H' s'→Q () s') :
  wpAny (model X.prog X.w) A (setItem (.ref a) u r) Q E s:=by
 rcases g with ⟨kvs,k,e,ey,l,eH⟩ | ⟨kvs,k,b,e,ey,eb,l,eH⟩
 ·subst ey eH
  obtain ⟨z,hd,vs,rel,dd⟩:=ap2 I.hok e
  have hz:vs.length≤sizeLine:=by rw [← rel.length];exact z
  have hl:(putK kvs k v).length≤sizeLine:=by have:=zx kvs k v;omega
  refine wpAny_setItem_pairs (hsz:=hz) (ah0 ry) dd fun h' dd' hs=>h _ ?_
  have he:∃ q,h'.get? a=some q:=let ⟨q,_,_,hq,_⟩:=dd'; ⟨q,hq⟩
  exact a8j I (by rw [e];exact True.intro) hs he (aj0 hl hd (rel.put k rv) dd')
 ·subst ey eH
  cases (show u=Value.ref b from ry)
  obtain ⟨z,hd,xs,rel,dd⟩:=ath I.hok e
  have hz:xs.length≤sizeLine:=by rw [← Paired.length rel];exact z
  have hl:(putK kvs k v).length≤sizeLine:=by have:=zx kvs k v;omega
  refine wpAny_setItem_heap (hsz:=hz) (tupleKind_room_in1 hu) (adm I.hok eb) dd fun h' dd' hs=>h _ ?_
  obtain ⟨q,es,ep,hq,h2,h3,h4,_,h5⟩:=dd'
  refine a8j I (by rw [e];exact True.intro) hs ⟨q,hq⟩ ⟨hl,hd,_,(rel.put k eb rv).keeps fun c ys ec=>?_,q,es,ep,hq,h2,h3,h4,h5⟩
  rw [d9 (asl ec e (fun z=>nomatch z))]
  exact ec
end
def atj (td ty tv:TE):TS:=fun D σ H=>tv σ H fun v H1=>td σ H1 fun x H2=>ty σ H2 fun y H3=>∃ a H4,x = .ref a∧ati H3 a y v H4∧D.nx σ H4
section
variable {X:Cx} {o i e value:Expr} {pos pos' tpos:Pos} {td ty tv:TE}
theorem aky (hu:X.A.units+1<cLine) (ho:PE X o td) (hi:PE X i ty) (hv:PE X value tv) (hs:swapsWith value (some (.Subscript o i pos')) pos.line X.env=pure false) :
  PS X (.Assign [.Subscript o i pos'] value pos) (atj td ty tv):=by
 intro pins s σ H D I h
 refine wpAny_Assign_Subscript (thn (hv pins s σ H _ I h) fun r s1 ⟨v,H1,I1,rv,q1⟩=>thn (ho pins s1 σ H1 _ I1 q1) fun u s2 ⟨x,H2,I2,rx,q2⟩=>thn (hi pins s2 σ H2 _ I2 q2) fun iv s3 ⟨y,H3,I3,ry,a,H4,ex,g,q3⟩=>?_) hs
 subst ex
 obtain rfl:u=Value.ref a:=rx
 exact adn hu I3 g ry rv fun s4 I4=>⟨σ,H4,I4,q3⟩
end
theorem ah1 {P:Program} {w:World} {H:Hp} (h:Heap) (hb:sysModules<h.objs.size):ObjOk P w H (h.push { cls:=.type "dict",data:=.dict #[] }) h.objs.size (.dK []) :=
 ⟨Nat.zero_le _,beq_eq_false_iff_ne.mpr (Ne.symm (Nat.ne_of_lt hb)),[], .nil,Heap.DictOf.new h⟩
def ado:List (TE × TE)→St→Hp→(List (V × V)→Hp→Prop)→Prop
 | [],_,H,Q=>Q [] H
 | (tk,tv)::r,σ,H,Q=>tk σ H fun x H1=>tv σ H1 fun y H2=>ado r σ H2 fun ps H3=>Q ((x,y)::ps) H3
abbrev VV:List (V × V)→List (Value × Value)→Prop:=Paired fun p q=>RelV p.1 q.1∧RelV p.2 q.2
def PPs (X:Cx) (pos:Pos) (keys:List (Option Expr)) (values:List Expr) (trs:List (TE × TE)):Prop :=
 ∀ (pins:List (Addr × Obj)) (s:Shared) (σ:St) (H:Hp) (Q:List (V × V)→Hp→Prop),Inv X pins σ H s→ado trs σ H Q →
  wpAny (model X.prog X.w) X.A (evalPairs (pairTrees keys values X.env pos)) (fun vs s'=>∃ ps H',Inv X pins σ H' s'∧VV ps vs∧Q ps H') X.xe s
theorem akz {X:Cx} {pos:Pos}:PPs X pos [] [] []:=fun pins s σ H Q I h=>pairTrees_nil_walk ⟨[],H,I, .nil,h⟩
theorem ah2 {X:Cx} {pos:Pos} {k v:Expr} {ks:List (Option Expr)} {vs:List Expr} {tk tv:TE} {trs:List (TE × TE)} (hk:PE X k tk) (hv:PE X v tv) (hr:PPs X pos ks vs trs) :
  PPs X pos (some k::ks) (v::vs) ((tk,tv)::trs):=fun pins s σ H Q I h =>
 pairTrees_cons_walk (thn (hk pins s σ H _ I h) fun u s1 ⟨x,H1,I1,rx,q1⟩=>thn (hv pins s1 σ H1 _ I1 q1) fun w2 s2 ⟨y,H2,I2,ry,q2⟩ =>
  thn (hr pins s2 σ H2 _ I2 q2) fun ws s3 ⟨ps,H3,I3,rel,q3⟩=>⟨(x,y)::ps,H3,I3, .cons ⟨rx,ry⟩ rel,q3⟩)
def a71 (kvs more:List (Key × V)):List (Key × V):=more.foldl (fun acc kv=>putK acc kv.1 kv.2) kvs
theorem KV.merge:∀ {more:List (Key × V)} {rs:List (Key × Value)} {kvs:List (Key × V)} {vs:List (Key × Value)},KV more rs→KV kvs vs→KV (a71 kvs more) (merged vs rs):=by
 intro more rs kvs vs r
 unfold KV at r
 induction r generalizing kvs vs with
 | nil=>intro q;exact q
 | @cons p q ps qs h t ih =>
  intro r0
  have e:KV (putK kvs p.1 p.2) (stored vs q.1 q.2):=by
   have:=r0.put p.1 h.2
   rw [← h.1];exact this
  exact ih e
theorem a0b:∀ (more kvs:List (Key × V)),(a71 kvs more).length≤kvs.length+more.length
 | [],kvs=>by show kvs.length≤kvs.length+0;omega
 | p::r,kvs=>by
  have h1:=a0b r (putK kvs p.1 p.2)
  have h2:=zx kvs p.1 p.2
  show (a71 (putK kvs p.1 p.2) r).length≤_
  rw [List.length_cons];omega
theorem a4k {P:Program} {w:World}:∀ {kvs:List (Key × V)} {ws:List (Value × Value)},VV (kvs.map fun kv=>(kV kv.1,kv.2)) ws→∃ rs,Carries (jq P w) ws rs∧KV kvs rs
 | [],_,r=>by rw [List.map_nil] at r;cases r;exact ⟨[],True.intro, .nil⟩
 | p::kvs,_,r=>by
  rw [List.map_cons] at r
  cases r with
  | @cons a b as bs h t =>
   obtain ⟨rs,c,q⟩:=a4k (P:=P) (w:=w) t
   obtain ⟨b1,b2⟩:=b
   exact ⟨(p.1,b2)::rs,⟨ah0 h.1,rfl,c⟩, .cons ⟨rfl,h.2⟩ q⟩
def atk (trs:List (TE × TE)):TE:=fun σ H Q=>∀ p,H p=none→ado trs σ (upd H p (.dK [])) fun ps H2=>H2 p=some (.dK [])∧∃ kvs:List (Key × V),ps=kvs.map (fun kv=>(kV kv.1,kv.2))∧kvs.length≤15∧Q (.ref p) (upd H2 p (.dK (a71 [] kvs)))
theorem al0 {X:Cx} {pos:Pos} {keys:List (Option Expr)} {values:List Expr} {trs:List (TE × TE)} (h:PPs X pos keys values trs) (hall:keys.all (·.isSome)=true) (hl:keys.length=values.length) (h0:keys≠[])
  (h15:keys.length≤15):PE X (.Dict keys values pos) (atk trs):=by
 intro pins s σ H Q I q
 have hn:=I.hok.fresh (Nat.le_refl s.heap.objs.size)
 have I1:=I.laid (a:=s.heap.objs.size) (o:=.dK []) (h':=s.heap.push { cls:=.type "dict",data:=.dict #[] }) (t':=s.toks) (fun _ _ q=>Heap.get?_push_of_some _ q) (Nat.le_refl _) (ah1 s.heap I.big)
 refine wpAny_Dict_walk (knd:=jq X.prog X.w) hall hl h0 h15 (thn (h pins _ σ _ _ I1 (q _ hn)) fun ws s2 ⟨ps,H2,I2,rel,e,kvs,ep,lk,q2⟩=>?_)
 subst ep
 obtain ⟨rs,c,rk⟩:=a4k (P:=X.prog) (w:=X.w) rel
 obtain ⟨z,hd,vs0,r0,dd⟩:=ap2 I2.hok e
 cases r0
 refine ⟨rs,c,dd,fun h' dd' hs=>⟨.ref s.heap.objs.size,_,?_,rfl,q2⟩⟩
 have hz:(a71 [] kvs).length≤sizeLine:=by
  have h1:=a0b kvs []
  rw [List.length_nil] at h1
  rw [sizeLine_eq];omega
 have he:∃ q,h'.get? s.heap.objs.size=some q:=let ⟨q,_,_,hq,_⟩:=dd'; ⟨q,hq⟩
 exact a8j I2 (by rw [e];exact True.intro) hs he (aj0 hz hd (rk.merge .nil) dd')
end L2
set_option maxHeartbeats 4000000
namespace L2
open PySem PySem.Spec PyProof.Rows
section
variable {X:Cx}
theorem a9o:OpR X (compareOp .Is) (fun x y H Q=>∃ i j,x = .bl i∧y = .bl j∧Q (.bl (i == j)) H):=by
 intro pins s σ H x y v u Q I rx ry h
 obtain ⟨i,j,rfl,rfl,q⟩:=h
 cases rx
 cases ry
 exact is_bool (a1l I q rfl)
theorem a8k:OpR X (compareOp .IsNot) (fun x y H Q=>∃ i j,x = .bl i∧y = .bl j∧Q (.bl (i != j)) H):=by
 intro pins s σ H x y v u Q I rx ry h
 obtain ⟨i,j,rfl,rfl,q⟩:=h
 cases rx
 cases ry
 exact isnot_bool (a1l I q rfl)
theorem a72:OpR X (compareOp .LtE) (fun x y H Q=>∃ i j,x = .str i∧y = .str j∧Q (.bl (!decide (j.cps.toList<i.cps.toList))) H):=by
 intro pins s σ H x y v u Q I rx ry h
 obtain ⟨i,j,rfl,rfl,q⟩:=h
 obtain ⟨t,rfl⟩:=rx
 obtain ⟨t',rfl⟩:=ry
 exact PySem.P.le_str (a1l I q rfl)
def a5i {α:Type} (xs:List α) (lo hi:Option Int):List α:=(xs.drop (HT.sIx xs.length 0 lo)).take (HT.sIx xs.length xs.length hi - HT.sIx xs.length 0 lo)
def atl:V→Option Int→Option Int→Hp→VK→Prop:=fun x lo hi H Q=>∃ z,x = .str z∧z.length≤sizeLine∧Q (.str ⟨(a5i z.cps.toList lo hi).toArray⟩) H
theorem ap4 (lo hi:Option Int) (n:Nat):Builtin.Str.strSliceIndices lo hi 1 n=(List.range (HT.sIx n n hi - HT.sIx n 0 lo)).map fun k=>HT.sIx n 0 lo+k:=by
 have e1:Builtin.Str.strSliceIndices lo hi 1 n=sliceRange ((HT.sIx n 0 lo:Nat):Int) ((HT.sIx n n hi:Nat):Int) 1:=by
  unfold Builtin.Str.strSliceIndices
  dsimp only
  congr 1
  ·cases lo with
   | none=>simp [HT.sIx]
   | some i=>simp only [HT.sIx,show (1:Int) > 0 by decide,if_true];split<;>omega
  ·cases hi with
   | none=>simp [HT.sIx]
   | some i=>simp only [HT.sIx,show (1:Int) > 0 by decide,if_true];split<;>omega
 rw [e1]
 exact sliceRange_one _ _
theorem ap5 {α:Type} (xs:List α) (a:Nat):∀ k,a+k≤xs.length→((List.range k).map fun j=>a+j).filterMap (xs[·]?)=(xs.drop a).take k
 | 0,_=>by simp
 | k+1,h=>by
  rw [List.range_succ,List.map_append,List.filterMap_append,ap5 xs a k (by omega)]
  have hk:a+k<xs.length:=by omega
  rw [List.take_succ]
  congr 1
  simp [List.getElem?_drop,hk]
theorem ap6:SlR X atl:=by
 intro pins s σ H x v vl vu lo hi sl Q I rx hs pl pu h
 obtain ⟨z,rfl,hz,q⟩:=h
 obtain ⟨t,rfl⟩:=rx
 refine ⟨"str",_,PyProof.Rows.slot_str_getitem.lookup,typeIs_str s z t,?_⟩
 have hl:z.cps.toList.length=z.length:=by simp [Str.length]
 have fin:∀ (l u:Option (Int × Tok)),vl=partValue l→vu=partValue u→l.map (·.1)=lo→u.map (·.1)=hi→wpAny (model X.prog X.w) X.A (getItem (.str z t) (.ref sl)) (EP X pins σ Q) X.xe s:=by
  intro l u e1 e2 e3 e4
  subst e1 e2
  refine wpAny_getItem_str_slice (l:=l) (u:=u) (st:=none) hs rfl ?_
  have hp:slicePicked z l u none=(List.range (HT.sIx z.length z.length hi - HT.sIx z.length 0 lo)).map fun k=>HT.sIx z.length 0 lo+k:=by
   unfold slicePicked
   rw [e3,e4]
   exact ap4 lo hi z.length
  have hb1:HT.sIx z.length z.length hi≤z.length:=HT.adc _ _ (Nat.le_refl _) _
  have hb2:HT.sIx z.length 0 lo≤z.length:=HT.adc _ _ (Nat.zero_le _) _
  unfold sliceMade
  split
  ·rename_i c
   simp only [Bool.and_eq_true,beq_iff_eq] at c
   obtain ⟨_,c⟩:=c
   rw [hp,List.length_map,List.length_range] at c
   have e:(⟨(a5i z.cps.toList lo hi).toArray⟩:Str)=z:=by
    unfold a5i
    rw [hl]
    have z1:HT.sIx z.length 0 lo=0:=by omega
    have z2:HT.sIx z.length z.length hi=z.length:=by omega
    rw [z1,z2,List.drop_zero,Nat.sub_zero,List.take_of_length_le (by omega)]
   rw [e] at q
   exact ⟨.str z,H,I,⟨_,rfl⟩,q⟩
  ·have e:(⟨(a5i z.cps.toList lo hi).toArray⟩:Str)=⟨((slicePicked z l u none).filterMap (z.cps[·]?)).toArray⟩:=by
    rw [hp]
    unfold a5i
    rw [hl]
    by_cases hc:HT.sIx z.length 0 lo≤HT.sIx z.length z.length hi
    ·rw [← ap5 z.cps.toList _ _ (by omega)]
     simp only [Array.getElem?_toList]
    ·rw [show HT.sIx z.length z.length hi - HT.sIx z.length 0 lo=0 by omega]
     simp
   rw [e] at q
   refine ⟨?_, .str _,H,I.tok _,⟨_,rfl⟩,q⟩
   rw [← e]
   show (a5i z.cps.toList lo hi).toArray.size≤sizeLine
   rw [List.size_toArray]
   unfold a5i
   rw [List.length_take,List.length_drop,hl]
   omega
 cases pl with
 | none=>cases pu with
  | none=>exact fin none none rfl rfl rfl rfl
  | int j t'=>exact fin none (some (j,t')) rfl rfl rfl rfl
 | int i t'=>cases pu with
  | none=>exact fin (some (i,t')) none rfl rfl rfl rfl
  | int j t''=>exact fin (some (i,t')) (some (j,t'')) rfl rfl rfl rfl
theorem a2u:CallR X (.builtin "isinstance") (fun xs H Q=>∃ x T t b,xs=[x, .ty T]∧TyOf X.K H x t∧PySem.W.kitOne X.K t (.type T)=some b∧Q (.bl b) H):=by
 intro pins s σ H xs us Q I r h
 obtain ⟨x,T,t,b,rfl,ty,e,q⟩:=h
 obtain ⟨u,w',rfl,rx,rt⟩:=vals2 r
 cases rt
 exact ad8 I rx ty e fun tk=>⟨.bl b,H,I.tok tk,rfl,q⟩
def xm (x:Str):List V:=x.cps.toList.map fun c=>V.str ⟨#[c]⟩
theorem aba {x:Str} {acc:Array Value} (h:ItemsOf (SignAt x) acc x.cps.size):Vals (xm x) acc.toList:=by
 obtain ⟨hs,ha⟩:=h
 have key:∀ (cs:List Nat) (us:List Value),us.length=cs.length→(∀ (j:Nat) (v:Value),us[j]? = some v→∃ c u,cs[j]? = some c∧v = .str ⟨#[c]⟩ u)→Vals (cs.map fun c=>V.str ⟨#[c]⟩) us:=by
  intro cs
  induction cs with
  | nil=>intro us hl _;cases us with | nil=>exact .nil | cons _ _=>simp at hl
  | cons c cs ih =>
   intro us hl hp
   cases us with
   | nil=>simp at hl
   | cons u us =>
    refine .cons ?_ (ih us (by simpa using hl) fun j v e=>hp (j+1) v (by simpa using e))
    obtain ⟨c',t,e1,e2⟩:=hp 0 u rfl
    simp at e1
    subst e1
    exact ⟨t,e2⟩
 refine key _ _ (by simp [hs]) fun j v e=>?_
 obtain ⟨c,u,e1,e2⟩:=ha j v (by simpa using e)
 exact ⟨c,u,by simpa using e1,e2⟩
theorem qj (hc:X.calm=true):CallR X (.type "tuple") (fun xs H Q=>∃ z,xs=[.str z]∧z.length≤sizeLine∧∀ l,H l=none→Q (.ref l) (upd H l (.tup (xm z)))):=by
 intro pins s σ H xs us Q I r h
 obtain ⟨z,rfl,hz,q⟩:=h
 obtain ⟨u,rfl,t,rfl⟩:=vals1 r
 refine PySem.call_tuple_str (I.ok.hd hc) z t (fun h' tk acc kp hi=>?_) (by simpa [Str.length] using hz)
 have I1:Inv X pins σ H { s with heap:=h',toks:=tk }:=I.kept kp
 have I2:Inv X pins σ (upd H h'.objs.size (.tup (xm z))) { s with heap:=h'.push { cls:=.type "tuple",data:=.seq acc },toks:=tk } :=
  I1.laid (t':=tk) (fun b o e=>Heap.get?_push_of_some _ e) (Nat.le_refl _) (show ObjOk X.prog X.w _ _ _ (.tup (xm z)) from ⟨by simpa [xm,Str.length] using hz,acc.toList,aba hi,by simpa using IsTup.new h' acc⟩)
 exact ⟨.ref h'.objs.size,_,I2,rfl,q _ (I1.hok.fresh (Nat.le_refl _))⟩
end
def Its (x:Str):It:=⟨fun i _=>i<x.cps.size,fun i H v H'=>H'=H∧∃ c,x.cps.toList[i]? = some c∧v = .str ⟨#[c]⟩,fun i _=>i=x.cps.size⟩
theorem a9p {P:Program} {w:World} {K:PySem.W.Frag} {tg:Expr} (it:Addr) (x:Str) (t:Tok) (ty:String)
  (hty:["enumerate", "zip", "dict_itemiterator", "dict_reverseitemiterator", "odict_iterator", "itertools.zip_longest", "itertools.pairwise"].contains ty=false)
  (W:∀ A':Around,A'.handled=none→Walks P w A' it [it] [it] x.cps.size (SignAt x) (fun i h=>h.IsStrIter it ty x t i))
  (slf:∀ (A:Around) (i:Nat) (s:Shared) (Q:Value→Shared→Prop) (E:Value→Shared→Prop),s.heap.IsStrIter it ty x t i→Q (.ref it) s→wpAny (model P w) A (pyIter (.ref it)) Q E s) :
  Turn P w K tg (Its x) [it] it (fun i h=>h.IsStrIter it ty x t i) where
 mem:=by simp
 obj:=fun i h st b hb=>by
  have e:b=it:=by simpa using hb
  subst e
  obtain ⟨o,e,c,d⟩:=st
  exact ⟨o,e,fun v z=>by rw [d] at z;cases z⟩
 keep:=fun i h h' st k=>by
  obtain ⟨o,e,c,d⟩:=st
  exact ⟨o,k it (by simp) o e,c,d⟩
 item:=by
  intro X hP hw hK hc i pins s σ H E I hf st hg
  subst hP hw hK
  obtain ⟨f0,f1,f2,f3,f4,f5⟩:=hf it (by simp)
  refine (W X.A (I.ok.hd hc)).item i s _ _ hg st fun v h' tk hv st' kk=>?_
  obtain ⟨c,u,hx,rfl⟩:=hv
  have I1:Inv X pins σ H { s with heap:=h',toks:=tk }:=I.turned (fun b o hb e=>kk b o (by simpa using hb) e) f0 f1 f3 f4 f5
  obtain ⟨o,e,oc,d⟩:=id st'
  exact ⟨_,rfl,agr (s:={ s with heap:=h',toks:=tk }) e oc d hty ⟨.str ⟨#[c]⟩,H,I1,⟨_,rfl⟩,⟨rfl,c,by simpa using hx,rfl⟩,st',fun b hb=>(hf b hb).1⟩⟩
 done:=by
  intro X hP hw hK hc i pins s σ H E I hf st hg
  subst hP hw hK
  obtain ⟨f0,f1,f2,f3,f4,f5⟩:=hf it (by simp)
  have hg':i=x.cps.size:=hg
  subst hg'
  exact (W X.A (I.ok.hd hc)).done s _ _ st fun h' tk eb=>⟨rfl,I.turned (fun b o hb e=>eb b o (by simpa using hb) e) f0 f1 f3 f4 f5⟩
 self:=slf
section
variable {X:Cx} {tg:Expr}
def avy (tl:TE):TI:=fun σ H R=>tl σ H fun x H1=>∃ z,x = .str z∧R (Its z) H1
theorem aj1 {l:Expr} {tl:TE} (hl:PE X l tl):PI X tg l (avy tl):=by
 intro pins s σ H R I h
 refine thn (hl pins s σ H _ I h) fun v s1 ⟨x,H1,I1,r1,q1⟩=>?_
 obtain ⟨z,e,q⟩:=q1
 subst e
 obtain ⟨t,rfl⟩:=r1
 have fp:∀ b∈[s1.heap.objs.size],FpOk X pins H1 b:=fun b hb=>by
  have e:b=s1.heap.objs.size:=by simpa using hb
  subst e
  exact I1.fpOk (Nat.le_refl _) (I1.hok.fresh (Nat.le_refl _))
 cases ha:z.cps.all (· < 128)
 ·exact wpAny_pyIter_wide ha ⟨s1.heap.objs.size,[s1.heap.objs.size],_,_,H1,rfl,I1.kept (t':=s1.toks) fun b o e=>Heap.get?_push_of_some _ e,
   a9p _ z t "str_iterator" (by decide) (fun A' hA=>Walks.strWide hA _ z t) (fun _ _ _ _ _ st h=>wpAny_pyIter_striter_wide st h),⟨_,Heap.get?_push_size _ rfl,rfl,rfl⟩,fp,q⟩
 ·exact wpAny_pyIter_ascii ha ⟨s1.heap.objs.size,[s1.heap.objs.size],_,_,H1,rfl,I1.kept (t':=s1.toks) fun b o e=>Heap.get?_push_of_some _ e,
   a9p _ z t "str_ascii_iterator" (by decide) (fun A' hA=>Walks.strAscii hA _ z t) (fun _ _ _ _ _ st h=>wpAny_pyIter_striter_ascii st h),⟨_,Heap.get?_push_size _ rfl,rfl,rfl⟩,fp,q⟩
end
end L2
namespace L2
open PySem PySem.Spec PyProof.Rows
def cxC (X:Cx) (N:List Str) (scope:Scope) (cl:List (Str × Addr)) (C:Addr) (fp:List Addr) (s:Shared) (H:Hp):Cx where
 prog:=X.prog
 w:=X.w
 K:=X.K
 mg:=X.mg
 base:=X.base
 A:=X.A
 N:=N
 s₀:=s
 H₀:=H
 env:=compEnvC scope cl C X.env
 outer:=X.stack
 stack:=X.stack
 ex:=fp
 fn:=fun _=>false
 calm:=X.calm
 pn:=[]
 xe:=fun _ _=>False
structure CSc (X:Cx) (scope:Scope) (cl:List (Str × Addr)) (ts fr:List Str) (ix:List Nat):Prop where
 clos:closureFor scope X.env=pure cl
 kind:scope.kind = .function
 nocell:∀ y∈scope.names,y.2≠.cell
 names:∀ y∈scope.names,y.2 = .local→scope.names.lookup y.1=some .local
 sub:∀ y c,cl.lookup y=some c→X.env.cells.lookup y=some c
 has:∀ y,((relabel scope X.env).names.lookup y=some .cell∨(relabel scope X.env).names.lookup y=some .free)→∃ c,cl.lookup y=some c
 nofn:∀ y∈ts,(relabel scope X.env).names.lookup y=some .local
 len:ix.length=fr.length
 vis:∀ (j:Nat) (y:Str),fr[j]? = some y→∃ i:Nat,ix[j]? = some i∧X.N[i]? = some y∧(X.env.kindOf y=some .cell∨X.env.kindOf y=some .free)∧((relabel scope X.env).names.lookup y=some .cell∨(relabel scope X.env).names.lookup y=some .free)
def Ext (a b:St):Prop:=b.length=a.length∧∀ (i:Nat) v,a[i]? = some (some v)→b[i]? = some (some v)
def ie (nt:Nat) (ix:List Nat) (σ:St):St:=List.replicate nt none++ix.map fun i=>(σ[i]?).join
def ap7 (J:It) (s0:St) (g:TG) (te:TE) (Q:VK) (H1:Hp):Prop:=∃ W:Nat→Nat→List V→Hp→Prop,(∃ m,W 0 m [] H1)∧∀ i m ys H,W i m ys H →
 (J.stop i H∧∀ p,H p=none→Q (.ref p) (upd H p (.lst ys))) ∨
 (J.go i H∧ys.length<sizeLine∧∀ x H',J.yld i H x H'→g x s0 H' fun σ2 H2=>Ext s0 σ2∧te σ2 H2 fun y H3=>∃ m',m'<m∧W (i+1) m' (ys++[y]) H3)
def abb (wi:TI) (s0:St→St) (g:TG) (te:TE):TE:=fun σ H Q=>wi σ H fun J H1=>ap7 J (s0 σ) g te Q H1
theorem a73 {prog:Program} {w:World} {A:Around} {R:Result→Shared→Prop} {s:Shared} {elt target iter:Expr} {scope:Scope} {pos:Pos} {it acc:Value} {env:Env} (J:Nat→Shared→Prop)
  (step:∀ m z,J m z→wpAny (model prog w) A (pyNext it) (fun got z1=>match got with
   | none=>R (.ok .next) z1
   | some v=>wpAny (model prog w) A (letOwnedTupleGo target it v) (fun _ z2=>wpAny (model prog w) A (assign target env v) (fun _ z3=>wpAny (model prog w) A (eval elt env) (fun x z4 =>
     wpAny (model prog w) A (call (.builtin "list.append") [acc,x]) (fun _ z5=>∃ m',m'<m∧J m' z5) (fun _ _=>False) z4)
     (fun _ _=>False) z3) (fun _ _=>False) z2) (fun _ _=>False) z1) (fun _ _=>False) z)
  (m:Nat) (j0:J m s):codeAny (model prog w) A (.compLoop (.ListComp elt [⟨target,iter,[],0⟩] scope pos) 0 it acc env) R s:=by
 refine codeAny_loop rfl J (fun m z hj=>(wpAny_noted ?_:wpAny _ _ ((compTurn (.ListComp elt [⟨target,iter,[],0⟩] scope pos) 0 it acc env).onRaise _) _ _ z)) m j0
 rw [compTurn_list1]
 refine wpAny_bind (wpAny_standAt (wpAny_bind (wpAny_mono (step m z hj) (fun got z1 h1=>?_) fun _ _ no=>no.elim)))
 match got,h1 with
 | none,h1=>exact wpAny_pure h1
 | some v,h1 =>
  refine wpAny_bind (wpAny_mono h1 (fun _ z2 h2=>wpAny_bind (wpAny_mono h2 (fun _ z3 h3=>?_) fun _ _ no=>no.elim)) fun _ _ no=>no.elim)
  refine wpAny_bind (wpAny_bind (wpAny_mono h3 (fun x z4 h4=>?_) fun _ _ no=>no.elim))
  exact wpAny_bind (wpAny_mono h4 (fun _ z5 h5=>wpAny_pure (wpAny_pure ⟨rfl,h5⟩)) fun _ _ no=>no.elim)
section
variable {X:Cx}
theorem a2v {pins:List (Addr × Obj)} {σ:St} {H:Hp} {s:Shared} {scope:Scope} {cl:List (Str × Addr)} {ts fr:List Str} {ix:List Nat} {C:Addr} {fp:List Addr} (S:CSc X scope cl ts fr ix) (I:Inv X pins σ H s)
  (hf:∀ b∈fp,FpOk X pins H b) (hb:∀ b∈fp,b<s.heap.objs.size) (hC:s.heap.objs.size≤C):(cxC X (ts++fr) scope cl C fp s H).Ok where
 mod:=I.ok.mod
 kind:=S.kind
 glob:=I.ok.glob
 blt:=I.ok.blt
 above:=hC
 inj:=fun x y c h1 h2=>I.ok.inj x y c (S.sub x c h1) (S.sub y c h2)
 has:=S.has
 cab:=fun _ _ z=>nomatch z
 hd:=I.ok.hd
 frames:=I.ok.frames
 stk:=.inl rfl
 exf:=fun b hb'=>⟨Nat.ne_of_lt (Nat.lt_of_lt_of_le (hb b hb') hC),fun x c e=>(hf b hb').2.2.2.2.1 x c (S.sub x c e)⟩
 bs:=fun b o e=>I.bs b o e
 bsz:=Nat.le_trans I.ok.bsz I.sz
 noex:=fun b o e hb'=>by
  rcases (hf b hb').2.2.2.1 with z | z
  ·exact I.ok.noex b o e z
  ·exact absurd (Nat.lt_of_lt_of_le (Heap.lt_size e) (Nat.le_trans I.ok.bsz z)) (Nat.lt_irrefl _)
 exfs:=fun b hb' z=>by
  rcases List.mem_cons.mp (I.stkSub b z) with e | e
  ·exact (hf b hb').2.1 e
  ·exact (hf b hb').2.2.1 e
 funs:=I.stack
 frf:=fun b hb'=>I.stkFree b hb'
theorem a4l {nt:Nat} {ix:List Nat} {σ:St}:(ie nt ix σ).length=nt+ix.length:=by
 unfold ie;rw [List.length_append,List.length_replicate,List.length_map]
theorem a8l {pins:List (Addr × Obj)} {σ:St} {H:Hp} {s s4:Shared} {scope:Scope} {cl:List (Str × Addr)} {ts fr:List Str} {ix:List Nat} {C:Addr} {fp:List Addr} {m:Str→Option Value} (S:CSc X scope cl ts fr ix) (I:Inv X pins σ H s)
  (hf:∀ b∈fp,FpOk X pins H b) (hb:∀ b∈fp,b<s.heap.objs.size) (hC:s.heap.objs.size≤C)
  (k:∀ b o,s.heap.get? b=some o→s4.heap.get? b=some o) (hn:s4.heap.Ns C m) (ho:s4.os=s.os) (hg:s4.gens=s.gens) :
  Inv (cxC X (ts++fr) scope cl C fp s H) [] (ie ts.length ix σ) H s4 where
 ok:=a2v S I hf hb hC
 os:=ho
 bare:=by rw [hg];exact I.bare
 base:=Un.kept k
 loc:=by
  refine ⟨m,hn,fun i x v e1 e2 e3=>?_⟩
  have e1:(ts++fr)[i]? = some x:=e1
  by_cases hi:i<ts.length
  ·unfold ie at e2
   rw [List.getElem?_append_left (by simpa using hi),List.getElem?_replicate,if_pos hi] at e2
   cases e2
  ·rw [List.getElem?_append_right (by omega)] at e1
   unfold ie at e2
   rw [List.getElem?_append_right (by simpa using hi),List.length_replicate,List.getElem?_map] at e2
   obtain ⟨j,h1,h2,h3,h4⟩:=S.vis _ x e1
   rw [h1] at e2
   have e2':(σ[j]?).join=some v:=Option.some.inj e2
   have e5:σ[j]? = some (some v):=by
    cases q:σ[j]? with
    | none=>rw [q] at e2';cases e2'
    | some o=>rw [q] at e2';simp at e2';rw [e2']
   obtain ⟨m0,_,hl⟩:=I.loc
   have vis:Vis X.env.scope x:=h3.elim (fun z=>.inr (.inl z)) fun z=>.inr (.inr z)
   obtain ⟨u,ru,l⟩:=hl j x v h2 e5 vis
   refine ⟨u,ru,?_⟩
   rcases l with ⟨z,_⟩ | ⟨_,c,hc,hcell⟩
   ·rcases h3 with h3 | h3<;>rw [h3] at z<;>cases z
   ·obtain ⟨c',hc'⟩:=S.has x h4
    have e6:c'=c:=Option.some.inj ((S.sub x c' hc').symm.trans hc)
    subst e6
    obtain ⟨o,ho,hd⟩:=hcell
    exact .inr ⟨h4,c',hc',o,k _ _ ho,hd⟩
 cell:=fun x c e=>by
  obtain ⟨v,o,ho,hd⟩:=I.cell x c (S.sub x c e)
  exact ⟨v,o,k _ _ ho,hd⟩
 free:=I.hok.fresh hC
 freeC:=fun x c e=>I.freeC x c (S.sub x c e)
 pin:=fun p hp=>absurd (show p∈([]:List (Addr × Obj)) from hp) (by simp)
 hok:=I.hok.kept k
 len:=by
  rw [a4l]
  show _=(ts++fr).length
  rw [List.length_append,S.len]
theorem Inv.unpinned' {pins:List (Addr × Obj)} {σ:St} {H:Hp} {s:Shared} (I:Inv X pins σ H s):Inv X [] σ H s:=I.pins_of fun _ hp=>nomatch hp
theorem comp_back {pins:List (Addr × Obj)} {σ σ':St} {H H':Hp} {s s':Shared} {scope:Scope} {cl:List (Str × Addr)} {N:List Str} {C acc:Addr} {fp:List Addr} {h':Heap} {ys:List V} {its:List Value} {n:Nat} (I:Inv X pins σ H s)
  (hf:∀ b∈fp,FpOk X pins H b) (hC:s.heap.objs.size≤C) (hacc:s.heap.objs.size≤acc) (hCa:C≠acc)
  (J:Inv (cxC X N scope cl C fp s H) [] σ' H' s') (hn:H' acc=none) (ha:s'.heap.get? acc=some { cls:=.type "list",data:=.seq its.toArray n }) (rv:Vals ys its) (hz:ys.length≤sizeLine) (sb:Heap.SameBut C s'.heap h') :
  Inv X pins σ (upd H' acc (.lst ys)) { s' with heap:=h' }:=by
 have k:∀ b o,b≠C→s'.heap.get? b=some o→h'.get? b=some o:=fun b o hb e=>sb.extBut b o hb e
 have old:∀ b o,s.heap.get? b=some o→b≠C∧b≠acc:=fun b o e=>⟨Nat.ne_of_lt (Nat.lt_of_lt_of_le (Heap.lt_size e) hC),Nat.ne_of_lt (Nat.lt_of_lt_of_le (Heap.lt_size e) hacc)⟩
 have u0:Un (frs X.stack) fp H H' s.heap s'.heap:=J.base
 have fC:H' C=none:=J.free
 have u:Un (frs X.stack) fp H (upd H' acc (.lst ys)) s.heap h':=by
  refine ⟨fun b o e n' hb hx=>k b o (old b o e).1 (u0.keep b o e n' hb hx),fun b o e n' hb hx=>?_,fun b o e n' hx=>?_,fun b o e hx=>?_,fun b xs e=>?_,fun b o v e=>?_,fun b ps e=>?_⟩
  ·obtain ⟨sl,e1⟩:=u0.slot b o e n' hb hx
   exact ⟨sl,k b _ (old b o e).1 e1⟩
  ·rw [d9 (old b o e).2];exact u0.free b o e n' hx
  ·obtain ⟨o',e1⟩:=u0.there b o e hx
   exact ⟨o',k b _ (old b o e).1 e1⟩
  ·rw [d9 (bh (u0.tups b xs e) hn)];exact u0.tups b xs e
  ·rw [d9 (bh (u0.frzs b o v e) hn)];exact u0.frzs b o v e
  ·obtain ⟨more,e1⟩:=u0.tbls b ps e
   exact ⟨more,by rw [d9 (bh e1 hn)];exact e1⟩
 have hok:HOk X.prog X.w (upd H' acc (.lst ys)) h':=fun b o e=>by
  by_cases hb:b=acc
  ·subst hb;rw [jc] at e;cases e
   exact ⟨hz,its,n,rv,k _ _ (Ne.symm hCa) ha⟩
  ·rw [d9 hb] at e
   refine (J.hok b o e).stay (fun c v hc q=>k c v ?_ q) (fun c q=>by rw [d9 (bh q hn)];exact q) fun c xs q=>by rw [d9 (bh q hn)];exact q
   rcases hc with z | z
   ·rw [z];exact bh e fC
   ·exact bh z fC
 have J':=I.call (g':=s'.gens) (t':=s'.toks) (d':=s'.drawn) (ch:=fp) u hok J.bare fun b hb=>⟨(hf b hb).2.2.2.1,(hf b hb).2.1,(hf b hb).2.2.2.2.1,(hf b hb).2.2.2.2.2⟩
 have eo:s'.os=s.os:=J.os
 obtain ⟨hp,g,d,t,o⟩:=s'
 have eo':o=s.os:=eo
 subst eo'
 exact J'
def a2w (X:Cx) (pins:List (Addr × Obj)) (σ:St) (use:Option (Value→Sem Unit)) (Q:VK) (Qf:Value→Shared→Prop):Prop :=
 ∀ (acc C:Addr) (s6:Shared) (H6:Hp) (m6:Str→Option Value),s6.heap.Ns C m6→FpOk X pins H6 C→(∀ h',Heap.SameBut C s6.heap h'→Inv X pins σ H6 { s6 with heap:=h' })→Q (.ref acc) H6 →
  compPost (model X.prog X.w) X.A X.xe use Qf (.ref acc) C (.ok .next) s6
theorem a5j {pins:List (Addr × Obj)} {σ:St} {Q:VK}:a2w X pins σ none Q (EP X pins σ Q):=fun acc C s6 H6 m6 hn _ k q=>⟨m6,hn,fun h' sb=>⟨.ref acc,H6,k h' sb,rfl,q⟩⟩
theorem a5k {pins:List (Addr × Obj)} {σ:St} {D:Ends} {i:Nat} {x:Str} {pos':Pos} (hN:X.N.Nodup) (hi:X.N[i]? = some x) (hx:Loc X.env.scope x) (hf:X.fn x=true∨X.env.scope.names.lookup x=some .local) :
  a2w X pins σ (some (assign (.Name x pos') X.env)) (fun v H1=>a07 i v σ H1 D.nx) (fun _ s'=>SP X pins D .next s'):=by
 intro acc C s6 H6 m6 hn fp k q
 obtain ⟨f1,f2,f3,f4,f5,f6⟩:=fp
 have I6:Inv X pins σ H6 s6:=k s6.heap (Heap.SameBut.refl _ _)
 refine wpAny_assign_Name (a6s (v:=.ref acc) I6 hN hi hx rfl (fun s' I' ⟨a,sb,ha⟩=>⟨m6,hn.sameBut sb ?_,fun h' sb'=>⟨_,H6,I'.turned (t':=s'.toks) (it:=C) (fun b o hb e=>sb'.extBut b o hb e) f1 f2 f4 f5 f6,q⟩⟩) hf)
 rcases ha with ha | ha
 ·rw [ha];exact f2
 ·exact fun z=>f5 x a ha z.symm
theorem a74 {elt tg iter:Expr} {scope:Scope} {pos ppos:Pos} {cl:List (Str × Addr)} {ts fr:List Str} {ix:List Nat} {wi:TI} {g:TG} {te:TE} (hc:X.calm=true) (S:CSc X scope cl ts fr ix) (hi:PI X tg iter wi)
  (hg:∀ C fp s H,PG (cxC X (ts++fr) scope cl C fp s H) tg g) (he:∀ C fp s H,PE (cxC X (ts++fr) scope cl C fp s H) elt te) (hs:∀ x,foldedSetIterable iter X.env x=pure x)
  (use:Option (Value→Sem Unit)) {pins:List (Addr × Obj)} {s:Shared} {σ:St} {H:Hp} {Q:VK} {Qf:Value→Shared→Prop} (I:Inv X pins σ H s) (h:abb wi (ie ts.length ix) g te σ H Q) (fin:a2w X pins σ use Q Qf) :
  wpAny (model X.prog X.w) X.A (comprehension (.ListComp elt [⟨tg,iter,[],0⟩] scope pos) scope X.env ppos (newList []) false (eval iter X.env) use) Qf X.xe s:=by
 refine wpAny_comprehension_free (use:=use) rfl hs S.clos S.kind S.names (thn (hi pins s σ H _ I h) fun v s1 h1=>thn h1 fun itv s2 h2=>?_)
 obtain ⟨it,fp,tn,J,H2,e,I2,T,st2,f2,W,⟨m0,w0⟩,turn⟩:=h2
 subst e
 have hob:∀ b∈fp,b<s2.heap.objs.size:=fun b hb=>let ⟨o,e,_⟩:=T.obj _ _ st2 b hb;Heap.lt_size e
 refine wpAny_newObj_type (wpAny_newFunctionEnv S.nocell (by intro y hy;simp at hy) (fun h4 hns4 hsb4=>?_) S.kind)
 dsimp only at hns4 hsb4 ⊢
 generalize hH2:s2.heap.push { cls:=.type "list",dict:=none,data:=.seq ([]:List Value).toArray }=G at hns4 hsb4 ⊢
 have hCs:G.objs.size=s2.heap.objs.size+1:=by rw [← hH2,Heap.size_push]
 have hCle:s2.heap.objs.size≤G.objs.size:=by omega
 have hne:G.objs.size≠s2.heap.objs.size:=by omega
 have old:∀ b o,s2.heap.get? b=some o→h4.get? b=some o:=fun b o e=>by
  have hlt:=Heap.lt_size e
  exact hsb4.extBut b o (Nat.ne_of_lt (Nat.lt_of_lt_of_le hlt hCle)) (Heap.get?_push_of_some _ (hH2 ▸ Heap.get?_push_of_some _ e))
 have hacc:h4.get? s2.heap.objs.size=some { cls:=.type "list",data:=.seq ([]:List Value).toArray 0 } :=
  hsb4.extBut _ _ (Ne.symm hne) (Heap.get?_push_of_some _ (hH2 ▸ Heap.get?_push_size _ rfl))
 have K0:Inv (cxC X (ts++fr) scope cl G.objs.size fp s2 H2) [] (ie ts.length ix σ) H2 { s2 with heap:=h4,toks:=s2.toks+([]:List (Str × Value)).length } :=
  a8l S I2 f2 hob hCle old hns4 rfl rfl
 have st4:tn 0 h4:=T.keep _ _ _ st2 fun b _ o e=>old b o e
 have accF:s2.heap.objs.size ∉ fp:=fun z=>Nat.lt_irrefl _ (hob _ z)
 have stat:∀ {H':Hp},(∀ b∈fp,H' b=none)→∀ b∈fp,FpOk (cxC X (ts++fr) scope cl G.objs.size fp s2 H2) [] H' b:=fun hn b hb =>
  ⟨hn b hb,fun z=>by have h1:=hob b hb;have z':b=G.objs.size:=z;exact Nat.ne_of_lt (Nat.lt_of_lt_of_le h1 hCle) z',fun z=>(a2v S I2 f2 hob hCle).exfs b hb z, .inl hb,fun x c e=>(f2 b hb).2.2.2.2.1 x c (S.sub x c e),fun p hp=>absurd (show p∈([]:List (Addr × Obj)) from hp) (by simp)⟩
 have statA:∀ {H':Hp},H' s2.heap.objs.size=none→FpOk (cxC X (ts++fr) scope cl G.objs.size fp s2 H2) [] H' s2.heap.objs.size:=fun hn =>
  ⟨hn,fun z=>hne (show G.objs.size=s2.heap.objs.size from z.symm),fun z=>by
   obtain ⟨_,o,ho,_⟩:=(a2v S I2 f2 hob hCle).funs.mem z
   exact Nat.lt_irrefl _ (Heap.lt_size ho), .inr (Nat.le_refl _),fun x c e z=>by
   obtain ⟨v,o,ho,_⟩:=I2.cell x c (S.sub x c e)
   rw [z] at ho
   exact Nat.lt_irrefl _ (Heap.lt_size ho),fun p hp=>absurd (show p∈([]:List (Addr × Obj)) from hp) (by simp)⟩
 have loop:∀ s4:Shared,s4={ s2 with heap:=h4,toks:=s2.toks+([]:List (Str × Value)).length } →
   codeAny (model X.prog X.w) X.A (.compLoop (.ListComp elt [⟨tg,iter,[],0⟩] scope pos) 0 (.ref it) (.ref s2.heap.objs.size) (compEnvC scope cl G.objs.size X.env))
    (compPost (model X.prog X.w) X.A X.xe use Qf (.ref s2.heap.objs.size) G.objs.size) s4:=by
  rintro s4 rfl
  refine a73 (fun n s'=>∃ i σ' H' ys its k,Inv (cxC X (ts++fr) scope cl G.objs.size fp s2 H2) [] σ' H' s'∧Ext (ie ts.length ix σ) σ'∧tn i s'.heap∧(∀ b∈fp,H' b=none)∧H' s2.heap.objs.size=none ∧
   s'.heap.get? s2.heap.objs.size=some { cls:=.type "list",data:=.seq its.toArray k }∧Vals ys its∧ys.length≤sizeLine∧W i n ys H') ?_ m0
   ⟨0,_,H2,[],[],0,K0,⟨rfl,fun _ _ z=>z⟩,st4,fun b hb=>(f2 b hb).1,I2.hok.fresh (Nat.le_refl _),hacc, .nil,Nat.zero_le _,w0⟩
  rintro n s5 ⟨i,σ5,H5,ys,its,k5,I5,x5,st5,fr5,fa5,ac5,rv5,hz5,w5⟩
  have I5':Inv (cxC X (ts++fr) scope cl G.objs.size fp s2 H2) [] (ie ts.length ix σ) H5 s5:=I5.weak x5.1.symm x5.2
  rcases turn i n ys H5 w5 with ⟨stop,qn⟩ | ⟨go,hlt,step⟩
  ·refine thn (T.done (cxC X (ts++fr) scope cl G.objs.size fp s2 H2) rfl rfl rfl hc i [(s2.heap.objs.size,{ cls:=.type "list",data:=.seq its.toArray k5 })] s5 _ H5 _ (I5'.pins_of fun p hp=>?_) (fun b hb=>?_) st5 stop) fun r s6 ⟨hr,I6⟩=>?_
   ·have e:p=(s2.heap.objs.size,{ cls:=.type "list",data:=.seq its.toArray k5 }):=by simpa using hp
    subst e
    obtain ⟨a0,a1,a2,_⟩:=statA fa5
    exact ⟨ac5,a0,a1,a2,fun v z=>by cases z⟩
   ·obtain ⟨b0,b1,b2,b3,b4,b5⟩:=stat fr5 b hb
    refine ⟨b0,b1,b2,b3,b4,fun p hp=>?_⟩
    have e:p=(s2.heap.objs.size,{ cls:=.type "list",data:=.seq its.toArray k5 }):=by
     have hp':p∈[(s2.heap.objs.size,_)]:=hp
     simpa using hp'
    subst e
    exact fun z=>accF (by have z':s2.heap.objs.size=b:=z;rw [z'];exact hb)
   ·subst hr
    have e6:=(I6.pin (s2.heap.objs.size,{ cls:=.type "list",data:=.seq its.toArray k5 }) (by show _∈[]++[_];simp)).1
    obtain ⟨m6,hn6,_⟩:=I6.loc
    exact fin _ _ s6 _ m6 hn6 (I2.fpOk hCle (by rw [d9 hne];exact I6.free)) (fun h' sb=>comp_back I2 f2 hCle (Nat.le_refl _) hne I6.unpinned' fa5 e6 rv5 hz5 sb) (qn _ fa5)
  ·refine thn (T.item (cxC X (ts++fr) scope cl G.objs.size fp s2 H2) rfl rfl rfl hc i [(s2.heap.objs.size,{ cls:=.type "list",data:=.seq its.toArray k5 })] s5 _ H5 _ (I5'.pins_of fun p hp=>?_) (fun b hb=>?_) st5 go) fun r s6 ⟨u,hr,h6⟩=>?_
   ·have e:p=(s2.heap.objs.size,{ cls:=.type "list",data:=.seq its.toArray k5 }):=by simpa using hp
    subst e
    obtain ⟨a0,a1,a2,_⟩:=statA fa5
    exact ⟨ac5,a0,a1,a2,fun v z=>by cases z⟩
   ·obtain ⟨b0,b1,b2,b3,b4,b5⟩:=stat fr5 b hb
    refine ⟨b0,b1,b2,b3,b4,fun p hp=>?_⟩
    have e:p=(s2.heap.objs.size,{ cls:=.type "list",data:=.seq its.toArray k5 }):=by
     have hp':p∈[(s2.heap.objs.size,_)]:=hp
     simpa using hp'
    subst e
    exact fun z=>accF (by have z':s2.heap.objs.size=b:=z;rw [z'];exact hb)
   ·subst hr
    refine thn h6 fun _ s7 ⟨x,H7,I7,r7,y7,st7,fr7⟩=>?_
    have fa7:H7 s2.heap.objs.size=none:=(I7.pin (s2.heap.objs.size,{ cls:=.type "list",data:=.seq its.toArray k5 }) (by show _∈[]++[_];simp)).2.1
    have ac7:=(I7.pin (s2.heap.objs.size,{ cls:=.type "list",data:=.seq its.toArray k5 }) (by show _∈[]++[_];simp)).1
    have I7':Inv (cxC X (ts++fr) scope cl G.objs.size fp s2 H2) ([]++o6 (s2.heap.objs.size::fp) s7.heap) (ie ts.length ix σ) H7 s7:=by
     refine Inv.pinned I7.unpinned' (fun b hb=>?_) fun b hb=>?_
     ·rcases List.mem_cons.mp hb with e | e
      ·subst e;exact statA fa7
      ·exact stat fr7 b e
     ·rcases List.mem_cons.mp hb with e | e
      ·subst e;exact ⟨_,ac7,fun v z=>by cases z⟩
      ·exact T.obj _ _ st7 b e
    refine thn (hg G.objs.size fp s2 H2 _ s7 _ H7 x u _ I7' r7 (step x H7 y7)) fun _ s8 ⟨σ8,H8,I8,x8,q8⟩=>?_
    refine thn (he G.objs.size fp s2 H2 _ s8 _ H8 _ I8 q8) fun yv s9 ⟨y,H9,I9,r9,m',hm',w9⟩=>?_
    obtain ⟨ac9,fa9,_⟩:=I9.pin (s2.heap.objs.size,{ cls:=.type "list",data:=.seq its.toArray k5 }) (by show _∈[]++([]++_);simp;exact gj List.mem_cons_self ac7)
    have keep9:∀ b∈fp,∀ o,s7.heap.get? b=some o→s9.heap.get? b=some o∧H9 b=none:=fun b hb o e=>by
     obtain ⟨z1,z2,_⟩:=I9.pin (b,o) (by show _∈[]++([]++_);simp;exact gj (List.mem_cons_of_mem _ hb) e)
     exact ⟨z1,z2⟩
    have hl:=rv5.length
    refine call_meets F.slot_list_append ⟨_,ac9,rfl⟩ F.entry_list_append (F.args_list_append_2 _ _) (PySem.list_append s2.heap.objs.size its.toArray k5 yv (by rw [List.size_toArray];omega)) ⟨ac9,?_⟩
    have q:=PySem.IsL.update ac9 (fun a=>a.push yv)
    have qo:∀ b o,b≠s2.heap.objs.size→s9.heap.get? b=some o→(s9.heap.update s2.heap.objs.size (Obj.mapSeq (fun a=>a.push yv))).get? b=some o:=fun b o hb e=>(Heap.get?_update_other s9.heap _ (Ne.symm hb)).trans e
    have q':∃ k,(s9.heap.update s2.heap.objs.size (Obj.mapSeq (fun a=>a.push yv))).get? s2.heap.objs.size=some { cls:=.type "list",data:=.seq (its++[yv]).toArray k }:=⟨_,by rw [q];simp;rfl⟩
    obtain ⟨k9,q9⟩:=q'
    obtain ⟨a0,a1,a2,a3,a4,a5⟩:=statA (show H9 s2.heap.objs.size=none from fa9)
    refine ⟨m',hm',i+1,σ8,H9,ys++[y],its++[yv],k9,(I9.unpinned').turned qo a0 a1 a3 a4 a5,x8,?_,?_,fa9,q9,rv5.append (.cons r9 .nil),?_,w9⟩
    ·refine T.keep _ _ _ st7 fun b hb o e=>qo b o (fun z=>accF (z ▸ hb)) (keep9 b hb o e).1
    ·intro b hb
     obtain ⟨o,e,_⟩:=T.obj _ _ st7 b hb
     exact (keep9 b hb o e).2
    ·rw [List.length_append,List.length_singleton];omega
 exact codeAny_compStart_list (loop _ rfl) (T.self _ 0 _ _ _ st4 (loop _ rfl))
theorem ah3 {elt tg iter:Expr} {scope:Scope} {pos:Pos} {cl:List (Str × Addr)} {ts fr:List Str} {ix:List Nat} {wi:TI} {g:TG} {te:TE} (hc:X.calm=true) (S:CSc X scope cl ts fr ix) (hi:PI X tg iter wi)
  (hg:∀ C fp s H,PG (cxC X (ts++fr) scope cl C fp s H) tg g) (he:∀ C fp s H,PE (cxC X (ts++fr) scope cl C fp s H) elt te)
  (hs:∀ x,foldedSetIterable iter X.env x=pure x:=by intro _;rfl) :
  PE X (.ListComp elt [⟨tg,iter,[],0⟩] scope pos) (abb wi (ie ts.length ix) g te):=by
 intro pins s σ H Q I h
 rw [eval_ListComp]
 exact a74 hc S hi hg he hs none I h a5j
theorem a9q {elt tg iter:Expr} {scope:Scope} {pos:Pos} {cl:List (Str × Addr)} {ts fr:List Str} {ix:List Nat} {wi:TI} {g:TG} {te:TE} {i:Nat} {x:Str} {pos' spos:Pos} (hN:X.N.Nodup) (hi':X.N[i]? = some x) (hx:Loc X.env.scope x) (hc:X.calm=true) (S:CSc X scope cl ts fr ix) (hi:PI X tg iter wi)
  (hg:∀ C fp s H,PG (cxC X (ts++fr) scope cl C fp s H) tg g) (he:∀ C fp s H,PE (cxC X (ts++fr) scope cl C fp s H) elt te)
  (hs:∀ x,foldedSetIterable iter X.env x=pure x:=by intro _;rfl) (hsw:swapsWith (.ListComp elt [⟨tg,iter,[],0⟩] scope pos) (some (.Name x pos')) spos.line X.env=pure true:=by rfl) (hf:X.fn x=true∨X.env.scope.names.lookup x=some .local:=by first | exact .inl rfl | exact .inr rfl | assumption) :
  PS X (.Assign [.Name x pos'] (.ListComp elt [⟨tg,iter,[],0⟩] scope pos) spos) (aoa (abb wi (ie ts.length ix) g te) (a07 i)):=by
 intro pins s σ H D I h
 rw [exec_Assign_Name_used _ _ _ _ hsw]
 refine wpAny_bind (wpAny_standAt (wpAny_bind ?_))
 refine wpAny_bind (wpAny_mono (a74 hc S hi hg he hs (some (assign (.Name x pos') X.env)) I h (a5k hN hi' hx hf)) (fun _ s' hq=>wpAny_pure (wpAny_pure hq)) fun _ _ e=>e)
end
end L2
namespace L2
open PySem PySem.Spec PyProof.Rows
section
variable {K:Type} [DecidableEq K]
def stepK (l:List K) (v:K):List K:=if v∈l then l else l++[v]
end
end L2
namespace L2
open PySem PySem.Spec
theorem ye:bootBuiltins "len" = some (.builtin "len"):=PySem.boot_len
theorem a0c:bootBuiltins "isinstance" = some (.builtin "isinstance"):=by first | exact PySem.boot_isinstance | exact PyProof.Rows.boot_isinstance
theorem ap8:bootBuiltins "abs" = some (.builtin "abs"):=by first | exact PySem.boot_abs | exact PyProof.Rows.boot_abs
theorem aj2:bootBuiltins "int" = some (.type "int"):=by first | exact PySem.boot_int | exact PyProof.Rows.boot_int
theorem a0d:bootBuiltins "tuple" = some (.type "tuple"):=by first | exact PySem.boot_tuple | exact PyProof.Rows.boot_tuple
structure Dn (P:Program) (w:World) (K:PySem.W.Frag) (mg:Str→Option Value) (base:Heap) (k:Nat) (x:Str) (ps:List Str) (sp:Sp) (f:Addr) (fd:FuncData):Prop where
 ok:FnOk P w K mg base CX0 k f fd ps sp
 m:mg x=some (.ref f)
 kp:PySem.W.keepIn K (.ref f)=true
 b:Binds K fd ps []
theorem al3:sizeLine=16777216:=sizeLine_eq
theorem al4 {n:Nat} (h:n≤16777216):n≤sizeLine:=by rw [sizeLine_eq];exact h
end L2
namespace L2
open PySem PySem.Spec
theorem CSc.noFree {X:Cx} {scope:Scope} {ts:List Str} (kind:scope.kind = .function) (h:∀ y∈scope.names,y.2≠.cell∧y.2≠.free) (names:∀ y∈scope.names,y.2 = .local→scope.names.lookup y.1=some .local)
  (ht:∀ y∈ts,scope.names.lookup y=some .local):CSc X scope [] ts [] []:=by
 have e:(relabel scope X.env).names=scope.names:=by
  show scope.names.map _=_
  refine map_eq_self fun y hy=>?_
  obtain ⟨n,k⟩:=y
  have:(k == NameKind.free)=false:=by simpa using (h _ hy).2
  simp [this]
 refine ⟨closureFor_none fun y hy=>(h y hy).2,kind,fun y hy=>(h y hy).1,names,(fun _ _ z=>nomatch z),fun y z=>?_,fun y hy=>by rw [e];exact ht y hy,rfl,(fun _ _ z=>by simp at z)⟩
 rw [e] at z
 rcases z with z | z
 ·exact absurd rfl (h _ (PySem.mem_of_lookup z)).1
 ·exact absurd rfl (h _ (PySem.mem_of_lookup z)).2
theorem atm (x y:Str):(x++y).cps.toList=x.cps.toList++y.cps.toList:=by
 show (x.cps++y.cps).toList=_
 simp
theorem adp {α:Type} (xs:List α) (k:Nat):a5i xs none (some (k:Int))=xs.take k:=by
 unfold a5i
 rw [HT.a9l,HT.adb,List.drop_zero,Nat.sub_zero]
 by_cases h:k≤xs.length
 ·rw [Nat.min_eq_left h]
 ·rw [Nat.min_eq_right (by omega),List.take_of_length_le (Nat.le_refl _),List.take_of_length_le (by omega)]
theorem adq {α:Type} (xs:List α) (k:Nat):a5i xs (some (k:Int)) none=xs.drop k:=by
 unfold a5i
 rw [HT.a9l,HT.adb]
 by_cases h:k≤xs.length
 ·rw [Nat.min_eq_left h,List.take_of_length_le (by rw [List.length_drop];omega)]
 ·rw [Nat.min_eq_right (by omega),List.drop_eq_nil_of_le (Nat.le_refl _),List.drop_eq_nil_of_le (by omega),List.take_nil]
end L2
namespace L2
open PySem PySem.Spec PyProof.Rows
def adt (J:It) (s0:St) (g:TG) (tc:TT) (te:TE) (Q:VK) (H1:Hp):Prop:=∃ W:Nat→Nat→List V→Hp→Prop,(∃ m,W 0 m [] H1)∧∀ i m ys H,W i m ys H →
 (J.stop i H∧∀ p,H p=none→Q (.ref p) (upd H p (.lst ys))) ∨
 (J.go i H∧ys.length<sizeLine∧∀ x H',J.yld i H x H'→g x s0 H' fun σ2 H2=>Ext s0 σ2∧tc σ2 H2 fun ok H2'=>if ok=true then te σ2 H2' (fun y H3=>∃ m',m'<m∧W (i+1) m' (ys++[y]) H3) else ∃ m',m'<m∧W (i+1) m' ys H2')
def a5l (wi:TI) (s0:St→St) (g:TG) (tc:TT) (te:TE):TE:=fun σ H Q=>wi σ H fun J H1=>adt J (s0 σ) g tc te Q H1
theorem a2x (elt target iter cnd:Expr) (scope:Scope) (pos:Pos) (it acc:Value) (env:Env) :
  compTurn (.ListComp elt [⟨target,iter,[cnd],0⟩] scope pos) 0 it acc env=(standAt iter.pos>>=fun _=>pyNext it>>=fun r=>match r with
   | none=>pure (.done .next)
   | some v=>letOwnedTupleGo target it v>>=fun _=>assign target env v>>=fun _=>isTrue cnd env (eval cnd env)>>=fun ok =>
    (if ok=true then (eval elt env>>=fun x=>call (.builtin "list.append") [acc,x]>>=fun _=>pure ()) else pure ())>>=fun _ =>
     again (.compLoop (.ListComp elt [⟨target,iter,[cnd],0⟩] scope pos) 0 it acc env)):=by
 first
  | rfl
  | (unfold compTurn;simp only [List.getElem?_cons_zero];rfl)
  | (show (standAt iter.pos>>=fun _=>pyNext it>>=fun r=>_)=_
     congr 1;funext _;congr 1;funext r
     cases r with
     | none=>rfl
     | some v =>
      show (letOwnedTupleGo target it v>>=fun _=>assign target env v>>=fun _=>_)=(letOwnedTupleGo target it v>>=fun _=>assign target env v>>=fun _=>_)
      congr 1;funext _;congr 1;funext _
      simp
      congr 1;funext ok
      cases ok with
      | false=>rw [if_neg Bool.false_ne_true,if_neg Bool.false_ne_true,pure_bind]
      | true =>
       rw [if_pos rfl,if_pos rfl,bind_assoc]
       congr 1;funext x
       rw [map_eq_pure_bind,bind_assoc]
       congr 1)
theorem abd {prog:Program} {w:World} {A:Around} {R:Result→Shared→Prop} {s:Shared} {elt target iter cnd:Expr} {scope:Scope} {pos:Pos} {it acc:Value} {env:Env} (J:Nat→Shared→Prop)
  (step:∀ m z,J m z→wpAny (model prog w) A (pyNext it) (fun got z1=>match got with
   | none=>R (.ok .next) z1
   | some v=>wpAny (model prog w) A (letOwnedTupleGo target it v) (fun _ z2=>wpAny (model prog w) A (assign target env v) (fun _ z3=>wpAny (model prog w) A (isTrue cnd env (eval cnd env)) (fun ok z3'=>if ok=true then wpAny (model prog w) A (eval elt env) (fun x z4 =>
     wpAny (model prog w) A (call (.builtin "list.append") [acc,x]) (fun _ z5=>∃ m',m'<m∧J m' z5) (fun _ _=>False) z4)
     (fun _ _=>False) z3' else ∃ m',m'<m∧J m' z3') (fun _ _=>False) z3) (fun _ _=>False) z2) (fun _ _=>False) z1) (fun _ _=>False) z)
  (m:Nat) (j0:J m s):codeAny (model prog w) A (.compLoop (.ListComp elt [⟨target,iter,[cnd],0⟩] scope pos) 0 it acc env) R s:=by
 refine codeAny_loop rfl J (fun m z hj=>(wpAny_noted ?_:wpAny _ _ ((compTurn (.ListComp elt [⟨target,iter,[cnd],0⟩] scope pos) 0 it acc env).onRaise _) _ _ z)) m j0
 rw [a2x]
 refine wpAny_bind (wpAny_standAt (wpAny_bind (wpAny_mono (step m z hj) (fun got z1 h1=>?_) fun _ _ no=>no.elim)))
 match got,h1 with
 | none,h1=>exact wpAny_pure h1
 | some v,h1 =>
  refine wpAny_bind (wpAny_mono h1 (fun _ z2 h2=>wpAny_bind (wpAny_mono h2 (fun _ z3 h3=>wpAny_bind (wpAny_mono h3 (fun ok z3' h3'=>?_) fun _ _ no=>no.elim)) fun _ _ no=>no.elim)) fun _ _ no=>no.elim)
  match ok,h3' with
  | true,h3' =>
   rw [if_pos rfl] at h3'
   refine wpAny_bind (wpAny_bind (wpAny_mono h3' (fun x z4 h4=>?_) fun _ _ no=>no.elim))
   exact wpAny_bind (wpAny_mono h4 (fun _ z5 h5=>wpAny_pure (wpAny_pure ⟨rfl,h5⟩)) fun _ _ no=>no.elim)
  | false,h3' =>
   rw [if_neg Bool.false_ne_true] at h3'
   exact wpAny_bind (wpAny_pure (wpAny_pure ⟨rfl,h3'⟩))
section
variable {X:Cx}
theorem a2y {elt tg iter cnd:Expr} {scope:Scope} {pos ppos:Pos} {cl:List (Str × Addr)} {ts fr:List Str} {ix:List Nat} {wi:TI} {g:TG} {tc:TT} {te:TE} (hc:X.calm=true) (S:CSc X scope cl ts fr ix) (hi:PI X tg iter wi)
  (hg:∀ C fp s H,PG (cxC X (ts++fr) scope cl C fp s H) tg g) (he:∀ C fp s H,PE (cxC X (ts++fr) scope cl C fp s H) elt te) (ht:∀ C fp s H,PT (cxC X (ts++fr) scope cl C fp s H) cnd tc) (hs:∀ x,foldedSetIterable iter X.env x=pure x)
  (use:Option (Value→Sem Unit)) {pins:List (Addr × Obj)} {s:Shared} {σ:St} {H:Hp} {Q:VK} {Qf:Value→Shared→Prop} (I:Inv X pins σ H s) (h:a5l wi (ie ts.length ix) g tc te σ H Q) (fin:a2w X pins σ use Q Qf) :
  wpAny (model X.prog X.w) X.A (comprehension (.ListComp elt [⟨tg,iter,[cnd],0⟩] scope pos) scope X.env ppos (newList []) false (eval iter X.env) use) Qf X.xe s:=by
 refine wpAny_comprehension_free (use:=use) rfl hs S.clos S.kind S.names (thn (hi pins s σ H _ I h) fun v s1 h1=>thn h1 fun itv s2 h2=>?_)
 obtain ⟨it,fp,tn,J,H2,e,I2,T,st2,f2,W,⟨m0,w0⟩,turn⟩:=h2
 subst e
 have hob:∀ b∈fp,b<s2.heap.objs.size:=fun b hb=>let ⟨o,e,_⟩:=T.obj _ _ st2 b hb;Heap.lt_size e
 refine wpAny_newObj_type (wpAny_newFunctionEnv S.nocell (by intro y hy;simp at hy) (fun h4 hns4 hsb4=>?_) S.kind)
 dsimp only at hns4 hsb4 ⊢
 generalize hH2:s2.heap.push { cls:=.type "list",dict:=none,data:=.seq ([]:List Value).toArray }=G at hns4 hsb4 ⊢
 have hCs:G.objs.size=s2.heap.objs.size+1:=by rw [← hH2,Heap.size_push]
 have hCle:s2.heap.objs.size≤G.objs.size:=by omega
 have hne:G.objs.size≠s2.heap.objs.size:=by omega
 have old:∀ b o,s2.heap.get? b=some o→h4.get? b=some o:=fun b o e=>by
  have hlt:=Heap.lt_size e
  exact hsb4.extBut b o (Nat.ne_of_lt (Nat.lt_of_lt_of_le hlt hCle)) (Heap.get?_push_of_some _ (hH2 ▸ Heap.get?_push_of_some _ e))
 have hacc:h4.get? s2.heap.objs.size=some { cls:=.type "list",data:=.seq ([]:List Value).toArray 0 } :=
  hsb4.extBut _ _ (Ne.symm hne) (Heap.get?_push_of_some _ (hH2 ▸ Heap.get?_push_size _ rfl))
 have K0:Inv (cxC X (ts++fr) scope cl G.objs.size fp s2 H2) [] (ie ts.length ix σ) H2 { s2 with heap:=h4,toks:=s2.toks+([]:List (Str × Value)).length } :=
  a8l S I2 f2 hob hCle old hns4 rfl rfl
 have st4:tn 0 h4:=T.keep _ _ _ st2 fun b _ o e=>old b o e
 have accF:s2.heap.objs.size ∉ fp:=fun z=>Nat.lt_irrefl _ (hob _ z)
 have stat:∀ {H':Hp},(∀ b∈fp,H' b=none)→∀ b∈fp,FpOk (cxC X (ts++fr) scope cl G.objs.size fp s2 H2) [] H' b:=fun hn b hb =>
  ⟨hn b hb,fun z=>by have h1:=hob b hb;have z':b=G.objs.size:=z;exact Nat.ne_of_lt (Nat.lt_of_lt_of_le h1 hCle) z',fun z=>(a2v S I2 f2 hob hCle).exfs b hb z, .inl hb,fun x c e=>(f2 b hb).2.2.2.2.1 x c (S.sub x c e),fun p hp=>absurd (show p∈([]:List (Addr × Obj)) from hp) (by simp)⟩
 have statA:∀ {H':Hp},H' s2.heap.objs.size=none→FpOk (cxC X (ts++fr) scope cl G.objs.size fp s2 H2) [] H' s2.heap.objs.size:=fun hn =>
  ⟨hn,fun z=>hne (show G.objs.size=s2.heap.objs.size from z.symm),fun z=>by
   obtain ⟨_,o,ho,_⟩:=(a2v S I2 f2 hob hCle).funs.mem z
   exact Nat.lt_irrefl _ (Heap.lt_size ho), .inr (Nat.le_refl _),fun x c e z=>by
   obtain ⟨v,o,ho,_⟩:=I2.cell x c (S.sub x c e)
   rw [z] at ho
   exact Nat.lt_irrefl _ (Heap.lt_size ho),fun p hp=>absurd (show p∈([]:List (Addr × Obj)) from hp) (by simp)⟩
 have loop:∀ s4:Shared,s4={ s2 with heap:=h4,toks:=s2.toks+([]:List (Str × Value)).length } →
   codeAny (model X.prog X.w) X.A (.compLoop (.ListComp elt [⟨tg,iter,[cnd],0⟩] scope pos) 0 (.ref it) (.ref s2.heap.objs.size) (compEnvC scope cl G.objs.size X.env))
    (compPost (model X.prog X.w) X.A X.xe use Qf (.ref s2.heap.objs.size) G.objs.size) s4:=by
  rintro s4 rfl
  refine abd (fun n s'=>∃ i σ' H' ys its k,Inv (cxC X (ts++fr) scope cl G.objs.size fp s2 H2) [] σ' H' s'∧Ext (ie ts.length ix σ) σ'∧tn i s'.heap∧(∀ b∈fp,H' b=none)∧H' s2.heap.objs.size=none ∧
   s'.heap.get? s2.heap.objs.size=some { cls:=.type "list",data:=.seq its.toArray k }∧Vals ys its∧ys.length≤sizeLine∧W i n ys H') ?_ m0
   ⟨0,_,H2,[],[],0,K0,⟨rfl,fun _ _ z=>z⟩,st4,fun b hb=>(f2 b hb).1,I2.hok.fresh (Nat.le_refl _),hacc, .nil,Nat.zero_le _,w0⟩
  rintro n s5 ⟨i,σ5,H5,ys,its,k5,I5,x5,st5,fr5,fa5,ac5,rv5,hz5,w5⟩
  have I5':Inv (cxC X (ts++fr) scope cl G.objs.size fp s2 H2) [] (ie ts.length ix σ) H5 s5:=I5.weak x5.1.symm x5.2
  rcases turn i n ys H5 w5 with ⟨stop,qn⟩ | ⟨go,hlt,step⟩
  ·refine thn (T.done (cxC X (ts++fr) scope cl G.objs.size fp s2 H2) rfl rfl rfl hc i [(s2.heap.objs.size,{ cls:=.type "list",data:=.seq its.toArray k5 })] s5 _ H5 _ (I5'.pins_of fun p hp=>?_) (fun b hb=>?_) st5 stop) fun r s6 ⟨hr,I6⟩=>?_
   ·have e:p=(s2.heap.objs.size,{ cls:=.type "list",data:=.seq its.toArray k5 }):=by simpa using hp
    subst e
    obtain ⟨a0,a1,a2,_⟩:=statA fa5
    exact ⟨ac5,a0,a1,a2,fun v z=>by cases z⟩
   ·obtain ⟨b0,b1,b2,b3,b4,b5⟩:=stat fr5 b hb
    refine ⟨b0,b1,b2,b3,b4,fun p hp=>?_⟩
    have e:p=(s2.heap.objs.size,{ cls:=.type "list",data:=.seq its.toArray k5 }):=by
     have hp':p∈[(s2.heap.objs.size,_)]:=hp
     simpa using hp'
    subst e
    exact fun z=>accF (by have z':s2.heap.objs.size=b:=z;rw [z'];exact hb)
   ·subst hr
    have e6:=(I6.pin (s2.heap.objs.size,{ cls:=.type "list",data:=.seq its.toArray k5 }) (by show _∈[]++[_];simp)).1
    obtain ⟨m6,hn6,_⟩:=I6.loc
    exact fin _ _ s6 _ m6 hn6 (I2.fpOk hCle (by rw [d9 hne];exact I6.free)) (fun h' sb=>comp_back I2 f2 hCle (Nat.le_refl _) hne I6.unpinned' fa5 e6 rv5 hz5 sb) (qn _ fa5)
  ·refine thn (T.item (cxC X (ts++fr) scope cl G.objs.size fp s2 H2) rfl rfl rfl hc i [(s2.heap.objs.size,{ cls:=.type "list",data:=.seq its.toArray k5 })] s5 _ H5 _ (I5'.pins_of fun p hp=>?_) (fun b hb=>?_) st5 go) fun r s6 ⟨u,hr,h6⟩=>?_
   ·have e:p=(s2.heap.objs.size,{ cls:=.type "list",data:=.seq its.toArray k5 }):=by simpa using hp
    subst e
    obtain ⟨a0,a1,a2,_⟩:=statA fa5
    exact ⟨ac5,a0,a1,a2,fun v z=>by cases z⟩
   ·obtain ⟨b0,b1,b2,b3,b4,b5⟩:=stat fr5 b hb
    refine ⟨b0,b1,b2,b3,b4,fun p hp=>?_⟩
    have e:p=(s2.heap.objs.size,{ cls:=.type "list",data:=.seq its.toArray k5 }):=by
     have hp':p∈[(s2.heap.objs.size,_)]:=hp
     simpa using hp'
    subst e
    exact fun z=>accF (by have z':s2.heap.objs.size=b:=z;rw [z'];exact hb)
   ·subst hr
    refine thn h6 fun _ s7 ⟨x,H7,I7,r7,y7,st7,fr7⟩=>?_
    have fa7:H7 s2.heap.objs.size=none:=(I7.pin (s2.heap.objs.size,{ cls:=.type "list",data:=.seq its.toArray k5 }) (by show _∈[]++[_];simp)).2.1
    have ac7:=(I7.pin (s2.heap.objs.size,{ cls:=.type "list",data:=.seq its.toArray k5 }) (by show _∈[]++[_];simp)).1
    have I7':Inv (cxC X (ts++fr) scope cl G.objs.size fp s2 H2) ([]++o6 (s2.heap.objs.size::fp) s7.heap) (ie ts.length ix σ) H7 s7:=by
     refine Inv.pinned I7.unpinned' (fun b hb=>?_) fun b hb=>?_
     ·rcases List.mem_cons.mp hb with e | e
      ·subst e;exact statA fa7
      ·exact stat fr7 b e
     ·rcases List.mem_cons.mp hb with e | e
      ·subst e;exact ⟨_,ac7,fun v z=>by cases z⟩
      ·exact T.obj _ _ st7 b e
    refine thn (hg G.objs.size fp s2 H2 _ s7 _ H7 x u _ I7' r7 (step x H7 y7)) fun _ s8 ⟨σ8,H8,I8,x8,q8⟩=>?_
    refine thn (ht G.objs.size fp s2 H2 _ s8 _ H8 _ I8 q8) fun ok s8' ⟨H8',I8',q8'⟩=>?_
    cases ok with
    | false =>
     rw [if_neg Bool.false_ne_true] at q8' ⊢
     obtain ⟨m',hm',w9⟩:=q8'
     obtain ⟨ac9,fa9,_⟩:=I8'.pin (s2.heap.objs.size,{ cls:=.type "list",data:=.seq its.toArray k5 }) (by show _∈[]++([]++_);simp;exact gj List.mem_cons_self ac7)
     have keep9:∀ b∈fp,∀ o,s7.heap.get? b=some o→s8'.heap.get? b=some o∧H8' b=none:=fun b hb o e=>by
      obtain ⟨z1,z2,_⟩:=I8'.pin (b,o) (by show _∈[]++([]++_);simp;exact gj (List.mem_cons_of_mem _ hb) e)
      exact ⟨z1,z2⟩
     refine ⟨m',hm',i+1,σ8,H8',ys,its,k5,I8'.unpinned',x8,?_,?_,fa9,ac9,rv5,hz5,w9⟩
     ·exact T.keep _ _ _ st7 fun b hb o e=>(keep9 b hb o e).1
     ·intro b hb
      obtain ⟨o,e,_⟩:=T.obj _ _ st7 b hb
      exact (keep9 b hb o e).2
    | true =>
     rw [if_pos rfl] at q8' ⊢
     refine thn (he G.objs.size fp s2 H2 _ s8' _ H8' _ I8' q8') fun yv s9 ⟨y,H9,I9,r9,m',hm',w9⟩=>?_
     obtain ⟨ac9,fa9,_⟩:=I9.pin (s2.heap.objs.size,{ cls:=.type "list",data:=.seq its.toArray k5 }) (by show _∈[]++([]++_);simp;exact gj List.mem_cons_self ac7)
     have keep9:∀ b∈fp,∀ o,s7.heap.get? b=some o→s9.heap.get? b=some o∧H9 b=none:=fun b hb o e=>by
      obtain ⟨z1,z2,_⟩:=I9.pin (b,o) (by show _∈[]++([]++_);simp;exact gj (List.mem_cons_of_mem _ hb) e)
      exact ⟨z1,z2⟩
     have hl:=rv5.length
     refine call_meets F.slot_list_append ⟨_,ac9,rfl⟩ F.entry_list_append (F.args_list_append_2 _ _) (PySem.list_append s2.heap.objs.size its.toArray k5 yv (by rw [List.size_toArray];omega)) ⟨ac9,?_⟩
     have q:=PySem.IsL.update ac9 (fun a=>a.push yv)
     have qo:∀ b o,b≠s2.heap.objs.size→s9.heap.get? b=some o→(s9.heap.update s2.heap.objs.size (Obj.mapSeq (fun a=>a.push yv))).get? b=some o:=fun b o hb e=>(Heap.get?_update_other s9.heap _ (Ne.symm hb)).trans e
     have q':∃ k,(s9.heap.update s2.heap.objs.size (Obj.mapSeq (fun a=>a.push yv))).get? s2.heap.objs.size=some { cls:=.type "list",data:=.seq (its++[yv]).toArray k }:=⟨_,by rw [q];simp;rfl⟩
     obtain ⟨k9,q9⟩:=q'
     obtain ⟨a0,a1,a2,a3,a4,a5⟩:=statA (show H9 s2.heap.objs.size=none from fa9)
     refine ⟨m',hm',i+1,σ8,H9,ys++[y],its++[yv],k9,(I9.unpinned').turned qo a0 a1 a3 a4 a5,x8,?_,?_,fa9,q9,rv5.append (.cons r9 .nil),?_,w9⟩
     ·refine T.keep _ _ _ st7 fun b hb o e=>qo b o (fun z=>accF (z ▸ hb)) (keep9 b hb o e).1
     ·intro b hb
      obtain ⟨o,e,_⟩:=T.obj _ _ st7 b hb
      exact (keep9 b hb o e).2
     ·rw [List.length_append,List.length_singleton];omega
 exact codeAny_compStart_list (loop _ rfl) (T.self _ 0 _ _ _ st4 (loop _ rfl))
theorem abe {elt tg iter cnd:Expr} {scope:Scope} {pos:Pos} {cl:List (Str × Addr)} {ts fr:List Str} {ix:List Nat} {wi:TI} {g:TG} {tc:TT} {te:TE} (hc:X.calm=true) (S:CSc X scope cl ts fr ix) (hi:PI X tg iter wi)
  (hg:∀ C fp s H,PG (cxC X (ts++fr) scope cl C fp s H) tg g) (he:∀ C fp s H,PE (cxC X (ts++fr) scope cl C fp s H) elt te) (ht:∀ C fp s H,PT (cxC X (ts++fr) scope cl C fp s H) cnd tc)
  (hs:∀ x,foldedSetIterable iter X.env x=pure x:=by intro _;rfl) :
  PE X (.ListComp elt [⟨tg,iter,[cnd],0⟩] scope pos) (a5l wi (ie ts.length ix) g tc te):=by
 intro pins s σ H Q I h
 rw [eval_ListComp]
 exact a2y hc S hi hg he ht hs none I h a5j
theorem abf {elt tg iter cnd:Expr} {scope:Scope} {pos:Pos} {cl:List (Str × Addr)} {ts fr:List Str} {ix:List Nat} {wi:TI} {g:TG} {tc:TT} {te:TE} {i:Nat} {x:Str} {pos' spos:Pos} (hN:X.N.Nodup) (hi':X.N[i]? = some x) (hx:Loc X.env.scope x) (hc:X.calm=true) (S:CSc X scope cl ts fr ix) (hi:PI X tg iter wi)
  (hg:∀ C fp s H,PG (cxC X (ts++fr) scope cl C fp s H) tg g) (he:∀ C fp s H,PE (cxC X (ts++fr) scope cl C fp s H) elt te) (ht:∀ C fp s H,PT (cxC X (ts++fr) scope cl C fp s H) cnd tc)
  (hs:∀ x,foldedSetIterable iter X.env x=pure x:=by intro _;rfl) (hsw:swapsWith (.ListComp elt [⟨tg,iter,[cnd],0⟩] scope pos) (some (.Name x pos')) spos.line X.env=pure true:=by rfl) (hf:X.fn x=true∨X.env.scope.names.lookup x=some .local:=by first | exact .inl rfl | exact .inr rfl | assumption) :
  PS X (.Assign [.Name x pos'] (.ListComp elt [⟨tg,iter,[cnd],0⟩] scope pos) spos) (aoa (a5l wi (ie ts.length ix) g tc te) (a07 i)):=by
 intro pins s σ H D I h
 rw [exec_Assign_Name_used _ _ _ _ hsw]
 refine wpAny_bind (wpAny_standAt (wpAny_bind ?_))
 refine wpAny_bind (wpAny_mono (a2y hc S hi hg he ht hs (some (assign (.Name x pos') X.env)) I h (a5k hN hi' hx hf)) (fun _ s' hq=>wpAny_pure (wpAny_pure hq)) fun _ _ e=>e)
end
end L2
namespace L2
open PySem PySem.Spec PyProof.Rows
section
variable {X:Cx}
theorem al5:OpR X (compareOp .In) (fun x y H Q=>∃ c T,x = .str ⟨#[c]⟩∧y = .str T∧Q (.bl (decide (c∈T.cps.toList))) H):=by
 intro pins s σ H x y v u Q I rx ry h
 obtain ⟨c,T,rfl,rfl,q⟩:=h
 exact ad4 pins s σ H _ _ v u Q I rx ry ⟨_,_,rfl,rfl,by rw [StrLaws.found_one];exact q⟩
theorem a4m:OpR X (compareOp .NotIn) (fun x y H Q=>∃ c T,x = .str ⟨#[c]⟩∧y = .str T∧Q (.bl (!decide (c∈T.cps.toList))) H):=by
 intro pins s σ H x y v u Q I rx ry h
 obtain ⟨c,T,rfl,rfl,q⟩:=h
 exact a6u pins s σ H _ _ v u Q I rx ry ⟨_,_,rfl,rfl,by rw [StrLaws.found_one];exact q⟩
end
theorem CSc.of {X:Cx} {scope:Scope} {cl:List (Str × Addr)} {ts fr:List Str} {ix:List Nat} (clos:closureFor scope X.env=pure cl) (kind:scope.kind = .function)
  (nocell:(scope.names.all fun p=>p.2 != .cell)=true) (names:(scope.names.all fun p=>p.2 != .local || scope.names.lookup p.1 == some .local)=true) (sub:∀ p∈cl,X.env.cells.lookup p.1=some p.2)
  (has:((relabel scope X.env).names.all fun p => !(p.2 == .cell || p.2 == .free) || (cl.lookup p.1).isSome)=true) (nofn:(ts.all fun y=>(relabel scope X.env).names.lookup y == some .local)=true)
  (len:ix.length=fr.length) (vis:((fr.zip ix).all fun p=>X.N[p.2]? == some p.1 && (X.env.kindOf p.1 == some .cell || X.env.kindOf p.1 == some .free) && ((relabel scope X.env).names.lookup p.1 == some .cell || (relabel scope X.env).names.lookup p.1 == some .free))=true) :
  CSc X scope cl ts fr ix:=by
 refine ⟨clos,kind,fun y hy=>?_,fun y hy e=>?_,fun y c e=>sub _ (PySem.mem_of_lookup e),fun y z=>?_,fun y hy=>?_,len,fun j y e=>?_⟩
 ·have:=List.all_eq_true.mp nocell y hy
  simpa using this
 ·have:=List.all_eq_true.mp names y hy
  rw [e] at this
  simpa using this
 ·have key:∀ k,(relabel scope X.env).names.lookup y=some k→(k == .cell || k == .free)=true→∃ c,cl.lookup y=some c:=fun k e hk=>by
   have:=List.all_eq_true.mp has _ (PySem.mem_of_lookup e)
   rw [hk] at this
   exact Option.isSome_iff_exists.mp (by simpa using this)
  rcases z with z | z
  ·exact key _ z rfl
  ·exact key _ z rfl
 ·have:=List.all_eq_true.mp nofn y hy
  simpa using this
 ·obtain ⟨hj,_⟩:=List.getElem?_eq_some_iff.mp e
  have hj2:j<ix.length:=by omega
  have hm:(y,ix[j])∈fr.zip ix:=by
   rw [List.mem_iff_getElem?]
   exact ⟨j,by rw [List.getElem?_zip_eq_some];exact ⟨e,List.getElem?_eq_getElem hj2⟩⟩
  have:=List.all_eq_true.mp vis _ hm
  simp only [Bool.and_eq_true,Bool.or_eq_true,beq_iff_eq] at this
  exact ⟨ix[j],List.getElem?_eq_getElem hj2,this.1.1,this.1.2,this.2⟩
end L2
namespace HT
open PySem PySem.Spec PyProof.Rows
end HT
namespace L2
open PySem PySem.Spec PyProof.Rows
end L2
namespace L2
open PySem PySem.Spec PyProof.Rows
end L2
namespace L2
open PySem PySem.Spec PyProof.Rows
section
variable {X:Cx}
theorem abg (hc:X.calm=true):CallR X (.builtin "sum") (fun xs H Q=>∃ (p:Addr) (ns:List Int),xs=[.ref p]∧SqL X.K H p (ns.map V.int)∧Q (.int ns.sum) H):=by
 intro pins s σ H xs us Q I r h
 obtain ⟨p,ns,rfl,hq,q⟩:=h
 obtain ⟨u,rfl,rx⟩:=vals1 r
 cases rx
 obtain ⟨its,r',pl,hz⟩:=I.list hq
 have hInts:IntsAre its ns:=intsAre_of r'
 obtain ⟨prs,ep⟩:=hInts.allInts.items
 refine sum_intListG (xs:=prs) (I.ok.hd hc) (ep ▸ pl.isList) fun h' tk t' hk=>⟨.int ns.sum,H,I.kept hk,⟨t',?_⟩,q⟩
 have nums:prs.toList.map (·.1)=ns:=by
  rw [← nums_intItems,← ep]
  exact hInts.numsOf
 have tot:preSum (numAt prs) prs.size=ns.sum:=by
  rw [preSum_eq,← nums]
  congr 1
  exact List.take_of_length_le (by simp)
 rw [tot]
end
end L2
namespace SHP
open PySem L2
end SHP
namespace L2
open PySem PySem.Spec PyProof.Rows
def mxI:List Int→Int
 | []=>0
 | [a]=>a
 | a::b::r=>if mxI (b::r)≤a then a else mxI (b::r)
theorem aj3:∀ {l:List Int},l≠[]→mxI l∈l∧∀ x∈l,x≤mxI l
 | [],h=>absurd rfl h
 | [a],_=>⟨List.mem_singleton.mpr rfl,fun x hx=>by rw [List.mem_singleton.mp hx];exact Int.le_refl a⟩
 | a::b::r,_=>by
  obtain ⟨i,m⟩:=aj3 (l:=b::r) (by simp)
  unfold mxI
  split
  ·rename_i h
   refine ⟨List.mem_cons_self,fun x hx=>?_⟩
   rcases List.mem_cons.mp hx with rfl | hx
   ·exact Int.le_refl _
   ·exact Int.le_trans (m x hx) h
  ·rename_i h
   refine ⟨List.mem_cons_of_mem _ i,fun x hx=>?_⟩
   rcases List.mem_cons.mp hx with rfl | hx
   ·omega
   ·exact m x hx
theorem aj4 {l:List Int} {k:Int} (h1:k∈l) (h2:∀ x∈l,x≤k):k=mxI l:=by
 obtain ⟨a,b⟩:=aj3 (l:=l) (by intro z;subst z;cases h1)
 have:=b k h1
 have:=h2 _ a
 omega
section
variable {X:Cx}
theorem abh (hc:X.calm=true):CallR X (.builtin "max") (fun xs H Q=>∃ (p:Addr) (ns:List Int),xs=[.ref p]∧SqL X.K H p (ns.map V.int)∧ns≠[]∧Q (.int (mxI ns)) H):=by
 intro pins s σ H xs us Q I r h
 obtain ⟨p,ns,rfl,hq,hn,q⟩:=h
 obtain ⟨u,rfl,rx⟩:=vals1 r
 cases rx
 obtain ⟨its,r',pl,hz⟩:=I.list hq
 have hInts:IntsAre its ns:=intsAre_of r'
 obtain ⟨prs,ep⟩:=hInts.allInts.items
 have nums:prs.toList.map (·.1)=ns:=by
  rw [← nums_intItems,← ep]
  exact hInts.numsOf
 have sz:prs.size=ns.length:=by rw [← nums,List.length_map,Array.length_toList]
 have pos:0<ns.length:=List.length_pos_iff.mpr hn
 have at':∀ j,j<ns.length→ns[j]? = some (numAt prs j):=fun j hj=>by
  rw [← nums,List.getElem?_map,Array.getElem?_toList]
  unfold numAt
  rw [Array.getElem?_eq_getElem (by omega)]
  rfl
 refine max_intList (xs:=prs) (I.ok.hd hc) (ep ▸ pl.isList) (by omega) fun v h' tk hv hk=>?_
 obtain ⟨t,rfl⟩:=intItems_at hv
 obtain ⟨b1,b2⟩:=argBest_gt (numAt prs) (prs.size - 1)
 generalize argBest (fun i j=>decide (numAt prs i > numAt prs j)) (prs.size - 1)=b at b1 b2
 have e:numAt prs b=mxI ns:=aj4 (List.mem_of_getElem? (at' b (by omega))) fun x hx=>by
  obtain ⟨j,hj,rfl⟩:=List.getElem_of_mem hx
  have:=at' j hj
  rw [List.getElem?_eq_getElem hj] at this
  rw [Option.some.inj this]
  exact b2 j (by omega)
 exact ⟨.int (mxI ns),H,I.kept hk,⟨t,by rw [e]⟩,q⟩
end
end L2
namespace L2
open PySem PySem.Spec PyProof.Rows
end L2
namespace SHP
open PySem L2
end SHP
namespace MI
open PySem L2
inductive D where
 | non | bl (b:Bool) | int (i:Int) | str (x:Str) | ty (n:String) | tup (xs:List D) | rol (xs:List D) | ref (i:Nat) | scr (xs:List D) | rod (ks:List Key) (xs:List D) | rdT (ks:List (List Key)) (xs:List D) | exc (c:Str)
inductive O where
 | lst (xs:List D) | dK (kvs:List (Key × D)) | dT (kvs:List (List Key × D))
abbrev Hd:=List O
abbrev Sd:=List (Option D)
inductive R (α:Type) where
 | ok (a:α) (h:Hd) | ex (c:Str) (h:Hd) | no
def R.bind {α β:Type}:R α→(α→Hd→R β)→R β
 | .ok a h,k=>k a h
 | .ex c h,_=>.ex c h
 | .no,_=>.no
inductive Fl where
 | nx (σ:Sd) (h:Hd) | rt (d:D) (h:Hd) | bk (σ:Sd) (h:Hd) | ct (σ:Sd) (h:Hd) | ex (c:Str) (h:Hd) | no
def R.fl {α:Type}:R α→(α→Hd→Fl)→Fl
 | .ok a h,k=>k a h
 | .ex c h,_=>.ex c h
 | .no,_=>.no
abbrev SE:=Sd→Hd→R D
abbrev ST:=Sd→Hd→R Bool
abbrev SA:=Sd→Hd→R (List D)
abbrev SS:=Sd→Hd→Fl
def SqF (K:PySem.W.Frag) (H:Hp) (a:Addr) (vs:List V):Prop:=(∃ o,H a=some (.frz o (.lst vs)))∨SqL K (fun _=>none) a vs
theorem SqF.l {K:PySem.W.Frag} {H:Hp} {a:Addr} {vs:List V} (h:SqF K H a vs):SqL K H a vs:=by
 rcases h with ⟨o,h⟩ | h
 ·exact .inl (.inr ⟨o,h⟩)
 ·rcases h with (h | ⟨o,h⟩) | h
  ·cases h
  ·cases h
  ·exact .inr h
def SqZ (H:Hp) (a:Addr) (vs:List V):Prop:=∃ o,H a=some (.frz o (.lst vs))
theorem SqZ.l {K:PySem.W.Frag} {H:Hp} {a:Addr} {vs:List V} (h:SqZ H a vs):SqL K H a vs:=let ⟨o,e⟩:=h; .inl (.inr ⟨o,e⟩)
def exO (a:Addr):HO:=.ext fun h=>∃ o,h.get? a=some o
mutual
inductive Rep (K:PySem.W.Frag) (ι:List Addr) (H:Hp):V→D→Prop
 | non:Rep K ι H .non .non
 | bl (b:Bool):Rep K ι H (.bl b) (.bl b)
 | int (i:Int):Rep K ι H (.int i) (.int i)
 | str (x:Str):Rep K ι H (.str x) (.str x)
 | ty (n:String):Rep K ι H (.ty n) (.ty n)
 | tup {a:Addr} {vs:List V} {xs:List D} (h:H a=some (.tup vs)) (r:Reps K ι H vs xs):Rep K ι H (.ref a) (.tup xs)
 | rol {a:Addr} {vs:List V} {xs:List D} (h:SqZ H a vs) (r:Reps K ι H vs xs):Rep K ι H (.ref a) (.rol xs)
 | scr {a:Addr} {vs:List V} {xs:List D} (h:SqF K H a vs) (r:Reps K ι H vs xs):Rep K ι H (.ref a) (.scr xs)
 | ref {a:Addr} {i:Nat} (h:ι[i]? = some a):Rep K ι H (.ref a) (.ref i)
 | rod {a:Addr} {o:Obj} {us:List (Key × V)} {ks:List Key} {xs:List D} (h:H a=some (.frz o (.dK us))) (e:us.map (·.1)=ks) (r:Reps K ι H (us.map (·.2)) xs):Rep K ι H (.ref a) (.rod ks xs)
 | rdT {a:Addr} {o:Obj} {us:List (List Key × V)} {ks:List (List Key)} {xs:List D} (h:H a=some (.frz o (.dT us))) (e:us.map (·.1)=ks) (r:Reps K ι H (us.map (·.2)) xs):Rep K ι H (.ref a) (.rdT ks xs)
 | exc {a C:Addr} {o:Obj} {c:Str} (h:H a=some (.frz o (exO a))) (hc:o.cls = .ref C) (hn:PySem.W.nsIn K mainGlobals c=some (some (.ref C))):Rep K ι H (.ref a) (.exc c)
inductive Reps (K:PySem.W.Frag) (ι:List Addr) (H:Hp):List V→List D→Prop
 | nil:Reps K ι H [] []
 | cons {v:V} {d:D} {vs:List V} {ds:List D} (r:Rep K ι H v d) (rs:Reps K ι H vs ds):Reps K ι H (v::vs) (d::ds)
end
structure Gw (ι:List Addr) (H:Hp) (ι':List Addr) (H':Hp):Prop where
 pre:∃ m,ι'=ι++m
 tup:∀ a vs,H a=some (.tup vs)→H' a=some (.tup vs)
 frz:∀ a o u,H a=some (.frz o u)→H' a=some (.frz o u)
structure Gr (ι:List Addr) (H:Hp) (ι':List Addr) (H':Hp):Prop where
 pre:∃ m,ι'=ι++m∧∀ a∈m,H a=none
 tup:∀ a vs,H a=some (.tup vs)→H' a=some (.tup vs)
 frz:∀ a o u,H a=some (.frz o u)→H' a=some (.frz o u)
 oth:∀ a u,H a=some u→a ∉ ι→H' a=some u
 kp:∀ a u,H a=some u→∃ u',H' a=some u'
theorem Gr.w {ι ι':List Addr} {H H':Hp} (g:Gr ι H ι' H'):Gw ι H ι' H':=⟨let ⟨m,e,_⟩:=g.pre; ⟨m,e⟩,g.tup,g.frz⟩
theorem Gr.refl (ι:List Addr) (H:Hp):Gr ι H ι H:=⟨⟨[],by simp,by simp⟩,fun _ _ h=>h,fun _ _ _ h=>h,fun _ _ h _=>h,fun _ u h=>⟨u,h⟩⟩
theorem Gr.trans {ι ι1 ι2:List Addr} {H H1 H2:Hp} (a:Gr ι H ι1 H1) (b:Gr ι1 H1 ι2 H2):Gr ι H ι2 H2:=by
 obtain ⟨m,rfl,hm⟩:=a.pre
 obtain ⟨n,rfl,hn⟩:=b.pre
 refine ⟨⟨m++n,by simp,fun x hx=>?_⟩,fun x vs h=>b.tup x vs (a.tup x vs h),fun x o u h=>b.frz x o u (a.frz x o u h),fun x u h hx=>?_,fun x u h=>?_⟩
 ·rcases List.mem_append.mp hx with hx | hx
  ·exact hm x hx
  ·cases e:H x with
   | none=>rfl
   | some u =>
    obtain ⟨u',e'⟩:=a.kp x u e
    rw [hn x hx] at e';cases e'
 ·refine b.oth x u (a.oth x u h hx) fun z=>?_
  rcases List.mem_append.mp z with z | z
  ·exact hx z
  ·rw [hm x z] at h;cases h
 ·obtain ⟨u',e⟩:=a.kp x u h
  exact b.kp x u' e
theorem Gw.at {ι ι':List Addr} {H H':Hp} (g:Gw ι H ι' H') {i:Nat} {a:Addr} (h:ι[i]? = some a):ι'[i]? = some a:=by
 obtain ⟨m,rfl⟩:=g.pre
 rw [List.getElem?_append_left (List.getElem?_eq_some_iff.mp h).1]
 exact h
theorem Gr.at {ι ι':List Addr} {H H':Hp} (g:Gr ι H ι' H') {i:Nat} {a:Addr} (h:ι[i]? = some a):ι'[i]? = some a:=g.w.at h
theorem SqF.monoW {K:PySem.W.Frag} {ι ι':List Addr} {H H':Hp} (g:Gw ι H ι' H') {a:Addr} {vs:List V} (h:SqF K H a vs):SqF K H' a vs:=by
 rcases h with ⟨o,h⟩ | h
 ·exact .inl ⟨o,g.frz _ _ _ h⟩
 ·exact .inr h
theorem SqZ.monoW {ι ι':List Addr} {H H':Hp} (g:Gw ι H ι' H') {a:Addr} {vs:List V} (h:SqZ H a vs):SqZ H' a vs:=let ⟨o,e⟩:=h; ⟨o,g.frz _ _ _ e⟩
theorem SqZ.mono {ι ι':List Addr} {H H':Hp} (g:Gr ι H ι' H') {a:Addr} {vs:List V} (h:SqZ H a vs):SqZ H' a vs:=h.monoW g.w
mutual
theorem Rep.monoW {K:PySem.W.Frag} {ι ι':List Addr} {H H':Hp} (g:Gw ι H ι' H'):∀ {v:V} {d:D},Rep K ι H v d→Rep K ι' H' v d
 | _,_, .non=>.non
 | _,_, .bl b=>.bl b
 | _,_, .int i=>.int i
 | _,_, .str x=>.str x
 | _,_, .ty n=>.ty n
 | _,_, .tup h r=>.tup (g.tup _ _ h) (Reps.monoW g r)
 | _,_, .rol h r=>.rol (h.monoW g) (Reps.monoW g r)
 | _,_, .scr h r=>.scr (h.monoW g) (Reps.monoW g r)
 | _,_, .ref h=>.ref (g.at h)
 | _,_, .rod h e r=>.rod (g.frz _ _ _ h) e (Reps.monoW g r)
 | _,_, .rdT h e r=>.rdT (g.frz _ _ _ h) e (Reps.monoW g r)
 | _,_, .exc h hc hn=>.exc (g.frz _ _ _ h) hc hn
theorem Reps.monoW {K:PySem.W.Frag} {ι ι':List Addr} {H H':Hp} (g:Gw ι H ι' H'):∀ {vs:List V} {ds:List D},Reps K ι H vs ds→Reps K ι' H' vs ds
 | _,_, .nil=>.nil
 | _,_, .cons r rs=>.cons (Rep.monoW g r) (Reps.monoW g rs)
end
theorem Rep.mono {K:PySem.W.Frag} {ι ι':List Addr} {H H':Hp} (g:Gr ι H ι' H') {v:V} {d:D} (r:Rep K ι H v d):Rep K ι' H' v d:=r.monoW g.w
theorem Reps.mono {K:PySem.W.Frag} {ι ι':List Addr} {H H':Hp} (g:Gr ι H ι' H') {vs:List V} {ds:List D} (r:Reps K ι H vs ds):Reps K ι' H' vs ds:=r.monoW g.w
section
variable {K:PySem.W.Frag} {ι:List Addr} {H:Hp}
theorem Reps.len {vs:List V} {ds:List D}:Reps K ι H vs ds→vs.length=ds.length
 | .nil=>rfl
 | .cons _ rs=>by rw [List.length_cons,List.length_cons,rs.len]
theorem Reps.get:∀ {vs:List V} {ds:List D} {i:Nat} {d:D},Reps K ι H vs ds→ds[i]? = some d→∃ v,vs[i]? = some v∧Rep K ι H v d
 | _,_,_,_, .nil,e=>by simp at e
 | _,_,0,_, .cons r _,e=>by simp at e;subst e;exact ⟨_,rfl,r⟩
 | _,_,i+1,d, .cons _ rs,e=>by
  obtain ⟨u,h1,h2⟩:=Reps.get (i:=i) (d:=d) rs (by simpa using e)
  exact ⟨u,by simpa using h1,h2⟩
theorem Reps.app:∀ {vs us:List V} {ds es:List D},Reps K ι H vs ds→Reps K ι H us es→Reps K ι H (vs++us) (ds++es)
 | _,_,_,_, .nil,s=>s
 | _,_,_,_, .cons r rs,s=>.cons r (Reps.app rs s)
theorem Reps.set {v:V} {d:D} (q:Rep K ι H v d):∀ {vs:List V} {ds:List D} (i:Nat),Reps K ι H vs ds→Reps K ι H (vs.set i v) (ds.set i d)
 | _,_,_, .nil=>.nil
 | _,_,0, .cons _ rs=>.cons q rs
 | _,_,i+1, .cons r rs=>.cons r (Reps.set q i rs)
theorem Reps.take:∀ {vs:List V} {ds:List D} (n:Nat),Reps K ι H vs ds→Reps K ι H (vs.take n) (ds.take n)
 | _,_,0,_=>.nil
 | _,_,_+1, .nil=>.nil
 | _,_,n+1, .cons r rs=>.cons r (Reps.take n rs)
theorem Reps.drop:∀ {vs:List V} {ds:List D} (n:Nat),Reps K ι H vs ds→Reps K ι H (vs.drop n) (ds.drop n)
 | _,_,0,r=>r
 | _,_,_+1, .nil=>.nil
 | _,_,n+1, .cons _ rs=>Reps.drop n rs
theorem Reps.snoc {vs:List V} {ds:List D} {v:V} {d:D} (r:Reps K ι H vs ds) (q:Rep K ι H v d):Reps K ι H (vs++[v]) (ds++[d]):=r.app (.cons q .nil)
theorem Reps.flat:∀ {vs:List V} {ds:List D} (k:Nat),Reps K ι H vs ds→Reps K ι H (List.replicate k vs).flatten (List.replicate k ds).flatten
 | _,_,0,_=>.nil
 | vs,ds,k+1,r=>by
  rw [List.replicate_succ,List.replicate_succ,List.flatten_cons,List.flatten_cons]
  exact r.app (Reps.flat k r)
end
def KRep {κ:Type} (K:PySem.W.Frag) (ι:List Addr) (H:Hp) (us:List (κ × V)) (kvs:List (κ × D)):Prop:=us.map (·.1)=kvs.map (·.1)∧Reps K ι H (us.map (·.2)) (kvs.map (·.2))
def ORep (K:PySem.W.Frag) (ι:List Addr) (H:Hp) (a:Addr):O→Prop
 | .lst xs=>∃ vs,H a=some (.lst vs)∧Reps K ι H vs xs
 | .dK kvs=>∃ us,H a=some (.dK us)∧KRep K ι H us kvs
 | .dT kvs=>∃ us,H a=some (.dT us)∧KRep K ι H us kvs
structure HRep (K:PySem.W.Frag) (ι:List Addr) (H:Hp) (h:Hd):Prop where
 nd:ι.Nodup
 len:ι.length=h.length
 obj:∀ (i:Nat) (a:Addr) (o:O),ι[i]? = some a→h[i]? = some o→ORep K ι H a o
section
variable {K:PySem.W.Frag} {ι:List Addr} {H:Hp} {h:Hd}
theorem ORep.some {a:Addr} {o:O} (r:ORep K ι H a o):∃ u,H a=some u∧(∀ vs,u≠.tup vs)∧(∀ o' u',u≠.frz o' u'):=by
 cases o with
 | lst xs=>obtain ⟨vs,e,_⟩:=r;exact ⟨_,e,fun _ z=>(by cases z),fun _ _ z=>(by cases z)⟩
 | dK kvs=>obtain ⟨us,e,_⟩:=r;exact ⟨_,e,fun _ z=>(by cases z),fun _ _ z=>(by cases z)⟩
 | dT kvs=>obtain ⟨us,e,_⟩:=r;exact ⟨_,e,fun _ z=>(by cases z),fun _ _ z=>(by cases z)⟩
theorem HRep.at (r:HRep K ι H h) {i:Nat} {a:Addr} (e:ι[i]? = some a):∃ o,h[i]? = some o∧ORep K ι H a o:=by
 have hi:i<h.length:=by rw [← r.len];exact (List.getElem?_eq_some_iff.mp e).1
 exact ⟨h[i],List.getElem?_eq_getElem hi,r.obj i a _ e (List.getElem?_eq_getElem hi)⟩
theorem HRep.addr (r:HRep K ι H h) {i:Nat} {o:O} (e:h[i]? = some o):∃ a,ι[i]? = some a∧ORep K ι H a o:=by
 have hi:i<ι.length:=by rw [r.len];exact (List.getElem?_eq_some_iff.mp e).1
 exact ⟨ι[i],List.getElem?_eq_getElem hi,r.obj i _ o (List.getElem?_eq_getElem hi) e⟩
theorem HRep.notin (r:HRep K ι H h) {p:Addr} (e:H p=none):p ∉ ι:=fun z=>by
 obtain ⟨i,hi⟩:=List.getElem?_of_mem z
 obtain ⟨o,_,q⟩:=r.at hi
 obtain ⟨u,q,_⟩:=q.some
 rw [e] at q;cases q
theorem ORep.monoW {ι':List Addr} {H':Hp} {a:Addr} {o:O} (g:Gw ι H ι' H') (e:H' a=H a) (r:ORep K ι H a o):ORep K ι' H' a o:=by
 cases o with
 | lst xs=>obtain ⟨vs,h1,h2⟩:=r;exact ⟨vs,by rw [e];exact h1,h2.monoW g⟩
 | dK kvs=>obtain ⟨us,h1,h2,h3⟩:=r;exact ⟨us,by rw [e];exact h1,h2,h3.monoW g⟩
 | dT kvs=>obtain ⟨us,h1,h2,h3⟩:=r;exact ⟨us,by rw [e];exact h1,h2,h3.monoW g⟩
theorem ORep.mono {ι':List Addr} {H':Hp} {a:Addr} {o:O} (g:Gr ι H ι' H') (e:H' a=H a) (r:ORep K ι H a o):ORep K ι' H' a o:=r.monoW g.w e
theorem ug {p:Addr} (e:H p=none) (o:HO):Gr ι H ι (upd H p o) :=
 ⟨⟨[],by simp,by simp⟩,fun a vs h=>by rw [d9 (bh h e)];exact h,fun a o u h=>by rw [d9 (bh h e)];exact h,fun a u h _=>by rw [d9 (bh h e)];exact h,fun a u h=>⟨u,by rw [d9 (bh h e)];exact h⟩⟩
theorem HRep.aside (r:HRep K ι H h) {p:Addr} (e:H p=none) (o:HO):HRep K ι (upd H p o) h:=by
 refine ⟨r.nd,r.len,fun i a o' e1 e2=>?_⟩
 have q:=r.obj i a o' e1 e2
 obtain ⟨u,hu,_⟩:=q.some
 exact q.mono (ug e o) (d9 (bh hu e))
theorem adu {p:Addr} (e:H p=none) (o:HO):Gr ι H (ι++[p]) (upd H p o) :=
 ⟨⟨[p],rfl,by simpa using e⟩,(ug (ι:=ι) e o).tup,(ug (ι:=ι) e o).frz,(ug (ι:=ι) e o).oth,(ug (ι:=ι) e o).kp⟩
theorem HRep.add (r:HRep K ι H h) {p:Addr} (e:H p=none) {o:HO} {ob:O} (q:ORep K (ι++[p]) (upd H p o) p ob):HRep K (ι++[p]) (upd H p o) (h++[ob]):=by
 refine ⟨?_,by simp [r.len],fun i a o' e1 e2=>?_⟩
 ·rw [List.nodup_append]
  exact ⟨r.nd,by simp,fun a ha b hb z=>r.notin e (by rw [List.mem_singleton.mp hb] at z;rw [← z];exact ha)⟩
 ·by_cases hi:i<ι.length
  ·rw [List.getElem?_append_left hi] at e1
   rw [List.getElem?_append_left (by rw [← r.len];exact hi)] at e2
   have q:=r.obj i a o' e1 e2
   obtain ⟨u,hu,_⟩:=q.some
   exact q.mono (adu e o) (d9 (bh hu e))
  ·have hi2:i<(ι++[p]).length:=(List.getElem?_eq_some_iff.mp e1).1
   have:i=ι.length:=by simp at hi2;omega
   subst this
   rw [List.getElem?_append_right (Nat.le_refl _)] at e1
   rw [r.len,List.getElem?_append_right (Nat.le_refl _)] at e2
   simp at e1 e2
   subst e1 e2
   exact q
theorem zp {a:Addr} {i:Nat} (r:HRep K ι H h) (e:ι[i]? = some a) (o:HO):Gr ι H ι (upd H a o):=by
 obtain ⟨_,_,q⟩:=r.at e
 obtain ⟨u,hu,n1,n2⟩:=q.some
 refine ⟨⟨[],by simp,by simp⟩,fun b vs hb=>?_,fun b o' u' hb=>?_,fun b u' hb hn=>?_,fun b u' hb=>?_⟩
 ·rw [d9 (fun z=>by subst z;rw [hu] at hb;exact n1 _ (Option.some.inj hb))];exact hb
 ·rw [d9 (fun z=>by subst z;rw [hu] at hb;exact n2 _ _ (Option.some.inj hb))];exact hb
 ·rw [d9 (fun z=>hn (by subst z;exact List.mem_of_getElem? e))];exact hb
 ·by_cases z:b=a
  ·subst z;exact ⟨o,jc⟩
  ·exact ⟨u',by rw [d9 z];exact hb⟩
theorem HRep.put (r:HRep K ι H h) {a:Addr} {i:Nat} (e:ι[i]? = some a) {o:HO} {ob:O} (q:ORep K ι (upd H a o) a ob):HRep K ι (upd H a o) (h.set i ob):=by
 refine ⟨r.nd,by rw [List.length_set];exact r.len,fun j b o' e1 e2=>?_⟩
 by_cases hj:i=j
 ·subst hj
  rw [e] at e1;cases e1
  have hi:i<h.length:=by rw [← r.len];exact (List.getElem?_eq_some_iff.mp e).1
  rw [List.getElem?_set_self hi] at e2;cases e2
  exact q
 ·rw [List.getElem?_set_ne hj] at e2
  have hne:b≠a:=fun z=>by
   subst z
   obtain ⟨h1,g1⟩:=List.getElem?_eq_some_iff.mp e
   obtain ⟨h2,g2⟩:=List.getElem?_eq_some_iff.mp e1
   have np:=List.pairwise_iff_getElem.mp r.nd
   rcases Nat.lt_or_gt_of_ne hj with l | l
   ·exact np i j h1 h2 l (g1.trans g2.symm)
   ·exact np j i h2 h1 l (g2.trans g1.symm)
  exact (r.obj j b o' e1 e2).mono (zp r e o) (d9 hne)
end
structure SRep (K:PySem.W.Frag) (ι:List Addr) (H:Hp) (σ:St) (τ:Sd):Prop where
 len:σ.length=τ.length
 val:∀ (i:Nat) (d:D),τ[i]? = some (some d)→∃ v,σ[i]? = some (some v)∧Rep K ι H v d
theorem SRep.mono {K:PySem.W.Frag} {ι ι':List Addr} {H H':Hp} {σ:St} {τ:Sd} (g:Gr ι H ι' H') (s:SRep K ι H σ τ):SRep K ι' H' σ τ :=
 ⟨s.len,fun i d e=>let ⟨v,h1,h2⟩:=s.val i d e; ⟨v,h1,h2.mono g⟩⟩
theorem SRep.set {K:PySem.W.Frag} {ι:List Addr} {H:Hp} {σ:St} {τ:Sd} (s:SRep K ι H σ τ) {v:V} {d:D} (r:Rep K ι H v d) (i:Nat):SRep K ι H (σ.set i (some v)) (τ.set i (some d)):=by
 refine ⟨by simp [s.len],fun j d' e=>?_⟩
 by_cases hj:i=j
 ·subst hj
  have hi:i<τ.length:=by
   have:=(List.getElem?_eq_some_iff.mp e).1
   simpa using this
  rw [List.getElem?_set_self hi] at e
  cases e
  exact ⟨v,by rw [List.getElem?_set_self (by rw [s.len];exact hi)],r⟩
 ·rw [List.getElem?_set_ne hj] at e ⊢
  exact s.val j d' e
abbrev XD:=Str→List Addr→Hp→Hd→Prop
def out {α β:Type} (K:PySem.W.Frag) (E:XD) (Rp:List Addr→Hp→β→α→Prop) (ι:List Addr) (H:Hp) (r:R α) (Q:β→Hp→Prop):Prop :=
 match r with
 | .ok a h=>∀ ι' H' b,Gr ι H ι' H'→Rp ι' H' b a→HRep K ι' H' h→Q b H'
 | .ex c h=>∀ ι' H',Gr ι H ι' H'→HRep K ι' H' h→E c ι' H' h
 | .no=>False
theorem uh {α β:Type} {K:PySem.W.Frag} {E:XD} {Rp:List Addr→Hp→β→α→Prop} {ι ι1:List Addr} {H H1:Hp} {r:R α} {Q:β→Hp→Prop} (o:out K E Rp ι H r Q) (g:Gr ι H ι1 H1):out K E Rp ι1 H1 r Q:=by
 cases r with
 | ok a h=>exact fun ι' H' b g'=>o ι' H' b (g.trans g')
 | ex c h=>exact fun ι' H' g'=>o ι' H' (g.trans g')
 | no=>exact o
theorem d7 {α β γ δ:Type} {K:PySem.W.Frag} {E:XD} {Rp:List Addr→Hp→β→α→Prop} {Sp:List Addr→Hp→δ→γ→Prop} {ι:List Addr} {H:Hp} {r:R α} {k:α→Hd→R γ} {Q:δ→Hp→Prop} {P:β→Hp→Prop}
  (o:out K E Sp ι H (r.bind k) Q) (hP:∀ a h ι1 H1 b,Gr ι H ι1 H1→Rp ι1 H1 b a→HRep K ι1 H1 h→out K E Sp ι1 H1 (k a h) Q→P b H1):out K E Rp ι H r P:=by
 cases r with
 | ok a h=>exact fun ι' H' b g r' hr=>hP a h ι' H' b g r' hr (uh o g)
 | ex c h=>exact o
 | no=>exact o
abbrev qt (K:PySem.W.Frag):List Addr→Hp→V→D→Prop:=fun ι H v d=>Rep K ι H v d
abbrev avz (K:PySem.W.Frag):List Addr→Hp→List V→List D→Prop:=fun ι H v d=>Reps K ι H v d
abbrev aj5:List Addr→Hp→Bool→Bool→Prop:=fun _ _ a b=>a=b
abbrev aw0:List Addr→Hp→Option Int→Option Int→Prop:=fun _ _ a b=>a=b
def agf (K:PySem.W.Frag) (E:XD) (ι:List Addr) (H:Hp) (r:Fl) (N:Ends):Prop :=
 match r with
 | .nx τ h=>∀ ι' H' σ,Gr ι H ι' H'→SRep K ι' H' σ τ→HRep K ι' H' h→N.nx σ H'
 | .bk τ h=>∀ ι' H' σ,Gr ι H ι' H'→SRep K ι' H' σ τ→HRep K ι' H' h→N.bk σ H'
 | .ct τ h=>∀ ι' H' σ,Gr ι H ι' H'→SRep K ι' H' σ τ→HRep K ι' H' h→N.ct σ H'
 | .rt d h=>∀ ι' H' v,Gr ι H ι' H'→Rep K ι' H' v d→HRep K ι' H' h→N.rt v H'
 | .ex c h=>∀ ι' H',Gr ι H ι' H'→HRep K ι' H' h→E c ι' H' h
 | .no=>False
theorem mj {K:PySem.W.Frag} {E:XD} {ι ι1:List Addr} {H H1:Hp} {r:Fl} {N:Ends} (o:agf K E ι H r N) (g:Gr ι H ι1 H1):agf K E ι1 H1 r N:=by
 cases r with
 | nx τ h=>exact fun ι' H' b g'=>o ι' H' b (g.trans g')
 | bk τ h=>exact fun ι' H' b g'=>o ι' H' b (g.trans g')
 | ct τ h=>exact fun ι' H' b g'=>o ι' H' b (g.trans g')
 | rt d h=>exact fun ι' H' b g'=>o ι' H' b (g.trans g')
 | ex c h=>exact fun ι' H' g'=>o ι' H' (g.trans g')
 | no=>exact o
theorem kh {α β:Type} {K:PySem.W.Frag} {E:XD} {Rp:List Addr→Hp→β→α→Prop} {ι:List Addr} {H:Hp} {r:R α} {k:α→Hd→Fl} {N:Ends} {P:β→Hp→Prop}
  (o:agf K E ι H (r.fl k) N) (hP:∀ a h ι1 H1 b,Gr ι H ι1 H1→Rp ι1 H1 b a→HRep K ι1 H1 h→agf K E ι1 H1 (k a h) N→P b H1):out K E Rp ι H r P:=by
 cases r with
 | ok a h=>exact fun ι' H' b g r' hr=>hP a h ι' H' b g r' hr (mj o g)
 | ex c h=>exact o
 | no=>exact o
def lift {α β:Type} (K:PySem.W.Frag) (E:XD) (Rp:List Addr→Hp→β→α→Prop) (f:Sd→Hd→R α):St→Hp→(β→Hp→Prop)→Prop:=fun σ H Q =>
 ∃ ι τ h,SRep K ι H σ τ∧HRep K ι H h∧out K E Rp ι H (f τ h) Q
def a5m (K:PySem.W.Frag) (E:XD) (f:SS):TS:=fun N σ H=>∃ ι τ h,SRep K ι H σ τ∧HRep K ι H h∧agf K E ι H (f τ h) N
abbrev ME (X:Cx) (E:XD) (e:Expr) (f:SE):Prop:=PE X e (lift X.K E (qt X.K) f)
abbrev MT (X:Cx) (E:XD) (e:Expr) (f:ST):Prop:=PT X e (lift X.K E aj5 f)
abbrev MW (X:Cx) (E:XD) (e:Expr) (f:ST):Prop:=PW X e (lift X.K E aj5 f)
abbrev MA (X:Cx) (E:XD) (es:List Expr) (f:SA):Prop:=PA X es (lift X.K E (avz X.K) f)
abbrev MS (X:Cx) (E:XD) (st:Stmt) (f:SS):Prop:=PS X st (a5m X.K E f)
abbrev MSs (X:Cx) (E:XD) (st:List Stmt) (f:SS):Prop:=PSs X st (a5m X.K E f)
theorem PE.weak {X:Cx} {e:Expr} {t t':TE} (h:PE X e t) (i:∀ σ H Q,t' σ H Q→t σ H Q):PE X e t':=fun pins s σ H Q I q=>h pins s σ H Q I (i _ _ _ q)
theorem PT.weak {X:Cx} {e:Expr} {t t':TT} (h:PT X e t) (i:∀ σ H Q,t' σ H Q→t σ H Q):PT X e t':=fun pins s σ H Q I q=>h pins s σ H Q I (i _ _ _ q)
theorem PW.weak {X:Cx} {e:Expr} {t t':TT} (h:PW X e t) (i:∀ σ H Q,t' σ H Q→t σ H Q):PW X e t':=fun wh pins s σ H Q I q=>h wh pins s σ H Q I (i _ _ _ q)
theorem PA.weak {X:Cx} {e:List Expr} {t t':TA} (h:PA X e t) (i:∀ σ H Q,t' σ H Q→t σ H Q):PA X e t':=fun pos pins s σ H Q I q=>h pos pins s σ H Q I (i _ _ _ q)
theorem PS.weak {X:Cx} {e:Stmt} {t t':TS} (h:PS X e t) (i:∀ N σ H,t' N σ H→t N σ H):PS X e t':=fun pins s σ H N I q=>h pins s σ H N I (i _ _ _ q)
theorem PSs.weak {X:Cx} {e:List Stmt} {t t':TS} (h:PSs X e t) (i:∀ N σ H,t' N σ H→t N σ H):PSs X e t':=fun pins s σ H N I q=>h pins s σ H N I (i _ _ _ q)
end MI
namespace MI
open PySem L2
abbrev LINE:Nat:=16777216
theorem ll {n:Nat} (h:n≤LINE):n≤sizeLine:=al4 h
def sV (i:Nat):SE:=fun τ h=>match τ[i]? with | some (some d)=>.ok d h | _=>.no
def sC (d:D):SE:=fun _ h=>.ok d h
section
variable {X:Cx} {E:XD} {a b c e:Expr} {fa fb fc:SE} {pos:Pos}
theorem bj (i:Nat) {x:Str} {pos:Pos} (hN:X.N[i]? = some x:=by rfl) (hv:Vis X.env.scope x:=by first | exact Or.inl rfl | exact Or.inr (Or.inl rfl) | exact Or.inr (Or.inr rfl)) (hd:(x == ("__debug__" : Str))=false:=by decide)
  (hcd:(x == ("__classdict__" : Str))=false:=by decide):ME X E (.Name x pos) (sV i):=by
 refine PE.weak (anw hN hv hd hcd) fun σ H Q ⟨ι,τ,h,S,Rh,o⟩=>?_
 unfold sV at o
 split at o
 ·rename_i d e
  obtain ⟨v,h1,h2⟩:=S.val i d e
  exact ⟨v,h1,o ι H v (.refl _ _) h2 Rh⟩
 ·exact o.elim
theorem ap9 {v:V} {d:D} (h:PE X e (tC v)) (r:∀ ι H,Rep X.K ι H v d):ME X E e (sC d) :=
 PE.weak h fun σ H Q ⟨ι,τ,h,S,Rh,o⟩=>o ι H v (.refl _ _) (r ι H) Rh
theorem az {i j pos}:ME X E (.Constant (.int i) j pos) (sC (.int i)):=ap9 anx fun _ _=>.int i
theorem adv {i j pos}:ME X E (.Constant (.bool i) j pos) (sC (.bl i)):=ap9 asm fun _ _=>.bl i
theorem a9r {i j pos}:ME X E (.Constant (.str i) j pos) (sC (.str i)):=ap9 ao0 fun _ _=>.str i
theorem a1o {j pos}:ME X E (.Constant .none j pos) (sC .non):=ap9 anz fun _ _=>.non
theorem apa {x:Str} {n:String} {pos:Pos} (hg:Gl X x) (hm:X.mg x=none) (hv:bootBuiltins x=some (.type n)) (hn:x ≠ "__name__":=by decide) (hd:(x == ("__debug__" : Str))=false:=by decide):ME X E (.Name x pos) (sC (.ty n)) :=
 ap9 (akb (v:=.ty n) hg hm hv rfl hn hd) fun _ _=>.ty n
def s2 (g:D→D→Hd→R D) (fa fb:SE):SE:=fun τ h=>(fa τ h).bind fun x h1=>(fb τ h1).bind fun y h2=>g x y h2
def s1 (g:D→Hd→R D) (fa:SE):SE:=fun τ h=>(fa τ h).bind g
def a0e (K:PySem.W.Frag) (g:D→D→Hd→R D) (r:R2):Prop:=∀ (E:XD) ι H h x y dx dy Q,Rep K ι H x dx→Rep K ι H y dy→HRep K ι H h→out K E (qt K) ι H (g dx dy h) Q→r x y H Q
def aw1 (K:PySem.W.Frag) (g:D→Hd→R D) (r:V→Hp→VK→Prop):Prop:=∀ (E:XD) ι H h x dx Q,Rep K ι H x dx→HRep K ι H h→out K E (qt K) ι H (g dx h) Q→r x H Q
def abi (K:PySem.W.Frag) (g:List D→Hd→R D) (r:List V→Hp→VK→Prop):Prop:=∀ (E:XD) ι H h xs ds Q,Reps K ι H xs ds→HRep K ι H h→out K E (qt K) ι H (g ds h) Q→r xs H Q
theorem as4 {g:D→D→Hd→R D} {r:R2} {K:PySem.W.Frag} (hs:a0e K g r) {σ:St} {H:Hp} {Q:VK} (q:lift K E (qt K) (s2 g fa fb) σ H Q):tOp r (lift K E (qt K) fa) (lift K E (qt K) fb) σ H Q:=by
 obtain ⟨ι,τ,h,S,Rh,o⟩:=q
 refine ⟨ι,τ,h,S,Rh,d7 o fun d h1 ι1 H1 v g1 r1 hr1 o1=>?_⟩
 refine ⟨ι1,τ,h1,S.mono g1,hr1,d7 o1 fun d2 h2 ι2 H2 u g2 r2 hr2 o2=>?_⟩
 exact hs E ι2 H2 h2 v u d d2 Q (r1.mono g2) r2 hr2 o2
theorem abj {op:Operator} {r:R2} {g:D→D→Hd→R D} (ho:OpR X (binaryOp op) r) (hs:a0e X.K g r) (ha:ME X E a fa) (hb:ME X E b fb):ME X E (.BinOp a op b pos) (s2 g fa fb) :=
 PE.weak (at5 ho ha hb) fun σ H Q q=>as4 hs q
theorem a2z {op:CmpOp} {r:R2} {g:D→D→Hd→R D} (ho:OpR X (compareOp op) r) (hs:a0e X.K g r) (ha:ME X E a fa) (hb:ME X E b fb) (hm:behindInMarks op b=false):ME X E (.Compare a [op] [b] pos) (s2 g fa fb) :=
 PE.weak (akk ho ha hb hm) fun σ H Q q=>as4 hs q
theorem atn {op:UnaryOp} {r:V→Hp→VK→Prop} {g:D→Hd→R D} (ho:UnR X (unaryOp op) r) (hs:aw1 X.K g r) (ha:ME X E a fa):ME X E (.UnaryOp op a pos) (s1 g fa):=by
 refine PE.weak (at6 ho ha) fun σ H Q ⟨ι,τ,h,S,Rh,o⟩=>?_
 exact ⟨ι,τ,h,S,Rh,d7 o fun d h1 ι1 H1 v g1 r1 hr1 o1=>hs E ι1 H1 h1 v d Q r1 hr1 o1⟩
theorem ato {r:R2} {g:D→D→Hd→R D} (ho:IxR X r) (hs:a0e X.K g r) (ha:ME X E a fa) (hb:ME X E b fb) (hp:a8h b):ME X E (.Subscript a b pos) (s2 g fa fb) :=
 PE.weak (ate ho ha hb hp) fun σ H Q q=>as4 hs q
def asB (d:D) (h:Hd):R Bool:=match d with | .bl b=>.ok b h | _=>.no
def sT (f:SE):ST:=fun τ h=>(f τ h).bind asB
theorem al6 {K:PySem.W.Frag} {t:TE} {f:SE} (hi:∀ σ H Q,lift K E (qt K) f σ H Q→t σ H Q) {σ:St} {H:Hp} {Q:Bool→Hp→Prop} (q:lift K E aj5 (sT f) σ H Q):aoo t σ H Q:=by
 refine hi σ H _ ?_
 obtain ⟨ι,τ,h,S,Rh,o⟩:=q
 refine ⟨ι,τ,h,S,Rh,d7 o fun d h1 ι1 H1 v g1 r1 hr1 o1=>?_⟩
 cases r1 with
 | bl b=>exact ⟨b,rfl,o1 ι1 H1 b (.refl _ _) rfl hr1⟩
 | _=>exact o1.elim
theorem ig {op:CmpOp} {r:R2} {g:D→D→Hd→R D} (ho:OpR X (compareOp op) r) (hs:a0e X.K g r) (ha:ME X E a fa) (hb:ME X E b fb) (hm:behindInMarks op b=false):MT X E (.Compare a [op] [b] pos) (sT (s2 g fa fb)) :=
 PT.weak (akl ho ha hb hm) fun σ H Q q=>al6 (fun _ _ _=>as4 hs) q
def sCh (g g':D→D→Hd→R D) (fa fb fc:SE):SE:=fun τ h=>(fa τ h).bind fun x h1=>(fb τ h1).bind fun y h2=>(g x y h2).bind fun z h3=>match z with
 | .bl true=>(fc τ h3).bind fun w h4=>g' y w h4
 | .bl false=>.ok (.bl false) h3
 | _=>.no
def tru (d:D) (h:Hd):R Bool:=match d with
 | .non=>.ok false h
 | .bl b=>.ok b h
 | .int i=>.ok (i != 0) h
 | .str x=>if x.length≤LINE then .ok ((x.length:Int) != 0) h else .no
 | .tup xs=>.ok (!xs.isEmpty) h
 | .rol xs=>.ok (!xs.isEmpty) h
 | .ref i=>match h[i]? with
  | some (.lst xs)=>.ok (!xs.isEmpty) h
  | some (.dK kvs)=>.ok (!kvs.isEmpty) h
  | _=>.no
 | _=>.no
theorem Reps.emp {K:PySem.W.Frag} {ι:List Addr} {H:Hp} {vs:List V} {ds:List D} (r:Reps K ι H vs ds):vs.isEmpty=ds.isEmpty:=by cases r<;>rfl
theorem KRep.emp {κ:Type} {K:PySem.W.Frag} {ι:List Addr} {H:Hp} {us:List (κ × V)} {kvs:List (κ × D)} (r:KRep K ι H us kvs):us.isEmpty=kvs.isEmpty:=by
 have:=congrArg List.length r.1
 cases us<;>cases kvs<;>simp at this ⊢
theorem al7 {K:PySem.W.Frag} {ι:List Addr} {H:Hp} {h:Hd} {x:V} {d:D} {Q:Bool→Hp→Prop} (r:Rep K ι H x d) (hr:HRep K ι H h) (o:out K E aj5 ι H (tru d h) Q):∃ k,at9 K x H k∧Q k H:=by
 cases r with
 | non=>exact ⟨false,rfl,o ι H _ (.refl _ _) rfl hr⟩
 | bl b=>exact ⟨b,rfl,o ι H _ (.refl _ _) rfl hr⟩
 | int i=>exact ⟨_,rfl,o ι H _ (.refl _ _) rfl hr⟩
 | str x =>
  by_cases hl:x.length≤LINE
  ·simp only [tru,if_pos hl] at o
   exact ⟨_,⟨ll hl,rfl⟩,o ι H _ (.refl _ _) rfl hr⟩
  ·simp only [tru,if_neg hl] at o
   exact o.elim
 | ty n=>exact o.elim
 | rod _ _ _=>exact o.elim
 | scr _ _=>exact o.elim
 | rdT _ _ _=>exact o.elim
 | exc _ _ _=>exact o.elim
 | tup e rs=>exact ⟨_, .inr (.inl ⟨_,SqT.of e,rfl⟩),by rw [rs.emp];exact o ι H _ (.refl _ _) rfl hr⟩
 | rol e rs=>exact ⟨_, .inl ⟨_,e.l,rfl⟩,by rw [rs.emp];exact o ι H _ (.refl _ _) rfl hr⟩
 | @ref a i e =>
  obtain ⟨ob,h1,h2⟩:=hr.at e
  simp only [tru,h1] at o
  cases ob with
  | lst xs =>
   obtain ⟨vs,h3,h4⟩:=h2
   exact ⟨_, .inl ⟨_,SqL.of h3,rfl⟩,by rw [h4.emp];exact o ι H _ (.refl _ _) rfl hr⟩
  | dK kvs =>
   obtain ⟨us,h3,h4⟩:=h2
   exact ⟨_, .inr (.inr ⟨_,h3,rfl⟩),by rw [h4.emp];exact o ι H _ (.refl _ _) rfl hr⟩
  | dT kvs=>exact o.elim
def a75 (f:SE):ST:=fun τ h=>(f τ h).bind tru
theorem a3a (ha:ME X E a fa) (he:∀ whole,isTrue a X.env whole=(do let v ← whole;standAt a.pos;holding [v] (truthy v)):=by intro _;rfl):MT X E a (a75 fa):=by
 refine PT.weak (agt ha he) fun σ H Q ⟨ι,τ,h,S,Rh,o⟩=>?_
 exact ⟨ι,τ,h,S,Rh,d7 o fun d h1 ι1 H1 v g1 r1 hr1 o1=>al7 r1 hr1 o1⟩
def a8a (f g:ST):ST:=fun τ h=>(f τ h).bind fun b h1=>if b=true then g τ h1 else .ok false h1
def sOr (f g:ST):ST:=fun τ h=>(f τ h).bind fun b h1=>if b=true then .ok true h1 else g τ h1
def acq (f:ST):ST:=fun τ h=>(f τ h).bind fun b h1=>.ok (!b) h1
variable {ga gb:ST}
theorem a3b (ha:MT X E a ga):MW X E (.BoolOp .And [a] pos) ga:=akc ha
theorem apb (ha:MT X E a ga):MW X E (.BoolOp .Or [a] pos) ga:=ao1 ha
theorem a76 {rest:List Expr} (ha:MT X E a ga) (hb:MW X E (.BoolOp .And (b::rest) pos) gb):MW X E (.BoolOp .And (a::b::rest) pos) (a8a ga gb):=by
 refine PW.weak (ao2 ha hb) fun σ H Q ⟨ι,τ,h,S,Rh,o⟩=>?_
 refine ⟨ι,τ,h,S,Rh,d7 o fun d h1 ι1 H1 v g1 r1 hr1 o1=>?_⟩
 cases r1
 cases d with
 | true=>exact ⟨ι1,τ,h1,S.mono g1,hr1,o1⟩
 | false=>exact o1 ι1 H1 false (.refl _ _) rfl hr1
theorem atp {rest:List Expr} (ha:MT X E a ga) (hb:MW X E (.BoolOp .Or (b::rest) pos) gb):MW X E (.BoolOp .Or (a::b::rest) pos) (sOr ga gb):=by
 refine PW.weak (asn ha hb) fun σ H Q ⟨ι,τ,h,S,Rh,o⟩=>?_
 refine ⟨ι,τ,h,S,Rh,d7 o fun d h1 ι1 H1 v g1 r1 hr1 o1=>?_⟩
 cases r1
 cases d with
 | true=>exact o1 ι1 H1 true (.refl _ _) rfl hr1
 | false=>exact ⟨ι1,τ,h1,S.mono g1,hr1,o1⟩
theorem adw (ha:MT X E a ga):MT X E (.UnaryOp .Not a pos) (acq ga):=by
 refine PT.weak (ao3 ha) fun σ H Q ⟨ι,τ,h,S,Rh,o⟩=>?_
 refine ⟨ι,τ,h,S,Rh,d7 o fun d h1 ι1 H1 v g1 r1 hr1 o1=>?_⟩
 cases r1
 exact o1 ι1 H1 _ (.refl _ _) rfl hr1
def a5n (f g:SE):SE:=fun τ h=>(f τ h).bind fun d h1=>match d with | .bl true=>g τ h1 | .bl false=>.ok (.bl false) h1 | _=>.no
def as5 (f g:SE):SE:=fun τ h=>(f τ h).bind fun d h1=>match d with | .bl true=>.ok (.bl true) h1 | .bl false=>g τ h1 | _=>.no
def a77 (f:SE):SE:=fun τ h=>(f τ h).bind fun d h1=>match d with | .bl b=>.ok (.bl (!b)) h1 | _=>.no
theorem apc {op} (ha:ME X E a fa):ME X E (.BoolOp op [a] pos) fa:=ao4 ha
theorem aj6 {rest:List Expr} (ha:ME X E a fa) (hb:ME X E (.BoolOp .And (b::rest) pos) fb):ME X E (.BoolOp .And (a::b::rest) pos) (a5n fa fb):=by
 refine PE.weak (ao5 ha hb) fun σ H Q ⟨ι,τ,h,S,Rh,o⟩=>?_
 refine ⟨ι,τ,h,S,Rh,d7 o fun d h1 ι1 H1 v g1 r1 hr1 o1=>?_⟩
 cases r1 with
 | bl k =>
  refine ⟨k,rfl,?_⟩
  cases k with
  | true=>exact ⟨ι1,τ,h1,S.mono g1,hr1,o1⟩
  | false=>exact o1 ι1 H1 _ (.refl _ _) (.bl _) hr1
 | _=>exact o1.elim
theorem apd (ha:ME X E a fa):ME X E (.UnaryOp .Not a pos) (a77 fa):=by
 refine PE.weak (ao6 ha) fun σ H Q ⟨ι,τ,h,S,Rh,o⟩=>?_
 refine ⟨ι,τ,h,S,Rh,d7 o fun d h1 ι1 H1 v g1 r1 hr1 o1=>?_⟩
 cases r1 with
 | bl k=>exact ⟨k,rfl,o1 ι1 H1 _ (.refl _ _) (.bl _) hr1⟩
 | _=>exact o1.elim
def a9s (c:ST) (f g:SE):SE:=fun τ h=>(c τ h).bind fun b h1=>if b=true then f τ h1 else g τ h1
theorem a9t (hc:MT X E c ga) (ha:ME X E a fa) (hb:ME X E b fb):ME X E (.IfExp c a b pos) (a9s ga fa fb):=by
 refine PE.weak (agn hc ha hb) fun σ H Q ⟨ι,τ,h,S,Rh,o⟩=>?_
 refine ⟨ι,τ,h,S,Rh,d7 o fun d h1 ι1 H1 v g1 r1 hr1 o1=>?_⟩
 cases r1
 cases d with
 | true=>exact ⟨ι1,τ,h1,S.mono g1,hr1,o1⟩
 | false=>exact ⟨ι1,τ,h1,S.mono g1,hr1,o1⟩
def gf:SA:=fun _ h=>.ok [] h
def ak (f:SE) (g:SA):SA:=fun τ h=>(f τ h).bind fun d h1=>(g τ h1).bind fun ds h2=>.ok (d::ds) h2
variable {es:List Expr} {ka:SA}
theorem bf:MA X E [] gf:=PA.weak a9h fun σ H Q ⟨ι,τ,h,S,Rh,o⟩=>o ι H [] (.refl _ _) .nil Rh
theorem aj (ha:ME X E e fa) (hr:MA X E es ka) (hs:starEach (e::es) X.env=(false,eval e X.env)::starEach es X.env:=by rfl):MA X E (e::es) (ak fa ka):=by
 refine PA.weak (a2p ha hr hs) fun σ H Q ⟨ι,τ,h,S,Rh,o⟩=>?_
 refine ⟨ι,τ,h,S,Rh,d7 o fun d h1 ι1 H1 v g1 r1 hr1 o1=>?_⟩
 refine ⟨ι1,τ,h1,S.mono g1,hr1,d7 o1 fun d2 h2 ι2 H2 u g2 r2 hr2 o2=>?_⟩
 exact o2 ι2 H2 _ (.refl _ _) (.cons (r1.mono g2) r2) hr2
def a4h (ds:List D) (h:Hd):R D:=if ds.length≤LINE then .ok (.tup ds) h else .no
def a8b (ds:List D) (h:Hd):R D:=if ds.length≤LINE then .ok (.ref h.length) (h++[.lst ds]) else .no
def sA (g:List D→Hd→R D) (k:SA):SE:=fun τ h=>(k τ h).bind g
theorem zy {K:PySem.W.Frag} {ι:List Addr} {H:Hp} {h:Hd} {vs:List V} {ds:List D} {Q:VK} (r:Reps K ι H vs ds) (hr:HRep K ι H h) (o:out K E (qt K) ι H (.ok (.tup ds) h) Q):∀ p,H p=none→Q (.ref p) (upd H p (.tup vs)):=fun p hp =>
 o ι _ _ (ug hp _) (.tup jc (r.mono (ug hp _))) (hr.aside hp _)
theorem ur {K:PySem.W.Frag} {ι:List Addr} {H:Hp} {h:Hd} {vs:List V} {ds:List D} {Q:VK} (r:Reps K ι H vs ds) (hr:HRep K ι H h) (o:out K E (qt K) ι H (.ok (.ref h.length) (h++[.lst ds])) Q):∀ p,H p=none→Q (.ref p) (upd H p (.lst vs)):=fun p hp =>
 o (ι++[p]) _ _ (adu hp _) (.ref (by rw [List.getElem?_append_right (by rw [hr.len];exact Nat.le_refl _),hr.len];simp)) (hr.add hp ⟨_,jc,r.mono (adu hp _)⟩)
theorem al8 {K:PySem.W.Frag} {ι:List Addr} {H:Hp} {h:Hd} {i:Nat} {a:Addr} {vs:List V} {ds:List D} {d:D} {v:V} {Q:VK} (r:Reps K ι H vs ds) (hr:HRep K ι H h) (hi:ι[i]? = some a) (rd:Rep K ι H v d) (o:out K E (qt K) ι H (.ok d (h.set i (.lst ds))) Q):Q v (upd H a (.lst vs)) :=
 o ι _ _ (zp hr hi _) (rd.mono (zp hr hi _)) (hr.put hi ⟨_,jc,r.mono (zp hr hi _)⟩)
theorem a9u {x1} (h:MA X E es ka):ME X E (.Tuple es x1 pos) (sA a4h ka):=by
 refine PE.weak (aoq h) fun σ H Q ⟨ι,τ,h,S,Rh,o⟩=>?_
 refine ⟨ι,τ,h,S,Rh,d7 o fun d h1 ι1 H1 v g1 r1 hr1 o1=>?_⟩
 unfold a4h at o1
 split at o1
 ·rename_i hl
  exact ⟨ll (by rw [r1.len];exact hl),zy r1 hr1 o1⟩
 ·exact o1.elim
theorem a3c (h:MA X E es ka):ME X E (.List es pos) (sA a8b ka):=by
 refine PE.weak (aor h) fun σ H Q ⟨ι,τ,h,S,Rh,o⟩=>?_
 refine ⟨ι,τ,h,S,Rh,d7 o fun d h1 ι1 H1 v g1 r1 hr1 o1=>?_⟩
 unfold a8b at o1
 split at o1
 ·rename_i hl
  exact ⟨ll (by rw [r1.len];exact hl),ur r1 hr1 o1⟩
 ·exact o1.elim
theorem vq {x:Str} {p:Pos} {id:String} {r:List V→Hp→VK→Prop} {g:List D→Hd→R D} (hc:CallR X (.builtin id) r) (hs:abi X.K g r) (hg:Gl X x) (hm:X.mg x=none) (hv:bootBuiltins x=some (.builtin id)) (ha:MA X E (e::es) ka) (hn:x ≠ "__name__":=by decide) (hdb:(x == ("__debug__" : Str))=false:=by decide)
  (he:starEach (e::es) X.env=(false,eval e X.env)::starEach es X.env:=by rfl) (hpl:(backTo pos (starEach es X.env)).any (·.1)=false:=by rfl):ME X E (.Call (.Name x p) (e::es) [] pos) (sA g ka):=by
 refine PE.weak (a9k hc hg hm hv ha hn hdb he hpl) fun σ H Q ⟨ι,τ,h,S,Rh,o⟩=>?_
 exact ⟨ι,τ,h,S,Rh,d7 o fun d h1 ι1 H1 v g1 r1 hr1 o1=>hs E ι1 H1 h1 v d Q r1 hr1 o1⟩
theorem a0v {x:Str} {p:Pos} {id:String} {r:List V→Hp→VK→Prop} {g:List D→Hd→R D} (hc:CallR X (.type id) r) (hs:abi X.K g r) (hg:Gl X x) (hm:X.mg x=none) (hv:bootBuiltins x=some (.type id)) (ha:MA X E (e::es) ka) (hn:x ≠ "__name__":=by decide) (hdb:(x == ("__debug__" : Str))=false:=by decide)
  (he:starEach (e::es) X.env=(false,eval e X.env)::starEach es X.env:=by rfl) (hpl:(backTo pos (starEach es X.env)).any (·.1)=false:=by rfl):ME X E (.Call (.Name x p) (e::es) [] pos) (sA g ka):=by
 refine PE.weak (ada hc hg hm hv ha hn hdb he hpl) fun σ H Q ⟨ι,τ,h,S,Rh,o⟩=>?_
 exact ⟨ι,τ,h,S,Rh,d7 o fun d h1 ι1 H1 v g1 r1 hr1 o1=>hs E ι1 H1 h1 v d Q r1 hr1 o1⟩
end
end MI
namespace MI
open PySem L2
def j5 (f g:SS):SS:=fun τ h=>match f τ h with | .nx τ1 h1=>g τ1 h1 | r=>r
def sNx:SS:=fun τ h=>.nx τ h
def xn (f:SE):SS:=fun τ h=>(f τ h).fl fun d h1=>.rt d h1
def a00 (f:SE):SS:=fun τ h=>(f τ h).fl fun _ h1=>.nx τ h1
def sIf (c:ST) (f g:SS):SS:=fun τ h=>(c τ h).fl fun b h1=>if b=true then f τ h1 else g τ h1
def jr (i:Nat) (f:SE):SS:=fun τ h=>(f τ h).fl fun d h1=>.nx (τ.set i (some d)) h1
def acr (i:Nat) (g:D→D→Hd→R D) (f:SE):SS:=fun τ h=>match τ[i]? with
 | some (some x)=>(f τ h).fl fun y h1=>(g x y h1).fl fun z h2=>.nx (τ.set i (some z)) h2
 | _=>.no
section
variable {X:Cx} {E:XD} {e o:Expr} {es:List Expr} {fa fb fc:SE} {ga:ST} {st:Stmt} {sts a b:List Stmt} {f g:SS} {pos:Pos}
theorem jy:MSs X E [] sNx:=PSs.weak akd fun N σ H ⟨ι,τ,h,S,Rh,o⟩=>o ι H σ (.refl _ _) S Rh
theorem ape {K:PySem.W.Frag} {N:Ends} {σ:St} {H:Hp} (q:a5m K E (j5 f g) N σ H):a5m K E f { N with nx:=a5m K E g N } σ H:=by
 obtain ⟨ι,τ,h,S,Rh,o⟩:=q
 refine ⟨ι,τ,h,S,Rh,?_⟩
 unfold j5 at o
 cases hf:f τ h with
 | nx τ1 h1 =>
  rw [hf] at o
  exact fun ι1 H1 σ1 g1 S1 R1=>⟨ι1,τ1,h1,S1,R1,mj o g1⟩
 | _=>rw [hf] at o;exact o
theorem aq (h1:MS X E st f) (h2:MSs X E sts g):MSs X E (st::sts) (j5 f g):=PSs.weak (ago h1 h2) fun N σ H q=>ape q
theorem d8 (h1:MS X E st f):MSs X E [st] f:=ake h1
theorem kj (he:ME X E e fa):MS X E (.Return (some e) pos) (xn fa):=by
 refine PS.weak (ao7 he) fun N σ H ⟨ι,τ,h,S,Rh,o⟩=>?_
 exact ⟨ι,τ,h,S,Rh,kh o fun d h1 ι1 H1 v g1 r1 hr1 o1=>o1 ι1 H1 v (.refl _ _) r1 hr1⟩
theorem a3d (he:ME X E e fa) (hs:swapsWith e none pos.line X.env=pure false:=by rfl):MS X E (.Expr e pos) (a00 fa):=by
 refine PS.weak (akf he hs) fun N σ H ⟨ι,τ,h,S,Rh,o⟩=>?_
 exact ⟨ι,τ,h,S,Rh,kh o fun d h1 ι1 H1 v g1 r1 hr1 o1=>o1 ι1 H1 σ (.refl _ _) (S.mono g1) hr1⟩
theorem yf {c:Expr} (hc:MT X E c ga) (ha:MSs X E a f) (hb:MSs X E b g):MS X E (.If c a b pos) (sIf ga f g):=by
 refine PS.weak (ass hc ha hb) fun N σ H ⟨ι,τ,h,S,Rh,o⟩=>?_
 refine ⟨ι,τ,h,S,Rh,kh o fun d h1 ι1 H1 v g1 r1 hr1 o1=>?_⟩
 cases r1
 cases d with
 | true=>exact ⟨ι1,τ,h1,S.mono g1,hr1,o1⟩
 | false=>exact ⟨ι1,τ,h1,S.mono g1,hr1,o1⟩
theorem iu {i:Nat} {x:Str} {pos':Pos} (hN:X.N.Nodup) (hi:X.N[i]? = some x) (hx:Loc X.env.scope x) (he:ME X E e fa) (hs:swapsWith e (some (.Name x pos')) pos.line X.env=pure false:=by rfl) (hf:X.fn x=true∨X.env.scope.names.lookup x=some .local:=by first | exact .inl rfl | exact .inr rfl | assumption) :
  MS X E (.Assign [.Name x pos'] e pos) (jr i fa):=by
 refine PS.weak (aob hN hi hx he hs hf) fun N σ H ⟨ι,τ,h,S,Rh,o⟩=>?_
 exact ⟨ι,τ,h,S,Rh,kh o fun d h1 ι1 H1 v g1 r1 hr1 o1=>o1 ι1 H1 _ (.refl _ _) ((S.mono g1).set r1 i) hr1⟩
theorem adx {i:Nat} {x:Str} {op:Operator} {r:R2} {gg:D→D→Hd→R D} {pos':Pos} (hN:X.N.Nodup) (hi:X.N[i]? = some x) (hx:Loc X.env.scope x) (ho:OpR X (inplaceOp op) r) (hs:a0e X.K gg r) (he:ME X E e fa) (hf:X.fn x=true∨X.env.scope.names.lookup x=some .local:=by first | exact .inl rfl | exact .inr rfl | assumption) :
  MS X E (.AugAssign (.Name x pos') op e pos) (acr i gg fa):=by
 refine PS.weak (aoc hN hi hx he ho hf) fun N σ H ⟨ι,τ,h,S,Rh,o⟩=>?_
 unfold acr at o
 split at o
 ·rename_i d ed
  obtain ⟨v,h1,h2⟩:=S.val i d ed
  refine ⟨v,h1,ι,τ,h,S,Rh,kh o fun d2 h3 ι1 H1 u g1 r1 hr1 o1=>?_⟩
  refine hs E ι1 H1 h3 v u d d2 _ (h2.mono g1) r1 hr1 (kh o1 fun d3 h4 ι2 H2 z g2 r2 hr2 o2=>?_)
  exact o2 ι2 H2 _ (.refl _ _) (((S.mono g1).mono g2).set r2 i) hr2
 ·exact o.elim
def put (o k v:D) (h:Hd):Option Hd:=match o,k with
 | .ref i, .int j=>match h[i]? with
  | some (.lst xs)=>match ixN xs.length j with
   | some m=>some (h.set i (.lst (xs.set m v)))
   | none=>none
  | _=>none
 | _,_=>none
theorem ady {K:PySem.W.Frag} {ι:List Addr} {H:Hp} {h h':Hd} {o k v:V} {od kd vd:D} {Q:Hp→Prop} (r1:Rep K ι H o od) (r2:Rep K ι H k kd) (r3:Rep K ι H v vd) (hr:HRep K ι H h) (e:put od kd vd h=some h')
  (q:∀ H',Gr ι H ι H'→HRep K ι H' h'→Q H'):aox o k v H Q:=by
 cases r1 with
 | @ref a i ha =>
  cases r2 with
  | int j =>
   obtain ⟨ob,h1,h2⟩:=hr.at ha
   cases ob with
   | lst xs =>
    obtain ⟨vs,h3,h4⟩:=h2
    simp only [put,h1] at e
    cases hm:ixN xs.length j with
    | none=>rw [hm] at e;cases e
    | some m =>
     rw [hm] at e
     cases e
     exact ⟨a,vs,j,m,rfl,rfl,h3,by rw [h4.len];exact hm,q _ (zp hr ha _) (hr.put ha ⟨_,jc,(h4.set r3 m).mono (zp hr ha _)⟩)⟩
   | dK _=>simp only [put,h1] at e;cases e
   | dT _=>simp only [put,h1] at e;cases e
  | _=>cases e
 | _=>cases e
def agg (fe fo fi:SE):SS:=fun τ h=>(fe τ h).fl fun v h1=>(fo τ h1).fl fun o h2=>(fi τ h2).fl fun k h3=>match put o k v h3 with | some h4=>.nx τ h4 | none=>.no
theorem adz {i:Expr} {pos':Pos} (he:ME X E e fa) (ho:ME X E o fb) (hi:ME X E i fc)
  (hs:swapsWithSole [.Subscript o i pos'] e pos.line X.env=pure false:=by rfl) (hw:swappedStores [.Subscript o i pos'] e X.env=pure none:=by rfl)
  (h1:(assignEach [.Subscript o i pos'] X.env).map (·.2)=[assign (.Subscript o i pos') X.env]:=by rfl)
  (ha:∀ v,assign (.Subscript o i pos') X.env v=(do
   let ov ← holding [v] (eval o X.env)
   let iv ← holding [v,ov] (eval i X.env)
   standAt pos'
   holding [v,ov,iv] (setItem ov iv v)
   release [v,ov,iv] []):=by intro _;rfl):MS X E (.Assign [.Subscript o i pos'] e pos) (agg fa fb fc):=by
 refine PS.weak (aiv he (ao9 ho hi set_list ha) hs hw h1) fun N σ H ⟨ι,τ,h,S,Rh,oo⟩=>?_
 refine ⟨ι,τ,h,S,Rh,kh oo fun d h1 ι1 H1 v g1 r1 hr1 o1=>?_⟩
 refine ⟨ι1,τ,h1,S.mono g1,hr1,kh o1 fun d2 h2 ι2 H2 u g2 r2 hr2 o2=>?_⟩
 refine ⟨ι2,τ,h2,(S.mono g1).mono g2,hr2,kh o2 fun d3 h3 ι3 H3 w g3 r3 hr3 o3=>?_⟩
 cases hp:put d2 d3 d h3 with
 | none=>rw [hp] at o3;exact o3.elim
 | some h4 =>
  rw [hp] at o3
  exact ady (r2.mono g3) r3 ((r1.mono g2).mono g3) hr3 hp fun H' g4 hr4=>o3 ι3 H' σ g4 ((((S.mono g1).mono g2).mono g3).mono g4) hr4
def sWh (c:ST) (f:SS):Nat→SS
 | 0,_,_=>.no
 | n+1,τ,h=>(c τ h).fl fun b h1=>if b=true then (match f τ h1 with | .nx τ2 h2=>sWh c f n τ2 h2 | .ct τ2 h2=>sWh c f n τ2 h2 | .bk τ2 h2=>.nx τ2 h2 | r=>r) else .nx τ h1
theorem a9v (n:Nat) {c:Expr} (hp:PassesOwn (model X.prog X.w) X.A X.env X.xe) (hc:MT X E c ga) (hb:MSs X E a f):MS X E (.While c a [] pos) (sWh ga f n):=by
 refine PS.weak (agq hp hc hb) fun N σ H q=>?_
 refine ⟨fun m σ H=>a5m X.K E (sWh ga f m) N σ H,⟨n,q⟩,?_⟩
 rintro m σ1 H1 ⟨ι,τ,h,S,Rh,o⟩
 cases m with
 | zero=>exact o.elim
 | succ m =>
  refine ⟨ι,τ,h,S,Rh,kh o fun d h1 ι1 H1 v g1 r1 hr1 o1=>?_⟩
  cases r1
  cases d with
  | false=>exact o1 ι1 H1 _ (.refl _ _) (S.mono g1) hr1
  | true =>
   refine ⟨fun σ' H'=>a5m X.K E (sWh ga f m) N σ' H',fun σ' H' q=>⟨m,Nat.lt_succ_self m,q⟩,ι1,τ,h1,S.mono g1,hr1,?_⟩
   rw [if_pos rfl] at o1
   cases hf:f τ h1 with
   | nx τ2 h2=>rw [hf] at o1;exact fun ι2 H2 σ2 g2 S2 R2=>⟨ι2,τ2,h2,S2,R2,mj o1 g2⟩
   | ct τ2 h2=>rw [hf] at o1;exact fun ι2 H2 σ2 g2 S2 R2=>⟨ι2,τ2,h2,S2,R2,mj o1 g2⟩
   | bk τ2 h2=>rw [hf] at o1;exact o1
   | rt d h2=>rw [hf] at o1;exact o1
   | ex c h2=>rw [hf] at o1;exact o1
   | no=>rw [hf] at o1;exact o1.elim
end
abbrev SG:=D→Sd→Hd→Fl
def al9 (K:PySem.W.Frag) (E:XD) (g:SG):TG:=fun v σ H Q=>∃ ι τ h d,Rep K ι H v d∧SRep K ι H σ τ∧HRep K ι H h∧agf K E ι H (g d τ h) { nx:=Q,rt:=fun _ _=>False }
abbrev MG (X:Cx) (E:XD) (tg:Expr) (g:SG):Prop:=PG X tg (al9 X.K E g)
abbrev SGs:=List D→Sd→Hd→Fl
def ae0 (K:PySem.W.Frag) (E:XD) (g:SGs):TGs:=fun vs σ H Q=>∃ ι τ h ds,Reps K ι H vs ds∧SRep K ι H σ τ∧HRep K ι H h∧agf K E ι H (g ds τ h) { nx:=Q,rt:=fun _ _=>False }
abbrev MGs (X:Cx) (E:XD) (tg:List Expr) (g:SGs):Prop:=PGs X tg (ae0 X.K E g)
theorem PG.weak {X:Cx} {e:Expr} {t t':TG} (h:PG X e t) (i:∀ v σ H Q,t' v σ H Q→t v σ H Q):PG X e t':=fun pins s σ H v u Q I r q=>h pins s σ H v u Q I r (i _ _ _ _ q)
theorem PGs.weak {X:Cx} {e:List Expr} {t t':TGs} (h:PGs X e t) (i:∀ v σ H Q,t' v σ H Q→t v σ H Q):PGs X e t':=fun pins s σ H v u Q I r q=>h pins s σ H v u Q I r (i _ _ _ _ q)
def kN (i:Nat):SG:=fun d τ h=>.nx (τ.set i (some d)) h
def a78:SGs:=fun ds τ h=>match ds with | []=>.nx τ h | _=>.no
def jw (g:SG) (k:SGs):SGs:=fun ds τ h=>match ds with | d::r=>(match g d τ h with | .nx τ1 h1=>k r τ1 h1 | _=>.no) | []=>.no
def a6p (n:Nat) (k:SGs):SG:=fun d τ h=>match d with | .tup ds=>if ds.length=n then k ds τ h else .no | _=>.no
section
variable {X:Cx} {E:XD} {e:Expr} {es:List Expr} {fa:SE} {pos:Pos} {g:SG} {ks:SGs}
theorem j6 {i:Nat} {x:Str} (hN:X.N.Nodup) (hi:X.N[i]? = some x) (hx:Loc X.env.scope x) (hf:X.fn x=true∨X.env.scope.names.lookup x=some .local:=by first | exact .inl rfl | exact .inr rfl | assumption):MG X E (.Name x pos) (kN i) :=
 PG.weak (j9 hN hi hx hf) fun v σ H Q ⟨ι,τ,h,d,r,S,Rh,o⟩=>o ι H _ (.refl _ _) (S.set r i) Rh
theorem a3e:MGs X E [] a78:=by
 refine PGs.weak a8f fun vs σ H Q ⟨ι,τ,h,ds,r,S,Rh,o⟩=>?_
 cases r with
 | nil=>exact ⟨rfl,o ι H σ (.refl _ _) S Rh⟩
 | cons _ _=>exact o.elim
theorem ah4 {K:PySem.W.Frag} {vs:List V} {σ:St} {H:Hp} {Q:St→Hp→Prop} (q:ae0 K E (jw g ks) vs σ H Q):agp (al9 K E g) (ae0 K E ks) vs σ H Q:=by
 obtain ⟨ι,τ,h,ds,r,S,Rh,o⟩:=q
 cases r with
 | nil=>exact o.elim
 | @cons v d vs ds r rs =>
  refine ⟨v,vs,rfl,ι,τ,h,d,r,S,Rh,?_⟩
  simp only [jw] at o
  cases hg:g d τ h with
  | nx τ1 h1 =>
   rw [hg] at o
   exact fun ι1 H1 σ1 g1 S1 R1=>⟨ι1,τ1,h1,ds,rs.mono g1,S1,R1,mj o g1⟩
  | _=>rw [hg] at o;exact o.elim
theorem a79 {k n:Nat} (hc:X.calm=true) (h:MGs X E es ks) (hn:(assignEach es X.env).length=n:=by rfl) (hst:(assignEach es X.env).findIdx? (·.1)=none:=by rfl):MG X E (.Tuple es k pos) (a6p n ks):=by
 refine PG.weak (acz hc h hn hst) fun v σ H Q ⟨ι,τ,h,d,r,S,Rh,o⟩=>?_
 cases r with
 | @tup a vs xs e rs =>
  simp only [a6p] at o
  by_cases hl:xs.length=n
  ·rw [if_pos hl] at o
   exact ⟨a,vs,rfl,SqT.of e,by rw [rs.len];exact hl,ι,τ,h,xs,rs,S,Rh,o⟩
  ·rw [if_neg hl] at o;exact o.elim
 | _=>exact o.elim
def a9w (f:SE) (g:SG):SS:=fun τ h=>(f τ h).fl fun d h1=>match g d τ h1 with | .nx τ2 h2=>.nx τ2 h2 | _=>.no
theorem a9x {tg:Expr} (he:ME X E e fa) (hg:MG X E tg g) (hs:swapsWithSole [tg] e pos.line X.env=pure false:=by rfl) (hw:swappedStores [tg] e X.env=pure none:=by rfl)
  (h1:(assignEach [tg] X.env).map (·.2)=[assign tg X.env]:=by rfl):MS X E (.Assign [tg] e pos) (a9w fa g):=by
 refine PS.weak (aiv he hg hs hw h1) fun N σ H ⟨ι,τ,h,S,Rh,o⟩=>?_
 refine ⟨ι,τ,h,S,Rh,kh o fun d h1 ι1 H1 v g1 r1 hr1 o1=>⟨ι1,τ,h1,d,r1,S.mono g1,hr1,?_⟩⟩
 cases hg:g d τ h1 with
 | nx τ1 h1=>rw [hg] at o1;exact o1
 | _=>rw [hg] at o1;exact o1.elim
end
structure Itm where
 xs:List D
 ck:Hd→Prop
def aj7 (K:PySem.W.Frag) (ι0:List Addr) (H0:Hp) (J:It) (it:Itm):Prop:=∀ ι H h,Gr ι0 H0 ι H→HRep K ι H h→it.ck h →
 (∀ (i:Nat) (d:D),it.xs[i]? = some d→J.go i H∧∀ x H',J.yld i H x H'→Gr ι H ι H'∧Rep K ι H' x d∧HRep K ι H' h)∧J.stop it.xs.length H
abbrev apf (K:PySem.W.Frag):List Addr→Hp→It→Itm→Prop:=fun ι H J it=>aj7 K ι H J it
abbrev SI:=Sd→Hd→R Itm
abbrev MI (X:Cx) (E:XD) (tg iter:Expr) (f:SI):Prop:=PI X tg iter (lift X.K E (apf X.K) f)
def v7 (x:Str):List D:=x.cps.toList.map fun c=>D.str ⟨#[c]⟩
def aj8 (d:D) (h:Hd):R Itm:=match d with
 | .tup xs=>.ok ⟨xs,fun _=>True⟩ h
 | .rol xs=>.ok ⟨xs,fun _=>True⟩ h
 | .str x=>.ok ⟨v7 x,fun _=>True⟩ h
 | .ref i=>match h[i]? with
  | some (.lst xs)=>.ok ⟨xs,fun h=>h[i]? = some (.lst xs)⟩ h
  | _=>.no
 | _=>.no
def sIt (f:SE):SI:=fun τ h=>(f τ h).bind aj8
theorem aj9 {K:PySem.W.Frag} {ι0:List Addr} {H0:Hp} {a:Addr} {xs:List D} {ck:Hd→Prop} (hl:∀ ι H h,Gr ι0 H0 ι H→HRep K ι H h→ck h→∃ vs,SqL K H a vs∧Reps K ι H vs xs):aj7 K ι0 H0 (Itl K a) ⟨xs,ck⟩:=by
 intro ι H h g hr c
 obtain ⟨vs,h1,h2⟩:=hl ι H h g hr c
 refine ⟨fun i d e=>?_,⟨vs,h1,by rw [h2.len];exact Nat.le_refl _⟩⟩
 obtain ⟨v,e1,r⟩:=h2.get e
 refine ⟨⟨vs,v,h1,e1⟩,fun x H' y=>?_⟩
 obtain ⟨rfl,y⟩:=y
 have:=y vs h1
 rw [e1] at this;cases this
 exact ⟨.refl _ _,r,hr⟩
theorem mq {X:Cx} {E:XD} {tg l:Expr} {f:SE} (hl:ME X E l f):MI X E tg l (sIt f):=by
 intro pins s σ H Rr I ⟨ι,τ,h,S,Rh,o⟩
 unfold sIt at o
 cases hf:f τ h with
 | no=>rw [hf] at o;exact o.elim
 | ex c h1 =>
  rw [hf] at o
  exact aj1 hl pins s σ H Rr I ⟨ι,τ,h,S,Rh,by rw [hf];exact o⟩
 | ok d h1 =>
  rw [hf] at o
  cases d with
  | tup xs =>
   refine aoe hl pins s σ H Rr I ⟨ι,τ,h,S,Rh,?_⟩
   rw [hf]
   intro ι1 H1 v g1 r1 hr1
   cases r1 with
   | @tup a vs _ e rs =>
    refine ⟨a,rfl,⟨vs,SqT.of e⟩,o ι1 H1 _ g1 ?_ hr1⟩
    intro ι2 H2 h2 g2 hr2 _
    have e2:=g2.tup _ _ e
    have rs2:=rs.mono g2
    refine ⟨fun i d ed=>?_,⟨vs,SqT.of e2,by rw [rs2.len];exact Nat.le_refl _⟩⟩
    obtain ⟨v,e1,r⟩:=rs2.get ed
    refine ⟨⟨vs,v,SqT.of e2,e1⟩,fun x H' y=>?_⟩
    obtain ⟨rfl,y⟩:=y
    have:=y vs (SqT.of e2)
    rw [e1] at this;cases this
    exact ⟨.refl _ _,r,hr2⟩
  | rol xs =>
   refine ad1 hl pins s σ H Rr I ⟨ι,τ,h,S,Rh,?_⟩
   rw [hf]
   intro ι1 H1 v g1 r1 hr1
   cases r1 with
   | @rol a vs _ e rs =>
    refine ⟨a,rfl,⟨vs,e.l⟩,o ι1 H1 _ g1 ?_ hr1⟩
    exact aj9 (fun ι2 H2 h2 g2 hr2 _=>⟨vs,(e.mono g2).l,rs.mono g2⟩)
  | str x =>
   refine aj1 hl pins s σ H Rr I ⟨ι,τ,h,S,Rh,?_⟩
   rw [hf]
   intro ι1 H1 v g1 r1 hr1
   cases r1
   refine ⟨x,rfl,o ι1 H1 _ g1 ?_ hr1⟩
   intro ι2 H2 h2 g2 hr2 _
   refine ⟨fun i d ed=>?_,by show (v7 x).length=_;simp [v7]⟩
   simp only [v7,List.getElem?_map,Option.map_eq_some_iff] at ed
   obtain ⟨c,ec,rfl⟩:=ed
   refine ⟨by show i<x.cps.size;have:=(List.getElem?_eq_some_iff.mp ec).1;simpa using this,fun y H' q=>?_⟩
   obtain ⟨rfl,c',ec',rfl⟩:=q
   rw [ec] at ec';cases ec'
   exact ⟨.refl _ _, .str _,hr2⟩
  | ref i =>
   simp only [R.bind,aj8] at o
   cases ho:h1[i]? with
   | none=>rw [ho] at o;exact o.elim
   | some ob =>
    rw [ho] at o
    cases ob with
    | dK _=>exact o.elim
    | dT _=>exact o.elim
    | lst xs =>
     refine ad1 hl pins s σ H Rr I ⟨ι,τ,h,S,Rh,?_⟩
     rw [hf]
     intro ι1 H1 v g1 r1 hr1
     cases r1 with
     | @ref a _ e =>
      obtain ⟨vs,e1,rs⟩:=hr1.obj i a _ e ho
      refine ⟨a,rfl,⟨vs,SqL.of e1⟩,o ι1 H1 _ g1 ?_ hr1⟩
      refine aj9 (fun ι2 H2 h2 g2 hr2 c=>?_)
      obtain ⟨us,e3,rs3⟩:=hr2.obj i a _ (g2.at e) c
      exact ⟨us,SqL.of e3,rs3⟩
  | _=>exact o.elim
def rng (lo:Int) (n:Nat):List D:=(List.range n).map fun i=>D.int (lo+(i:Nat))
def B62 (j:Int):Prop := -(2 ^ 62)≤j∧j<2 ^ 62
instance (j:Int):Decidable (B62 j):=by unfold B62;exact inferInstance
def vf (ds:List D) (h:Hd):R Itm:=match ds with
 | [.int j]=>if B62 j then .ok ⟨rng 0 j.toNat,fun _=>True⟩ h else .no
 | _=>.no
def a4f (ds:List D) (h:Hd):R Itm:=match ds with
 | [.int i, .int j]=>if B62 i∧B62 j then .ok ⟨rng i (j - i).toNat,fun _=>True⟩ h else .no
 | _=>.no
def sRg (g:List D→Hd→R Itm) (k:SA):SI:=fun τ h=>(k τ h).bind g
theorem aja {K:PySem.W.Frag} {ι0:List Addr} {H0:Hp} (lo:Int) (n:Nat):aj7 K ι0 H0 (Itr lo n) ⟨rng lo n,fun _=>True⟩:=by
 intro ι H h g hr _
 refine ⟨fun i d ed=>?_,by show n≤(rng lo n).length;simp [rng]⟩
 simp only [rng,List.getElem?_map,Option.map_eq_some_iff] at ed
 obtain ⟨j,ej,rfl⟩:=ed
 obtain ⟨hj,e⟩:=List.getElem?_eq_some_iff.mp ej
 simp at e hj
 subst e
 refine ⟨hj,fun y H' q=>?_⟩
 obtain ⟨rfl,rfl⟩:=q
 exact ⟨.refl _ _, .int _,hr⟩
theorem yg {X:Cx} {E:XD} {tg a:Expr} {k:SA} {p pos:Pos} (hg:Gl X "range") (hm:X.mg "range" = none) (ha:MA X E [a] k) (hs:starEach [a] X.env=[(false,eval a X.env)]:=by rfl):MI X E tg (.Call (.Name "range" p) [a] [] pos) (sRg vf k):=by
 intro pins s σ H Rr I ⟨ι,τ,h,S,Rh,o⟩
 refine ad2 hg hm ha hs pins s σ H Rr I ⟨ι,τ,h,S,Rh,d7 o fun ds h1 ι1 H1 vs g1 r1 hr1 o1=>?_⟩
 unfold vf at o1
 split at o1
 ·rename_i j
  cases r1 with
  | cons r rs =>
   cases r;cases rs
   by_cases hb:B62 j
   ·rw [if_pos hb] at o1
    exact ⟨j,rfl,hb.1,hb.2,o1 ι1 H1 _ (.refl _ _) (aja 0 j.toNat) hr1⟩
   ·rw [if_neg hb] at o1;exact o1.elim
 ·exact o1.elim
theorem a8m {X:Cx} {E:XD} {tg a b:Expr} {k:SA} {p pos:Pos} (hg:Gl X "range") (hm:X.mg "range" = none) (ha:MA X E [a,b] k) (hs:starEach [a,b] X.env=[(false,eval a X.env),(false,eval b X.env)]:=by rfl) (hs2:starEach [b] X.env=[(false,eval b X.env)]:=by rfl):MI X E tg (.Call (.Name "range" p) [a,b] [] pos) (sRg a4f k):=by
 intro pins s σ H Rr I ⟨ι,τ,h,S,Rh,o⟩
 refine ad3 hg hm ha hs hs2 pins s σ H Rr I ⟨ι,τ,h,S,Rh,d7 o fun ds h1 ι1 H1 vs g1 r1 hr1 o1=>?_⟩
 unfold a4f at o1
 split at o1
 ·rename_i i j
  cases r1 with
  | cons r rs =>
   cases r
   cases rs with
   | cons r rs =>
   cases r;cases rs
   by_cases hb:B62 i∧B62 j
   ·rw [if_pos hb] at o1
    exact ⟨i,j,rfl,⟨hb.1.1,hb.1.2,hb.2.1,hb.2.2⟩,o1 ι1 H1 _ (.refl _ _) (aja i _) hr1⟩
   ·rw [if_neg hb] at o1;exact o1.elim
 ·exact o1.elim
open Classical in
noncomputable def forL (ck:Hd→Prop) (g:SG) (b:SS):List D→Sd→Hd→Fl
 | [],τ,h=>if ck h then .nx τ h else .no
 | x::xs,τ,h=>if ck h then (match g x τ h with
   | .nx τ1 h1=>(match b τ1 h1 with
    | .nx τ2 h2=>forL ck g b xs τ2 h2
    | .ct τ2 h2=>forL ck g b xs τ2 h2
    | .bk τ2 h2=>.nx τ2 h2
    | r=>r)
   | _=>.no) else .no
noncomputable def a4d (f:SI) (g:SG) (b:SS):SS:=fun τ h=>(f τ h).fl fun it h1=>forL it.ck g b it.xs τ h1
theorem ala {K:PySem.W.Frag} {E:XD} {ι0:List Addr} {H0:Hp} {J:It} {it:Itm} {g:SG} {b:SS} {N:Ends} {σ0:St} {τ0:Sd} {h0:Hd} (ir:aj7 K ι0 H0 J it) (S:SRep K ι0 H0 σ0 τ0) (Rh:HRep K ι0 H0 h0) (o:agf K E ι0 H0 (forL it.ck g b it.xs τ0 h0) N) :
  ∃ W:Nat→Nat→St→Hp→Prop,(∃ m,W 0 m σ0 H0)∧∀ i m σ H,W i m σ H →
   (J.stop i H∧N.nx σ H)∨(J.go i H∧∃ M:St→Hp→Prop,(∀ σ' H',M σ' H'→∃ m',m'<m∧W (i+1) m' σ' H')∧∀ x H',J.yld i H x H'→al9 K E g x σ H' fun σ2 H2=>a5m K E b { N with nx:=M,ct:=M,bk:=N.nx } σ2 H2):=by
 refine ⟨fun i m σ H=>m=it.xs.length - i∧i≤it.xs.length∧∃ ι τ h,Gr ι0 H0 ι H∧SRep K ι H σ τ∧HRep K ι H h∧agf K E ι H (forL it.ck g b (it.xs.drop i) τ h) N,⟨_,rfl,Nat.zero_le _,ι0,τ0,h0, .refl _ _,S,Rh,o⟩,?_⟩
 rintro i m σ H ⟨rfl,hi,ι,τ,h,g0,S,Rh,o⟩
 by_cases hlt:i<it.xs.length
 ·rw [List.drop_eq_getElem_cons hlt,forL] at o
  by_cases hc:it.ck h
  ·rw [if_pos hc] at o
   obtain ⟨go,yl⟩:=(ir ι H h g0 Rh hc).1 i _ (List.getElem?_eq_getElem hlt)
   refine .inr ⟨go,fun σ' H'=>it.xs.length - (i+1)<it.xs.length - i∧∃ ι τ h,Gr ι0 H0 ι H'∧SRep K ι H' σ' τ∧HRep K ι H' h∧agf K E ι H' (forL it.ck g b (it.xs.drop (i+1)) τ h) N,fun σ' H' q=>⟨_,q.1,rfl,hlt,q.2⟩,fun x H' y=>?_⟩
   obtain ⟨g1,r1,hr1⟩:=yl x H' y
   refine ⟨ι,τ,h,_,r1,S.mono g1,hr1,?_⟩
   have o':=mj o g1
   cases hg:g it.xs[i] τ h with
   | nx τ1 h1 =>
    rw [hg] at o'
    dsimp only at o'
    intro ι2 H2 σ2 g2 S2 R2
    refine ⟨ι2,τ1,h1,S2,R2,?_⟩
    have o2:=mj o' g2
    have gg:=(g0.trans g1).trans g2
    cases hb:b τ1 h1 with
    | nx τ2 h2=>rw [hb] at o2;exact fun ι3 H3 σ3 g3 S3 R3=>⟨by omega,ι3,τ2,h2,gg.trans g3,S3,R3,mj o2 g3⟩
    | ct τ2 h2=>rw [hb] at o2;exact fun ι3 H3 σ3 g3 S3 R3=>⟨by omega,ι3,τ2,h2,gg.trans g3,S3,R3,mj o2 g3⟩
    | bk τ2 h2=>rw [hb] at o2;exact o2
    | rt d h2=>rw [hb] at o2;exact o2
    | ex c h2=>rw [hb] at o2;exact o2
    | no=>rw [hb] at o2;exact o2.elim
   | _=>rw [hg] at o';exact o'.elim
  ·rw [if_neg hc] at o;exact o.elim
 ·have e:i=it.xs.length:=by omega
  subst e
  rw [List.drop_eq_nil_of_le (Nat.le_refl _),forL] at o
  by_cases hc:it.ck h
  ·rw [if_pos hc] at o
   exact .inl ⟨(ir ι H h g0 Rh hc).2,o ι H σ (.refl _ _) S Rh⟩
  ·rw [if_neg hc] at o;exact o.elim
theorem vg {X:Cx} {E:XD} {tg iter:Expr} {body:List Stmt} {f:SI} {g:SG} {b:SS} {pos:Pos} (hp:PassesOwn (model X.prog X.w) X.A X.env X.xe) (hc:X.calm=true) (hi:MI X E tg iter f) (hg:MG X E tg g) (hb:MSs X E body b) (hs:∀ x,foldedSetIterable iter X.env x=pure x:=by intro _;rfl):MS X E (.For tg iter body [] pos) (a4d f g b):=by
 refine PS.weak (aof hp hc hi hg hb hs) fun N σ H ⟨ι,τ,h,S,Rh,o⟩=>?_
 exact ⟨ι,τ,h,S,Rh,kh o fun it h1 ι1 H1 J g1 r1 hr1 o1=>ala r1 (S.mono g1) hr1 o1⟩
end MI
namespace MI
open PySem PySem.Spec L2
theorem R.bind_assoc {α β γ:Type} (r:R α) (f:α→Hd→R β) (g:β→Hd→R γ):(r.bind f).bind g=r.bind fun a h=>(f a h).bind g:=by cases r<;>rfl
open Classical in
noncomputable def mapR (ck:Hd→Prop) (f:D→Hd→R D):List D→Hd→R (List D)
 | [],h=>if ck h then .ok [] h else .no
 | x::xs,h=>if ck h then (f x h).bind fun y h1=>(mapR ck f xs h1).bind fun ys h2=>.ok (y::ys) h2 else .no
open Classical in
noncomputable def agh (ck:Hd→Prop) (f:D→Hd→R (Option D)):List D→Hd→R (List D)
 | [],h=>if ck h then .ok [] h else .no
 | x::xs,h=>if ck h then (f x h).bind fun y h1=>(agh ck f xs h1).bind fun ys h2=>.ok (y.toList++ys) h2 else .no
def frs' (ix:List Nat) (τ:Sd):Sd:=ix.map fun i=>(τ[i]?).join
def t1 (d:D):Option Sd:=some [some d]
def tN (n:Nat) (d:D):Option Sd:=match d with | .tup ds=>if ds.length=n then some (ds.map some) else none | _=>none
def a5o (t:D→Option Sd) (fe:SE) (rest:Sd) (x:D) (h:Hd):R D:=match t x with | some ts=>fe (ts++rest) h | none=>.no
def a8n (t:D→Option Sd) (c:ST) (fe:SE) (rest:Sd) (x:D) (h:Hd):R (Option D):=match t x with
 | some ts=>(c (ts++rest) h).bind fun b h1=>if b=true then (fe (ts++rest) h1).bind fun y h2=>.ok (some y) h2 else .ok none h1
 | none=>.no
def a9y (yd zs:List D) (h:Hd):R D:=.ok (.ref h.length) (h++[.lst (yd++zs)])
theorem apg (r:R D) (m:Hd→R (List D)) (yd:List D):(r.bind fun y h1=>(m h1).bind fun ys h2=>.ok (y::ys) h2).bind (a9y yd)=r.bind fun y h1=>(m h1).bind (a9y (yd++[y])):=by
 cases r with
 | ok y h1 =>
  show ((m h1).bind _).bind _=(m h1).bind _
  cases m h1 with
  | ok ys h2=>simp [R.bind,a9y]
  | _=>rfl
 | _=>rfl
theorem atq (r:R (Option D)) (m:Hd→R (List D)) (yd:List D):(r.bind fun y h1=>(m h1).bind fun ys h2=>.ok (y.toList++ys) h2).bind (a9y yd)=r.bind fun y h1=>(m h1).bind (a9y (yd++y.toList)):=by
 cases r with
 | ok y h1 =>
  show ((m h1).bind _).bind _=(m h1).bind _
  cases m h1 with
  | ok ys h2=>simp [R.bind,a9y]
  | _=>rfl
 | _=>rfl
noncomputable def jn (fi:SI) (t:D→Option Sd) (fe:SE) (ix:List Nat):SE:=fun τ h=>(fi τ h).bind fun it h1=>if it.xs.length≤LINE then (mapR it.ck (a5o t fe (frs' ix τ)) it.xs h1).bind (a9y []) else .no
noncomputable def my (fi:SI) (t:D→Option Sd) (c:ST) (fe:SE) (ix:List Nat):SE:=fun τ h=>(fi τ h).bind fun it h1=>if it.xs.length≤LINE then (agh it.ck (a8n t c fe (frs' ix τ)) it.xs h1).bind (a9y []) else .no
def acs (K:PySem.W.Frag) (n:Nat) (g:TG) (t:D→Option Sd):Prop:=∀ ι H v d ts (r:St) (Q:St→Hp→Prop),Rep K ι H v d→t d=some ts→(∀ us:St,us.length=n→SRep K ι H us ts→Q (us++r) H)→g v (List.replicate n none++r) H Q
theorem a5p {K:PySem.W.Frag} {ι:List Addr} {H:Hp}:SRep K ι H [] []:=⟨rfl,fun i d e=>by simp at e⟩
theorem sy {K:PySem.W.Frag} {ι:List Addr} {H:Hp} {v:V} {d:D} {σ:St} {τ:Sd} (r:Rep K ι H v d) (s:SRep K ι H σ τ):SRep K ι H (some v::σ) (some d::τ):=by
 refine ⟨by simp [s.len],fun i d' e=>?_⟩
 cases i with
 | zero=>simp at e;subst e;exact ⟨v,rfl,r⟩
 | succ i=>simpa using s.val i d' (by simpa using e)
theorem a2b {K:PySem.W.Frag} {ι:List Addr} {H:Hp} {σ σ':St} {τ τ':Sd} (s:SRep K ι H σ τ) (s':SRep K ι H σ' τ'):SRep K ι H (σ++σ') (τ++τ'):=by
 refine ⟨by simp [s.len,s'.len],fun i d e=>?_⟩
 by_cases hi:i<τ.length
 ·rw [List.getElem?_append_left hi] at e
  rw [List.getElem?_append_left (by rw [s.len];exact hi)]
  exact s.val i d e
 ·rw [List.getElem?_append_right (by omega)] at e
  rw [List.getElem?_append_right (by rw [s.len];omega),s.len]
  exact s'.val _ d e
theorem a0f {K:PySem.W.Frag} {ι:List Addr} {H:Hp} {σ:St} {τ:Sd} (s:SRep K ι H σ τ) (ix:List Nat):SRep K ι H (ix.map fun i=>(σ[i]?).join) (frs' ix τ):=by
 refine ⟨by simp [frs'],fun j d e=>?_⟩
 simp only [frs',List.getElem?_map,Option.map_eq_some_iff] at e
 obtain ⟨i,hi,e⟩:=e
 have:τ[i]? = some (some d):=by
  cases q:τ[i]? with
  | none=>rw [q] at e;cases e
  | some o=>rw [q] at e;simp at e;rw [e]
 obtain ⟨v,h1,h2⟩:=s.val i d this
 exact ⟨v,by simp [hi,h1],h2⟩
theorem qu {K:PySem.W.Frag}:acs K 1 (a07 0) t1:=fun ι H v d ts r Q hr e q=>by
 cases e
 exact q [some v] rfl (sy hr a5p)
theorem ajb {K:PySem.W.Frag}:acs K 2 (L2.a4h K 2 (agp (a07 0) (agp (a07 1) auk))) (tN 2):=fun ι H v d ts r Q hr e q=>by
 unfold tN at e
 cases hr with
 | @tup a vs xs h rs =>
  simp only at e
  split at e
  ·rename_i hl
   cases e
   match xs,hl,rs with
   | [_,_],_, .cons r1 (.cons r2 .nil)=>exact ⟨a,_,rfl,SqT.of h,rfl,_,_,rfl,_,_,rfl,rfl,q [some _,some _] rfl (sy r1 (sy r2 a5p))⟩
  ·cases e
 | _=>cases e
theorem ae1 {n:Nat} {us r:St} (h:us.length=n):L2.Ext (List.replicate n none++r) (us++r):=by
 refine ⟨by simp [h],fun i v e=>?_⟩
 by_cases hi:i<n
 ·rw [List.getElem?_append_left (by simpa using hi),List.getElem?_replicate,if_pos hi] at e
  cases e
 ·rw [List.getElem?_append_right (by simpa using hi),List.length_replicate] at e
  rw [List.getElem?_append_right (by omega),h]
  exact e
theorem a9z {K:PySem.W.Frag} {E:XD} {ι0:List Addr} {H0:Hp} {J:It} {it:Itm} {g:TG} {t:D→Option Sd} {fe:SE} {n:Nat} {r:St} {rd:Sd} {h0:Hd} {Q:VK} (ir:aj7 K ι0 H0 J it) (tg:acs K n g t) (S:SRep K ι0 H0 r rd) (Rh:HRep K ι0 H0 h0) (hl:it.xs.length≤LINE)
  (o:out K E (qt K) ι0 H0 ((mapR it.ck (a5o t fe rd) it.xs h0).bind (a9y [])) Q):ap7 J (List.replicate n none++r) g (lift K E (qt K) fe) Q H0:=by
 refine ⟨fun i m ys H=>m=it.xs.length - i∧i≤it.xs.length∧ys.length≤i∧∃ ι h yd,Gr ι0 H0 ι H∧HRep K ι H h∧Reps K ι H ys yd∧out K E (qt K) ι H ((mapR it.ck (a5o t fe rd) (it.xs.drop i) h).bind (a9y yd)) Q,
  ⟨_,rfl,Nat.zero_le _,Nat.zero_le _,ι0,h0,[], .refl _ _,Rh, .nil,o⟩,?_⟩
 rintro i m ys H ⟨rfl,hi,hy,ι,h,yd,g0,Rh,ry,o⟩
 by_cases hlt:i<it.xs.length
 ·rw [List.drop_eq_getElem_cons hlt,mapR] at o
  by_cases hc:it.ck h
  ·rw [if_pos hc,apg] at o
   obtain ⟨go,yl⟩:=(ir ι H h g0 Rh hc).1 i _ (List.getElem?_eq_getElem hlt)
   refine .inr ⟨go,Nat.lt_of_le_of_lt hy (Nat.lt_of_lt_of_le hlt (ll hl)),fun x H' y=>?_⟩
   obtain ⟨g1,r1,hr1⟩:=yl x H' y
   have o':=uh o g1
   cases ht:t it.xs[i] with
   | none=>simp only [a5o,ht] at o';exact o'.elim
   | some ts =>
    simp only [a5o,ht] at o'
    refine tg ι H' x _ ts r _ r1 ht fun us hus su=>⟨ae1 hus,ι,ts++rd,h,a2b su (S.mono (g0.trans g1)),hr1,d7 o' fun d2 h2 ι2 H2 u g2 r2 hr2 o2=>?_⟩
    refine ⟨it.xs.length - (i+1),by omega,rfl,hlt,by simp;omega,ι2,h2,yd++[d2],(g0.trans g1).trans g2,hr2,((ry.mono g1).mono g2).snoc r2,o2⟩
  ·rw [if_neg hc] at o;exact o.elim
 ·have e:i=it.xs.length:=by omega
  subst e
  rw [List.drop_eq_nil_of_le (Nat.le_refl _),mapR] at o
  by_cases hc:it.ck h
  ·rw [if_pos hc] at o
   refine .inl ⟨(ir ι H h g0 Rh hc).2,ur (E:=E) ry Rh ?_⟩
   simpa [R.bind,a9y] using o
  ·rw [if_neg hc] at o;exact o.elim
theorem a7a {K:PySem.W.Frag} {E:XD} {ι0:List Addr} {H0:Hp} {J:It} {it:Itm} {g:TG} {t:D→Option Sd} {c:ST} {fe:SE} {n:Nat} {r:St} {rd:Sd} {h0:Hd} {Q:VK} (ir:aj7 K ι0 H0 J it) (tg:acs K n g t) (S:SRep K ι0 H0 r rd) (Rh:HRep K ι0 H0 h0) (hl:it.xs.length≤LINE)
  (o:out K E (qt K) ι0 H0 ((agh it.ck (a8n t c fe rd) it.xs h0).bind (a9y [])) Q):adt J (List.replicate n none++r) g (lift K E aj5 c) (lift K E (qt K) fe) Q H0:=by
 refine ⟨fun i m ys H=>m=it.xs.length - i∧i≤it.xs.length∧ys.length≤i∧∃ ι h yd,Gr ι0 H0 ι H∧HRep K ι H h∧Reps K ι H ys yd∧out K E (qt K) ι H ((agh it.ck (a8n t c fe rd) (it.xs.drop i) h).bind (a9y yd)) Q,
  ⟨_,rfl,Nat.zero_le _,Nat.zero_le _,ι0,h0,[], .refl _ _,Rh, .nil,o⟩,?_⟩
 rintro i m ys H ⟨rfl,hi,hy,ι,h,yd,g0,Rh,ry,o⟩
 by_cases hlt:i<it.xs.length
 ·rw [List.drop_eq_getElem_cons hlt,agh] at o
  by_cases hc:it.ck h
  ·rw [if_pos hc,atq] at o
   obtain ⟨go,yl⟩:=(ir ι H h g0 Rh hc).1 i _ (List.getElem?_eq_getElem hlt)
   refine .inr ⟨go,Nat.lt_of_le_of_lt hy (Nat.lt_of_lt_of_le hlt (ll hl)),fun x H' y=>?_⟩
   obtain ⟨g1,r1,hr1⟩:=yl x H' y
   have o':=uh o g1
   cases ht:t it.xs[i] with
   | none=>simp only [a8n,ht] at o';exact o'.elim
   | some ts =>
    simp only [a8n,ht] at o'
    rw [R.bind_assoc] at o'
    refine tg ι H' x _ ts r _ r1 ht fun us hus su=>⟨ae1 hus,ι,ts++rd,h,a2b su (S.mono (g0.trans g1)),hr1,d7 o' fun b h1 ι1 H1 b' g2 rb hrb ob=>?_⟩
    have su1:SRep K ι1 H1 (us++r) (ts++rd):=(a2b su (S.mono (g0.trans g1))).mono g2
    cases rb
    cases b with
    | true =>
     rw [if_pos rfl] at ob ⊢
     rw [R.bind_assoc] at ob
     refine ⟨ι1,ts++rd,h1,su1,hrb,d7 ob fun d2 h2 ι2 H2 u g3 r2 hr2 o2=>?_⟩
     refine ⟨it.xs.length - (i+1),by omega,rfl,hlt,by simp;omega,ι2,h2,yd++[d2],((g0.trans g1).trans g2).trans g3,hr2,(((ry.mono g1).mono g2).mono g3).snoc r2,?_⟩
     simpa [R.bind] using o2
    | false =>
     rw [if_neg Bool.false_ne_true] at ob ⊢
     refine ⟨it.xs.length - (i+1),by omega,rfl,hlt,by omega,ι1,h1,yd,(g0.trans g1).trans g2,hrb,(ry.mono g1).mono g2,?_⟩
     simpa [R.bind] using ob
  ·rw [if_neg hc] at o;exact o.elim
 ·have e:i=it.xs.length:=by omega
  subst e
  rw [List.drop_eq_nil_of_le (Nat.le_refl _),agh] at o
  by_cases hc:it.ck h
  ·rw [if_pos hc] at o
   refine .inl ⟨(ir ι H h g0 Rh hc).2,ur (E:=E) ry Rh ?_⟩
   simpa [R.bind,a9y] using o
  ·rw [if_neg hc] at o;exact o.elim
section
variable {X:Cx} {E:XD} {elt tg iter cnd:Expr} {scope:Scope} {pos:Pos} {cl:List (Str × Addr)} {ts fr:List Str} {ix:List Nat} {fi:SI} {g:TG} {t:D→Option Sd} {fe:SE} {fc:ST}
theorem a0w (hc:X.calm=true) (S:CSc X scope cl ts fr ix) (hi:MI X E tg iter fi) (hg:∀ C fp s H,PG (cxC X (ts++fr) scope cl C fp s H) tg g) (ht:acs X.K ts.length g t) (he:∀ C fp s H,ME (cxC X (ts++fr) scope cl C fp s H) E elt fe)
  (hs:∀ x,foldedSetIterable iter X.env x=pure x:=by intro _;rfl):ME X E (.ListComp elt [⟨tg,iter,[],0⟩] scope pos) (jn fi t fe ix):=by
 refine PE.weak (ah3 (te:=lift X.K E (qt X.K) fe) hc S hi hg he hs) fun σ H Q ⟨ι,τ,h,Sr,Rh,o⟩=>?_
 refine ⟨ι,τ,h,Sr,Rh,d7 o fun it h1 ι1 H1 J g1 r1 hr1 o1=>?_⟩
 by_cases hl:it.xs.length≤LINE
 ·rw [if_pos hl] at o1
  exact a9z r1 ht (a0f (Sr.mono g1) ix) hr1 hl o1
 ·rw [if_neg hl] at o1;exact o1.elim
theorem a2c (hc:X.calm=true) (S:CSc X scope cl ts fr ix) (hi:MI X E tg iter fi) (hg:∀ C fp s H,PG (cxC X (ts++fr) scope cl C fp s H) tg g) (ht:acs X.K ts.length g t) (he:∀ C fp s H,ME (cxC X (ts++fr) scope cl C fp s H) E elt fe)
  (hq:∀ C fp s H,MT (cxC X (ts++fr) scope cl C fp s H) E cnd fc)
  (hs:∀ x,foldedSetIterable iter X.env x=pure x:=by intro _;rfl):ME X E (.ListComp elt [⟨tg,iter,[cnd],0⟩] scope pos) (my fi t fc fe ix):=by
 refine PE.weak (abe (te:=lift X.K E (qt X.K) fe) (tc:=lift X.K E aj5 fc) hc S hi hg he hq hs) fun σ H Q ⟨ι,τ,h,Sr,Rh,o⟩=>?_
 refine ⟨ι,τ,h,Sr,Rh,d7 o fun it h1 ι1 H1 J g1 r1 hr1 o1=>?_⟩
 by_cases hl:it.xs.length≤LINE
 ·rw [if_pos hl] at o1
  exact a7a r1 ht (a0f (Sr.mono g1) ix) hr1 hl o1
 ·rw [if_neg hl] at o1;exact o1.elim
end
mutual
def clo (n:Nat):D→Prop
 | .tup xs=>clos n xs
 | .rol xs=>clos n xs
 | .rod _ xs=>clos n xs
 | .scr xs=>clos n xs
 | .rdT _ xs=>clos n xs
 | .ref i=>i<n
 | _=>True
def clos (n:Nat):List D→Prop
 | []=>True
 | x::xs=>clo n x∧clos n xs
end
mutual
theorem Rep.clo {K:PySem.W.Frag} {ι:List Addr} {H:Hp}:∀ {v:V} {d:D},Rep K ι H v d→clo ι.length d
 | _,_, .non=>by simp [MI.clo]
 | _,_, .bl b=>by simp [MI.clo]
 | _,_, .int i=>by simp [MI.clo]
 | _,_, .str x=>by simp [MI.clo]
 | _,_, .ty n=>by simp [MI.clo]
 | _,_, .tup h r=>by simp only [MI.clo];exact Reps.clo r
 | _,_, .rol h r=>by simp only [MI.clo];exact Reps.clo r
 | _,_, .ref h=>by simp only [MI.clo];exact (List.getElem?_eq_some_iff.mp h).1
 | _,_, .rod h e r=>by simp only [MI.clo];exact Reps.clo r
 | _,_, .scr h r=>by simp only [MI.clo];exact Reps.clo r
 | _,_, .rdT h e r=>by simp only [MI.clo];exact Reps.clo r
 | _,_, .exc h hc hn=>by simp [MI.clo]
theorem Reps.clo {K:PySem.W.Frag} {ι:List Addr} {H:Hp}:∀ {vs:List V} {ds:List D},Reps K ι H vs ds→clos ι.length ds
 | _,_, .nil=>by simp [MI.clos]
 | _,_, .cons r rs=>by simp only [MI.clos];exact ⟨Rep.clo r,Reps.clo rs⟩
end
mutual
theorem Rep.cut {K:PySem.W.Frag} {ι:List Addr} {H:Hp} {n:Nat}:∀ {v:V} {d:D},Rep K ι H v d→clo n d→Rep K (ι.take n) H v d
 | _,_, .non,_=>.non
 | _,_, .bl b,_=>.bl b
 | _,_, .int i,_=>.int i
 | _,_, .str x,_=>.str x
 | _,_, .ty n,_=>.ty n
 | _,_, .tup h r,c=>.tup h (Reps.cut r (by simpa only [MI.clo] using c))
 | _,_, .rol h r,c=>.rol h (Reps.cut r (by simpa only [MI.clo] using c))
 | _,_, .ref h,c=>.ref (by simp only [MI.clo] at c;rw [List.getElem?_take,if_pos c];exact h)
 | _,_, .rod h e r,c=>.rod h e (Reps.cut r (by simpa only [MI.clo] using c))
 | _,_, .scr h r,c=>.scr h (Reps.cut r (by simpa only [MI.clo] using c))
 | _,_, .rdT h e r,c=>.rdT h e (Reps.cut r (by simpa only [MI.clo] using c))
 | _,_, .exc h hc hn,_=>.exc h hc hn
theorem Reps.cut {K:PySem.W.Frag} {ι:List Addr} {H:Hp} {n:Nat}:∀ {vs:List V} {ds:List D},Reps K ι H vs ds→clos n ds→Reps K (ι.take n) H vs ds
 | _,_, .nil,_=>.nil
 | _,_, .cons r rs,c=>by simp only [MI.clos] at c;exact .cons (Rep.cut r c.1) (Reps.cut rs c.2)
end
def a1y (n:Nat):O→Prop
 | .lst xs=>clos n xs
 | .dK kvs=>clos n (kvs.map (·.2))
 | .dT kvs=>clos n (kvs.map (·.2))
def aph (n:Nat) (h:Hd):Prop:=∀ o∈h,a1y n o
theorem ORep.clo {K:PySem.W.Frag} {ι:List Addr} {H:Hp} {a:Addr} {o:O} (r:ORep K ι H a o):a1y ι.length o:=by
 cases o with
 | lst xs=>obtain ⟨vs,_,r⟩:=r;exact r.clo
 | dK kvs=>obtain ⟨us,_,_,r⟩:=r;exact r.clo
 | dT kvs=>obtain ⟨us,_,_,r⟩:=r;exact r.clo
theorem ORep.cut {K:PySem.W.Frag} {ι:List Addr} {H:Hp} {a:Addr} {o:O} {n:Nat} (r:ORep K ι H a o) (c:a1y n o):ORep K (ι.take n) H a o:=by
 cases o with
 | lst xs=>obtain ⟨vs,h,r⟩:=r;exact ⟨vs,h,r.cut c⟩
 | dK kvs=>obtain ⟨us,h,e,r⟩:=r;exact ⟨us,h,e,r.cut c⟩
 | dT kvs=>obtain ⟨us,h,e,r⟩:=r;exact ⟨us,h,e,r.cut c⟩
theorem HRep.clo {K:PySem.W.Frag} {ι:List Addr} {H:Hp} {h:Hd} (r:HRep K ι H h):aph h.length h:=fun o ho=>by
 obtain ⟨i,hi⟩:=List.getElem?_of_mem ho
 obtain ⟨a,_,q⟩:=r.addr hi
 rw [← r.len];exact q.clo
theorem HRep.cut {K:PySem.W.Frag} {ι:List Addr} {H:Hp} {h g:Hd} (r:HRep K ι H (h++g)) (c:aph h.length h):HRep K (ι.take h.length) H h:=by
 refine ⟨r.nd.sublist (List.take_sublist _ _),?_,fun i a o e1 e2=>?_⟩
 ·have:=r.len
  rw [List.length_append] at this
  rw [List.length_take];omega
 ·have hi:i<h.length:=(List.getElem?_eq_some_iff.mp e2).1
  rw [List.getElem?_take,if_pos hi] at e1
  exact (r.obj i a o e1 (by rw [List.getElem?_append_left hi];exact e2)).cut (c o (List.mem_of_getElem? e2))
def X0:XD:=fun _ _ _ _=>False
abbrev SF:=List D→Hd→R D
def um (K:PySem.W.Frag) (n:Nat) (F:SF):Sp:=fun vs H Q _=>vs.length=n∧∃ ι ds h,Reps K ι H vs ds∧HRep K ι H h∧out K X0 (qt K) ι H (F ds h) Q
def a0g (n:Nat) (ds:List D):Sd:=ds.map some++List.replicate (n - ds.length) none
def ql (b:SS) (n:Nat) (ds:List D) (h:Hd):R D:=match b (a0g n ds) h with
 | .rt d h1=>.ok d h1
 | .nx _ h1=>.ok .non h1
 | .ex c h1=>.ex c h1
 | _=>.no
def Rf (n:Nat) (r' r:R D):Prop:=match r with
 | .no=>True
 | .ok d h1=>∃ g,r' = .ok d (h1++g)∧(g=[]∨(n≤h1.length∧clo h1.length d∧aph h1.length h1))
 | .ex c h1=>∃ g,r' = .ex c (h1++g)∧(g=[]∨(n≤h1.length∧aph h1.length h1))
theorem Rf.same {n:Nat} {r' r:R D} (h:r'=r):Rf n r' r:=by
 subst h
 cases r' with
 | ok d h1=>exact ⟨[],by simp, .inl rfl⟩
 | ex c h1=>exact ⟨[],by simp, .inl rfl⟩
 | no=>exact True.intro
theorem abk {K:PySem.W.Frag} {ι:List Addr} {H:Hp} {vs:List V} {ds:List D} {N:List Str} (r:Reps K ι H vs ds):SRep K ι H (start N vs) (a0g N.length ds):=by
 refine a2b ?_ ?_
 ·clear N
  induction r using Reps.rec (motive_1:=fun _ _ _=>True) with
  | nil=>exact a5p
  | cons r rs _ ih=>exact sy r ih
  | _=>trivial
 ·rw [r.len]
  exact ⟨by simp,fun i d e=>by rw [List.getElem?_replicate] at e;split at e<;>cases e⟩
theorem ajc {ι ι':List Addr} {H H':Hp} {n:Nat} (g:Gr ι H ι' H') (hn:ι.length≤n):Gr ι H (ι'.take n) H':=by
 obtain ⟨m,rfl,hm⟩:=g.pre
 exact ⟨⟨m.take (n - ι.length),by rw [List.take_append,List.take_of_length_le hn],fun a ha=>hm a (List.mem_of_mem_take ha)⟩,g.tup,g.frz,g.oth,g.kp⟩
section
variable {P:Program} {w:World} {K:PySem.W.Frag} {mg:Str→Option Value} {base:Heap}
theorem api {x qual:Str} {st:Stmt} {f:Addr} {fd:FuncData} {N ps:List Str} {k:Nat} {b:SS} {F:SF} (Fu:Fun K x qual st f fd) (S:FnScope N ps (au st))
  (hb:∀ (cdv:Value) (A:Around) (outer:List Env) (s:Shared) (H:Hp) (E:XK),Room k (A.deeper (PyProof.Rows.envOfC qual (au st) s.heap.objs.size f cdv))→MSs (a1x CX0 P w K mg base N qual (au st) f cdv A outer s H E).nox X0 (iz st) b)
  (hF:∀ ds h,ds.length=ps.length→clos h.length ds→aph h.length h→Rf h.length (ql b N.length ds h) (F ds h)):FnOk P w K mg base CX0 (k+1) f fd ps (um K ps.length F):=by
 refine Fu.ok S (fun vs H Q E h=>h.1) fun cdv A outer s H vs Q E hr h=>⟨_,hb cdv A outer s H E hr,?_⟩
 obtain ⟨hl,ι,ds,h,r,hr',o⟩:=h
 refine ⟨ι,a0g N.length ds,h,abk r,hr',?_⟩
 have q:=hF ds h (by rw [← r.len];exact hl) (by rw [← hr'.len];exact r.clo) hr'.clo
 unfold ql at q
 cases hFd:F ds h with
 | no=>rw [hFd] at o;exact o.elim
 | ex c h1 =>
  rw [hFd] at q o
  obtain ⟨g,e,cl⟩:=q
  have fin:∀ ι' H',Gr ι H ι' H'→HRep K ι' H' (h1++g)→X0 c ι' H' (h1++g):=fun ι' H' g1 hr1=>by
   rcases cl with rfl | ⟨hn,c2⟩
   ·rw [List.append_nil] at hr1
    exact o ι' H' g1 hr1
   ·exact o (ι'.take h1.length) H' (ajc g1 (by rw [hr'.len];exact hn)) (hr1.cut c2)
  cases hbd:b (a0g N.length ds) h with
  | ex c' h' =>
   rw [hbd] at e
   injection e with e1 e2
   subst e1 e2
   exact fin
  | _=>rw [hbd] at e;cases e
 | ok d h1 =>
  rw [hFd] at q o
  obtain ⟨g,e,cl⟩:=q
  have fin:∀ ι' H' v,Gr ι H ι' H'→Rep K ι' H' v d→HRep K ι' H' (h1++g)→Q v H':=fun ι' H' v g1 r1 hr1=>by
   rcases cl with rfl | ⟨hn,c1,c2⟩
   ·rw [List.append_nil] at hr1
    exact o ι' H' v g1 r1 hr1
   ·exact o (ι'.take h1.length) H' v (ajc g1 (by rw [hr'.len];exact hn)) (r1.cut c1) (hr1.cut c2)
  cases hbd:b (a0g N.length ds) h with
  | rt d' h' =>
   rw [hbd] at e
   injection e with e1 e2
   subst e1 e2
   exact fin
  | nx τ' h' =>
   rw [hbd] at e
   injection e with e1 e2
   subst e1 e2
   exact fun ι' H' σ' g1 S1 hr1=>fin ι' H' .non g1 .non hr1
  | _=>rw [hbd] at e;cases e
end
end MI
namespace MI
open PySem PySem.Spec L2
section
variable {K:PySem.W.Frag} {E:XD} {ι:List Addr} {H:Hp} {h:Hd} {Q:VK}
theorem ans {d:D} {v:V} (o:out K E (qt K) ι H (.ok d h) Q) (r:Rep K ι H v d) (hr:HRep K ι H h):Q v H:=o ι H v (.refl _ _) r hr
theorem HRep.lst (hr:HRep K ι H h) {i:Nat} {a:Addr} {xs:List D} (e:ι[i]? = some a) (hi:h[i]? = some (.lst xs)):∃ vs,H a=some (.lst vs)∧Reps K ι H vs xs:=hr.obj i a _ e hi
end
def aw2:D→D→Hd→R D
 | .int i, .int j,h=>.ok (.int (i+j)) h
 | .str x, .str y,h=>if x.length+y.length≤LINE then .ok (.str (x++y)) h else .no
 | .tup xs, .tup ys,h=>if xs≠[]∧xs.length+ys.length≤LINE then .ok (.tup (xs++ys)) h else .no
 | .ref i, .ref j,h=>match h[i]?,h[j]? with
  | some (.lst xs),some (.lst ys)=>if xs.length+ys.length≤LINE then .ok (.ref h.length) (h++[.lst (xs++ys)]) else .no
  | _,_=>.no
 | _,_,_=>.no
def ab2:D→D→Hd→R D
 | .int i, .int j,h=>.ok (.int (i - j)) h
 | _,_,_=>.no
def a6q:D→D→Hd→R D
 | .int i, .int j,h=>if 0<j then .ok (.int (i % j)) h else .no
 | _,_,_=>.no
def agi:D→D→Hd→R D
 | .int i, .int j,h=>if 0<j∧j<1073741824 then .ok (.int (i / j)) h else .no
 | _,_,_=>.no
def abl:D→D→Hd→R D
 | .int i, .int j,h=>if 0≤j∧j≤1000000∧i.natAbs<2 ^ 64 then .ok (.int (i ^ j.toNat)) h else .no
 | _,_,_=>.no
section
variable {X:Cx} {K:PySem.W.Frag}
theorem alb:a0e K ab2 (rI0 fun i j=>.int (i - j)):=by
 intro E ι H h x y dx dy Q rx ry hr o
 cases rx with
 | int i =>
  cases ry with
  | int j=>exact ⟨i,j,rfl,rfl,ans o (.int _) hr⟩
  | _=>exact o.elim
 | _=>exact o.elim
theorem alc:a0e K a6q (rI (fun _ j=>0<j) fun i j=>.int (i % j)):=by
 intro E ι H h x y dx dy Q rx ry hr o
 cases rx with
 | int i =>
  cases ry with
  | int j =>
   by_cases hc:0<j
   ·simp only [a6q,if_pos hc] at o;exact ⟨i,j,rfl,rfl,hc,ans o (.int _) hr⟩
   ·simp only [a6q,if_neg hc] at o;exact o.elim
  | _=>exact o.elim
 | _=>exact o.elim
theorem ae2:a0e K agi (rI at8 fun i j=>.int (i / j)):=by
 intro E ι H h x y dx dy Q rx ry hr o
 cases rx with
 | int i =>
  cases ry with
  | int j =>
   by_cases hc:0<j∧j<1073741824
   ·simp only [agi,if_pos hc] at o;exact ⟨i,j,rfl,rfl,hc,ans o (.int _) hr⟩
   ·simp only [agi,if_neg hc] at o;exact o.elim
  | _=>exact o.elim
 | _=>exact o.elim
theorem ald:a0e K abl (rI aum fun i j=>.int (i ^ j.toNat)):=by
 intro E ι H h x y dx dy Q rx ry hr o
 cases rx with
 | int i =>
  cases ry with
  | int j =>
   by_cases hc:0≤j∧j≤1000000∧i.natAbs<2 ^ 64
   ·simp only [abl,if_pos hc] at o;exact ⟨i,j,rfl,rfl,hc,ans o (.int _) hr⟩
   ·simp only [abl,if_neg hc] at o;exact o.elim
  | _=>exact o.elim
 | _=>exact o.elim
variable {E:XD} {a b e:Expr} {es:List Expr} {fa fb:SE} {ka:SA} {pos:Pos}
theorem ajd (ha:ME X E a fa) (hb:ME X E b fb):ME X E (.BinOp a .Sub b pos) (s2 ab2 fa fb):=abj aoh alb ha hb
theorem a3f (ha:ME X E a fa) (hb:ME X E b fb):ME X E (.BinOp a .Mod b pos) (s2 a6q fa fb):=abj aoj alc ha hb
theorem apj (ha:ME X E a fa) (hb:ME X E b fb):ME X E (.BinOp a .FloorDiv b pos) (s2 agi fa fb):=abj akh ae2 ha hb
theorem ae3 (ha:ME X E a fa) (hb:ME X E b fb):ME X E (.BinOp a .Pow b pos) (s2 abl fa fb):=abj aok ald ha hb
def aa0:D→Hd→R D
 | .int i,h=>.ok (.int (-i)) h
 | _,_=>.no
theorem a4n (ha:ME X E a fa):ME X E (.UnaryOp .USub a pos) (s1 aa0 fa):=atn aol (fun E ι H h x dx Q rx hr o=>by
 cases rx with
 | int i=>exact ⟨i,rfl,ans o (.int _) hr⟩
 | _=>exact o.elim) ha
def gLt:D→D→Hd→R D
 | .int i, .int j,h=>.ok (.bl (decide (i<j))) h
 | .str i, .str j,h=>.ok (.bl (decide (i.cps.toList<j.cps.toList))) h
 | _,_,_=>.no
def gLe:D→D→Hd→R D
 | .int i, .int j,h=>.ok (.bl (decide (i≤j))) h
 | .str i, .str j,h=>.ok (.bl (!decide (j.cps.toList<i.cps.toList))) h
 | _,_,_=>.no
def gGt:D→D→Hd→R D
 | .int i, .int j,h=>.ok (.bl (decide (j<i))) h
 | _,_,_=>.no
def gGe:D→D→Hd→R D
 | .int i, .int j,h=>.ok (.bl (decide (j≤i))) h
 | _,_,_=>.no
theorem a3g:a0e K gLt (fun x y H Q=>rI0 (fun i j=>.bl (decide (i<j))) x y H Q∨∃ i j,x = .str i∧y = .str j∧Q (.bl (decide (i.cps.toList<j.cps.toList))) H):=by
 intro E ι H h x y dx dy Q rx ry hr o
 cases rx with
 | int i =>
  cases ry with
  | int j=>exact .inl ⟨i,j,rfl,rfl,ans o (.bl _) hr⟩
  | _=>exact o.elim
 | str i =>
  cases ry with
  | str j=>exact .inr ⟨i,j,rfl,rfl,ans o (.bl _) hr⟩
  | _=>exact o.elim
 | _=>exact o.elim
theorem aje:a0e K gLe (fun x y H Q=>rI0 (fun i j=>.bl (decide (i≤j))) x y H Q∨∃ i j,x = .str i∧y = .str j∧Q (.bl (!decide (j.cps.toList<i.cps.toList))) H):=by
 intro E ι H h x y dx dy Q rx ry hr o
 cases rx with
 | int i =>
  cases ry with
  | int j=>exact .inl ⟨i,j,rfl,rfl,ans o (.bl _) hr⟩
  | _=>exact o.elim
 | str i =>
  cases ry with
  | str j=>exact .inr ⟨i,j,rfl,rfl,ans o (.bl _) hr⟩
  | _=>exact o.elim
 | _=>exact o.elim
theorem ajf:a0e K gGt (rI0 fun i j=>.bl (decide (j<i))):=by
 intro E ι H h x y dx dy Q rx ry hr o
 cases rx with
 | int i =>
  cases ry with
  | int j=>exact ⟨i,j,rfl,rfl,ans o (.bl _) hr⟩
  | _=>exact o.elim
 | _=>exact o.elim
theorem ae4:a0e K gGe (rI0 fun i j=>.bl (decide (j≤i))):=by
 intro E ι H h x y dx dy Q rx ry hr o
 cases rx with
 | int i =>
  cases ry with
  | int j=>exact ⟨i,j,rfl,rfl,ans o (.bl _) hr⟩
  | _=>exact o.elim
 | _=>exact o.elim
def qw:D→Bool
 | .non=>true
 | _=>false
theorem aa1 {ι:List Addr} {H:Hp} {x:V} {d:D} (r:Rep K ι H x d):decide (x = .non)=qw d:=by cases r<;>simp [qw]
def gIs:D→D→Hd→R D
 | x, .non,h=>.ok (.bl (qw x)) h
 | .bl i, .bl j,h=>.ok (.bl (i == j)) h
 | _,_,_=>.no
def a4o:D→D→Hd→R D
 | x, .non,h=>.ok (.bl (!qw x)) h
 | .bl i, .bl j,h=>.ok (.bl (i != j)) h
 | _,_,_=>.no
theorem ajg:a0e K gIs (fun x y H Q=>(y = .non∧Q (.bl (decide (x = .non))) H)∨∃ i j,x = .bl i∧y = .bl j∧Q (.bl (i == j)) H):=by
 intro E ι H h x y dx dy Q rx ry hr o
 cases ry with
 | non=>exact .inl ⟨rfl,by rw [aa1 rx];simp only [gIs] at o;exact ans o (.bl _) hr⟩
 | bl j =>
  cases rx with
  | bl i=>exact .inr ⟨i,j,rfl,rfl,ans o (.bl _) hr⟩
  | _=>exact o.elim
 | _=>cases rx<;>exact o.elim
theorem ae5:a0e K a4o (fun x y H Q=>(y = .non∧Q (.bl (!decide (x = .non))) H)∨∃ i j,x = .bl i∧y = .bl j∧Q (.bl (i != j)) H):=by
 intro E ι H h x y dx dy Q rx ry hr o
 cases ry with
 | non=>exact .inl ⟨rfl,by rw [aa1 rx];simp only [a4o] at o;exact ans o (.bl _) hr⟩
 | bl j =>
  cases rx with
  | bl i=>exact .inr ⟨i,j,rfl,rfl,ans o (.bl _) hr⟩
  | _=>exact o.elim
 | _=>cases rx<;>exact o.elim
def vy:D→Bool
 | .non=>true | .bl _=>true | .int _=>true | .str _=>true
 | _=>false
def eqF:D→D→Bool
 | .non, .non=>true
 | .bl i, .bl j=>i == j
 | .int i, .int j=>i == j
 | .str i, .str j=>i == j
 | .int i, .bl j=>i == (if j then 1 else 0)
 | .bl i, .int j=>(if i then 1 else 0) == j
 | _,_=>false
end
end MI
namespace MI
open PySem PySem.Spec L2
section
variable {X:Cx} {K:PySem.W.Frag} {E:XD} {a b e o:Expr} {es:List Expr} {fa fb:SE} {ka:SA} {pos:Pos}
def yx (d:D) (h:Hd):Option (List D):=match d with
 | .tup xs=>some xs
 | .rol xs=>some xs
 | .ref i=>match h[i]? with | some (.lst xs)=>some xs | _=>none
 | _=>none
def gIx (x y:D) (h:Hd):R D:=match y with
 | .int i=>(match x with
  | .str z=>if z.length≤LINE then (match atI z.cps.toList i with | some c=>.ok (.str ⟨#[c]⟩) h | none=>.no) else .no
  | x=>match yx x h with
   | some xs=>(match atI xs i with | some d=>.ok d h | none=>.no)
   | none=>.no)
 | _=>.no
theorem aa2 {ι:List Addr} {H:Hp} {vs:List V} {xs:List D} {i:Int} {d:D} (r:Reps K ι H vs xs) (e:atI xs i=some d):∃ v,atI vs i=some v∧Rep K ι H v d:=by
 unfold atI at e ⊢
 rw [r.len]
 cases hx:ixN xs.length i with
 | none=>rw [hx] at e;cases e
 | some j=>rw [hx] at e;exact r.get e
theorem apk:a0e K gIx (rIx K):=by
 intro E ι H h x y dx dy Q rx ry hr o
 cases ry with
 | int i =>
  have go:∀ {p:Addr} {vs:List V} {xs:List D},Reps K ι H vs xs→out K E (qt K) ι H (match atI xs i with | some d=>.ok d h | none=>.no) Q→∃ v,atI vs i=some v∧Q v H:=fun {p vs xs} r o=>by
   cases he:atI xs i with
   | none=>rw [he] at o;exact o.elim
   | some d =>
    rw [he] at o
    obtain ⟨v,h1,h2⟩:=aa2 r he
    exact ⟨v,h1,ans o h2 hr⟩
  cases rx with
  | str z =>
   by_cases hc:z.length≤LINE
   ·simp only [gIx,if_pos hc] at o
    cases he:atI z.cps.toList i with
    | none=>rw [he] at o;exact o.elim
    | some c=>rw [he] at o;exact .inr (.inr ⟨z,i,c,rfl,rfl,ll hc,he,ans o (.str _) hr⟩)
   ·simp only [gIx,if_neg hc] at o;exact o.elim
  | @tup p vs xs hp r =>
   simp only [gIx,yx] at o
   obtain ⟨v,h1,h2⟩:=go (p:=p) r o
   exact .inr (.inl ⟨p,vs,i,v,rfl,rfl,SqT.of hp,h1,h2⟩)
  | @rol p vs xs hp r =>
   simp only [gIx,yx] at o
   obtain ⟨v,h1,h2⟩:=go (p:=p) r o
   exact .inl ⟨p,vs,i,v,rfl,rfl,hp.l,h1,h2⟩
  | @ref p j hp =>
   obtain ⟨ob,e1,e2⟩:=hr.at hp
   cases ob with
   | lst xs =>
    simp only [gIx,yx,e1] at o
    obtain ⟨vs,h3,h4⟩:=e2
    obtain ⟨v,h1,h2⟩:=go (p:=p) h4 o
    exact .inl ⟨p,vs,i,v,rfl,rfl,SqL.of h3,h1,h2⟩
   | dK _=>simp only [gIx,yx,e1] at o;exact o.elim
   | dT _=>simp only [gIx,yx,e1] at o;exact o.elim
  | _=>exact o.elim
 | _=>exact o.elim
theorem dg (ha:ME X E a fa) (hb:ME X E b fb) (hp:a8h b):ME X E (.Subscript a b pos) (s2 gIx fa fb):=ato aow apk ha hb hp
abbrev SO:=Sd→Hd→R (Option Int)
abbrev MO (X:Cx) (E:XD) (e:Option Expr) (f:SO):Prop:=PO X e (lift X.K E aw0 f)
def oN:SO:=fun _ h=>.ok none h
def oS (f:SE):SO:=fun τ h=>(f τ h).bind fun d h1=>match d with | .int i=>.ok (some i) h1 | _=>.no
theorem PO.weak {e:Option Expr} {t t':St→Hp→(Option Int→Hp→Prop)→Prop} (h:PO X e t) (i:∀ σ H Q,t' σ H Q→t σ H Q):PO X e t':=fun pins s σ H Q I q=>h pins s σ H Q I (i _ _ _ q)
theorem a8o:MO X E none oN:=PO.weak akq fun σ H Q ⟨ι,τ,h,S,Rh,o⟩=>o ι H none (.refl _ _) rfl Rh
theorem a8p (he:ME X E e fa):MO X E (some e) (oS fa):=by
 refine PO.weak (akr he) fun σ H Q ⟨ι,τ,h,S,Rh,o⟩=>?_
 refine ⟨ι,τ,h,S,Rh,d7 o fun d h1 ι1 H1 v g1 r1 hr1 o1=>?_⟩
 cases r1 with
 | int i=>exact ⟨i,rfl,o1 ι1 H1 _ (.refl _ _) rfl hr1⟩
 | _=>exact o1.elim
def whole (n:Nat) (lo hi:Option Int):Prop:=HT.sIx n 0 lo=0∧HT.sIx n n hi=n
instance (n:Nat) (lo hi:Option Int):Decidable (whole n lo hi):=by unfold whole;exact inferInstance
def gSl (d:D) (lo hi:Option Int) (h:Hd):R D:=match d with
 | .str z=>if z.length≤LINE then .ok (.str ⟨(a5i z.cps.toList lo hi).toArray⟩) h else .no
 | .tup xs=>if ¬ whole xs.length lo hi then .ok (.tup (a5i xs lo hi)) h else .no
 | .rol xs=>.ok (.ref h.length) (h++[.lst (a5i xs lo hi)])
 | .scr xs=>.ok (.ref h.length) (h++[.lst (a5i xs lo hi)])
 | .ref i=>match h[i]? with | some (.lst xs)=>.ok (.ref h.length) (h++[.lst (a5i xs lo hi)]) | _=>.no
 | _=>.no
theorem a0h {ι:List Addr} {H:Hp} {vs:List V} {xs:List D} (r:Reps K ι H vs xs) (lo hi:Option Int):Reps K ι H (aiy vs lo hi) (a5i xs lo hi):=by
 unfold aiy a5i
 rw [r.len]
 exact (r.drop _).take _
theorem aa3 {ι:List Addr} {H:Hp} {h:Hd} {x:V} {d:D} {lo hi:Option Int} {Q:VK} (rx:Rep K ι H x d) (hr:HRep K ι H h) (o:out K E (qt K) ι H (gSl d lo hi h) Q):atl x lo hi H Q∨atd K x lo hi H Q∨atf K x lo hi H Q:=by
 cases rx with
 | str z =>
  by_cases hc:z.length≤LINE
  ·simp only [gSl,if_pos hc] at o;exact .inl ⟨z,rfl,ll hc,ans o (.str _) hr⟩
  ·simp only [gSl,if_neg hc] at o;exact o.elim
 | @tup p vs xs hp r =>
  by_cases hc:¬ whole xs.length lo hi
  ·simp only [gSl,if_pos hc] at o
   exact .inr (.inl ⟨p,vs,rfl,SqT.of hp,by rw [r.len];exact hc,zy (a0h r lo hi) hr o⟩)
  ·simp only [gSl,if_neg hc] at o;exact o.elim
 | @rol p vs xs hp r=>exact .inr (.inr ⟨p,vs,rfl,hp.l,ur (a0h r lo hi) hr o⟩)
 | @scr p vs xs hp r=>exact .inr (.inr ⟨p,vs,rfl,hp.l,ur (a0h r lo hi) hr o⟩)
 | @ref p j hp =>
  obtain ⟨ob,e1,e2⟩:=hr.at hp
  cases ob with
  | lst xs =>
   simp only [gSl,e1] at o
   obtain ⟨vs,h3,h4⟩:=e2
   exact .inr (.inr ⟨p,vs,rfl,SqL.of h3,ur (a0h h4 lo hi) hr o⟩)
  | dK _=>simp only [gSl,e1] at o;exact o.elim
  | dT _=>simp only [gSl,e1] at o;exact o.elim
 | _=>exact o.elim
theorem ae6 {ι:List Addr} {H:Hp} {x:V} {d:D} (r:Rep K ι H x d) (f:vy d=true):zu x=true:=by cases r<;>first | rfl | cases f
theorem apl {ι:List Addr} {H:Hp} {x y:V} {d c:D} (r:Rep K ι H x d) (q:Rep K ι H y c):vy d=true→vy c=true→eqV x y=eqF d c:=fun f g=>by
 cases r<;>cases q<;>first | rfl | (cases f;done) | (cases g;done)
def inD (x:D) (xs:List D):Bool:=xs.any fun y=>eqF y x
theorem ah5 {ι:List Addr} {H:Hp} {vs:List V} {xs:List D} (r:Reps K ι H vs xs) (f:xs.all vy=true):vs.all zu=true:=by
 induction r using Reps.rec (motive_1:=fun _ _ _=>True) with
 | nil=>rfl
 | cons r rs _ ih =>
  rw [List.all_cons,Bool.and_eq_true] at f ⊢
  exact ⟨ae6 r f.1,ih f.2⟩
 | _=>trivial
theorem apm {ι:List Addr} {H:Hp} {x:V} {d:D} {vs:List V} {xs:List D} (rx:Rep K ι H x d) (fx:vy d=true) (r:Reps K ι H vs xs) (f:xs.all vy=true):inV x vs=inD d xs:=by
 unfold inV inD
 induction r using Reps.rec (motive_1:=fun _ _ _=>True) with
 | nil=>rfl
 | cons r rs _ ih =>
  rw [List.all_cons,Bool.and_eq_true] at f
  rw [List.any_cons,List.any_cons,ih f.2,apl r rx f.1 fx]
 | _=>trivial
def gIn (neg:Bool) (x y:D) (h:Hd):R D:=match y with
 | .str T=>(match x with
  | .str z=>(match z.cps.toList with | [c]=>.ok (.bl (if neg then !decide (c∈T.cps.toList) else decide (c∈T.cps.toList))) h | _=>.no)
  | _=>.no)
 | y=>match yx y h with
  | some xs=>if vy x=true∧xs.all vy=true then .ok (.bl (if neg then !inD x xs else inD x xs)) h else .no
  | none=>.no
theorem one_sign {z:Str} {c:Nat} (h:z.cps.toList=[c]):z=⟨#[c]⟩:=by
 obtain ⟨cps⟩:=z
 congr
 exact Array.ext' (by simpa using h)
theorem ajh (neg:Bool) {r1:R2} (h1:∀ c T H (Q:VK),Q (.bl (if neg then !decide (c∈T.cps.toList) else decide (c∈T.cps.toList))) H→r1 (.str ⟨#[c]⟩) (.str T) H Q):a0e K (gIn neg) (fun x y H Q=>r1 x y H Q∨rIn K neg x y H Q):=by
 intro E ι H h x y dx dy Q rx ry hr o
 have go:∀ {p:Addr} {vs:List V} {xs:List D},(SqL K H p vs∨SqT K H p vs)→Reps K ι H vs xs→out K E (qt K) ι H (if vy dx=true∧xs.all vy=true then .ok (.bl (if neg then !inD dx xs else inD dx xs)) h else .no) Q→rIn K neg x (.ref p) H Q:=fun {p vs xs} sq r o=>by
  split at o
  ·rename_i hc
   exact ⟨p,vs,rfl,sq,ae6 rx hc.1,ah5 r hc.2,by rw [apm rx hc.1 r hc.2];exact ans o (.bl _) hr⟩
  ·exact o.elim
 cases ry with
 | str T =>
  cases rx with
  | str z =>
   simp only [gIn] at o
   split at o
   ·rename_i c hz
    rw [one_sign hz]
    exact .inl (h1 c T H Q (ans o (.bl _) hr))
   ·exact o.elim
  | _=>exact o.elim
 | @tup p vs xs hp r=>simp only [gIn,yx] at o;exact .inr (go (.inr (SqT.of hp)) r o)
 | @rol p vs xs hp r=>simp only [gIn,yx] at o;exact .inr (go (.inl hp.l) r o)
 | @ref p j hp =>
  obtain ⟨ob,e1,e2⟩:=hr.at hp
  cases ob with
  | lst xs =>
   simp only [gIn,yx,e1] at o
   obtain ⟨vs,h3,h4⟩:=e2
   exact .inr (go (.inl (SqL.of h3)) h4 o)
  | dK _=>simp only [gIn,yx,e1] at o;exact o.elim
  | dT _=>simp only [gIn,yx,e1] at o;exact o.elim
 | _=>exact o.elim
theorem ale:a0e K (gIn false) (fun x y H Q=>(∃ c T,x = .str ⟨#[c]⟩∧y = .str T∧Q (.bl (decide (c∈T.cps.toList))) H)∨rIn K false x y H Q):=ajh false fun c T H Q q=>⟨c,T,rfl,rfl,q⟩
theorem ae7:a0e K (gIn true) (fun x y H Q=>(∃ c T,x = .str ⟨#[c]⟩∧y = .str T∧Q (.bl (!decide (c∈T.cps.toList))) H)∨rIn K true x y H Q):=ajh true fun c T H Q q=>⟨c,T,rfl,rfl,q⟩
def xx:List D→Hd→R D
 | [.str z],h=>if z.length≤LINE then .ok (.int z.length) h else .no
 | [x],h=>(match yx x h with | some xs=>.ok (.int xs.length) h | none=>.no)
 | _,_=>.no
theorem tu:abi K xx (fun xs H Q=>(∃ p ys,xs=[.ref p]∧(SqL K H p ys∨SqT K H p ys)∧Q (.int ys.length) H)∨∃ z,xs=[.str z]∧z.length≤sizeLine∧Q (.int z.length) H):=by
 intro E ι H h xs ds Q r hr o
 cases r with
 | nil=>exact o.elim
 | cons r rs =>
  cases rs with
  | cons _ _=>exact (show False by cases r<;>exact o).elim
  | nil =>
   cases r with
   | str z =>
    by_cases hc:z.length≤LINE
    ·simp only [xx,if_pos hc] at o;exact .inr ⟨z,rfl,ll hc,ans o (.int _) hr⟩
    ·simp only [xx,if_neg hc] at o;exact o.elim
   | @tup p vs xs hp r=>simp only [xx,yx] at o;exact .inl ⟨p,vs,rfl, .inr (SqT.of hp),by rw [r.len];exact ans o (.int _) hr⟩
   | @rol p vs xs hp r=>simp only [xx,yx] at o;exact .inl ⟨p,vs,rfl, .inl hp.l,by rw [r.len];exact ans o (.int _) hr⟩
   | @ref p j hp =>
    obtain ⟨ob,e1,e2⟩:=hr.at hp
    cases ob with
    | lst xs =>
     simp only [xx,yx,e1] at o
     obtain ⟨vs,h3,h4⟩:=e2
     exact .inl ⟨p,vs,rfl, .inl (SqL.of h3),by rw [h4.len];exact ans o (.int _) hr⟩
    | dK _=>simp only [xx,yx,e1] at o;exact o.elim
    | dT _=>simp only [xx,yx,e1] at o;exact o.elim
   | _=>exact o.elim
def as6:List D→Hd→R D
 | [.int i],h=>.ok (.int (if i<0 then -i else i)) h
 | _,_=>.no
theorem alf:abi K as6 (fun xs H Q=>∃ i,xs=[.int i]∧Q (.int (if i<0 then -i else i)) H):=by
 intro E ι H h xs ds Q r hr o
 unfold as6 at o
 split at o
 ·cases r with | cons r rs=>cases r;cases rs;exact ⟨_,rfl,ans o (.int _) hr⟩
 ·exact o.elim
def ah6:List D→Hd→R D
 | [.int i, .int j],h=>.ok (.int (if j > i then j else i)) h
 | _,_=>.no
def a7b:List D→Hd→R D
 | [.int i, .int j],h=>.ok (.int (if j<i then j else i)) h
 | _,_=>.no
theorem ah7:abi K a7b (fun xs H Q=>∃ i j,xs=[.int i, .int j]∧Q (.int (if j<i then j else i)) H):=by
 intro E ι H h xs ds Q r hr o
 unfold a7b at o
 split at o
 ·cases r with | cons r rs=>cases rs with | cons q rs=>cases r;cases q;cases rs;exact ⟨_,_,rfl,ans o (.int _) hr⟩
 ·exact o.elim
def alg:List D→Hd→R D
 | [.int i],h=>.ok (.int i) h
 | [.bl k],h=>.ok (.int (if k then 1 else 0)) h
 | _,_=>.no
theorem alh:abi K alg (fun xs H Q=>(∃ i,xs=[.int i]∧Q (.int i) H)∨∃ k,xs=[.bl k]∧Q (.int (if k then 1 else 0)) H):=by
 intro E ι H h xs ds Q r hr o
 unfold alg at o
 split at o
 ·cases r with | cons r rs=>cases r;cases rs;exact .inl ⟨_,rfl,ans o (.int _) hr⟩
 ·cases r with | cons r rs=>cases r;cases rs;exact .inr ⟨_,rfl,ans o (.int _) hr⟩
 ·exact o.elim
def tyD (d:D) (h:Hd):Option String:=match d with
 | .non=>some "NoneType" | .bl _=>some "bool" | .int _=>some "int" | .str _=>some "str" | .tup _=>some "tuple" | .rol _=>some "list"
 | .ref i=>(match h[i]? with | some (.lst _)=>some "list" | some (.dK _)=>some "dict" | _=>none)
 | _=>none
def ali (t T:String):Option Bool :=
 if t∈["NoneType", "bool", "int", "str", "tuple", "list", "dict"]∧T∈["bool", "int", "str", "tuple", "list", "dict"] then some (t == T || (t == "bool" && T == "int")) else none
theorem ae8 {t T:String} {b:Bool} (e:ali t T=some b):PySem.W.kitOne K (.type t) (.type T)=some b:=by
 unfold ali at e
 split at e
 ·rename_i h
  obtain ⟨h1,h2⟩:=h
  simp only [List.mem_cons,List.not_mem_nil,or_false] at h1 h2
  rcases h1 with rfl | rfl | rfl | rfl | rfl | rfl | rfl<;>rcases h2 with rfl | rfl | rfl | rfl | rfl | rfl<;>(cases e;rfl)
 ·cases e
def apn:List D→Hd→R D
 | [x, .ty T],h=>(match tyD x h with | some t=>(match ali t T with | some b=>.ok (.bl b) h | none=>.no) | none=>.no)
 | _,_=>.no
theorem apo {ι:List Addr} {H:Hp} {h:Hd} {x:V} {d:D} {t:String} (r:Rep K ι H x d) (hr:HRep K ι H h) (e:tyD d h=some t):TyOf K H x (.type t):=by
 cases r with
 | non=>cases e;exact .non
 | bl b=>cases e;exact .bl b
 | int b=>cases e;exact .int b
 | str b=>cases e;exact .str b
 | ty _=>cases e
 | tup hp r=>cases e;exact .tup hp
 | rol hp r=>cases e;obtain ⟨o,hp⟩:=hp;exact .frz hp
 | scr _ _=>cases e
 | rod _ _ _=>cases e
 | rdT _ _ _=>cases e
 | exc _ _ _=>cases e
 | ref hp =>
  obtain ⟨ob,e1,e2⟩:=hr.at hp
  cases ob with
  | lst xs=>simp only [tyD,e1] at e;cases e;obtain ⟨vs,h3,h4⟩:=e2;exact .lst h3
  | dK _=>simp only [tyD,e1] at e;cases e;obtain ⟨vs,h3,h4⟩:=e2;exact .dK h3
  | dT _=>simp only [tyD,e1] at e;cases e
theorem alj:abi K apn (fun xs H Q=>∃ x T t b,xs=[x, .ty T]∧TyOf K H x t∧PySem.W.kitOne K t (.type T)=some b∧Q (.bl b) H):=by
 intro E ι H h xs ds Q r hr o
 unfold apn at o
 split at o
 ·rename_i d T
  cases r with
  | cons r rs =>
   cases rs with
   | cons q rs =>
    cases q;cases rs
    cases ht:tyD d h with
    | none=>rw [ht] at o;exact o.elim
    | some t =>
     rw [ht] at o
     cases hb:ali t T with
     | none=>simp only [hb] at o;exact o.elim
     | some b =>
      simp only [hb] at o
      exact ⟨_,T, .type t,b,rfl,apo r hr ht,ae8 hb,ans o (.bl _) hr⟩
 ·exact o.elim
end
end MI
namespace MI
open PySem PySem.Spec L2
section
variable {X:Cx} {K:PySem.W.Frag} {E:XD} {a b e o:Expr} {es:List Expr} {fa fb fo:SE} {ka:SA} {pos apos cpos:Pos} {name:Str} {idn:String}
def atr (K:PySem.W.Frag) (g:D→List D→Hd→R D) (r:V→List V→Hp→VK→Prop):Prop:=∀ (E:XD) ι H h x dx xs ds Q,Rep K ι H x dx→Reps K ι H xs ds→HRep K ι H h→out K E (qt K) ι H (g dx ds h) Q→r x xs H Q
def isL (d:D) (h:Hd):Bool:=match d with | .ref i=>(match h[i]? with | some (.lst _)=>true | _=>false) | .rol _=>true | _=>false
def sML (g:D→List D→Hd→R D) (f:SE) (k:SA):SE:=fun τ h=>(f τ h).bind fun d h1=>if isL d h1=true then (k τ h1).bind fun ds h2=>g d ds h2 else .no
theorem apq {ι:List Addr} {H:Hp} {h:Hd} {x:V} {d:D} (r:Rep K ι H x d) (hr:HRep K ι H h) (e:isL d h=true):tyV K "list" x H:=by
 cases r with
 | rol hp _=>exact .inl ⟨rfl,_,hp.l⟩
 | ref hp =>
  obtain ⟨ob,e1,e2⟩:=hr.at hp
  cases ob with
  | lst xs=>obtain ⟨vs,h3,_⟩:=e2;exact .inl ⟨rfl,_,SqL.of h3⟩
  | dK _=>simp [isL,e1] at e
  | dT _=>simp [isL,e1] at e
 | _=>cases e
theorem abm {r:V→List V→Hp→VK→Prop} {g:D→List D→Hd→R D} (slot:Slot "list" name idn) (hty:typeOf (.builtin idn)=pure (.type "method_descriptor")) (hm:MtR X idn r) (hs:atr X.K g r) (ho:ME X E o fo) (ha:MA X E (e::es) ka)
  (hbase:attributeBase o name X.env (eval o X.env)=eval o X.env:=by rfl)
  (hfew:((backTo cpos (starEach (e::es) X.env)).all (fun x => !x.1) && (backToKw cpos (keywordEach [] X.env)).all (fun x=>x.1.isSome)
   && decide ((e::es).length+([]:List Keyword).length+(if ([]:List Keyword).isEmpty then 0 else 1)<30))=true:=by rfl)
  (hline:(apos.endLine == cpos.line)=true:=by rfl) (hst:starEach (e::es) X.env=(false,eval e X.env)::starEach es X.env:=by rfl) (hplain:(backTo cpos (starEach es X.env)).any (·.1)=false:=by rfl) :
  ME X E (.Call (.Attribute o name apos) (e::es) [] cpos) (sML g fo ka):=by
 refine PE.weak (atg PySem.F.plainAttrs_list slot hty hm ho ha hbase hfew hline hst hplain) fun σ H Q ⟨ι,τ,h,S,Rh,o⟩=>?_
 refine ⟨ι,τ,h,S,Rh,d7 o fun d h1 ι1 H1 v g1 r1 hr1 o1=>?_⟩
 by_cases hc:isL d h1=true
 ·rw [if_pos hc] at o1
  refine ⟨apq r1 hr1 hc,ι1,τ,h1,S.mono g1,hr1,d7 o1 fun ds h2 ι2 H2 vs g2 r2 hr2 o2=>?_⟩
  exact hs E ι2 H2 h2 v d vs ds Q (r1.mono g2) r2 hr2 o2
 ·rw [if_neg hc] at o1;exact o1.elim
def a8c:D→List D→Hd→R D
 | .ref i,[y],h=>(match h[i]? with | some (.lst xs)=>if xs.length<LINE then .ok .non (h.set i (.lst (xs++[y]))) else .no | _=>.no)
 | _,_,_=>.no
theorem a3h:atr K a8c adi:=by
 intro E ι H h x dx xs ds Q rx r hr o
 unfold a8c at o
 split at o
 ·rename_i i y
  cases rx with
  | @ref p _ hp =>
   cases r with
   | cons r1 rs =>
    cases rs
    split at o
    ·rename_i xs hx
     obtain ⟨vs,h3,h4⟩:=hr.lst hp hx
     split at o
     ·rename_i hc
      exact ⟨p,vs,_,rfl,rfl,h3,by rw [h4.len,al3];exact hc,al8 (h4.snoc r1) hr hp .non o⟩
     ·exact o.elim
    ·exact o.elim
 ·exact o.elim
def alk:List D→Option (List Str)
 | []=>some []
 | .str z::r=>(alk r).map (z::·)
 | _::_=>none
theorem ah8 {ι:List Addr} {H:Hp}:∀ {vs:List V} {xs:List D} {zs:List Str},Reps K ι H vs xs→alk xs=some zs→vs=zs.map V.str
 | _,_,_, .nil,e=>by cases e;rfl
 | _,_,zs, .cons (d:=d) r rs,e=>by
  cases r with
  | str z =>
   simp only [alk,Option.map_eq_some_iff] at e
   obtain ⟨ws,h1,rfl⟩:=e
   rw [ah8 rs h1];rfl
  | _=>cases e
theorem a4p {ι:List Addr} {H:Hp} (z:Str):Reps K ι H (xm z) (v7 z):=by
 unfold xm v7
 induction z.cps.toList with
 | nil=>exact .nil
 | cons c cs ih=>exact .cons (.str _) ih
def mz:List D→Hd→R D
 | [.str z],h=>if z.length≤LINE then .ok (.tup (v7 z)) h else .no
 | [x],h=>(match yx x h with | some xs=>.ok (.tup xs) h | none=>.no)
 | _,_=>.no
theorem yh:abi K mz (fun xs H Q=>(∃ p ys,xs=[.ref p]∧((SqL K H p ys∧∀ l,H l=none→Q (.ref l) (upd H l (.tup ys)))∨(SqT K H p ys∧Q (.ref p) H)))∨∃ z,xs=[.str z]∧z.length≤sizeLine∧∀ l,H l=none→Q (.ref l) (upd H l (.tup (xm z)))):=by
 intro E ι H h xs ds Q r hr o
 cases r with
 | nil=>exact o.elim
 | cons r rs =>
  cases rs with
  | cons _ _=>exact (show False by cases r<;>exact o).elim
  | nil =>
   cases r with
   | str z =>
    by_cases hc:z.length≤LINE
    ·simp only [mz,if_pos hc] at o;exact .inr ⟨z,rfl,ll hc,zy (a4p z) hr o⟩
    ·simp only [mz,if_neg hc] at o;exact o.elim
   | @tup p vs xs hp r=>simp only [mz,yx] at o;exact .inl ⟨p,vs,rfl, .inr ⟨SqT.of hp,ans o (.tup hp r) hr⟩⟩
   | @rol p vs xs hp r=>simp only [mz,yx] at o;exact .inl ⟨p,vs,rfl, .inl ⟨hp.l,zy r hr o⟩⟩
   | @ref p j hp =>
    obtain ⟨ob,e1,e2⟩:=hr.at hp
    cases ob with
    | lst xs =>
     simp only [mz,yx,e1] at o
     obtain ⟨vs,h3,h4⟩:=e2
     exact .inl ⟨p,vs,rfl, .inl ⟨SqL.of h3,zy h4 hr o⟩⟩
    | dK _=>simp only [mz,yx,e1] at o;exact o.elim
    | dT _=>simp only [mz,yx,e1] at o;exact o.elim
   | _=>exact o.elim
def ah9:List D→Option (List Bool)
 | []=>some []
 | .bl z::r=>(ah9 r).map (z::·)
 | _::_=>none
def a3i:List D→Option (List Int)
 | []=>some []
 | .int z::r=>(a3i r).map (z::·)
 | _::_=>none
theorem a8q {ι:List Addr} {H:Hp}:∀ {vs:List V} {xs:List D} {zs:List Bool},Reps K ι H vs xs→ah9 xs=some zs→vs=zs.map V.bl
 | _,_,_, .nil,e=>by cases e;rfl
 | _,_,zs, .cons (d:=d) r rs,e=>by
  cases r with
  | bl z =>
   simp only [ah9,Option.map_eq_some_iff] at e
   obtain ⟨ws,h1,rfl⟩:=e
   rw [a8q rs h1];rfl
  | _=>cases e
theorem a0i {ι:List Addr} {H:Hp}:∀ {vs:List V} {xs:List D} {zs:List Int},Reps K ι H vs xs→a3i xs=some zs→vs=zs.map V.int
 | _,_,_, .nil,e=>by cases e;rfl
 | _,_,zs, .cons (d:=d) r rs,e=>by
  cases r with
  | int z =>
   simp only [a3i,Option.map_eq_some_iff] at e
   obtain ⟨ws,h1,rfl⟩:=e
   rw [a0i rs h1];rfl
  | _=>cases e
theorem aha (bs:List Bool):ah9 (bs.map D.bl)=some bs:=by
 induction bs with
 | nil=>rfl
 | cons b bs ih=>simp [ah9,ih]
def apr:List D→Hd→R D
 | [.ref i],h=>(match h[i]? with | some (.lst xs)=>(match a3i xs with | some bs=>.ok (.int bs.sum) h | none=>.no) | _=>.no)
 | [.rol xs],h=>(match a3i xs with | some bs=>.ok (.int bs.sum) h | none=>.no)
 | _,_=>.no
theorem alm:abi K apr (fun xs H Q=>∃ (p:Addr) (ns:List Int),xs=[.ref p]∧SqL K H p (ns.map V.int)∧Q (.int ns.sum) H):=by
 intro E ι H h xs ds Q r hr o
 unfold apr at o
 split at o
 ·cases r with
  | cons r rs =>
   cases rs
   cases r with
   | @ref p _ hp =>
    split at o
    ·rename_i xs hx
     obtain ⟨vs,h3,h4⟩:=hr.lst hp hx
     split at o
     ·rename_i bs hb
      exact ⟨p,bs,rfl,SqL.of (by rw [h3,a0i h4 hb]),ans o (.int _) hr⟩
     ·exact o.elim
    ·exact o.elim
 ·cases r with
  | cons r rs =>
   cases rs
   cases r with
   | @rol p vs xs hp r =>
    split at o
    ·rename_i bs hb
     exact ⟨p,bs,rfl,by rw [← a0i r hb];exact hp.l,ans o (.int _) hr⟩
    ·exact o.elim
 ·exact o.elim
end
end MI
theorem L2.Room.u {k:Nat} {A:PySem.Around} (r:L2.Room k A):A.units+64<PySem.cLine:=r.units
namespace MI
open PySem PySem.Spec L2
mutual
def eqD:D→D→Bool
 | .non, .non=>true
 | .bl a, .bl b=>a == b
 | .bl a, .int b=>(if a then 1 else 0) == b
 | .int a, .bl b=>a == (if b then 1 else 0)
 | .int a, .int b=>a == b
 | .str a, .str b=>a == b
 | .tup xs, .tup ys=>aa4 xs ys
 | _,_=>false
def aa4:List D→List D→Bool
 | [],[]=>true
 | x::xs,y::ys=>eqD x y && aa4 xs ys
 | _,_=>false
end
def pur:Nat→D→Bool
 | _, .non=>true
 | _, .bl _=>true
 | _, .int _=>true
 | _, .str _=>true
 | n+1, .tup xs=>xs.all (pur n)
 | _,_=>false
def pairE (xs ys:List D) (j:Nat):Bool:=match xs[j]?,ys[j]? with | some x,some y=>eqD x y | _,_=>false
theorem a0j:∀ xs ys:List D,((List.range (min xs.length ys.length)).all (pairE xs ys) && xs.length == ys.length)=aa4 xs ys
 | [],[]=>by simp [aa4]
 | [],_::_=>by simp [aa4]
 | _::_,[]=>by simp [aa4]
 | x::xs,y::ys=>by
  have ih:=a0j xs ys
  rw [show min (x::xs).length (y::ys).length=min xs.length ys.length+1 by simp only [List.length_cons];omega,List.range_succ_eq_map]
  rw [List.all_cons,List.all_map]
  have e:(pairE (x::xs) (y::ys) ∘ Nat.succ)=pairE xs ys:=by funext j;simp [pairE]
  rw [e]
  simp only [aa4]
  rw [← ih]
  have e2:((x::xs).length == (y::ys).length)=(xs.length == ys.length):=by simp
  rw [e2,Bool.and_assoc]
  rfl
section
variable {K:PySem.W.Frag} {ι:List Addr} {H:Hp}
theorem ahb:∀ (n:Nat) {v:V} {d e:D},Rep K ι H v d→Rep K ι H v e→pur n d=true→pur n e=true→eqD d e=true:=by
 intro n
 induction n with
 | zero=>intro v d e r q p1 p2;cases r<;>cases q<;>first | (simp [eqD];done) | (cases p1;done) | (cases p2;done)
 | succ n ih =>
  intro v d e r q p1 p2
  cases r with
  | @tup a vs xs h rs =>
   cases q with
   | @tup _ us ys h' qs =>
    rw [h] at h';cases h'
    simp only [eqD]
    simp only [pur,List.all_eq_true] at p1 p2
    clear h
    induction rs using Reps.rec (motive_1:=fun _ _ _=>True) generalizing ys with
    | nil=>cases qs;rfl
    | cons r rs _ ih2 =>
     cases qs with
     | cons q qs =>
      simp only [aa4,Bool.and_eq_true]
      exact ⟨ih r q (p1 _ (List.mem_cons_self ..)) (p2 _ (List.mem_cons_self ..)),ih2 qs (fun x hx=>p1 x (List.mem_cons_of_mem _ hx)) (fun x hx=>p2 x (List.mem_cons_of_mem _ hx))⟩
    | _=>trivial
   | _=>cases p2
  | _=>cases q<;>first | (simp [eqD];done) | (cases p1;done) | (cases p2;done)
theorem a1p {n:Nat} {v:V} {d:D} (r:Rep K ι H v d) (p:pur n d=true):(∃ xs,d = .tup xs)∨(zu v=true∧vy d=true):=by
 cases r<;>first | exact .inr ⟨rfl,rfl⟩ | exact .inl ⟨_,rfl⟩ | (cases n<;>cases p)
theorem a5q {x y:V} {d e:D} (r:Rep K ι H x d) (q:Rep K ι H y e) (f:vy d=true) (g:vy e=true):eqV x y=eqD d e:=by
 cases r<;>cases q<;>first | rfl | (simp [eqV,eqD];done) | (cases f;done) | (cases g;done)
open SeqAt in
theorem aji {P:Program} {w:World} {s:Shared} (hok:HOk P w H s.heap):∀ (n:Nat) (A:Around) {x y:V} {u v:Value} {d e:D},Rep K ι H x d→Rep K ι H y e→RelV x u→RelV y v→pur n d=true→pur n e=true→A.units+n<cLine→EqAt A s u v (eqD d e):=by
 intro n
 induction n with
 | zero =>
  intro A x y u v d e r q rx ry p1 p2 hu
  rcases a1p r p1 with ⟨xs,rfl⟩ | ⟨f1,f2⟩
  ·cases p1
  ·rcases a1p q p2 with ⟨xs,rfl⟩ | ⟨g1,g2⟩
   ·cases p2
   ·rw [← a5q r q f2 g2];exact adg rx ry f1 g1
 | succ n ih =>
  intro A x y u v d e r q rx ry p1 p2 hu
  rcases a1p r p1 with ⟨xs,rfl⟩ | ⟨f1,f2⟩
  ·cases r with
   | @tup a vs _ ha rs =>
    cases rx
    obtain ⟨_,its,r1,t1⟩:=(Rd.of ha).ok hok
    rcases a1p q p2 with ⟨ys,rfl⟩ | ⟨g1,g2⟩
    ·cases q with
     | @tup b us _ hb qs =>
      cases ry
      obtain ⟨_,its2,r2,t2⟩:=(Rd.of hb).ok hok
      by_cases hab:a=b
      ·subst hab
       rw [ahb (n+1) (.tup ha rs) (.tup hb qs) p1 p2]
       exact EqAt.same _
      ·have l1:its.toArray.size=xs.length:=by rw [List.size_toArray,← r1.length,rs.len]
       have l2:its2.toArray.size=ys.length:=by rw [List.size_toArray,← r2.length,qs.len]
       have:=RcAt.tuples (A:=A) (s:=s) (e:=pairE xs ys) t1 t2 (by omega) (fun j h1 h2=>by
        have j1:j<xs.length:=by omega
        have j2:j<ys.length:=by omega
        obtain ⟨v1,e1,q1⟩:=rs.get (List.getElem?_eq_getElem j1)
        obtain ⟨v2,e2,q2⟩:=qs.get (List.getElem?_eq_getElem j2)
        obtain ⟨u1,e3,q3⟩:=r1.get e1
        obtain ⟨u2,e4,q4⟩:=r2.get e2
        have f1:its.toArray[j]=u1:=by simpa using (List.getElem?_eq_some_iff.mp e3).2
        have f2:its2.toArray[j]=u2:=by simpa using (List.getElem?_eq_some_iff.mp e4).2
        have pe:pairE xs ys j=eqD xs[j] ys[j]:=by simp [pairE,List.getElem?_eq_getElem j1,List.getElem?_eq_getElem j2]
        rw [f1,f2,pe]
        simp only [pur,List.all_eq_true] at p1 p2
        exact ih A.in1 q1 q2 q3 q4 (p1 _ (List.getElem_mem j1)) (p2 _ (List.getElem_mem j2)) (by rw [Around.in1_units];omega))
       rw [l1,l2,a0j] at this
       exact EqAt.of_refs hab this
    ·have e0:eqD (.tup xs) e=false:=by cases e<;>first | rfl | (cases g2;done)
     rw [e0]
     cases y with
     | non=>cases ry;exact EqAt.tuple_none t1 (by omega)
     | bl b=>cases ry;exact EqAt.tuple_bool b t1 (by omega)
     | int b=>obtain ⟨t,rfl⟩:=ry;exact EqAt.tuple_int b t t1 (by omega)
     | str b=>obtain ⟨t,rfl⟩:=ry;exact EqAt.tuple_str b t t1 (by omega)
     | _=>cases g1
  ·rcases a1p q p2 with ⟨ys,rfl⟩ | ⟨g1,g2⟩
   ·cases q with
    | @tup b us _ hb qs =>
     cases ry
     obtain ⟨_,its2,r2,t2⟩:=(Rd.of hb).ok hok
     have e0:eqD d (.tup ys)=false:=by cases d<;>first | rfl | (cases f2;done)
     rw [e0]
     cases x with
     | non=>cases rx;exact EqAt.none_tuple t2 (by omega)
     | bl b=>cases rx;exact EqAt.bool_tuple b t2 (by omega)
     | int b=>obtain ⟨t,rfl⟩:=rx;exact EqAt.int_tuple b t t2 (by omega)
     | str b=>obtain ⟨t,rfl⟩:=rx;exact EqAt.str_tuple b t t2 (by omega)
     | _=>cases f1
   ·rw [← a5q r q f2 g2];exact adg rx ry f1 g1
open SeqAt in
theorem aps {A:Around} {s:Shared} {y x:V} {u v:Value} (ry:RelV y u) (rx:RelV x v) (fy:zu y=true) (fx:zu x=true):RcAt A s u v (eqV y x):=by
 cases y with
 | non =>
  cases ry
  cases x with
  | non=>cases rx;exact RcAt.none_none
  | bl b=>cases rx;exact RcAt.none_bool b
  | int b=>obtain ⟨t,rfl⟩:=rx;exact RcAt.none_int b t
  | str b=>obtain ⟨t,rfl⟩:=rx;exact RcAt.none_str b t
  | _=>cases fx
 | bl a =>
  cases ry
  cases x with
  | non=>cases rx;exact RcAt.bool_none a
  | bl b=>cases rx;exact RcAt.bool_bool a b
  | int b=>obtain ⟨t,rfl⟩:=rx;exact RcAt.bool_int a b t
  | str b=>obtain ⟨t,rfl⟩:=rx;exact RcAt.bool_str a b t
  | _=>cases fx
 | int a =>
  obtain ⟨t',rfl⟩:=ry
  cases x with
  | non=>cases rx;exact RcAt.int_none a t'
  | bl b=>cases rx;exact RcAt.int_bool a t' b
  | int b=>obtain ⟨t,rfl⟩:=rx;exact RcAt.int_int a t' b t
  | str b=>obtain ⟨t,rfl⟩:=rx;exact RcAt.int_str a t' b t
  | _=>cases fx
 | str a =>
  obtain ⟨t',rfl⟩:=ry
  cases x with
  | non=>cases rx;exact RcAt.str_none a t'
  | bl b=>cases rx;exact RcAt.str_bool a t' b
  | int b=>obtain ⟨t,rfl⟩:=rx;exact RcAt.str_int a t' b t
  | str b=>obtain ⟨t,rfl⟩:=rx;exact RcAt.str_str a t' b t
  | _=>cases fx
 | _=>cases fy
open SeqAt in
theorem ahc {A:Around} {s:Shared} {y x:V} {u v:Value} (ry:RelV y u) (rx:RelV x v) (fy:zu y=true) (fx:zu x=true):RcNeAt A s u v (!eqV y x):=by
 cases y with
 | non =>
  cases ry
  cases x with
  | non=>cases rx;exact RcNeAt.none_none
  | bl b=>cases rx;exact RcNeAt.none_bool b
  | int b=>obtain ⟨t,rfl⟩:=rx;exact RcNeAt.none_int b t
  | str b=>obtain ⟨t,rfl⟩:=rx;exact RcNeAt.none_str b t
  | _=>cases fx
 | bl a =>
  cases ry
  cases x with
  | non=>cases rx;exact RcNeAt.bool_none a
  | bl b=>cases rx;exact RcNeAt.bool_bool a b
  | int b=>obtain ⟨t,rfl⟩:=rx;exact RcNeAt.bool_int a b t
  | str b=>obtain ⟨t,rfl⟩:=rx;exact RcNeAt.bool_str a b t
  | _=>cases fx
 | int a =>
  obtain ⟨t',rfl⟩:=ry
  cases x with
  | non=>cases rx;exact RcNeAt.int_none a t'
  | bl b=>cases rx;exact RcNeAt.int_bool a t' b
  | int b=>obtain ⟨t,rfl⟩:=rx;exact RcNeAt.int_int a t' b t
  | str b=>obtain ⟨t,rfl⟩:=rx;exact RcNeAt.int_str a t' b t
  | _=>cases fx
 | str a =>
  obtain ⟨t',rfl⟩:=ry
  cases x with
  | non=>cases rx;exact RcNeAt.str_none a t'
  | bl b=>cases rx;exact RcNeAt.str_bool a t' b
  | int b=>obtain ⟨t,rfl⟩:=rx;exact RcNeAt.str_int a t' b t
  | str b=>obtain ⟨t,rfl⟩:=rx;exact RcNeAt.str_str a t' b t
  | _=>cases fx
 | _=>cases fy
open SeqAt in
theorem tops {P:Program} {w:World} {s:Shared} {A:Around} (hok:HOk P w H s.heap) {x y:V} {u v:Value} {d e:D} (r:Rep K ι H x d) (q:Rep K ι H y e) (rx:RelV x u) (ry:RelV y v) (p1:pur 60 d=true) (p2:pur 60 e=true) (hu:A.units+64<cLine) :
  RcAt A s u v (eqD d e)∧RcNeAt A s u v (!eqD d e):=by
 rcases a1p r p1 with ⟨xs,rfl⟩ | ⟨f1,f2⟩
 ·cases r with
  | @tup a vs _ ha rs =>
   cases rx
   obtain ⟨_,its,r1,t1⟩:=(Rd.of ha).ok hok
   rcases a1p q p2 with ⟨ys,rfl⟩ | ⟨g1,g2⟩
   ·cases q with
    | @tup b us _ hb qs =>
     cases ry
     obtain ⟨_,its2,r2,t2⟩:=(Rd.of hb).ok hok
     have l1:its.toArray.size=xs.length:=by rw [List.size_toArray,← r1.length,rs.len]
     have l2:its2.toArray.size=ys.length:=by rw [List.size_toArray,← r2.length,qs.len]
     have step:∀ j (h1:j<its.toArray.size) (h2:j<its2.toArray.size),EqAt A.in1 s its.toArray[j] its2.toArray[j] (pairE xs ys j):=fun j h1 h2=>by
      have j1:j<xs.length:=by omega
      have j2:j<ys.length:=by omega
      obtain ⟨v1,e1,q1⟩:=rs.get (List.getElem?_eq_getElem j1)
      obtain ⟨v2,e2,q2⟩:=qs.get (List.getElem?_eq_getElem j2)
      obtain ⟨u1,e3,q3⟩:=r1.get e1
      obtain ⟨u2,e4,q4⟩:=r2.get e2
      have f1:its.toArray[j]=u1:=by simpa using (List.getElem?_eq_some_iff.mp e3).2
      have f2:its2.toArray[j]=u2:=by simpa using (List.getElem?_eq_some_iff.mp e4).2
      have pe:pairE xs ys j=eqD xs[j] ys[j]:=by simp [pairE,List.getElem?_eq_getElem j1,List.getElem?_eq_getElem j2]
      rw [f1,f2,pe]
      simp only [pur,List.all_eq_true] at p1 p2
      exact aji hok 59 A.in1 q1 q2 q3 q4 (p1 _ (List.getElem_mem j1)) (p2 _ (List.getElem_mem j2)) (by rw [Around.in1_units];omega)
     have c1:=RcAt.tuples (A:=A) (s:=s) (e:=pairE xs ys) t1 t2 (by omega) step
     have c2:=RcNeAt.tuples (A:=A) (s:=s) (e:=pairE xs ys) t1 t2 (by omega) step
     rw [l1,l2,a0j] at c1 c2
     exact ⟨c1,c2⟩
   ·have e0:eqD (.tup xs) e=false:=by cases e<;>first | rfl | (cases g2;done)
    rw [e0]
    cases y with
    | non=>cases ry;exact ⟨RcAt.tuple_none t1 (by omega),RcNeAt.tuple_none t1 (by omega)⟩
    | bl b=>cases ry;exact ⟨RcAt.tuple_bool b t1 (by omega),RcNeAt.tuple_bool b t1 (by omega)⟩
    | int b=>obtain ⟨t,rfl⟩:=ry;exact ⟨RcAt.tuple_int b t t1 (by omega),RcNeAt.tuple_int b t t1 (by omega)⟩
    | str b=>obtain ⟨t,rfl⟩:=ry;exact ⟨RcAt.tuple_str b t t1 (by omega),RcNeAt.tuple_str b t t1 (by omega)⟩
    | _=>cases g1
 ·rcases a1p q p2 with ⟨ys,rfl⟩ | ⟨g1,g2⟩
  ·cases q with
   | @tup b us _ hb qs =>
    cases ry
    obtain ⟨_,its2,r2,t2⟩:=(Rd.of hb).ok hok
    have e0:eqD d (.tup ys)=false:=by cases d<;>first | rfl | (cases f2;done)
    rw [e0]
    cases x with
    | non=>cases rx;exact ⟨RcAt.none_tuple t2 (by omega),RcNeAt.none_tuple t2 (by omega)⟩
    | bl b=>cases rx;exact ⟨RcAt.bool_tuple b t2 (by omega),RcNeAt.bool_tuple b t2 (by omega)⟩
    | int b=>obtain ⟨t,rfl⟩:=rx;exact ⟨RcAt.int_tuple b t t2 (by omega),RcNeAt.int_tuple b t t2 (by omega)⟩
    | str b=>obtain ⟨t,rfl⟩:=rx;exact ⟨RcAt.str_tuple b t t2 (by omega),RcNeAt.str_tuple b t t2 (by omega)⟩
    | _=>cases f1
  ·rw [← a5q r q f2 g2];exact ⟨aps rx ry f1 g1,ahc rx ry f1 g1⟩
def aus (K:PySem.W.Frag):R2:=fun x y H Q=>∃ ι d e,Rep K ι H x d∧Rep K ι H y e∧pur 60 d=true∧pur 60 e=true∧Q (.bl (eqD d e)) H
def aut (K:PySem.W.Frag):R2:=fun x y H Q=>∃ ι d e,Rep K ι H x d∧Rep K ι H y e∧pur 60 d=true∧pur 60 e=true∧Q (.bl (!eqD d e)) H
theorem a1q {X:Cx} (hu:X.A.units+64<cLine):OpR X (compareOp .Eq) (aus X.K):=by
 intro pins s σ H x y v u Q I rx ry h
 obtain ⟨ι,d,e,r,q,p1,p2,hq⟩:=h
 exact (tops (A:=X.A) I.hok r q rx ry p1 p2 hu).1 X.prog X.w X.xe _ ⟨.bl _,H,I,rfl,hq⟩
theorem ae9 {X:Cx} (hu:X.A.units+64<cLine):OpR X (compareOp .NotEq) (aut X.K):=by
 intro pins s σ H x y v u Q I rx ry h
 obtain ⟨ι,d,e,r,q,p1,p2,hq⟩:=h
 exact (tops (A:=X.A) I.hok r q rx ry p1 p2 hu).2 X.prog X.w X.xe _ ⟨.bl _,H,I,rfl,hq⟩
def hEq (x y:D) (h:Hd):R D:=if pur 60 x=true∧pur 60 y=true then .ok (.bl (eqD x y)) h else .no
def hNe (x y:D) (h:Hd):R D:=if pur 60 x=true∧pur 60 y=true then .ok (.bl (!eqD x y)) h else .no
theorem yj:a0e K hEq (aus K):=by
 intro E ι H h x y dx dy Q rx ry hr o
 unfold hEq at o
 split at o
 ·rename_i hc;exact ⟨ι,dx,dy,rx,ry,hc.1,hc.2,ans o (.bl _) hr⟩
 ·exact o.elim
theorem a8r:a0e K hNe (aut K):=by
 intro E ι H h x y dx dy Q rx ry hr o
 unfold hNe at o
 split at o
 ·rename_i hc;exact ⟨ι,dx,dy,rx,ry,hc.1,hc.2,ans o (.bl _) hr⟩
 ·exact o.elim
end
section
variable {X:Cx} {E:XD} {K:PySem.W.Frag}
def a0x:D→D→Hd→R D
 | .int i, .int j,h=>.ok (.int (i+j)) h
 | .str x, .str y,h=>if x.length+y.length≤LINE then .ok (.str (x++y)) h else .no
 | _,_,_=>.no
theorem a0k:a0e K a0x (fun x y H Q=>rI0 (fun i j=>.int (i+j)) x y H Q∨∃ i j,x = .str i∧y = .str j∧i.length+j.length≤sizeLine∧Q (.str (i++j)) H):=by
 intro E ι H h x y dx dy Q rx ry hr o
 cases rx with
 | int i =>
  cases ry with
  | int j=>exact .inl ⟨i,j,rfl,rfl,ans o (.int _) hr⟩
  | _=>exact o.elim
 | str i =>
  cases ry with
  | str j =>
   by_cases hc:i.length+j.length≤LINE
   ·simp only [a0x,if_pos hc] at o;exact .inr ⟨i,j,rfl,rfl,ll hc,ans o (.str _) hr⟩
   ·simp only [a0x,if_neg hc] at o;exact o.elim
  | _=>exact o.elim
 | _=>exact o.elim
theorem apt:bootBuiltins "max" = some (.builtin "max"):=by first | exact PySem.boot_max | exact PyProof.Rows.boot_max
theorem apu:bootBuiltins "min" = some (.builtin "min"):=by first | exact PySem.boot_min | exact PyProof.Rows.boot_min
theorem aln:bootBuiltins "bool" = some (.type "bool"):=by first | exact PySem.boot_bool | exact PyProof.Rows.boot_bool
theorem apv:bootBuiltins "sum" = some (.builtin "sum"):=by first | exact PySem.boot_sum | exact PyProof.Rows.boot_sum
theorem m5 {e:Expr} {es:List Expr} {g:SG} {ks:SGs} (h1:MG X E e g) (h2:MGs X E es ks) (hs:(assignEach (e::es) X.env).map (·.2)=assign e X.env::(assignEach es X.env).map (·.2):=by rfl):MGs X E (e::es) (jw g ks) :=
 PGs.weak (a08 h1 h2 hs) fun vs σ H Q q=>ah4 q
end
end MI
namespace ZP
open PySem PySem.Spec PySem.Builtin PySem.Builtin.SmallTypes
section
variable {prog:Program} {w:World} {A:Around} {E:Value→Shared→Prop} {s:Shared}
theorem alo {α:Type} {Q:α→Shared→Prop} (hh:A.handled=none) (q:∀ h' e,(∀ b o,s.heap.get? b=some o→h'.get? b=some o)→(∃ o,h'.get? e=some o∧o.cls = .type "StopIteration")→E (.ref e) { s with heap:=h' }) :
  wpAny (model prog w) A (stopIteration:Sem α) Q E s:=by
 have none_first:firstArgMember (.type "StopIteration") []=pure Value.none:=by first | rfl | (simp only [firstArgMember];rfl)
 rw [stopIteration]
 apply wpAny_bind
 rw [newExc,newTuple]
 apply wpAny_bind
 apply wpAny_newObj_type _ (by size_fits)
 rw [none_first,pure_bind]
 apply wpAny_newObj_type _ (by size_fits)
 apply wpAny_raiseNew_none hh
 exact q _ _ (fun b o z=>Heap.get?_push_of_some _ (Heap.get?_push_of_some _ z)) ⟨_,Heap.get?_push_size _ rfl,rfl⟩
theorem ahd {it t:Addr} {i:Nat} {items:Array Value} {x:Value} {Q:Value→Shared→Prop} (hi:s.heap.IsTupleIter it t i) (ht:s.heap.IsTuple t items) (hx:items[i]? = some x)
  (q:∀ h',h'.IsTupleIter it t (i+1)→Heap.SameBut it s.heap h'→Q x { s with heap:=h' }):wpAny (model prog w) A (nextOf (.ref it)) Q E s:=by
 have ty:=hi.typeIs
 obtain ⟨o,e1,e2,e3⟩:=id hi
 obtain ⟨p,f1,f2,n,f3⟩:=ht
 rw [nextOf]
 apply wpAny_bind
 apply wpAny_callSpecial?_slot (name:=Str.ofString "__next__") ty F.slot_tuple_iterator_next
 apply wpAny_call_entry F.slot_tuple_iterator_next ty F.entry_tuple_iterator_next _ (F.args_tuple_iterator_next_1 _)
 change wpAny (model prog w) A.in1 (field (.ref it) 0>>=_) _ _ _
 apply wpAny_bind;apply wpAny_field e1 e3 (x:=.ref t) rfl
 change wpAny (model prog w) A.in1 (field (.ref it) 1>>=_) _ _ _
 apply wpAny_bind;apply wpAny_field e1 e3 (x:=.int i 0) rfl
 change wpAny (model prog w) A.in1 (seqItems? (.ref t)>>=_) _ _ _
 apply wpAny_bind;apply wpAny_seqItems f1 f3
 dsimp only
 rw [Int.toNat_natCast,hx]
 apply wpAny_bind
 obtain ⟨c,dd,dt,sl⟩:=o
 simp only at e2 e3
 subst e2 e3
 apply wpAny_setField e1 rfl (Nat.lt_succ_self 1)
 apply wpAny_pure
 exact ⟨x,rfl,wpAny_pure (q _ ⟨_,Heap.get?_update_self _ e1 rfl,rfl,rfl⟩ (Heap.SameBut.update ..))⟩
theorem alp {it t:Addr} {i:Nat} {items:Array Value} {Q:Value→Shared→Prop} (hh:A.handled=none) (hi:s.heap.IsTupleIter it t i) (ht:s.heap.IsTuple t items) (hx:items[i]? = none)
  (q:∀ h' e,Heap.ExtBut it s.heap h'→(∃ o,h'.get? e=some o∧o.cls = .type "StopIteration")→E (.ref e) { s with heap:=h' }):wpAny (model prog w) A (nextOf (.ref it)) Q E s:=by
 have ty:=hi.typeIs
 obtain ⟨o,e1,e2,e3⟩:=id hi
 obtain ⟨p,f1,f2,n,f3⟩:=ht
 rw [nextOf]
 apply wpAny_bind
 apply wpAny_callSpecial?_slot (name:=Str.ofString "__next__") ty F.slot_tuple_iterator_next
 apply wpAny_call_entry F.slot_tuple_iterator_next ty F.entry_tuple_iterator_next _ (F.args_tuple_iterator_next_1 _)
 change wpAny (model prog w) A.in1 (field (.ref it) 0>>=_) _ _ _
 apply wpAny_bind;apply wpAny_field e1 e3 (x:=.ref t) rfl
 change wpAny (model prog w) A.in1 (field (.ref it) 1>>=_) _ _ _
 apply wpAny_bind;apply wpAny_field e1 e3 (x:=.int i 0) rfl
 change wpAny (model prog w) A.in1 (seqItems? (.ref t)>>=_) _ _ _
 apply wpAny_bind;apply wpAny_seqItems f1 f3
 dsimp only
 rw [Int.toNat_natCast,hx]
 dsimp only
 obtain ⟨c,dd,dt,sl⟩:=o
 simp only at e2 e3
 subst e2 e3
 apply wpAny_bind;apply wpAny_rule
 apply wpAny_bind;apply wpAny_setField e1 rfl (Nat.succ_pos 1)
 apply alo (show A.in1.handled=none from hh)
 exact fun h' e k z=>q h' e (fun b o nb eb=>k b o ((Heap.SameBut.update ..).extBut b o nb eb)) z
theorem aea {prog:Program} {w:World} {A:Around} (hh:A.handled=none) (it t:Addr) (ne:t≠it) (items:Array Value):Draws prog w A it [it,t] items.size (fun i v=>items[i]? = some v) (fun i h=>h.IsTupleIter it t i∧h.IsTuple t items) where
 live:=fun _ _ st=>let ⟨o,e,_⟩:=st.1; ⟨o,e⟩
 frame:=fun _ _ _ st k=>⟨let ⟨o,e,r⟩:=st.1; ⟨o,k it (by simp) o e,r⟩,let ⟨o,e,r⟩:=st.2; ⟨o,k t (by simp) o e,r⟩⟩
 item:=fun i s Q E hi st q=>ahd st.1 st.2 (Array.getElem?_eq_getElem hi) fun h' a b=>q _ h' s.toks (Array.getElem?_eq_getElem hi) ⟨a,st.2.extBut b.extBut ne⟩ b
 done:=fun s Q E st q=>alp hh st.1 st.2 (by simp) q
end
end ZP
namespace ZP
open PySem PySem.Spec PySem.Builtin PySem.Builtin.SmallTypes
structure Ap (z TI TO i1 i2:Addr) (p q:List Addr):Prop where
 m1:i1∈p
 m2:i2∈q
 z1:z ∉ p
 z2:z ∉ q
 o1:TO ∉ p
 o2:TO ∉ q
 oz:TO≠z
 x1:i1 ∉ q
 x2:i2 ∉ p
section
variable {prog:Program} {w:World} {A:Around} {E:Value→Shared→Prop} {s:Shared} {z TI TO i1 i2:Addr} {p q:List Addr} {n1 n2 k:Nat} {P1 P2:Nat→Value→Prop} {S1 S2:Nat→Heap→Prop} {a b:Value}
theorem far {D:Draws prog w A i1 p n1 P1 S1} {h h':Heap} {c:Addr} (sb:Heap.SameBut c h h') (nc:c ∉ p) (st:S1 k h):S1 k h':=D.frame _ _ _ st fun x hx o e=>sb.extBut x o (fun y=>nc (y ▸ hx)) e
theorem aeb {Q:Fin→Shared→Prop} (hz:IsZip s.heap z TI TO .none) (hi:IsPair s.heap TI (.ref i1) (.ref i2)) (ho:IsPair s.heap TO a b) (oz:TO≠z)
  (go:∀ h1,IsZip h1 z TI TO .ellipsis→Heap.SameBut z s.heap h1→wpAny (model prog w) A (nextOf (.ref i1))
   (fun x s2=>IsPair s2.heap TO a b∧∀ h3,IsPair h3 TO x b→Heap.SameBut TO s2.heap h3→wpAny (model prog w) A (nextOf (.ref i2))
    (fun y s4=>IsPair s4.heap TO x b∧∀ h5,IsPair h5 TO x y→Heap.SameBut TO s4.heap h5→IsZip h5 z TI TO .ellipsis∧∀ h8,IsZip h8 z TI TO (rawInt h5.objs.size)→IsPair h8 h5.objs.size x y→h8.objs.size=h5.objs.size+1 →
     (∀ c o,c≠z→h5.get? c=some o→h8.get? c=some o)→Q (.done (.ret (.ref h5.objs.size))) { s4 with heap:=h8 })
    (fun e s4=>wpAny (model prog w) A (setField (.ref z) 0 .none) (fun _ s5=>E e s5) E s4) { s2 with heap:=h3 })
   (fun e s2=>wpAny (model prog w) A (setField (.ref z) 0 .none) (fun _ s3=>E e s3) E s2) { s with heap:=h1 }) :
  wpAny (model prog w) A (Builtin.«zip.__next__» ⟨[.ref z],[]⟩) Q E s:=by
 change wpAny (model prog w) A (field (.ref z) 2>>=_) _ _ _
 apply wpAny_bind;apply wpAny_field hz rfl (x:=.bool false) rfl
 change wpAny (model prog w) A (field (.ref z) 3>>=_) _ _ _
 apply wpAny_bind;apply wpAny_field hz rfl (x:=.ref TI) rfl
 apply wpAny_bind;apply wpAny_seqItems hi rfl
 change wpAny (model prog w) A (ownedTupleIsFree (.ref z)>>=_) _ _ _
 apply wpAny_bind
 rw [ownedTupleIsFree]
 apply wpAny_bind;apply wpAny_field hz rfl (x:=.none) rfl
 apply wpAny_pure
 rw [if_pos rfl]
 apply wpAny_bind;apply wpAny_rule
 apply wpAny_bind;apply wpAny_field hz rfl (x:=.ref TO) rfl
 apply wpAny_bind;apply wpAny_setField_rec hz (Nat.succ_pos _)
 intro h1 z1 b1
 apply wpAny_bind
 simp only [List.zipIdx_cons,List.zipIdx_nil,List.forIn_cons,List.forIn_nil]
 apply wpAny_bind;apply wpAny_bind;apply wpAny_onRaise
 change wpAny (model prog w) A (nextOf (.ref i1)>>=_) _ _ _
 apply wpAny_bind
 apply wpAny_mono (go h1 z1 b1) _ fun _ _ r=>r
 rintro x s2 ⟨o2,g2⟩
 apply wpAny_pure
 apply wpAny_bind;apply wpAny_seqItems o2 rfl
 apply wpAny_bind;apply wpAny_updateSeq_pair o2
 intro h3 o3 b3
 apply wpAny_bind;apply wpAny_letGo;apply wpAny_pure
 apply wpAny_bind;apply wpAny_bind;apply wpAny_onRaise
 change wpAny (model prog w) A (nextOf (.ref i2)>>=_) _ _ _
 apply wpAny_bind
 apply wpAny_mono (g2 h3 o3 b3) _ fun _ _ r=>r
 rintro y s4 ⟨o4,g4⟩
 apply wpAny_pure
 apply wpAny_bind;apply wpAny_seqItems o4 rfl
 apply wpAny_bind;apply wpAny_updateSeq_pair o4
 intro h5 o5 b5
 obtain ⟨z5,g5⟩:=g4 h5 o5 b5
 apply wpAny_bind;apply wpAny_letGo;apply wpAny_pure;apply wpAny_pure
 apply wpAny_bind;apply wpAny_seqItems o5 rfl
 apply wpAny_bind;refine wpAny_newTuple ?_ (by show 2≤sizeLine;decide)
 change wpAny (model prog w) A (ownedTupleHandOut (.ref z) (.ref h5.objs.size)>>=_) _ _ _
 apply wpAny_bind
 rw [ownedTupleHandOut]
 have z6:IsZip (h5.push { cls:=.type "tuple",data:=.seq #[x,y] }) z TI TO .ellipsis:=Heap.get?_push_of_some _ z5
 have lt:z<h5.objs.size:=Heap.lt_size z5
 apply wpAny_bind;apply wpAny_setField_rec z6 (Nat.succ_pos _)
 intro h7 z7 b7
 apply wpAny_setField_rec z7 (by show 1<5;decide)
 intro h8 z8 b8
 apply wpAny_pure
 refine g5 h8 z8 (b8.extBut _ _ (Nat.ne_of_gt lt) (b7.extBut _ _ (Nat.ne_of_gt lt) (Heap.get?_push_size _ rfl))) ?_ fun c o nc e=>b8.extBut _ _ nc (b7.extBut _ _ nc (Heap.get?_push_of_some _ e))
 rw [b8.1,b7.1,Heap.size_push]
theorem ahe {Q:Value→Shared→Prop} (D1:Draws prog w A i1 p n1 P1 S1) (D2:Draws prog w A i2 q n2 P2 S2) (ap:Ap z TI TO i1 i2 p q) (hz:IsZip s.heap z TI TO .none) (hi:IsPair s.heap TI (.ref i1) (.ref i2)) (ho:IsPair s.heap TO a b)
  (s1:S1 k s.heap) (s2:S2 k s.heap) (k1:k<n1) (k2:k<n2)
  (hQ:∀ x y h' tk,P1 k x→P2 k y→IsZip h' z TI TO (rawInt s.heap.objs.size)→IsPair h' TO x y→S1 (k+1) h'→S2 (k+1) h'→IsPair h' s.heap.objs.size x y→h'.objs.size=s.heap.objs.size+1 →
   (∀ c o,c≠z→c≠TO→c≠i1→c≠i2→s.heap.get? c=some o→h'.get? c=some o)→Q (.ref s.heap.objs.size) { s with heap:=h',toks:=tk }) :
  wpAny (model prog w) A (Builtin.«zip.__next__» ⟨[.ref z],[]⟩) (fun fin s'=>∃ v,fin = .done (.ret v)∧Q v s') E s:=by
 have ni1:i1≠z:=fun e=>ap.z1 (e ▸ ap.m1)
 have ni2:i2≠z:=fun e=>ap.z2 (e ▸ ap.m2)
 have no1:TO≠i1:=fun e=>ap.o1 (e ▸ ap.m1)
 have no2:TO≠i2:=fun e=>ap.o2 (e ▸ ap.m2)
 refine aeb hz hi ho ap.oz fun h1 z1 b1=>?_
 refine D1.item k _ _ _ k1 (far (D:=D1) b1 ap.z1 s1) fun x h2 t2 px st2 b2=>?_
 refine ⟨b2.extBut _ _ no1 (b1.extBut _ _ ap.oz ho),fun h3 o3 b3=>?_⟩
 refine D2.item k _ _ _ k2 (far (D:=D2) b3 ap.o2 (far (D:=D2) b2 ap.x1 (far (D:=D2) b1 ap.z2 s2))) fun y h4 t4 py st4 b4=>?_
 refine ⟨b4.extBut _ _ no2 o3,fun h5 o5 b5=>⟨b5.extBut _ _ ap.oz.symm (b4.extBut _ _ ni2.symm (b3.extBut _ _ ap.oz.symm (b2.extBut _ _ ni1.symm z1))),fun h8 z8 t8 l8 k8=>⟨_,rfl,?_⟩⟩⟩
 have sz:h5.objs.size=s.heap.objs.size:=by rw [b5.1,b4.1,b3.1,b2.1,b1.1]
 have g1:S1 (k+1) h8:=D1.frame _ _ _ (far (D:=D1) b5 ap.o1 (far (D:=D1) b4 ap.x2 (far (D:=D1) b3 ap.o1 st2))) fun c hc o e=>k8 c o (fun y=>ap.z1 (y ▸ hc)) e
 have g2:S2 (k+1) h8:=D2.frame _ _ _ (far (D:=D2) b5 ap.o2 st4) fun c hc o e=>k8 c o (fun y=>ap.z2 (y ▸ hc)) e
 rw [sz] at z8 t8 l8 ⊢
 exact hQ x y h8 t4 px py z8 (k8 _ _ ap.oz o5) g1 g2 t8 l8 fun c o c1 c2 c3 c4 e=>k8 c o c1 (b5.extBut _ _ c2 (b4.extBut _ _ c4 (b3.extBut _ _ c2 (b2.extBut _ _ c3 (b1.extBut _ _ c1 e)))))
theorem alq {Q:Fin→Shared→Prop} (D1:Draws prog w A i1 p n1 P1 S1) (D2:Draws prog w A i2 q n2 P2 S2) (ap:Ap z TI TO i1 i2 p q) (hz:IsZip s.heap z TI TO .none) (hi:IsPair s.heap TI (.ref i1) (.ref i2)) (ho:IsPair s.heap TO a b)
  (s1:S1 k s.heap) (s2:S2 k s.heap) (kk:k=n1∨(k<n1∧k=n2))
  (hE:∀ h' tk e,(∀ c o,c≠z→c≠TO→c≠i1→c≠i2→s.heap.get? c=some o→h'.get? c=some o)→(∃ o,h'.get? e=some o∧o.cls = .type "StopIteration")→E (.ref e) { s with heap:=h',toks:=tk }) :
  wpAny (model prog w) A (Builtin.«zip.__next__» ⟨[.ref z],[]⟩) Q E s:=by
 have ni1:i1≠z:=fun e=>ap.z1 (e ▸ ap.m1)
 have ni2:i2≠z:=fun e=>ap.z2 (e ▸ ap.m2)
 have no1:TO≠i1:=fun e=>ap.o1 (e ▸ ap.m1)
 have stop:∀ {h:Heap} {e:Addr},(∃ o,h.get? e=some o∧o.cls = .type "StopIteration")→IsZip h z TI TO .ellipsis→e≠z:=fun {h e} ⟨o,eo,ec⟩ zz y=>by
  subst y;rw [zz] at eo;cases eo;simp at ec
 refine aeb hz hi ho ap.oz fun h1 z1 b1=>?_
 rcases kk with rfl | ⟨k1,rfl⟩
 ·refine D1.done _ _ _ (far (D:=D1) b1 ap.z1 s1) fun h2 e x2 st=>?_
  have z2:IsZip h2 z TI TO .ellipsis:=x2 _ _ ni1.symm z1
  have ne:=stop st z2
  obtain ⟨oe,f1,f2⟩:=st
  refine wpAny_setField_rec z2 (Nat.succ_pos _) fun h3 _ b3=>?_
  exact hE h3 _ e (fun c o c1 _ c3 _ y=>b3.extBut _ _ c1 (x2 _ _ c3 (b1.extBut _ _ c1 y))) ⟨oe,b3.extBut _ _ ne f1,f2⟩
 ·refine D1.item k _ _ _ k1 (far (D:=D1) b1 ap.z1 s1) fun x h2 t2 px st2 b2=>?_
  refine ⟨b2.extBut _ _ no1 (b1.extBut _ _ ap.oz ho),fun h3 o3 b3=>?_⟩
  refine D2.done _ _ _ (far (D:=D2) b3 ap.o2 (far (D:=D2) b2 ap.x1 (far (D:=D2) b1 ap.z2 s2))) fun h4 e x4 st=>?_
  have z4:IsZip h4 z TI TO .ellipsis:=x4 _ _ ni2.symm (b3.extBut _ _ ap.oz.symm (b2.extBut _ _ ni1.symm z1))
  have ne:=stop st z4
  obtain ⟨oe,f1,f2⟩:=st
  refine wpAny_setField_rec z4 (Nat.succ_pos _) fun h5 _ b5=>?_
  exact hE h5 _ e (fun c o c1 c2 c3 c4 y=>b5.extBut _ _ c1 (x4 _ _ c4 (b3.extBut _ _ c2 (b2.extBut _ _ c3 (b1.extBut _ _ c1 y))))) ⟨oe,b5.extBut _ _ ne f1,f2⟩
theorem next_item {Q:Option Value→Shared→Prop} (D1:Draws prog w A.in1 i1 p n1 P1 S1) (D2:Draws prog w A.in1 i2 q n2 P2 S2) (ap:Ap z TI TO i1 i2 p q) (hz:IsZip s.heap z TI TO .none) (hi:IsPair s.heap TI (.ref i1) (.ref i2)) (ho:IsPair s.heap TO a b)
  (s1:S1 k s.heap) (s2:S2 k s.heap) (k1:k<n1) (k2:k<n2)
  (hQ:∀ x y h' tk,P1 k x→P2 k y→IsZip h' z TI TO (rawInt s.heap.objs.size)→IsPair h' TO x y→S1 (k+1) h'→S2 (k+1) h'→IsPair h' s.heap.objs.size x y→h'.objs.size=s.heap.objs.size+1 →
   (∀ c o,c≠z→c≠TO→c≠i1→c≠i2→s.heap.get? c=some o→h'.get? c=some o)→Q (some (.ref s.heap.objs.size)) { s with heap:=h',toks:=tk }):wpAny (model prog w) A (pyNext (.ref z)) Q E s:=by
 have ty:s.TypeIs (.ref z) "zip":=⟨_,hz,rfl⟩
 rw [pyNext]
 apply wpAny_bind;apply wpAny_attempt
 apply wpAny_callSpecial?_slot (name:=Str.ofString "__next__") ty F.slot_zip_next
 apply wpAny_call_entry F.slot_zip_next ty F.entry_zip_next _ (F.args_zip_next_1 _)
 exact ahe D1 D2 ap hz hi ho s1 s2 k1 k2 fun x y h' tk c1 c2 c3 c4 c5 c6 c7 c8 c9=>wpAny_pure (hQ x y h' tk c1 c2 c3 c4 c5 c6 c7 c8 c9)
theorem next_end {Q:Option Value→Shared→Prop} (D1:Draws prog w A.in1 i1 p n1 P1 S1) (D2:Draws prog w A.in1 i2 q n2 P2 S2) (ap:Ap z TI TO i1 i2 p q) (hz:IsZip s.heap z TI TO .none) (hi:IsPair s.heap TI (.ref i1) (.ref i2)) (ho:IsPair s.heap TO a b)
  (s1:S1 k s.heap) (s2:S2 k s.heap) (kk:k=n1∨(k<n1∧k=n2))
  (hQ:∀ h' tk,(∀ c o,c≠z→c≠TO→c≠i1→c≠i2→s.heap.get? c=some o→h'.get? c=some o)→Q none { s with heap:=h',toks:=tk }):wpAny (model prog w) A (pyNext (.ref z)) Q E s:=by
 have ty:s.TypeIs (.ref z) "zip":=⟨_,hz,rfl⟩
 rw [pyNext]
 apply wpAny_bind;apply wpAny_attempt
 apply wpAny_callSpecial?_slot (name:=Str.ofString "__next__") ty F.slot_zip_next
 apply wpAny_call_entry F.slot_zip_next ty F.entry_zip_next _ (F.args_zip_next_1 _)
 refine alq D1 D2 ap hz hi ho s1 s2 kk fun h' tk e kp ⟨o,f1,f2⟩=>?_
 refine wpAny_bind (wpAny_isInstance (b:=true) (T := "StopIteration") ⟨o,f1,f2⟩ isSubtype_stop (wpAny_pure (hQ h' tk kp)))
end
end ZP
namespace ZP
open PySem PySem.Spec PySem.Builtin PySem.Builtin.SmallTypes L2
inductive Srk where
 | tup (a:Addr) | lst (a:Addr) | str (x:Str)
def Srk.v:Srk→V
 | .tup a=>.ref a
 | .lst a=>.ref a
 | .str x=>.str x
def its (H:Hp):Srk→Option (List V)
 | .tup a=>match H a with | some (.tup vs)=>some vs | _=>none
 | .lst a=>match H a with | some (.lst vs)=>some vs | some (.frz _ (.lst vs))=>some vs | _=>none
 | .str x=>some (xm x)
def own (it:Addr) (t:Tok):Srk→Nat→Heap→Prop
 | .tup a,i,h=>h.IsTupleIter it a i
 | .lst a,i,h=>h.IsListIter it a i
 | .str x,i,h=>h.IsStrIter it (strIterType x) x t i
def iob (t:Tok):Srk→Obj
 | .tup a=>{ cls:=.type "tuple_iterator",data:=.fields #[.ref a, .int 0 0] }
 | .lst a=>{ cls:=.type "list_iterator",data:=.fields #[.ref a, .int 0 0] }
 | .str x=>{ cls:=.type (strIterType x),data:=.fields #[.str x t, .int 0 0] }
def val (t:Tok):Srk→Value
 | .tup a=>.ref a
 | .lst a=>.ref a
 | .str x=>.str x t
def cont (h:Heap):Srk→List Value→Prop
 | .tup a,us=>h.IsTuple a us.toArray
 | .lst a,us=>h.IsList a us.toArray
 | .str x,us=>True
theorem atu {it:Addr} {t:Tok} {k:Srk} {h:Heap} (e:h.get? it=some (iob t k)):own it t k 0 h:=by
 cases k with
 | tup a=>exact ⟨_,e,rfl,rfl⟩
 | lst a=>exact ⟨_,e,rfl,rfl⟩
 | str x=>exact ⟨_,e,rfl,rfl⟩
theorem a0y {it:Addr} {t:Tok} {k:Srk} {i:Nat} {h:Heap} (o:own it t k i h):∃ ob,h.get? it=some ob∧∀ v,ob.data≠.cell v:=by
 cases k with
 | tup a=>obtain ⟨ob,e,_,d⟩:=o;exact ⟨ob,e,fun v z=>by rw [d] at z;cases z⟩
 | lst a=>obtain ⟨ob,e,_,d⟩:=o;exact ⟨ob,e,fun v z=>by rw [d] at z;cases z⟩
 | str x=>obtain ⟨ob,e,_,d⟩:=o;exact ⟨ob,e,fun v z=>by rw [d] at z;cases z⟩
theorem yz {it:Addr} {t:Tok} {k:Srk} {i:Nat} {h h':Heap} (o:own it t k i h) (kk:∀ ob,h.get? it=some ob→h'.get? it=some ob):own it t k i h':=by
 cases k with
 | tup a=>obtain ⟨ob,e,r⟩:=o;exact ⟨ob,kk _ e,r⟩
 | lst a=>obtain ⟨ob,e,r⟩:=o;exact ⟨ob,kk _ e,r⟩
 | str x=>obtain ⟨ob,e,r⟩:=o;exact ⟨ob,kk _ e,r⟩
section
variable {P:Program} {w:World} {H:Hp} {s:Shared}
theorem a3j {X:Cx} {pins:List (Addr × Obj)} {σ:St} (I:Inv X pins σ H s) {k:Srk} {xs:List V} (e:its H k=some xs):∃ us,cont s.heap k us∧((∀ x,k≠.str x)→Vals xs us):=by
 cases k with
 | tup a =>
  cases q:H a with
  | none=>simp [its,q] at e
  | some o =>
   cases o with
   | tup vs =>
    simp [its,q] at e;subst e
    obtain ⟨us,r,t,_⟩:=I.tuple (SqT.of q)
    exact ⟨us,t,fun _=>r⟩
   | _=>simp [its,q] at e
 | lst a =>
  cases q:H a with
  | none=>simp [its,q] at e
  | some o =>
   cases o with
   | lst vs =>
    simp [its,q] at e;subst e
    obtain ⟨us,r,t,_⟩:=I.list (SqL.of q)
    exact ⟨us,t.isList,fun _=>r⟩
   | frz ob u =>
    cases u with
    | lst vs =>
     simp [its,q] at e;subst e
     obtain ⟨us,r,t,_⟩:=I.list (.inl (.inr ⟨_,q⟩))
     exact ⟨us,t.isList,fun _=>r⟩
    | _=>simp [its,q] at e
   | _=>simp [its,q] at e
 | str x=>exact ⟨[],True.intro,fun n=>absurd rfl (n x)⟩
theorem a0z {X:Cx} {pins:List (Addr × Obj)} {σ:St} (I:Inv X pins σ H s) {k:Srk} {xs:List V} {it:Addr} {t:Tok} (e:its H k=some xs) (hn:H it=none) :
  ∃ (cs:List Addr) (P1:Nat→Value→Prop) (S1:Nat→Heap→Prop),(∀ A:Around,A.handled=none→Draws X.prog X.w A it (it::cs) xs.length P1 S1)∧(∀ i,own it t k i s.heap→S1 i s.heap)∧(∀ i h,S1 i h→own it t k i h)∧(∀ c∈cs,H c≠none) ∧
   ∀ i v,P1 i v→∃ x,xs[i]? = some x∧RelV x v:=by
 cases k with
 | tup a =>
  obtain ⟨us,c,r⟩:=a3j I e
  have r:=r (by intro x z;cases z)
  have ha:H a≠none:=fun z=>by simp [its,z] at e
  have l:us.toArray.size=xs.length:=by rw [List.size_toArray,r.length]
  refine ⟨[a],fun i v=>us.toArray[i]? = some v,fun i h=>h.IsTupleIter it a i∧h.IsTuple a us.toArray,fun A hA=>?_,fun i o=>⟨o,c⟩,fun i h z=>z.1,fun c hc=>by rw [List.mem_singleton.mp hc];exact ha,fun i v z=>?_⟩
  ·have:=aea (prog:=X.prog) (w:=X.w) hA it a (fun y=>ha (y ▸ hn)) us.toArray
   rw [l] at this;exact this
  ·have z':us[i]? = some v:=by simpa using z
   have hi:i<xs.length:=by rw [r.length];exact (List.getElem?_eq_some_iff.mp z').1
   obtain ⟨u,e1,e2⟩:=r.get (List.getElem?_eq_getElem hi)
   rw [z'] at e1;cases e1
   exact ⟨_,List.getElem?_eq_getElem hi,e2⟩
 | lst a =>
  obtain ⟨us,c,r⟩:=a3j I e
  have r:=r (by intro x z;cases z)
  have ha:H a≠none:=fun z=>by simp [its,z] at e
  have l:us.toArray.size=xs.length:=by rw [List.size_toArray,r.length]
  refine ⟨[a],fun i v=>us.toArray[i]? = some v,fun i h=>h.IsListIter it a i∧h.IsList a us.toArray,fun A hA=>?_,fun i o=>⟨o,c⟩,fun i h z=>z.1,fun c hc=>by rw [List.mem_singleton.mp hc];exact ha,fun i v z=>?_⟩
  ·have:=Draws.list (prog:=X.prog) (w:=X.w) hA it a (fun y=>ha (y ▸ hn)) us.toArray
   rw [l] at this;exact this
  ·have z':us[i]? = some v:=by simpa using z
   have hi:i<xs.length:=by rw [r.length];exact (List.getElem?_eq_some_iff.mp z').1
   obtain ⟨u,e1,e2⟩:=r.get (List.getElem?_eq_getElem hi)
   rw [z'] at e1;cases e1
   exact ⟨_,List.getElem?_eq_getElem hi,e2⟩
 | str x =>
  cases e
  have l:(xm x).length=x.cps.size:=by simp [xm]
  refine ⟨[],fun i v=>∃ c u,x.cps[i]? = some c∧v = .str ⟨#[c]⟩ u,fun i h=>h.IsStrIter it (strIterType x) x t i,fun A hA=>?_,fun i o=>o,fun i h z=>z,fun c hc=>(by cases hc),fun i v z=>?_⟩
  ·rw [l]
   cases ha:x.cps.all (· < 128)
   ·have:=Draws.strWide (prog:=X.prog) (w:=X.w) hA it x t
    simpa [strIterType,ha] using this
   ·have:=Draws.strAscii (prog:=X.prog) (w:=X.w) hA it x t
    simpa [strIterType,ha] using this
  ·obtain ⟨c,u,e1,rfl⟩:=z
   exact ⟨.str ⟨#[c]⟩,by simp [xm,e1],⟨_,rfl⟩⟩
end
def ItZ (k1 k2:Srk):It where
 go:=fun i H=>∃ xs ys x y,its H k1=some xs∧its H k2=some ys∧xs[i]? = some x∧ys[i]? = some y
 yld:=fun i H v H'=>∃ xs ys x y p,its H k1=some xs∧its H k2=some ys∧xs[i]? = some x∧ys[i]? = some y∧H p=none∧v = .ref p∧H'=upd H p (.tup [x,y])
 stop:=fun i H=>∃ xs ys,its H k1=some xs∧its H k2=some ys∧(i=xs.length∨(i<xs.length∧i=ys.length))
def tnZ (z TI TO i1 i2:Addr) (t1 t2:Tok) (k1 k2:Srk) (i:Nat) (h:Heap):Prop :=
 IsZip h z TI TO .none∧IsPair h TI (.ref i1) (.ref i2)∧(∃ a b,IsPair h TO a b)∧own i1 t1 k1 i h∧own i2 t2 k2 i h
structure Far (z TI TO i1 i2:Addr):Prop where
 a:TI≠z
 b:TO≠z
 c:i1≠z
 d:i2≠z
 e:TI≠TO
 f:TI≠i1
 g:TI≠i2
 h:TO≠i1
 i:TO≠i2
 j:i1≠i2
theorem a5r {X:Cx} {pins:List (Addr × Obj)} {σ:St} {H:Hp} {s:Shared} {h':Heap} {t':Nat} {ch:List Addr} (I:Inv X pins σ H s) (hf:∀ b∈ch,FpOk X pins H b) (k:∀ b o,b ∉ ch→s.heap.get? b=some o→h'.get? b=some o) :
  Inv X pins σ H { s with heap:=h',toks:=t' }:=by
 have nit:∀ b u,H b=some u→b ∉ ch:=fun b u e z=>by rw [(hf b z).1] at e;cases e
 refine I.step (g':=s.gens) (d':=s.drawn) (ch:=ch) (fun b hb=>?_) (fun b o _ _ hc e _=>k b o hc e) (fun b o _ _ hc e _=>⟨o.slots,k b o hc e⟩) (fun _ _ _ _ n=>n) (fun b o hc e=>⟨o,k b o hc e⟩) (fun _ _ e=>e) (fun _ _ _ e=>e)
  (fun b ps e=>⟨#[],by rw [e];simp⟩) (fun m hm=>?_) (fun b u e=>?_) I.bare
 ·obtain ⟨_,f1,_,f3,f4,f5⟩:=hf b hb
  exact ⟨f3,f1,f4,f5⟩
 ·obtain ⟨o,es,ep,ho,r⟩:=hm
  exact ⟨o,es,ep,k _ o (fun z=>(hf _ z).2.1 rfl) ho,r⟩
 ·refine (I.hok b u e).stay (fun c v hc q=>k c v ?_ q) (fun _ q=>q) fun _ _ q=>q
  rcases hc with z | z
  ·rw [z];exact nit b u e
  ·exact nit c _ z
theorem ahf {P:Program} {w:World} {K:PySem.W.Frag} {elts:List Expr} {x1:Nat} {pos:Pos} {z TI TO i1 i2:Addr} {t1 t2:Tok} {k1 k2:Srk} (f:Far z TI TO i1 i2):Turn P w K (.Tuple elts x1 pos) (ItZ k1 k2) [z,TI,TO,i1,i2] z (tnZ z TI TO i1 i2 t1 t2 k1 k2) where
 mem:=by simp
 obj:=fun i h st b hb=>by
  obtain ⟨h1,h2,⟨a,b',h3⟩,h4,h5⟩:=st
  simp only [List.mem_cons,List.not_mem_nil,or_false] at hb
  rcases hb with rfl | rfl | rfl | rfl | rfl
  ·exact ⟨_,h1,fun v z=>(by cases z)⟩
  ·exact ⟨_,h2,fun v z=>(by cases z)⟩
  ·exact ⟨_,h3,fun v z=>(by cases z)⟩
  ·exact a0y h4
  ·exact a0y h5
 keep:=fun i h h' st k=>by
  obtain ⟨h1,h2,⟨a,b',h3⟩,h4,h5⟩:=st
  exact ⟨k z (by simp) _ h1,k TI (by simp) _ h2,⟨a,b',k TO (by simp) _ h3⟩,yz h4 fun ob e=>k i1 (by simp) ob e,yz h5 fun ob e=>k i2 (by simp) ob e⟩
 item:=by
  intro X hP hw hK hc i pins s σ H E I hf st hg
  subst hP hw hK
  obtain ⟨xs,ys,x,y,e1,e2,g1,g2⟩:=hg
  obtain ⟨h1,h2,⟨a,b,h3⟩,h4,h5⟩:=st
  have n:∀ c∈[z,TI,TO,i1,i2],H c=none:=fun c hc=>(hf c hc).1
  obtain ⟨cs,P1,S1,D1,a1,b1,c1,d1⟩:=a0z I (t:=t1) e1 (n i1 (by simp))
  obtain ⟨ds,P2,S2,D2,a2,b2,c2,d2⟩:=a0z I (t:=t2) e2 (n i2 (by simp))
  have hd:=I.ok.hd hc
  have out1:∀ c,H c=none→c ∉ cs:=fun c e z=>c1 c z e
  have out2:∀ c,H c=none→c ∉ ds:=fun c e z=>c2 c z e
  have ap:Ap z TI TO i1 i2 (i1::cs) (i2::ds):=⟨by simp,by simp,by simp [f.c.symm,out1 z (n z (by simp))],by simp [f.d.symm,out2 z (n z (by simp))],by simp [f.h,out1 TO (n TO (by simp))],by simp [f.i,out2 TO (n TO (by simp))],f.b,by simp [f.j,out2 i1 (n i1 (by simp))],by simp [f.j.symm,out1 i2 (n i2 (by simp))]⟩
  refine next_item (D1 X.A.in1 hd) (D2 X.A.in1 hd) ap h1 h2 h3 (a1 i h4) (a2 i h5) (List.getElem?_eq_some_iff.mp g1).1 (List.getElem?_eq_some_iff.mp g2).1 fun u v h' tk pu pv z' to' s1' s2' pr sz kp=>?_
  obtain ⟨x',q1,r1⟩:=d1 i u pu
  obtain ⟨y',q2,r2⟩:=d2 i v pv
  rw [g1] at q1;cases q1
  rw [g2] at q2;cases q2
  refine ⟨_,rfl,wpAny_letOwnedTupleGo_zip z' fun h2' z2' sb=>?_⟩
  have hp:H s.heap.objs.size=none:=I.hok.fresh (Nat.le_refl _)
  have lt:∀ c∈[z,TI,TO,i1,i2],c<s.heap.objs.size:=fun c hc=>by
   simp only [List.mem_cons,List.not_mem_nil,or_false] at hc
   rcases hc with rfl | rfl | rfl | rfl | rfl
   ·exact Heap.lt_size h1
   ·exact Heap.lt_size h2
   ·exact Heap.lt_size h3
   ·obtain ⟨_,e,_⟩:=a0y h4;exact Heap.lt_size e
   ·obtain ⟨_,e,_⟩:=a0y h5;exact Heap.lt_size e
  have all:∀ c o,c ∉ [z,TI,TO,i1,i2]→s.heap.get? c=some o→h2'.get? c=some o:=fun c o nc e=>by
   simp only [List.mem_cons,List.not_mem_nil,or_false,not_or] at nc
   exact (sb.2 c nc.1).trans (kp c o nc.1 nc.2.2.1 nc.2.2.2.1 nc.2.2.2.2 e)
  have nT:∀ c∈[z,TI,TO,i1,i2],c≠s.heap.objs.size:=fun c hc=>Nat.ne_of_lt (lt c hc)
  have I0:Inv X pins σ (upd H s.heap.objs.size (.tup [x,y])) { s with heap:=s.heap.push { cls:=.type "tuple",data:=.seq #[u,v] } } :=
   I.laid (t':=s.toks) (o:=.tup [x,y]) (fun b o e=>Heap.get?_push_of_some _ e) (Nat.le_refl _) ⟨by show 2≤sizeLine;decide,[u,v], .cons r1 (.cons r2 .nil),⟨_,Heap.get?_push_size _ rfl,rfl,_,rfl⟩⟩
  have I1:Inv X pins σ (upd H s.heap.objs.size (.tup [x,y])) { s with heap:=h2',toks:=tk }:=by
   refine a5r (s:={ s with heap:=s.heap.push { cls:=.type "tuple",data:=.seq #[u,v] } }) (ch:=[z,TI,TO,i1,i2]) I0 (fun b hb=>?_) fun c o nc e=>?_
   ·obtain ⟨f0,f1⟩:=hf b hb
    exact ⟨by rw [d9 (nT b hb)];exact f0,f1⟩
   ·rcases Heap.get?_push_cases e with ⟨rfl,rfl⟩ | e
    ·exact (sb.2 _ (nT z (by simp)).symm).trans pr
    ·exact all c o nc e
  refine ⟨.ref s.heap.objs.size,_,I1,rfl,⟨xs,ys,x,y,_,e1,e2,g1,g2,hp,rfl,rfl⟩,⟨z2',?_,⟨u,v,(sb.2 _ f.b).trans to'⟩,yz (b1 _ _ s1') fun ob e=>(sb.2 _ f.c).trans e,yz (b2 _ _ s2') fun ob e=>(sb.2 _ f.d).trans e⟩,fun b hb=>?_⟩
  ·exact (sb.2 _ f.a).trans (kp TI _ f.a f.e f.f f.g h2)
  ·rw [d9 (nT b hb)];exact n b hb
 done:=by
  intro X hP hw hK hc i pins s σ H E I hf st hg
  subst hP hw hK
  obtain ⟨xs,ys,e1,e2,g⟩:=hg
  obtain ⟨h1,h2,⟨a,b,h3⟩,h4,h5⟩:=st
  have n:∀ c∈[z,TI,TO,i1,i2],H c=none:=fun c hc=>(hf c hc).1
  obtain ⟨cs,P1,S1,D1,a1,b1,c1,d1⟩:=a0z I (t:=t1) e1 (n i1 (by simp))
  obtain ⟨ds,P2,S2,D2,a2,b2,c2,d2⟩:=a0z I (t:=t2) e2 (n i2 (by simp))
  have hd:=I.ok.hd hc
  have out1:∀ c,H c=none→c ∉ cs:=fun c e z=>c1 c z e
  have out2:∀ c,H c=none→c ∉ ds:=fun c e z=>c2 c z e
  have ap:Ap z TI TO i1 i2 (i1::cs) (i2::ds):=⟨by simp,by simp,by simp [f.c.symm,out1 z (n z (by simp))],by simp [f.d.symm,out2 z (n z (by simp))],by simp [f.h,out1 TO (n TO (by simp))],by simp [f.i,out2 TO (n TO (by simp))],f.b,by simp [f.j,out2 i1 (n i1 (by simp))],by simp [f.j.symm,out1 i2 (n i2 (by simp))]⟩
  refine next_end (D1 X.A.in1 hd) (D2 X.A.in1 hd) ap h1 h2 h3 (a1 i h4) (a2 i h5) g fun h' tk kp=>⟨rfl,a5r I hf fun c o nc e=>?_⟩
  simp only [List.mem_cons,List.not_mem_nil,or_false,not_or] at nc
  exact kp c o nc.1 nc.2.2.1 nc.2.2.2.1 nc.2.2.2.2 e
 self:=fun _ _ _ _ _ st h=>wpAny_pyIter_zip st.1 h
end ZP
namespace ZP
open PySem PySem.Spec PySem.Builtin PySem.Builtin.SmallTypes L2
theorem aec {h:Heap} {k:Srk} {us:List Value} (c:cont h k us) (o:Obj):cont (h.push o) k us:=by
 cases k with
 | tup a=>obtain ⟨ob,e,r⟩:=c;exact ⟨ob,Heap.get?_push_of_some _ e,r⟩
 | lst a=>obtain ⟨ob,e,r⟩:=c;exact ⟨ob,Heap.get?_push_of_some _ e,r⟩
 | str x=>trivial
theorem a0l {prog:Program} {w:World} {A:Around} {E:Value→Shared→Prop} {s:Shared} {k:Srk} {t:Tok} {us:List Value} {Q:Value→Shared→Prop} (c:cont s.heap k us) (q:Q (.ref s.heap.objs.size) { s with heap:=s.heap.push (iob t k) }) :
  wpAny (model prog w) A (pyIter (val t k)) Q E s:=by
 cases k with
 | tup a=>exact wpAny_pyIter_tuple c q
 | lst a=>exact wpAny_pyIter_list c q
 | str x=>exact wpAny_pyIter_strU q
def mk2 (h:Heap) (t1 t2:Tok) (k1 k2:Srk):Heap:=(h.push (iob t1 k1)).push (iob t2 k2)
def mk5 (h:Heap) (t1 t2:Tok) (k1 k2:Srk):Heap :=
 (((mk2 h t1 t2 k1 k2).push { cls:=.type "tuple",data:=.seq #[.ref h.objs.size, .ref (h.objs.size+1)] }).push { cls:=.type "tuple",data:=.seq #[.none, .none] }).push
  { cls:=.type "zip",data:=.fields #[.none, .bool false, .bool false, .ref (h.objs.size+2), .ref (h.objs.size+3)] }
theorem ahg (t1 t2:Tok) (k1 k2:Srk) (us1 us2:List Value):Meets (Builtin.«zip.__new__» ⟨[.type "zip",val t1 k1,val t2 k2],[]⟩)
  (fun _ R s=>cont s.heap k1 us1∧cont s.heap k2 us2∧R (.ok (.ret (.ref (s.heap.objs.size+4)))) { s with heap:=mk5 s.heap t1 t2 k1 k2 }) :=
 .of_wp fun prog w A R s h=>by
  obtain ⟨hp,g,d,tk,os⟩:=s
  obtain ⟨c1,c2,h⟩:=h
  have sub:=sub_zip
  have c1':cont (Shared.heap ⟨hp,g,d,tk,os⟩) k1 us1:=c1
  have c2':cont (Shared.heap ⟨hp.push (iob t1 k1),g,d,tk,os⟩) k2 us2:=aec c2 _
  wp_walk using a0l (t:=t1) c1',a0l (t:=t2) c2'
  refine ⟨_,rfl,?_⟩
  simpa [mk5,mk2,Heap.size_push,ownedTupleFields,Nat.add_assoc] using h
theorem atv (n:Nat):Far (n+4) (n+2) (n+3) n (n+1):=by
 refine ⟨?_,?_,?_,?_,?_,?_,?_,?_,?_,?_⟩<;>(intro z;have z:(_:Nat)=_:=z;omega)
theorem aw5 (n b:Nat) (h:b∈[n+4,n+2,n+3,n,n+1]):n≤b:=by
 simp only [List.mem_cons,List.not_mem_nil,or_false] at h
 omega
section
variable {X:Cx} {elts:List Expr} {x1:Nat} {tpos:Pos}
def aw6 (ta:TA):TI:=fun σ H R=>ta σ H fun vs H1=>∃ k1 k2 xs ys,vs=[Srk.v k1,Srk.v k2]∧its H1 k1=some xs∧its H1 k2=some ys∧R (ItZ k1 k2) H1
theorem aed {k:Srk} {u:Value} (r:RelV k.v u):∃ t,u=val t k:=by
 cases k with
 | tup a=>cases r;exact ⟨0,rfl⟩
 | lst a=>cases r;exact ⟨0,rfl⟩
 | str x=>obtain ⟨t,rfl⟩:=r;exact ⟨t,rfl⟩
theorem apw {e1 e2:Expr} {ta:TA} {p pos:Pos} (hg:Gl X "zip") (hm:X.mg "zip" = none) (hb:bootBuiltins "zip" = some (.type "zip")) (ha:PA X [e1,e2] ta)
  (h1:starEach [e1,e2] X.env=[(false,eval e1 X.env),(false,eval e2 X.env)]:=by rfl) (h2:starEach [e2] X.env=[(false,eval e2 X.env)]:=by rfl):PI X (.Tuple elts x1 tpos) (.Call (.Name "zip" p) [e1,e2] [] pos) (aw6 ta):=by
 intro pins s σ H R I h
 refine wpAny_Call_Name_kw (a2n I hg hm hb ?_ (by decide) (by decide))
 refine PyProof.Rows.callWith_type1 (thn (ha pos pins s σ H _ I h) fun us s1 ⟨vs,H1,I1,r1,q1⟩=>?_) (by rw [h1,h2]) (by rw [h2];rfl)
 obtain ⟨k1,k2,xs,ys,rfl,e1,e2,q⟩:=q1
 obtain ⟨v1,v2,rfl,rv1,rv2⟩:=vals2 r1
 obtain ⟨t1,rfl⟩:=aed rv1
 obtain ⟨t2,rfl⟩:=aed rv2
 obtain ⟨us1,c1,_⟩:=a3j I1 e1
 obtain ⟨us2,c2,_⟩:=a3j I1 e2
 refine callType_new F.called_zip (by decide) (F.typeCall_zip_2 _ _) (F.newCall_zip_2 _ _) (fun obj=>F.args_object_init_3 obj _ _) F.entry_zip_new (ahg t1 t2 k1 k2 us1 us2) ⟨c1,c2,?_⟩
 have z2:(mk2 s1.heap t1 t2 k1 k2).objs.size=s1.heap.objs.size+2:=by simp [mk2,Heap.size_push]
 have at0:(mk5 s1.heap t1 t2 k1 k2).get? s1.heap.objs.size=some (iob t1 k1):=by
  unfold mk5 mk2
  exact Heap.get?_push_of_some _ (Heap.get?_push_of_some _ (Heap.get?_push_of_some _ (Heap.get?_push_of_some _ (Heap.get?_push_size _ (by cases k1<;>rfl)))))
 have at1:(mk5 s1.heap t1 t2 k1 k2).get? (s1.heap.objs.size+1)=some (iob t2 k2):=by
  unfold mk5 mk2
  have:=Heap.get?_push_size (o:=iob t2 k2) (s1.heap.push (iob t1 k1)) (by cases k2<;>rfl)
  rw [Heap.size_push] at this
  exact Heap.get?_push_of_some _ (Heap.get?_push_of_some _ (Heap.get?_push_of_some _ this))
 have at2:IsPair (mk5 s1.heap t1 t2 k1 k2) (s1.heap.objs.size+2) (.ref s1.heap.objs.size) (.ref (s1.heap.objs.size+1)):=by
  unfold mk5
  rw [← z2]
  exact Heap.get?_push_of_some _ (Heap.get?_push_of_some _ (Heap.get?_push_size _ rfl))
 have at3:IsPair (mk5 s1.heap t1 t2 k1 k2) (s1.heap.objs.size+3) .none .none:=by
  unfold mk5
  have:=Heap.get?_push_size (o:={ cls:=.type "tuple",data:=.seq #[.none, .none] }) ((mk2 s1.heap t1 t2 k1 k2).push { cls:=.type "tuple",data:=.seq #[.ref s1.heap.objs.size, .ref (s1.heap.objs.size+1)] }) rfl
  rw [Heap.size_push,z2] at this
  exact Heap.get?_push_of_some _ this
 have at4:IsZip (mk5 s1.heap t1 t2 k1 k2) (s1.heap.objs.size+4) (s1.heap.objs.size+2) (s1.heap.objs.size+3) .none:=by
  unfold mk5
  have:=Heap.get?_push_size (o:={ cls:=.type "zip",data:=.fields #[.none, .bool false, .bool false, .ref (s1.heap.objs.size+2), .ref (s1.heap.objs.size+3)] }) (((mk2 s1.heap t1 t2 k1 k2).push { cls:=.type "tuple",data:=.seq #[.ref s1.heap.objs.size, .ref (s1.heap.objs.size+1)] }).push { cls:=.type "tuple",data:=.seq #[.none, .none] }) rfl
  rw [Heap.size_push,Heap.size_push,z2] at this
  exact this
 have keepA:∀ b o,s1.heap.get? b=some o→(mk5 s1.heap t1 t2 k1 k2).get? b=some o:=fun b o e=>by
  unfold mk5 mk2
  exact Heap.get?_push_of_some _ (Heap.get?_push_of_some _ (Heap.get?_push_of_some _ (Heap.get?_push_of_some _ (Heap.get?_push_of_some _ e))))
 have I2:Inv X pins σ H1 { s1 with heap:=mk5 s1.heap t1 t2 k1 k2 }:=I1.kept (t':=s1.toks) keepA
 refine ⟨⟨_,at4,rfl⟩,?_⟩
 refine wpAny_pyIter_zip (s:={ s1 with heap:=mk5 s1.heap t1 t2 k1 k2 }) at4 ?_
 refine ⟨s1.heap.objs.size+4,[s1.heap.objs.size+4,s1.heap.objs.size+2,s1.heap.objs.size+3,s1.heap.objs.size,s1.heap.objs.size+1],tnZ _ _ _ _ _ t1 t2 k1 k2,ItZ k1 k2,H1,rfl,I2,ahf (atv s1.heap.objs.size),
  ⟨at4,at2,⟨_,_,at3⟩,atu at0,atu at1⟩,fun b hb=>?_,q⟩
 have:s1.heap.objs.size≤b:=aw5 _ b hb
 exact I1.fpOk this (I1.hok.fresh this)
end
end ZP
namespace MI
open PySem PySem.Spec L2 ZP
def srcOf (d:D) (h:Hd):Option (List D × (Hd→Prop)):=match d with
 | .tup xs=>some (xs,fun _=>True)
 | .rol xs=>some (xs,fun _=>True)
 | .str x=>some (v7 x,fun _=>True)
 | .ref i=>(match h[i]? with | some (.lst xs)=>some (xs,fun h=>h[i]? = some (.lst xs)) | _=>none)
 | _=>none
def apx (x y:D) (h:Hd):R Itm:=match srcOf x h,srcOf y h with
 | some (xs,c1),some (ys,c2)=>.ok ⟨(xs.zip ys).map fun p=>.tup [p.1,p.2],fun h=>c1 h∧c2 h⟩ h
 | _,_=>.no
def ajj (f g:SE):SI:=fun τ h=>(f τ h).bind fun x h1=>(g τ h1).bind fun y h2=>apx x y h2
theorem aee {K:PySem.W.Frag} {ι:List Addr} {H:Hp} {h:Hd} {v:V} {d:D} {xs:List D} {ck:Hd→Prop} (r:Rep K ι H v d) (hr:HRep K ι H h) (e:srcOf d h=some (xs,ck)) :
  ∃ k:Srk,v=k.v∧ck h∧∀ ι' H' h',Gr ι H ι' H'→HRep K ι' H' h'→ck h'→∃ vs,its H' k=some vs∧Reps K ι' H' vs xs:=by
 cases r with
 | @tup a vs ys ha rs =>
  cases e
  exact ⟨.tup a,rfl,True.intro,fun ι' H' h' g _ _=>⟨vs,by simp [its,g.tup _ _ ha],rs.mono g⟩⟩
 | @rol a vs ys ha rs =>
  cases e
  refine ⟨.lst a,rfl,True.intro,fun ι' H' h' g _ _=>⟨vs,?_,rs.mono g⟩⟩
  obtain ⟨o,q⟩:=ha.mono g
  simp [its,q]
 | str x =>
  cases e
  exact ⟨.str x,rfl,True.intro,fun ι' H' h' g _ _=>⟨_,rfl,a4p x⟩⟩
 | @ref a i ha =>
  obtain ⟨ob,e1,e2⟩:=hr.at ha
  cases ob with
  | lst zs =>
   simp only [srcOf,e1] at e
   cases e
   refine ⟨.lst a,rfl,e1,fun ι' H' h' g hr' c=>?_⟩
   obtain ⟨us,q1,q2⟩:=hr'.obj i a _ (g.at ha) c
   exact ⟨us,by simp [its,q1],q2⟩
  | dK _=>simp only [srcOf,e1] at e;cases e
  | dT _=>simp only [srcOf,e1] at e;cases e
 | _=>cases e
theorem apy {X:Cx} {E:XD} {elts:List Expr} {x1:Nat} {tpos:Pos} {e1 e2:Expr} {f g:SE} {p pos:Pos} (hg:Gl X "zip") (hm:X.mg "zip" = none) (hb:bootBuiltins "zip" = some (.type "zip")) (ha:ME X E e1 f) (hb':ME X E e2 g)
  (h1:starEach [e1,e2] X.env=[(false,eval e1 X.env),(false,eval e2 X.env)]:=by rfl) (h2:starEach [e2] X.env=[(false,eval e2 X.env)]:=by rfl) :
  MI X E (.Tuple elts x1 tpos) (.Call (.Name "zip" p) [e1,e2] [] pos) (ajj f g):=by
 intro pins s σ H Rr I ⟨ι,τ,h,S,Rh,o⟩
 refine apw hg hm hb (a2p ha (a2p hb' a9h (by rw [h2];rfl)) (by rw [h1,h2])) h1 h2 pins s σ H Rr I ?_
 refine ⟨ι,τ,h,S,Rh,d7 o fun d h1 ι1 H1 v g1 r1 hr1 o1=>?_⟩
 refine ⟨ι1,τ,h1,S.mono g1,hr1,d7 o1 fun d2 h2 ι2 H2 u g2 r2 hr2 o2=>?_⟩
 unfold apx at o2
 split at o2
 ·rename_i xs c1 ys c2 q1 q2
  obtain ⟨k1,rfl,k1c,k1f⟩:=aee (r1.mono g2) hr2 q1
  obtain ⟨k2,rfl,k2c,k2f⟩:=aee r2 hr2 q2
  obtain ⟨vs1,w1,w2⟩:=k1f ι2 H2 h2 (.refl _ _) hr2 k1c
  obtain ⟨vs2,w3,w4⟩:=k2f ι2 H2 h2 (.refl _ _) hr2 k2c
  refine ⟨k1,k2,vs1,vs2,rfl,w1,w3,o2 ι2 H2 _ (.refl _ _) ?_ hr2⟩
  intro ι3 H3 h3 g3 hr3 c
  obtain ⟨us1,a1,a2⟩:=k1f ι3 H3 h3 g3 hr3 c.1
  obtain ⟨us2,a3,a4⟩:=k2f ι3 H3 h3 g3 hr3 c.2
  refine ⟨fun i d ed=>?_,us1,us2,a1,a3,?_⟩
  ·simp only [List.getElem?_map,Option.map_eq_some_iff] at ed
   obtain ⟨⟨x,y⟩,ez,rfl⟩:=ed
   obtain ⟨ex,ey⟩:=List.getElem?_zip_eq_some.mp ez
   obtain ⟨v1,b1,b2⟩:=a2.get ex
   obtain ⟨v2,b3,b4⟩:=a4.get ey
   refine ⟨⟨us1,us2,v1,v2,a1,a3,b1,b3⟩,fun x H' yl=>?_⟩
   obtain ⟨xs',ys',x',y',p,c1,c2,c3,c4,c5,rfl,rfl⟩:=yl
   rw [a1] at c1;cases c1
   rw [a3] at c2;cases c2
   rw [b1] at c3;cases c3
   rw [b3] at c4;cases c4
   exact ⟨ug c5 _, .tup jc (.cons (b2.mono (ug c5 _)) (.cons (b4.mono (ug c5 _)) .nil)),hr3.aside c5 _⟩
  ·rw [List.length_map,List.length_zip,a2.len,a4.len]
   omega
 ·exact o2.elim
theorem apz:bootBuiltins "zip" = some (.type "zip"):=by first | exact PySem.boot_zip | exact PyProof.Rows.boot_zip | rfl
end MI
namespace MI
open PySem PySem.Spec L2
end MI
namespace MI
open PySem PySem.Spec L2
def FrzOf (L:List Addr) (H H2:Hp):Prop:=∀ a,(a ∉ L→H2 a=H a)∧(a∈L→∃ o u,H a=some u∧H2 a=some (.frz o u))
def abn (H:Hp) (L:List Addr):Prop:=∀ a∈L,(∃ xs,H a=some (.lst xs))∨(∃ kvs,H a=some (.dK kvs))∨∃ kvs,H a=some (.dT kvs)
def still:HO→Prop
 | .lst _=>False | .dK _=>False | .dT _=>False
 | _=>True
theorem FrzOf.still {L:List Addr} {H H2:Hp} (f:FrzOf L H H2) (ab:abn H L) {a:Addr} {u:HO} (e:H a=some u) (st:MI.still u):H2 a=some u:=by
 rw [(f a).1 fun z=>?_]
 ·exact e
 ·rcases ab a z with ⟨_,q⟩ | ⟨_,q⟩ | ⟨_,q⟩<;>(rw [e] at q;cases q;exact st)
theorem Inv.frz {X:Cx} {pins:List (Addr × Obj)} {σ:St} {H:Hp} {s:Shared} {L:List Addr} (I:Inv X pins σ H s) (ab:abn H L):∃ H2,FrzOf L H H2∧Inv X pins σ H2 s:=by
 have obj:∀ a∈L,∀ u,H a=some u→∃ o,s.heap.get? a=some o:=fun a ha u e=>by
  rcases ab a ha with ⟨_,q⟩ | ⟨_,q⟩ | ⟨_,q⟩
  ·obtain ⟨_,_,_,_,z⟩:=I.hok a _ q;exact ⟨_,z⟩
  ·obtain ⟨_,_,_,_,z⟩:=I.hok a _ q
   obtain ⟨o,_,_,z,_⟩:=z
   exact ⟨o,z⟩
  ·obtain ⟨_,_,_,_,o,_,_,z,_⟩:=I.hok a _ q;exact ⟨o,z⟩
 let H2:Hp:=fun a=>if a∈L then (match s.heap.get? a,H a with | some o,some u=>some (.frz o u) | _,w=>w) else H a
 have f:FrzOf L H H2:=fun a=>⟨fun h=>by simp [H2,h],fun h=>by
  obtain ⟨u,e⟩:∃ u,H a=some u:=by
   rcases ab a h with ⟨_,q⟩ | ⟨_,q⟩ | ⟨_,q⟩<;>exact ⟨_,q⟩
  obtain ⟨o,eo⟩:=obj a h u e
  exact ⟨o,u,e,by simp [H2,h,e,eo]⟩⟩
 refine ⟨H2,f,?_⟩
 have mv:∀ a u,ObjOk X.prog X.w H s.heap a u→ObjOk X.prog X.w H2 s.heap a u:=fun a u x=>x.stay (fun b v _ q=>q) (fun c q=>f.still ab q True.intro) fun c xs q=>f.still ab q True.intro
 have ok:HOk X.prog X.w H2 s.heap:=fun a u e=>by
  by_cases hl:a∈L
  ·obtain ⟨u0,e0⟩:∃ u,H a=some u:=by
    rcases ab a hl with ⟨_,q⟩ | ⟨_,q⟩ | ⟨_,q⟩<;>exact ⟨_,q⟩
   obtain ⟨o,eo⟩:=obj a hl u0 e0
   have e':H2 a=some (.frz o u0):=by simp [H2,hl,e0,eo]
   rw [e'] at e
   cases e
   exact ⟨eo,mv a u0 (I.hok a u0 e0)⟩
  ·rw [(f a).1 hl] at e
   exact mv a u (I.hok a u e)
 have fn:∀ b,H b=none→H2 b=none:=fun b n=>by
  rw [(f b).1 fun z=>?_]
  ·exact n
  ·rcases ab b z with ⟨_,q⟩ | ⟨_,q⟩ | ⟨_,q⟩<;>(rw [n] at q;cases q)
 have un:Un X.fs [] H H2 s.heap s.heap:=⟨fun b o q _ _ _=>q,fun b o q _ _ _=>⟨o.slots,q⟩,fun b o _ n _=>fn b n,fun b o q _=>⟨o,q⟩,fun b xs q=>f.still ab q True.intro,fun b o u q=>f.still ab q True.intro,fun b ps q=>⟨#[],by rw [f.still ab q True.intro];simp⟩⟩
 exact I.un (t':=s.toks) un ok
theorem aef {X:Cx} {e:Expr} {t:TE} (h:PE X e t):PE X e (fun σ H Q=>t σ H fun v H1=>∃ L,abn H1 L∧∀ H2,FrzOf L H1 H2→Q v H2):=fun pins s σ H Q I q =>
 thn (h pins s σ H _ I q) fun u s' ⟨v,H1,I1,r,L,ab,k⟩=>let ⟨H2,f,I2⟩:=Inv.frz I1 ab; ⟨v,H2,I2,r,k H2 f⟩
def xq {α β:Type} (f:α→Option β):List α→Option (List β)
 | []=>some []
 | x::xs=>match f x,xq f xs with | some y,some ys=>some (y::ys) | _,_=>none
open Classical in
noncomputable def a1r (n:Nat) (h:Hd):Nat→D→Option D
 | 0,_=>none
 | k+1,d=>if clo n d then some d else match d with
  | .tup xs=>(xq (a1r n h k) xs).map .tup
  | .rol xs=>(xq (a1r n h k) xs).map .rol
  | .scr xs=>(xq (a1r n h k) xs).map .scr
  | .rod ks xs=>(xq (a1r n h k) xs).map (.rod ks)
  | .rdT ks xs=>(xq (a1r n h k) xs).map (.rdT ks)
  | .ref i=>match h[i]? with
   | some (.lst xs)=>(xq (a1r n h k) xs).map .rol
   | some (.dK kvs)=>(xq (a1r n h k) (kvs.map (·.2))).map (.rod (kvs.map (·.1)))
   | some (.dT kvs)=>(xq (a1r n h k) (kvs.map (·.2))).map (.rdT (kvs.map (·.1)))
   | none=>none
  | _=>none
open Classical in
noncomputable def aq0 (n:Nat) (h:Hd) (k:Nat) (o:O):Option O:=if a1y n o then some o else match o with
 | .lst xs=>(xq (a1r n h k) xs).map .lst
 | .dK kvs=>(xq (a1r n h k) (kvs.map (·.2))).map fun ys=>.dK ((kvs.map (·.1)).zip ys)
 | .dT kvs=>(xq (a1r n h k) (kvs.map (·.2))).map fun ys=>.dT ((kvs.map (·.1)).zip ys)
abbrev FU:Nat:=20
noncomputable def abo (n:Nat):R D→R D
 | .ok d h1=>match a1r n h1 FU d,xq (aq0 n h1 FU) (h1.take n) with | some d',some g=>.ok d' g | _,_=>.no
 | _=>.no
open Classical in
noncomputable def ani (n:Nat):R D→R D
 | .ok (.ref i) h1=>(match h1[i]? with
   | some o=>if n≤i∧a1y n o∧∀ u∈h1.take n,a1y n u then .ok (.ref n) (h1.take n++[o]) else .no
   | none=>.no)
 | _=>.no
section
variable {K:PySem.W.Frag} {ι ι':List Addr} {H H' H2:Hp} {h1:Hd} {n:Nat} {L:List Addr}
theorem aa5 (f:FrzOf L H' H2) (ab:abn H' L) (κ:List Addr):Gw κ H' κ H2:=⟨⟨[],by simp⟩,fun a vs e=>f.still ab e True.intro,fun a o u e=>f.still ab e True.intro⟩
theorem jo {K:PySem.W.Frag} {ι κ:List Addr} {H H2:Hp} {f:D→Option D} (ih:∀ {v d d'},Rep K ι H v d→f d=some d'→Rep K κ H2 v d'):∀ {vs:List V} {ds ds':List D},Reps K ι H vs ds→xq f ds=some ds'→Reps K κ H2 vs ds'
 | _,_,_, .nil,e=>by cases e;exact .nil
 | _,x::xs,_, .cons r rs,e=>by
  unfold xq at e
  split at e
  ·rename_i y ys h1 h2
   cases e
   exact .cons (ih r h1) (jo ih rs h2)
  ·cases e
theorem a5s (hr:HRep K ι' H' h1) (hL:∀ (i:Nat) a,ι'[i]? = some a→n≤i→a∈L) (f:FrzOf L H' H2) (ab:abn H' L):∀ (k:Nat) {v:V} {d d':D},Rep K ι' H' v d→a1r n h1 k d=some d'→Rep K (ι'.take n) H2 v d':=by
 intro k
 induction k with
 | zero=>intro v d d' r e;cases e
 | succ k ih =>
  intro v d d' r e
  unfold a1r at e
  split at e
  ·rename_i c
   cases e
   exact (r.cut c).monoW (aa5 f ab _)
  ·rename_i c
   cases r with
   | tup h rs =>
    simp only [Option.map_eq_some_iff] at e
    obtain ⟨ys,e1,rfl⟩:=e
    exact .tup (f.still ab h True.intro) (jo (fun r e=>ih r e) rs e1)
   | rol h rs =>
    simp only [Option.map_eq_some_iff] at e
    obtain ⟨ys,e1,rfl⟩:=e
    exact .rol (h.monoW (aa5 f ab ι')) (jo (fun r e=>ih r e) rs e1)
   | scr h rs =>
    simp only [Option.map_eq_some_iff] at e
    obtain ⟨ys,e1,rfl⟩:=e
    exact .scr (h.monoW (aa5 f ab ι')) (jo (fun r e=>ih r e) rs e1)
   | rod h ek rs =>
    simp only [Option.map_eq_some_iff] at e
    obtain ⟨ys,e1,rfl⟩:=e
    exact .rod (f.still ab h True.intro) ek (jo (fun r e=>ih r e) rs e1)
   | rdT h ek rs =>
    simp only [Option.map_eq_some_iff] at e
    obtain ⟨ys,e1,rfl⟩:=e
    exact .rdT (f.still ab h True.intro) ek (jo (fun r e=>ih r e) rs e1)
   | @ref a i ha =>
    have hi:n≤i:=by
     simp only [clo] at c
     omega
    obtain ⟨o,u,e1,e2⟩:=(f a).2 (hL i a ha hi)
    obtain ⟨ob,h3,h4⟩:=hr.at ha
    simp only [h3] at e
    cases ob with
    | lst xs =>
     simp only [Option.map_eq_some_iff] at e
     obtain ⟨ys,e3,rfl⟩:=e
     obtain ⟨vs,h5,h6⟩:=h4
     rw [e1] at h5;cases h5
     exact .rol ⟨o,e2⟩ (jo (fun r e=>ih r e) h6 e3)
    | dK kvs =>
     simp only [Option.map_eq_some_iff] at e
     obtain ⟨ys,e3,rfl⟩:=e
     obtain ⟨us,h5,h6,h7⟩:=h4
     rw [e1] at h5;cases h5
     exact .rod e2 h6 (jo (fun r e=>ih r e) h7 e3)
    | dT kvs =>
     simp only [Option.map_eq_some_iff] at e
     obtain ⟨ys,e3,rfl⟩:=e
     obtain ⟨us,h5,h6,h7⟩:=h4
     rw [e1] at h5;cases h5
     exact .rdT e2 h6 (jo (fun r e=>ih r e) h7 e3)
   | non=>simp only [clo,not_true_eq_false] at c
   | exc _ _ _=>simp only [clo,not_true_eq_false] at c
   | bl b=>simp only [clo,not_true_eq_false] at c
   | int b=>simp only [clo,not_true_eq_false] at c
   | str b=>simp only [clo,not_true_eq_false] at c
   | ty b=>simp only [clo,not_true_eq_false] at c
theorem a5t {κ:Type} {H:Hp} {us:List (κ × V)} {ks:List κ} {ys:List D} (e:us.map (·.1)=ks) (r:Reps K ι H (us.map (·.2)) ys):KRep K ι H us (ks.zip ys):=by
 have l:ks.length=ys.length:=by rw [← e,List.length_map,← r.len,List.length_map]
 refine ⟨?_,?_⟩
 ·rw [List.map_fst_zip (by omega)];exact e
 ·rw [List.map_snd_zip (by omega)];exact r
theorem alr (hr:HRep K ι' H' h1) (hL:∀ (i:Nat) a,ι'[i]? = some a→n≤i→a∈L) (f:FrzOf L H' H2) (ab:abn H' L) {k:Nat} {a:Addr} {o o':O} (na:a ∉ L) (r:ORep K ι' H' a o) (e:aq0 n h1 k o=some o'):ORep K (ι'.take n) H2 a o':=by
 have same:H2 a=H' a:=(f a).1 na
 unfold aq0 at e
 split at e
 ·rename_i c
  cases e
  exact (r.cut c).monoW (aa5 f ab _) same
 ·cases o with
  | lst xs =>
   simp only [Option.map_eq_some_iff] at e
   obtain ⟨ys,e1,rfl⟩:=e
   obtain ⟨vs,h3,h4⟩:=r
   exact ⟨vs,by rw [same];exact h3,jo (fun r e=>a5s hr hL f ab k r e) h4 e1⟩
  | dK kvs =>
   simp only [Option.map_eq_some_iff] at e
   obtain ⟨ys,e1,rfl⟩:=e
   obtain ⟨us,h3,h4,h5⟩:=r
   exact ⟨us,by rw [same];exact h3,a5t h4 (jo (fun r e=>a5s hr hL f ab k r e) h5 e1)⟩
  | dT kvs =>
   simp only [Option.map_eq_some_iff] at e
   obtain ⟨ys,e1,rfl⟩:=e
   obtain ⟨us,h3,h4,h5⟩:=r
   exact ⟨us,by rw [same];exact h3,a5t h4 (jo (fun r e=>a5s hr hL f ab k r e) h5 e1)⟩
theorem zb {α β:Type} {f:α→Option β}:∀ {xs:List α} {ys:List β},xq f xs=some ys→xs.length=ys.length∧∀ (i:Nat) y,ys[i]? = some y→∃ x,xs[i]? = some x∧f x=some y
 | [],_,e=>by cases e;exact ⟨rfl,fun i y e=>by simp at e⟩
 | x::xs,ys,e=>by
  unfold xq at e
  split at e
  ·rename_i y ys h1 h2
   cases e
   obtain ⟨l,g⟩:=zb h2
   refine ⟨by simp [l],fun i z e=>?_⟩
   cases i with
   | zero=>simp at e;subst e;exact ⟨x,rfl,h1⟩
   | succ i=>simpa using g i z (by simpa using e)
  ·cases e
theorem aeg (hr:HRep K ι' H' h1) (M:List Addr) (hM:∀ a∈M,a∈ι'):abn H' M:=fun a ha=>by
 obtain ⟨i,hi⟩:=List.getElem?_of_mem (hM a ha)
 obtain ⟨o,_,q⟩:=hr.at hi
 cases o with
 | lst xs=>obtain ⟨vs,h,_⟩:=q;exact .inl ⟨_,h⟩
 | dK xs=>obtain ⟨vs,h,_⟩:=q;exact .inr (.inl ⟨_,h⟩)
 | dT xs=>obtain ⟨vs,h,_⟩:=q;exact .inr (.inr ⟨_,h⟩)
theorem a3k {α:Type} {l:List α} (nd:l.Nodup) {i j:Nat} {a:α} (h1:l[i]? = some a) (h2:l[j]? = some a):i=j:=by
 obtain ⟨l1,e1⟩:=List.getElem?_eq_some_iff.mp h1
 obtain ⟨l2,e2⟩:=List.getElem?_eq_some_iff.mp h2
 rcases Nat.lt_trichotomy i j with l | l | l
 ·exact absurd (e1.trans e2.symm) (List.pairwise_iff_getElem.mp nd i j l1 l2 l)
 ·exact l
 ·exact absurd (e2.trans e1.symm) (List.pairwise_iff_getElem.mp nd j i l2 l1 l)
theorem aq1 (g:Gr ι H ι' H') (f:FrzOf L H' H2) (ab:abn H' L) (hL:∀ a∈L,H a=none) {m:List Addr} (hm:∀ a∈m,H a=none):Gr ι H (ι++m) H2:=by
 refine ⟨⟨m,rfl,hm⟩,fun a vs e=>f.still ab (g.tup a vs e) True.intro,fun a o u e=>f.still ab (g.frz a o u e) True.intro,fun a u e hn=>?_,fun a u e=>?_⟩
 ·rw [(f a).1 fun z=>by rw [hL a z] at e;cases e]
  exact g.oth a u e hn
 ·obtain ⟨u',e'⟩:=g.kp a u e
  rw [(f a).1 fun z=>by rw [hL a z] at e;cases e]
  exact ⟨u',e'⟩
theorem aeh {d d':D} {v:V} {g':Hd} (g:Gr ι H ι' H') (rb:Rep K ι' H' v d) (hr:HRep K ι' H' h1) (e:abo ι.length (.ok d h1) = .ok d' g') :
  ∃ L,abn H' L∧∀ H2,FrzOf L H' H2→Gr ι H ι H2∧Rep K ι H2 v d'∧HRep K ι H2 g':=by
 obtain ⟨m,rfl,hm⟩:=g.pre
 have tk:(ι++m).take ι.length=ι:=by simp
 have ab:abn H' m:=aeg hr m fun a ha=>List.mem_append_right _ ha
 have hL:∀ (i:Nat) a,(ι++m)[i]? = some a→ι.length≤i→a∈m:=fun i a e hi=>by
  rw [List.getElem?_append_right hi] at e
  exact List.mem_of_getElem? e
 refine ⟨m,ab,fun H2 f=>?_⟩
 unfold abo at e
 simp only at e
 split at e
 ·rename_i dd gg e1 e2
  cases e
  refine ⟨by simpa using aq1 g f ab hm (m:=[]) (by simp),by have:=a5s hr hL f ab FU rb e1;rwa [tk] at this,?_⟩
  obtain ⟨l,gt⟩:=zb e2
  have hl:=hr.len
  have ln:ι.length≤h1.length:=by rw [← hl];simp
  refine ⟨(List.nodup_append.mp hr.nd).1,by rw [← l,List.length_take];omega,fun i a o q1 q2=>?_⟩
  obtain ⟨x,hx,fx⟩:=gt i o q2
  have hi:i<ι.length:=(List.getElem?_eq_some_iff.mp q1).1
  rw [List.getElem?_take,if_pos hi] at hx
  have q3:(ι++m)[i]? = some a:=by rw [List.getElem?_append_left hi];exact q1
  have na:a ∉ m:=fun z=>(List.nodup_append.mp hr.nd).2.2 a (List.mem_of_getElem? q1) a z rfl
  have:=alr hr hL f ab na (hr.obj i a x q3 hx) fx
  rwa [tk] at this
 ·cases e
theorem ahh {d d':D} {v:V} {g':Hd} (g:Gr ι H ι' H') (rb:Rep K ι' H' v d) (hr:HRep K ι' H' h1) (e:ani ι.length (.ok d h1) = .ok d' g') :
  ∃ b,H b=none∧Gr ι H (ι++[b]) H'∧Rep K (ι++[b]) H' v d'∧HRep K (ι++[b]) H' g':=by
 obtain ⟨m,rfl,hm⟩:=g.pre
 have tk:(ι++m).take ι.length=ι:=by simp
 have up:∀ b,Gw ι H' (ι++[b]) H':=fun b=>⟨⟨[b],rfl⟩,fun _ _ h=>h,fun _ _ _ h=>h⟩
 cases rb with
 | @ref b i hb =>
  unfold ani at e
  simp only at e
  split at e
  ·rename_i ob ho
   split at e
   ·rename_i hc
    obtain ⟨hi,c1,c2⟩:=hc
    cases e
    have hb':=hb
    rw [List.getElem?_append_right hi] at hb'
    have bm:b∈m:=List.mem_of_getElem? hb'
    obtain ⟨nd1,nd2,nd3⟩:=List.nodup_append.mp hr.nd
    have hl:=hr.len
    have ln:ι.length≤h1.length:=by rw [← hl];simp
    have lt:(h1.take ι.length).length=ι.length:=by rw [List.length_take];omega
    refine ⟨b,hm b bm,⟨⟨[b],rfl,by simpa using hm b bm⟩,g.tup,g.frz,g.oth,g.kp⟩, .ref (by simp),?_⟩
    refine ⟨List.nodup_append.mpr ⟨nd1,by simp,fun a ha c hc z=>nd3 a ha c (by rw [List.mem_singleton.mp hc];exact bm) z⟩,by simp [lt],fun j a o q1 q2=>?_⟩
    by_cases hj:j<ι.length
    ·rw [List.getElem?_append_left hj] at q1
     rw [List.getElem?_append_left (by omega)] at q2
     have q2':=q2
     rw [List.getElem?_take,if_pos hj] at q2'
     have:=(hr.obj j a o (by rw [List.getElem?_append_left hj];exact q1) q2').cut (c2 o (List.mem_of_getElem? q2))
     rw [tk] at this
     exact this.monoW (up b) rfl
    ·have hj2:j<(ι++[b]).length:=(List.getElem?_eq_some_iff.mp q1).1
     have:j=ι.length:=by simp at hj2;omega
     subst this
     rw [List.getElem?_append_right (Nat.le_refl _)] at q1
     rw [List.getElem?_append_right (by omega),lt] at q2
     simp at q1 q2
     subst q1 q2
     have:=(hr.obj i b ob hb ho).cut c1
     rw [tk] at this
     exact this.monoW (up b) rfl
   ·cases e
  ·cases e
 | _=>cases e
end
noncomputable def sZ (f:SE):SE:=fun τ h=>abo h.length (f τ h)
abbrev aw7 (Q:VK):VK:=fun v H1=>∃ L,abn H1 L∧∀ H2,FrzOf L H1 H2→Q v H2
theorem as7 {K:PySem.W.Frag} {E:XD} {fa:SE} {σ:St} {H:Hp} {Q:VK} (q:lift K E (qt K) (sZ fa) σ H Q):lift K E (qt K) fa σ H (aw7 Q):=by
 obtain ⟨ι,τ,h,S,Rh,o⟩:=q
 refine ⟨ι,τ,h,S,Rh,?_⟩
 unfold sZ at o
 rw [← Rh.len] at o
 cases hf:fa τ h with
 | ok d h1 =>
  rw [hf] at o
  intro ι' H' v g r hr
  cases hz:abo ι.length (.ok d h1) with
  | ok d' g' =>
   rw [hz] at o
   obtain ⟨L,ab,k⟩:=aeh g r hr hz
   refine ⟨L,ab,fun H2 f=>?_⟩
   obtain ⟨k1,k2,k3⟩:=k H2 f
   exact o ι H2 v k1 k2 k3
  | ex c hx=>unfold abo at hz;simp only at hz;split at hz<;>cases hz
  | no=>rw [hz] at o;exact o.elim
 | ex c h1=>rw [hf] at o;exact o.elim
 | no=>rw [hf] at o;exact o.elim
theorem abp {X:Cx} {E:XD} {e:Expr} {fa:SE} (ha:ME X E e fa):ME X E e (sZ fa):=PE.weak (aef ha) fun σ H Q q=>as7 q
def refOf:D→Option Nat
 | .ref i=>some i
 | _=>none
def a01 (ds:List D):List Nat:=ds.filterMap refOf
def ym:Nat→List D→List D
 | _,[]=>[]
 | k,d::ds=>match d with
  | .ref _=>.ref k::ym (k+1) ds
  | d=>d::ym k ds
def o7:Hd→List Nat→List O→Hd
 | h,i::is,o::os=>o7 (h.set i o) is os
 | h,_,_=>h
def isRef (d:D):Prop:=∃ i,d = .ref i
open Classical in
noncomputable def aq2 (m:Bool) (F:SF) (ds:List D) (h:Hd):R D:=match xq (fun i=>h[i]?) (a01 ds) with
 | none=>.no
 | some os=>if (a01 ds).Nodup∧(∀ d∈ds,clo 0 d∨isRef d)∧(∀ o∈os,a1y 0 o) then
   (match (if m then ani os.length (F (ym 0 ds) os) else abo os.length (F (ym 0 ds) os)) with
   | .ok d h1=>if ∀ o∈h1,a1y 0 o then
     (if m then .ok (.ref h.length) (o7 h (a01 ds) h1++h1.drop os.length)
      else if clo 0 d then .ok d (o7 h (a01 ds) h1) else .no) else .no
   | _=>.no)
  else .no
noncomputable def o8 (m:Bool) (n:Nat) (F:SF):SF:=fun ds h=>if ds.length=n then aq2 m F ds h else .no
section
variable {K:PySem.W.Frag} {ι ι':List Addr} {H H' H2:Hp} {h h1:Hd} {n:Nat}
theorem ajk (κ:List Addr):Gw [] H κ H:=⟨⟨κ,rfl⟩,fun _ _ h=>h,fun _ _ _ h=>h⟩
theorem Rep.any {v:V} {d:D} (r:Rep K ι H v d) (c:MI.clo 0 d) (κ:List Addr):Rep K κ H v d:=by
 have:=r.cut c
 rw [List.take_zero] at this
 exact this.monoW (ajk κ)
theorem ORep.any {a:Addr} {o:O} (r:ORep K ι H a o) (c:a1y 0 o) (κ:List Addr):ORep K κ H a o:=by
 have:=r.cut c
 rw [List.take_zero] at this
 exact this.monoW (ajk κ) rfl
theorem a7c {α:Type} (l:List α):∀ {is:List Nat},(∀ i∈is,i<l.length)→∃ ys,xq (fun i=>l[i]?) is=some ys
 | [],_=>⟨[],rfl⟩
 | i::is,hi=>by
  obtain ⟨ys,e⟩:=a7c l (is:=is) fun j hj=>hi j (List.mem_cons_of_mem _ hj)
  have:=hi i List.mem_cons_self
  exact ⟨l[i]::ys,by unfold xq;rw [e,List.getElem?_eq_getElem this]⟩
theorem a1a:∀ {ds:List D} {vs:List V} {pre κ:List Addr},Reps K ι H vs ds→(∀ d∈ds,clo 0 d∨isRef d)→xq (fun i=>ι[i]?) (a01 ds)=some κ→Reps K (pre++κ) H vs (ym pre.length ds)
 | [],_,_,_, .nil,_,_=>.nil
 | d::ds,_,pre,κ, .cons r rs,hc,e=>by
  have hc':∀ d∈ds,clo 0 d∨isRef d:=fun x hx=>hc x (List.mem_cons_of_mem _ hx)
  by_cases hd:isRef d
  ·obtain ⟨i,rfl⟩:=hd
   have e':xq (fun i=>ι[i]?) (i::a01 ds)=some κ:=e
   unfold xq at e'
   split at e'
   ·rename_i a κ' h1 h2
    cases e'
    cases r with
    | ref ha =>
     rw [ha] at h1;cases h1
     have:=a1a (pre:=pre++[a]) rs hc' h2
     simp only [List.append_assoc,List.singleton_append,List.length_append,List.length_singleton] at this
     refine .cons (.ref ?_) this
     rw [List.getElem?_append_right (Nat.le_refl _)]
     simp
   ·cases e'
  ·have c:=(hc d List.mem_cons_self).resolve_right hd
   have e1:a01 (d::ds)=a01 ds:=by
    unfold a01
    cases d<;>first | rfl | exact absurd ⟨_,rfl⟩ hd
   have e2:ym pre.length (d::ds)=d::ym pre.length ds:=by
    cases d<;>first | rfl | exact absurd ⟨_,rfl⟩ hd
   rw [e1] at e
   rw [e2]
   exact .cons (r.any c _) (a1a rs hc' e)
theorem vh:∀ {is:List Nat} {os:List O} {h:Hd},(o7 h is os).length=h.length
 | [],_,_=>by simp [o7]
 | _::_,[],_=>by simp [o7]
 | i::is,o::os,h=>by rw [o7,vh,List.length_set]
theorem a1b {i:Nat}:∀ {is:List Nat} {os:List O} {h:Hd},i ∉ is→(o7 h is os)[i]? = h[i]?
 | [],_,_,_=>by simp [o7]
 | _::_,[],_,_=>by simp [o7]
 | j::is,o::os,h,n=>by
  rw [o7,a1b fun z=>n (List.mem_cons_of_mem _ z),List.getElem?_set_ne fun z=>n (by rw [z];exact List.mem_cons_self)]
theorem a7d {i:Nat} {o:O}:∀ {is:List Nat} {os:List O} {h:Hd} {j:Nat},is.Nodup→is[j]? = some i→os[j]? = some o→i<h.length→(o7 h is os)[i]? = some o
 | [],_,_,_,_,e,_,_=>by simp at e
 | _::_,[],_,_,_,_,e,_=>by simp at e
 | k::is,o'::os,h,j,nd,e1,e2,hl=>by
  cases j with
  | zero =>
   simp at e1 e2
   subst e1 e2
   rw [o7,a1b (List.nodup_cons.mp nd).1,List.getElem?_set_self hl]
  | succ j =>
   rw [o7]
   exact a7d (j:=j) (List.nodup_cons.mp nd).2 (by simpa using e1) (by simpa using e2) (by simpa using hl)
theorem a7e {α:Type} {l:List α} (nl:l.Nodup) {is:List Nat} {ys:List α} (e:xq (fun i=>l[i]?) is=some ys) (ni:is.Nodup):ys.Nodup:=by
 obtain ⟨le,g⟩:=zb e
 refine List.pairwise_iff_getElem.mpr fun i j hi hj lt z=>?_
 obtain ⟨x,h1,h2⟩:=g i _ (List.getElem?_eq_getElem hi)
 obtain ⟨y,h3,h4⟩:=g j _ (List.getElem?_eq_getElem hj)
 rw [← z] at h4
 have:=a3k nl h2 h4
 subst this
 have:=a3k ni h1 h3
 omega
theorem aa6 {is:List Nat} {κ m:List Addr} {g:Hd} (hr:HRep K ι H h) (e1:xq (fun i=>ι[i]?) is=some κ) (nd:is.Nodup) (gr:Gr κ H (κ++m) H2) (hg:HRep K (κ++m) H2 g) (cg:∀ o∈g,a1y 0 o) (hm:m.length≤1) :
  Gr ι H (ι++m) H2∧HRep K (ι++m) H2 (o7 h is g++g.drop κ.length):=by
 obtain ⟨l1,g1⟩:=zb e1
 have mn:∀ a∈m,H a=none:=by
  obtain ⟨m',e,hm'⟩:=gr.pre
  rw [List.append_cancel_left e];exact hm'
 have sub:∀ a∈κ,a∈ι:=fun a ha=>by
  obtain ⟨j,hj⟩:=List.getElem?_of_mem ha
  obtain ⟨i,_,q⟩:=g1 j a hj
  exact List.mem_of_getElem? q
 have some_of:∀ a∈ι,∃ u,H a=some u:=fun a ha=>by
  obtain ⟨i,hi⟩:=List.getElem?_of_mem ha
  obtain ⟨o,_,q⟩:=hr.at hi
  obtain ⟨u,q,_⟩:=q.some
  exact ⟨u,q⟩
 have G:Gr ι H (ι++m) H2:=⟨⟨m,rfl,mn⟩,gr.tup,gr.frz,fun a u e n=>gr.oth a u e fun z=>n (sub a z),gr.kp⟩
 have lg:=hg.len
 rw [List.length_append] at lg
 refine ⟨G,?_,?_,fun j a o q1 q2=>?_⟩
 ·refine List.nodup_append.mpr ⟨hr.nd,(List.nodup_append.mp hg.nd).2.1,fun a ha b hb z=>?_⟩
  obtain ⟨u,q⟩:=some_of a ha
  rw [z,mn b hb] at q;cases q
 ·rw [List.length_append,List.length_append,vh,List.length_drop,hr.len];omega
 ·by_cases hj:j<ι.length
  ·rw [List.getElem?_append_left hj] at q1
   rw [List.getElem?_append_left (by rw [vh,← hr.len];exact hj)] at q2
   by_cases hp:j∈is
   ·obtain ⟨k,hk⟩:=List.getElem?_of_mem hp
    have hkl:k<κ.length:=by rw [← l1];exact (List.getElem?_eq_some_iff.mp hk).1
    obtain ⟨i,h3,h4⟩:=g1 k _ (List.getElem?_eq_getElem hkl)
    rw [hk] at h3;cases h3
    rw [q1] at h4
    have hkg:k<g.length:=by omega
    have e5:=a7d (h:=h) nd hk (List.getElem?_eq_getElem hkg) (by rw [← hr.len];exact hj)
    rw [e5] at q2
    cases q2
    have ea:(κ++m)[k]? = some a:=by rw [List.getElem?_append_left hkl,List.getElem?_eq_getElem hkl];exact h4.symm
    exact (hg.obj k a _ ea (List.getElem?_eq_getElem hkg)).any (cg _ (List.getElem_mem hkg)) _
   ·rw [a1b hp] at q2
    have r:=hr.obj j a o q1 q2
    obtain ⟨u,hu,_⟩:=r.some
    have na:a ∉ κ:=fun z=>by
     obtain ⟨k,hk⟩:=List.getElem?_of_mem z
     obtain ⟨i,h3,h4⟩:=g1 k a hk
     have:=a3k hr.nd q1 h4
     subst this
     exact hp (List.mem_of_getElem? h3)
    exact r.mono G (by rw [hu];exact gr.oth a u hu na)
  ·have q1':=q1
   rw [List.getElem?_append_right (by omega)] at q1
   rw [List.getElem?_append_right (by rw [vh,← hr.len];omega),vh,← hr.len,List.getElem?_drop] at q2
   have ea:(κ++m)[κ.length+(j - ι.length)]? = some a:=by rw [List.getElem?_append_right (by omega)];simpa using q1
   exact (hg.obj _ a o ea q2).any (cg o (List.mem_of_getElem? q2)) _
theorem aei {m:Bool} {F:SF} {vs:List V} {ds:List D} {Q:VK} (r:Reps K ι H vs ds) (hr:HRep K ι H h) (o:out K X0 (qt K) ι H (o8 m n F ds h) Q) (E:XK) :
  um K n F vs H (fun v H1=>∃ L,abn H1 L∧∀ H2,FrzOf L H1 H2→Q v H2) E:=by
 unfold o8 at o
 split at o
 ·rename_i hl
  refine ⟨by rw [r.len];exact hl,?_⟩
  unfold aq2 at o
  split at o
  ·exact o.elim
  ·rename_i os hos
   split at o
   ·rename_i hc
    obtain ⟨nd,hd,hcl⟩:=hc
    obtain ⟨l0,g0⟩:=zb hos
    obtain ⟨κ,e1⟩:=a7c ι (is:=a01 ds) fun i hi=>by
     obtain ⟨j,hj⟩:=List.getElem?_of_mem hi
     have hjl:j<os.length:=by rw [← l0];exact (List.getElem?_eq_some_iff.mp hj).1
     obtain ⟨x,h3,h4⟩:=g0 j _ (List.getElem?_eq_getElem hjl)
     rw [hj] at h3;cases h3
     rw [hr.len]
     exact (List.getElem?_eq_some_iff.mp h4).1
    obtain ⟨l1,g1⟩:=zb e1
    have lk:κ.length=os.length:=by omega
    have R0:Reps K κ H vs (ym 0 ds):=by simpa using a1a (pre:=[]) r hd e1
    have H0:HRep K κ H os:=by
     refine ⟨a7e hr.nd e1 nd,lk,fun j a ob q1 q2=>?_⟩
     obtain ⟨i,h3,h4⟩:=g1 j a q1
     obtain ⟨i',h5,h6⟩:=g0 j ob q2
     rw [h3] at h5;cases h5
     exact (hr.obj i a ob h4 h6).any (hcl ob (List.mem_of_getElem? q2)) _
    refine ⟨κ,ym 0 ds,os,R0,H0,?_⟩
    cases hF:F (ym 0 ds) os with
    | no=>rw [hF] at o;cases m<;>exact o.elim
    | ex c hx=>rw [hF] at o;cases m<;>exact o.elim
    | ok d h1 =>
     rw [hF] at o
     intro ι' H' v g rb hr1
     rw [← lk] at o
     cases m with
     | false =>
      simp only [Bool.false_eq_true,if_false] at o
      cases hz:abo κ.length (.ok d h1) with
      | ok d' g' =>
       rw [hz] at o
       simp only at o
       obtain ⟨L,ab,k⟩:=aeh g rb hr1 hz
       refine ⟨L,ab,fun H2 f=>?_⟩
       obtain ⟨k1,k2,k3⟩:=k H2 f
       split at o
       ·rename_i cg
        split at o
        ·rename_i cd
         have q:=aa6 (m:=[]) hr e1 nd (by simpa using k1) (by simpa using k3) cg (by simp)
         have lg:=k3.len
         have dr:g'.drop κ.length=[]:=List.drop_eq_nil_of_le (by omega)
         rw [dr,List.append_nil,List.append_nil] at q
         exact o ι H2 v q.1 (k2.any cd _) q.2
        ·exact o.elim
       ·exact o.elim
      | ex c hx=>rw [hz] at o;exact o.elim
      | no=>rw [hz] at o;exact o.elim
     | true =>
      simp only [if_true] at o
      cases hz:ani κ.length (.ok d h1) with
      | ok d' g' =>
       rw [hz] at o
       simp only at o
       obtain ⟨b,hb,k1,k2,k3⟩:=ahh g rb hr1 hz
       refine ⟨[],fun a ha=>(by simp at ha),fun H2 f=>?_⟩
       have e2:H2=H':=by funext a;exact (f a).1 (by simp)
       subst e2
       split at o
       ·rename_i cg
        have q:=aa6 (m:=[b]) hr e1 nd k1 k3 cg (by simp)
        refine o (ι++[b]) H2 v q.1 ?_ q.2
        have hd':d' = .ref κ.length:=by
         unfold ani at hz
         split at hz
         ·rename_i i h2 hh
          injection hh with z1 z2
          split at hz
          ·split at hz
           ·injection hz with z3 z4;exact z3.symm
           ·cases hz
          ·cases hz
         ·cases hz
        subst hd'
        cases k2 with
        | ref hk =>
         rw [List.getElem?_append_right (Nat.le_refl _)] at hk
         simp at hk
         subst hk
         exact .ref (by rw [← hr.len];simp)
       ·exact o.elim
      | ex c hx=>rw [hz] at o;exact o.elim
      | no=>rw [hz] at o;exact o.elim
   ·exact o.elim
 ·exact o.elim
end
theorem g8 (m:Bool) {X:Cx} {k n:Nat} {f:Addr} {fd:FuncData} {ps:List Str} {x:Str} {F:SF} {ka:SA} {e:Expr} {es:List Expr} {p pos:Pos} (G:Dn X.prog X.w X.K X.mg X.base k x ps (um X.K n F) f fd) (hr:Room k X.A) (hg:Gl X x) (ha:MA X X0 (e::es) ka)
  (hdb:(x == ("__debug__" : Str))=false:=by decide) (he:starEach (e::es) X.env=(false,eval e X.env)::starEach es X.env:=by rfl) (hpl:(backTo pos (starEach es X.env)).any (·.1)=false:=by rfl):ME X X0 (.Call (.Name x p) (e::es) [] pos) (sA (o8 m n F) ka):=by
 refine PE.weak (aef (akn G.ok hr hg G.m G.kp G.b .nil aoz ha hdb he hpl)) fun σ H Q ⟨ι,τ,h,S,Rh,o⟩=>?_
 refine ⟨ι,τ,h,S,Rh,d7 o fun ds h1 ι1 H1 vs g1 r1 hr1 o1=>?_⟩
 rw [List.append_nil]
 exact aei r1 hr1 o1 _
theorem aej (m:Bool) {X:Cx} {k n:Nat} {f:Addr} {fd:FuncData} {ps:List Str} {x:Str} {F:SF} {p pos:Pos} (G:Dn X.prog X.w X.K X.mg X.base k x ps (um X.K n F) f fd) (hr:Room k X.A) (hg:Gl X x) (hdb:(x == ("__debug__" : Str))=false:=by decide) :
  ME X X0 (.Call (.Name x p) [] [] pos) (sA (o8 m n F) gf):=by
 refine PE.weak (aef (agv G.ok hr hg G.m G.kp G.b .nil aoz hdb)) fun σ H Q ⟨ι,τ,h,S,Rh,o⟩=>?_
 exact aei (vs:=[]) .nil Rh o E0
end MI
namespace MI
open PySem PySem.Spec L2
def as8:SS:=fun _ _=>.no
section
variable {X:Cx} {E:XD}
theorem ajl {st:List Stmt}:MSs X E st as8:=fun _ _ _ _ _ _ ⟨_,_,_,_,_,o⟩=>o.elim
end
theorem aek {X:Cx} {st:Stmt} {t:TS} (h:PS X st t):PS X st (fun D σ H=>t { D with nx:=fun σ' H1=>∃ L,abn H1 L∧∀ H2,FrzOf L H1 H2→D.nx σ' H2 } σ H):=fun pins s σ H D I q =>
 thn (h pins s σ H _ I q) fun f s' k=>by
  cases f with
  | next =>
   obtain ⟨σ',H1,I1,L,ab,k⟩:=k
   obtain ⟨H2,f,I2⟩:=Inv.frz I1 ab
   exact ⟨σ',H2,I2,k H2 f⟩
  | brk=>exact k
  | cont=>exact k
  | ret u=>exact k
theorem aa7 {K:PySem.W.Frag} {E:XD} {f:SE} {i:Nat} {N:Ends} {σ:St} {H:Hp} (q:a5m K E (jr i f) N σ H):lift K E (qt K) f σ H (fun v H1=>N.nx (σ.set i (some v)) H1):=by
 obtain ⟨ι,τ,h,S,Rh,o⟩:=q
 exact ⟨ι,τ,h,S,Rh,kh o fun d h1 ι1 H1 v g1 r1 hr1 o1=>o1 ι1 H1 _ (.refl _ _) ((S.mono g1).set r1 i) hr1⟩
theorem a8s {K:PySem.W.Frag} {E:XD} {fi:SI} {t:D→Option Sd} {fe:SE} {ix:List Nat} {n:Nat} {g:TG} {σ:St} {H:Hp} {Q:VK} (ht:acs K n g t) (q:lift K E (qt K) (jn fi t fe ix) σ H Q):abb (lift K E (apf K) fi) (ie n ix) g (lift K E (qt K) fe) σ H Q:=by
 obtain ⟨ι,τ,h,Sr,Rh,o⟩:=q
 refine ⟨ι,τ,h,Sr,Rh,d7 o fun it h1 ι1 H1 J g1 r1 hr1 o1=>?_⟩
 by_cases hl:it.xs.length≤LINE
 ·rw [if_pos hl] at o1
  exact a9z r1 ht (a0f (Sr.mono g1) ix) hr1 hl o1
 ·rw [if_neg hl] at o1;exact o1.elim
theorem ahi {K:PySem.W.Frag} {E:XD} {fi:SI} {t:D→Option Sd} {fc:ST} {fe:SE} {ix:List Nat} {n:Nat} {g:TG} {σ:St} {H:Hp} {Q:VK} (ht:acs K n g t) (q:lift K E (qt K) (my fi t fc fe ix) σ H Q):a5l (lift K E (apf K) fi) (ie n ix) g (lift K E aj5 fc) (lift K E (qt K) fe) σ H Q:=by
 obtain ⟨ι,τ,h,Sr,Rh,o⟩:=q
 refine ⟨ι,τ,h,Sr,Rh,d7 o fun it h1 ι1 H1 J g1 r1 hr1 o1=>?_⟩
 by_cases hl:it.xs.length≤LINE
 ·rw [if_pos hl] at o1
  exact a7a r1 ht (a0f (Sr.mono g1) ix) hr1 hl o1
 ·rw [if_neg hl] at o1;exact o1.elim
section
variable {X:Cx} {E:XD} {elt tg iter cnd:Expr} {scope:Scope} {pos spos pos':Pos} {cl:List (Str × Addr)} {ts fr:List Str} {ix:List Nat} {fi:SI} {g:TG} {t:D→Option Sd} {fe:SE} {fc:ST} {i:Nat} {x:Str}
theorem als (hN:X.N.Nodup) (hi':X.N[i]? = some x) (hx:Loc X.env.scope x) (hc:X.calm=true) (S:CSc X scope cl ts fr ix) (hi:MI X E tg iter fi) (hg:∀ C fp s H,PG (cxC X (ts++fr) scope cl C fp s H) tg g) (ht:acs X.K ts.length g t) (he:∀ C fp s H,ME (cxC X (ts++fr) scope cl C fp s H) E elt fe)
  (hs:∀ x,foldedSetIterable iter X.env x=pure x:=by intro _;rfl) (hsw:swapsWith (.ListComp elt [⟨tg,iter,[],0⟩] scope pos) (some (.Name x pos')) spos.line X.env=pure true:=by rfl) (hf:X.fn x=true∨X.env.scope.names.lookup x=some .local:=by first | exact .inl rfl | exact .inr rfl | assumption) :
  MS X E (.Assign [.Name x pos'] (.ListComp elt [⟨tg,iter,[],0⟩] scope pos) spos) (jr i (jn fi t fe ix)) :=
 PS.weak (a9q (te:=lift X.K E (qt X.K) fe) hN hi' hx hc S hi hg he hs hsw hf) fun N σ H q=>a8s ht (aa7 q)
theorem a2d (hN:X.N.Nodup) (hi':X.N[i]? = some x) (hx:Loc X.env.scope x) (hc:X.calm=true) (S:CSc X scope cl ts fr ix) (hi:MI X E tg iter fi) (hg:∀ C fp s H,PG (cxC X (ts++fr) scope cl C fp s H) tg g) (ht:acs X.K ts.length g t) (he:∀ C fp s H,ME (cxC X (ts++fr) scope cl C fp s H) E elt fe)
  (hs:∀ x,foldedSetIterable iter X.env x=pure x:=by intro _;rfl) (hsw:swapsWith (.ListComp elt [⟨tg,iter,[],0⟩] scope pos) (some (.Name x pos')) spos.line X.env=pure true:=by rfl) (hf:X.fn x=true∨X.env.scope.names.lookup x=some .local:=by first | exact .inl rfl | exact .inr rfl | assumption) :
  MS X E (.Assign [.Name x pos'] (.ListComp elt [⟨tg,iter,[],0⟩] scope pos) spos) (jr i (sZ (jn fi t fe ix))) :=
 PS.weak (aek (a9q (te:=lift X.K E (qt X.K) fe) hN hi' hx hc S hi hg he hs hsw hf)) fun N σ H q=>a8s ht (as7 (aa7 q))
theorem aa8 (hN:X.N.Nodup) (hi':X.N[i]? = some x) (hx:Loc X.env.scope x) (hc:X.calm=true) (S:CSc X scope cl ts fr ix) (hi:MI X E tg iter fi) (hg:∀ C fp s H,PG (cxC X (ts++fr) scope cl C fp s H) tg g) (ht:acs X.K ts.length g t) (he:∀ C fp s H,ME (cxC X (ts++fr) scope cl C fp s H) E elt fe)
  (hq:∀ C fp s H,MT (cxC X (ts++fr) scope cl C fp s H) E cnd fc)
  (hs:∀ x,foldedSetIterable iter X.env x=pure x:=by intro _;rfl) (hsw:swapsWith (.ListComp elt [⟨tg,iter,[cnd],0⟩] scope pos) (some (.Name x pos')) spos.line X.env=pure true:=by rfl) (hf:X.fn x=true∨X.env.scope.names.lookup x=some .local:=by first | exact .inl rfl | exact .inr rfl | assumption) :
  MS X E (.Assign [.Name x pos'] (.ListComp elt [⟨tg,iter,[cnd],0⟩] scope pos) spos) (jr i (sZ (my fi t fc fe ix))) :=
 PS.weak (aek (abf (te:=lift X.K E (qt X.K) fe) (tc:=lift X.K E aj5 fc) hN hi' hx hc S hi hg he hq hs hsw hf)) fun N σ H q=>ahi ht (as7 (aa7 q))
end
theorem qm {P:Program} {w:World} {K:PySem.W.Frag} {mg:Str→Option Value} {base:Heap} {x qual:Str} {st:Stmt} {f:Addr} {fd:FuncData} {N ps:List Str} {k:Nat} {b:SS} (Fu:Fun K x qual st f fd) (S:FnScope N ps (au st))
  (hb:∀ (cdv:Value) (A:Around) (outer:List Env) (s:Shared) (H:Hp) (E:XK),Room k (A.deeper (PyProof.Rows.envOfC qual (au st) s.heap.objs.size f cdv))→MSs (a1x CX0 P w K mg base N qual (au st) f cdv A outer s H E).nox X0 (iz st) b) :
  FnOk P w K mg base CX0 (k+1) f fd ps (um K ps.length (ql b N.length)):=api Fu S hb fun ds h _ _ _=>Rf.same rfl
end MI
namespace MI
open PySem PySem.Spec L2 HT
theorem abq {prog:Program} {w:World} {A:Around} {E:Value→Shared→Prop} {s:Shared} {t sl:Addr} {items:Array Value} {vl vu:Value} {lo hi:Option Int} {Q:Value→Shared→Prop} (ht:PyProof.Rows.IsTup s.heap t items) (hs:s.heap.IsSliceOf sl vl vu .none) (pl:IsPart vl lo) (pu:IsPart vu hi)
  (hw:HT.sIx items.size 0 lo=0∧HT.sIx items.size items.size hi=items.size) (h:Q (.ref t) s):wpAny (model prog w) A (getItem (.ref t) (.ref sl)) Q E s:=by
 obtain ⟨os,f1,f2,f3⟩:=id hs
 have ty:s.TypeIs (.ref sl) "slice":=⟨os,f1,f2⟩
 have tt:s.TypeIs (.ref t) "tuple":=ht.typeIs
 rw [getItem]
 try apply wpAny_holding
 first | (apply wpAny_bind;apply wpAny_pure) | skip
 apply wpAny_bind;apply wpAny_sequenceKey tt (by decide)
 apply wpAny_bind
 apply wpAny_callSpecial?_slot (name:=Str.ofString "__getitem__") tt PyProof.Rows.slot_tuple_getitem
 apply wpAny_call_entry PyProof.Rows.slot_tuple_getitem tt PyProof.Rows.entry_tuple_getitem _ (PyProof.Rows.args_tuple_getitem _ _)
 change wpAny (model prog w) A.in1 (Builtin.Tuple.tupleItemsOf (.ref t)>>=_) _ _ s
 apply wpAny_bind;apply PyProof.Rows.tupleItemsOf_ ht
 apply wpAny_bind;apply wpAny_typeOf ty
 rw [if_pos (by decide)]
 apply wpAny_bind;apply HT.xj hs pl pu
 rw [hw.1,hw.2]
 dsimp only
 rw [if_pos (by simp)]
 apply wpAny_bind
 rw [Builtin.Tuple.tupleIsExact]
 apply wpAny_bind;apply wpAny_typeOf tt
 apply wpAny_pure
 rw [if_pos (by decide)]
 apply wpAny_bind;apply wpAny_rule
 apply wpAny_pure
 exact ⟨_,rfl,wpAny_pure h⟩
def auu (K:PySem.W.Frag):V→Option Int→Option Int→Hp→VK→Prop:=fun x lo hi H Q=>∃ a xs,x = .ref a∧SqT K H a xs∧whole xs.length lo hi∧Q (.ref a) H
theorem ahj {X:Cx}:SlR X (auu X.K):=by
 intro pins s σ H x v vl vu lo hi sl Q I rx hs pl pu h
 obtain ⟨a,xs,rfl,hx,hw,q⟩:=h
 cases rx
 obtain ⟨its,r,ht,hz⟩:=I.tuple hx
 have hlen:its.toArray.size=xs.length:=by rw [List.size_toArray];exact r.length.symm
 exact ⟨"tuple",_,PyProof.Rows.slot_tuple_getitem.lookup,ht.typeIs,abq ht hs pl pu (by rw [hlen];exact hw) ⟨.ref a,H,I,rfl,q⟩⟩
def ajm (d:D) (lo hi:Option Int) (h:Hd):R D:=match d with
 | .tup xs=>if whole xs.length lo hi then .ok (.tup xs) h else .ok (.tup (a5i xs lo hi)) h
 | d=>gSl d lo hi h
def agj (f:SE) (l u:SO):SE:=fun τ h=>(f τ h).bind fun d h1=>(l τ h1).bind fun lo h2=>(u τ h2).bind fun hi h3=>ajm d lo hi h3
theorem alu {K:PySem.W.Frag} {E:XD} {ι:List Addr} {H:Hp} {h:Hd} {x:V} {d:D} {lo hi:Option Int} {Q:VK} (rx:Rep K ι H x d) (hr:HRep K ι H h) (o:out K E (qt K) ι H (ajm d lo hi h) Q):(atl x lo hi H Q∨atd K x lo hi H Q∨atf K x lo hi H Q)∨auu K x lo hi H Q:=by
 cases rx with
 | @tup p vs xs hp r =>
  by_cases hc:whole xs.length lo hi
  ·simp only [ajm,if_pos hc] at o
   exact .inr ⟨p,vs,rfl,SqT.of hp,by rw [r.len];exact hc,ans o (.tup hp r) hr⟩
  ·simp only [ajm,if_neg hc] at o
   exact .inl (.inr (.inl ⟨p,vs,rfl,SqT.of hp,by rw [r.len];exact hc,zy (a0h r lo hi) hr o⟩))
 | non=>exact o.elim
 | bl _=>exact o.elim
 | int _=>exact o.elim
 | ty _=>exact o.elim
 | str z=>exact .inl (aa3 (.str z) hr o)
 | rol a b=>exact .inl (aa3 (.rol a b) hr o)
 | scr a b=>exact .inl (aa3 (.scr a b) hr o)
 | rod a b c=>exact o.elim
 | rdT a b c=>exact o.elim
 | exc a b c=>exact o.elim
 | ref a=>exact .inl (aa3 (.ref a) hr o)
theorem a3l {X:Cx} {E:XD} {e:Expr} {fa:SE} {lo hi:Option Expr} {l u:SO} {p2 pos:Pos} (he:ME X E e fa) (hl:MO X E lo l) (hu:MO X E hi u):ME X E (.Subscript e (.Slice lo hi none p2) pos) (agj fa l u):=by
 refine PE.weak (agx ((ap6.or (aot.or aku)).or ahj) he hl hu) fun σ H Q ⟨ι,τ,h,S,Rh,o⟩=>?_
 refine ⟨ι,τ,h,S,Rh,d7 o fun d h1 ι1 H1 v g1 r1 hr1 o1=>?_⟩
 refine ⟨ι1,τ,h1,S.mono g1,hr1,d7 o1 fun lo h2 ι2 H2 lv g2 r2 hr2 o2=>?_⟩
 refine ⟨ι2,τ,h2,(S.mono g1).mono g2,hr2,d7 o2 fun hi h3 ι3 H3 hv g3 r3 hr3 o3=>?_⟩
 cases r2;cases r3
 exact alu ((r1.mono g2).mono g3) hr3 o3
end MI
namespace TPM
open PySem PySem.Spec PySem.W L2 HT MI
end TPM
namespace MI
open PySem PySem.Spec L2 TPM
end MI
namespace L2
open PySem PySem.Spec PyProof.Rows
theorem ahk {X:Cx}:aul X (arz X.K):=by
 intro pins s σ H o i ov iv Q I ro ri h
 obtain ⟨p,xs,k,z,rfl,rfl,hq,he,q⟩:=h
 cases ro
 obtain ⟨t,rfl⟩:=ri
 obtain ⟨its,r,pl,hz⟩:=I.list hq
 obtain ⟨j,h1,h2,h3,h4,h5⟩:=a5e he
 obtain ⟨w,ew,rw'⟩:=r.get h2
 have len:=r.length
 have l63:=a1m
 have done:EP X pins σ Q w s:=⟨z,H,I,rw',q⟩
 by_cases neg:k<0
 ·have ej:(k+(its.toArray.size:Int)).toNat=j:=by
   rw [seqIndex_neg neg h4] at h1
   rw [List.size_toArray,← len]
   exact Option.some.inj h1
  exact wpAny_getItem_list_neg pl.isList neg (by rw [List.size_toArray];omega) (by omega) (by rw [ej];simpa using ew) done
 ·have ej:k.toNat=j:=by
   rw [seqIndex_of (by omega) h5] at h1
   exact Option.some.inj h1
  exact wpAny_getItem_list pl.isList (by omega) (by omega) (by rw [ej];simpa using ew) done
theorem a7f (bs:List Bool):((List.range bs.length).any fun i=>(bs[i]?).getD true)=bs.any id:=by
 have e:(List.range bs.length).map (fun i=>(bs[i]?).getD true)=bs:=by
  apply List.ext_getElem (by simp)
  intro i h1 h2
  simp [h2]
 have f:((List.range bs.length).map fun i=>(bs[i]?).getD true).any id=bs.any id:=by rw [e]
 rw [← f,List.any_map]
 rfl
theorem a8t {X:Cx} (hc:X.calm=true):CallR X (.builtin "any") (fun xs H Q=>∃ (p:Addr) (bs:List Bool),xs=[.ref p]∧SqL X.K H p (bs.map V.bl)∧Q (.bl (bs.any id)) H):=by
 intro pins s σ H xs us Q I r h
 obtain ⟨p,bs,rfl,hq,q⟩:=h
 obtain ⟨u,rfl,rx⟩:=vals1 r
 cases rx
 obtain ⟨its,r',pl,hz⟩:=I.list hq
 have hl:=r'.length
 rw [List.length_map] at hl
 have hlt:p<s.heap.objs.size:=by obtain ⟨_,e,_⟩:=pl.isList;exact Heap.lt_size e
 refine call_any_walk (wpAny_pyIter_list pl.isList ?_)
 refine ⟨s.heap.objs.size,[s.heap.objs.size,p],[s.heap.objs.size],its.toArray.size,_,_,fun i=>(bs[i]?).getD true,rfl,Walks.list (A:=X.A.in1) (I.ok.hd hc) _ p (Nat.ne_of_lt hlt) its.toArray,
  ⟨⟨_,Heap.get?_push_size _ rfl,rfl,rfl⟩,pl.isList.push _⟩,fun i v s' Q' E' hP hQ=>?_,fun h' tk hk=>?_⟩
 ·have hP':its[i]? = some v:=by simpa using hP
  have hi:i<bs.length:=by
   have:=(List.getElem?_eq_some_iff.mp hP').1
   omega
  obtain ⟨u,e,ru⟩:=r'.get (i:=i) (x:=.bl bs[i]) (by simp [hi])
  rw [hP'] at e
  cases e
  cases ru
  simp only [List.getElem?_eq_getElem hi,Option.getD_some] at hQ
  exact wpAny_truthy_bool hQ
 ·have e:((List.range its.toArray.size).any fun i=>(bs[i]?).getD true)=bs.any id:=by
   rw [List.size_toArray,← hl];exact a7f bs
  rw [e]
  exact ⟨.bl _,H,I.kept fun b x e=>hk b x (fun hm=>by rw [List.mem_singleton.mp hm] at e;exact Nat.lt_irrefl _ (Heap.lt_size e)) (Heap.get?_push_of_some _ e),rfl,q⟩
end L2
namespace MI
open PySem PySem.Spec L2
def alv (x y:D) (h:Hd):R D:=match x,y with
 | .ref p, .int i=>(match h[p]? with | some (.lst xs)=>(match atI xs i with | some d=>.ok d h | none=>.no) | _=>.no)
 | _,_=>.no
theorem alw {K:PySem.W.Frag}:a0e K alv (arz K):=by
 intro E ι H h x y dx dy Q rx ry hr o
 cases rx with
 | @ref p i hp =>
  cases ry with
  | int k =>
   simp only [alv] at o
   split at o
   ·rename_i xs hx
    obtain ⟨vs,h3,h4⟩:=hr.lst hp hx
    split at o
    ·rename_i d he
     obtain ⟨v,h1,h2⟩:=aa2 h4 he
     exact ⟨p,vs,k,v,rfl,rfl,SqL.of h3,h1,ans o h2 hr⟩
    ·exact o.elim
   ·exact o.elim
  | _=>exact o.elim
 | _=>exact o.elim
def a7g (g:D→D→Hd→R D) (fo fi fe:SE):SS:=fun τ h=>(fo τ h).fl fun o h1=>(fi τ h1).fl fun i h2=>(alv o i h2).fl fun x h3=>(fe τ h3).fl fun y h4=>(g x y h4).fl fun z h5=>match put o i z h5 with | some h6=>.nx τ h6 | none=>.no
section
variable {X:Cx} {E:XD} {e o i:Expr} {fa fb fc:SE} {pos:Pos}
theorem a8u {op:Operator} {r:R2} {gg:D→D→Hd→R D} {tpos:Pos} (ho:ME X E o fa) (hi:ME X E i fb) (he:ME X E e fc) (hp:OpR X (inplaceOp op) r) (hs:a0e X.K gg r)
  (ha:∀ ov iv new,augStore i ov iv new=(do holding [new,ov,iv] (setItem ov iv new);release [new,ov,iv] [];pure .next):=by intros;rfl):MS X E (.AugAssign (.Subscript o i tpos) op e pos) (a7g gg fa fb fc):=by
 refine PS.weak (akg ho hi ahk he hp set_list ha) fun N σ H ⟨ι,τ,h,S,Rh,oo⟩=>?_
 refine ⟨ι,τ,h,S,Rh,kh oo fun d h1 ι1 H1 v g1 r1 hr1 o1=>?_⟩
 refine ⟨ι1,τ,h1,S.mono g1,hr1,kh o1 fun d2 h2 ι2 H2 u g2 r2 hr2 o2=>?_⟩
 refine alw E ι2 H2 h2 v u d d2 _ (r1.mono g2) r2 hr2 (kh o2 fun d3 h3 ι3 H3 w g3 r3 hr3 o3=>?_)
 have S3:=((S.mono g1).mono g2).mono g3
 refine ⟨ι3,τ,h3,S3,hr3,kh o3 fun d4 h4 ι4 H4 y g4 r4 hr4 o4=>?_⟩
 refine hs E ι4 H4 h4 w y d3 d4 _ (r3.mono g4) r4 hr4 (kh o4 fun d5 h5 ι5 H5 z g5 r5 hr5 o5=>?_)
 cases hq:put d d2 d5 h5 with
 | none=>rw [hq] at o5;exact o5.elim
 | some h6 =>
  rw [hq] at o5
  exact ady ((((r1.mono g2).mono g3).mono g4).mono g5) (((r2.mono g3).mono g4).mono g5) r5 hr5 hq fun H' g6 hr6=>o5 ι5 H' σ g6 (((S3.mono g4).mono g5).mono g6) hr6
end
def anj:List D→Hd→R D
 | [.ref i],h=>(match h[i]? with | some (.lst xs)=>(match ah9 xs with | some bs=>.ok (.bl (bs.any id)) h | none=>.no) | _=>.no)
 | [.rol xs],h=>(match ah9 xs with | some bs=>.ok (.bl (bs.any id)) h | none=>.no)
 | _,_=>.no
theorem alx {K:PySem.W.Frag}:abi K anj (fun xs H Q=>∃ (p:Addr) (bs:List Bool),xs=[.ref p]∧SqL K H p (bs.map V.bl)∧Q (.bl (bs.any id)) H):=by
 intro E ι H h xs ds Q r hr o
 unfold anj at o
 split at o
 ·cases r with
  | cons r rs =>
   cases rs
   cases r with
   | @ref p _ hp =>
    split at o
    ·rename_i xs hx
     obtain ⟨vs,h3,h4⟩:=hr.lst hp hx
     split at o
     ·rename_i bs hb
      exact ⟨p,bs,rfl,SqL.of (by rw [h3,a8q h4 hb]),ans o (.bl _) hr⟩
     ·exact o.elim
    ·exact o.elim
 ·cases r with
  | cons r rs =>
   cases rs
   cases r with
   | @rol p vs xs hp r =>
    split at o
    ·rename_i bs hb
     exact ⟨p,bs,rfl,by rw [← a8q r hb];exact hp.l,ans o (.bl _) hr⟩
    ·exact o.elim
 ·exact o.elim
end MI
namespace TPM
open PySem PySem.Spec PySem.W L2 HT MI
theorem abr (t b:Addr) (items2:Array Value) (n n2:Nat) (dd dd2:Option Addr) (sl sl2:Array (Option Value)) :
  Meets (Builtin.«tuple.__add__» ⟨[.ref t, .ref b],[]⟩) (fun _ R s=>s.heap.get? t=some { cls:=.type "tuple",dict:=dd,data:=.seq #[] n,slots:=sl }∧s.heap.get? b=some { cls:=.type "tuple",dict:=dd2,data:=.seq items2 n2,slots:=sl2 }∧R (.ok (.ret (.ref b))) s):=by
 refine .of_wp fun prog w A R s h=>?_
 obtain ⟨hp,g,d,tk,os⟩:=s
 obtain ⟨hl,hb,h⟩:=h
 wp_walk
 refine wpAny_of_eq sub_tuple_self ?_
 wp_walk
 exact ⟨_,rfl,h⟩
def aq3 (K:PySem.W.Frag):R2:=fun x y H Q=>∃ a b ys,x = .ref a∧y = .ref b∧SqT K H a []∧SqT K H b ys∧Q (.ref b) H
theorem aly {X:Cx}:OpR X (binaryOp .Add) (aq3 X.K):=by
 intro pins s σ H x y v u Q I rx ry h
 obtain ⟨a,b,ys,rfl,rfl,ha,hb,q⟩:=h
 cases rx
 cases ry
 obtain ⟨its,r1,p1,_⟩:=I.tuple ha
 obtain ⟨its2,r2,p2,_⟩:=I.tuple hb
 cases r1
 obtain ⟨⟨cls,dd,data,sl⟩,ho,hc,n,hd⟩:=id p1
 obtain ⟨⟨cls2,dd2,data2,sl2⟩,ho2,hc2,n2,hd2⟩:=id p2
 simp only at hc hd hc2 hd2
 subst hc hd hc2 hd2
 exact concat_meets ⟨_,ho,rfl⟩ ⟨_,ho2,rfl⟩ noFill_tuple_add seq_tuple_add F.slot_tuple_add F.entry_tuple_add (F.args_tuple_add_2 _ _) (abr a b its2.toArray n n2 dd dd2 sl sl2) ⟨ho,ho2,⟨.ref b,H,I,rfl,q⟩⟩
end TPM
namespace MI
open PySem PySem.Spec L2 TPM
end MI
namespace TPM
open PySem PySem.Spec PySem.W L2 HT MI PyProof.Rows
end TPM
namespace MI
open PySem PySem.Spec L2 TPM
end MI
namespace L2
open PySem PySem.Spec PyProof.Rows
section
variable {X:Cx}
theorem Inv.lstR {pins:List (Addr × Obj)} {σ:St} {H:Hp} {s:Shared} {l:Addr} {xs:List V} (I:Inv X pins σ H s) (hH:Rd H l (.lst xs)):xs.length≤sizeLine∧∃ (its:List Value) (n:Nat),Vals xs its∧xs.length=its.length∧s.heap.get? l=some { cls:=.type "list",data:=.seq its.toArray n }:=by
 obtain ⟨z,its,n,r,e⟩:=hH.ok I.hok
 exact ⟨z,its,n,r,r.length,e⟩
def alz:R2:=fun x y H Q=>∃ l b xs zs,x = .ref l∧y = .ref b∧Rd H l (.lst xs)∧Rd H b (.lst zs)∧xs.length+zs.length≤sizeLine∧∀ p,H p=none→Q (.ref p) (upd H p (.lst (xs++zs)))
theorem am0:OpR X (binaryOp .Add) alz:=fun pins s σ H x y v u Q I rx ry ⟨l,b,xs,zs,ex,ey,h1,h2,hz,q⟩=>by
 subst ex ey
 cases rx
 cases ry
 obtain ⟨_,as,_,va,la,ea⟩:=I.lstR h1
 obtain ⟨_,bs,_,vb,lb,eb⟩:=I.lstR h2
 have app:as.toArray++bs.toArray=(as++bs).toArray:=by simp
 refine PySem.P.add_list ea eb ?_ (by simp;omega)
 rw [app]
 exact ⟨.ref _,_,I.lnew (t':=s.toks) (va.append vb) (by simpa using hz),rfl,q _ I.fresh⟩
def aq4:R2:=fun x y H Q=>∃ l k xs,x = .ref l∧y = .int k∧Rd H l (.lst xs) ∧ -(2 ^ 63)≤k∧k<2 ^ 63∧xs.length*k.toNat≤sizeLine∧∀ p,H p=none→Q (.ref p) (upd H p (.lst (List.replicate k.toNat xs).flatten))
theorem am1 (its:List Value) (k:Nat):List.foldl (fun x1 x2=>x1++x2) #[] (List.replicate (if its.toArray.isEmpty=true then 0 else k) its.toArray)=(List.replicate k its).flatten.toArray:=by
 have g:∀ m:Nat,List.foldl (fun x1 x2=>x1++x2) #[] (List.replicate m its.toArray)=(List.replicate m its).flatten.toArray:=fun m=>by simpa using foldl_rep its m []
 cases its with
 | nil=>simp
 | cons a r=>rw [if_neg (by simp),g]
theorem am2:OpR X (binaryOp .Mult) aq4:=fun pins s σ H x y v u Q I rx ry ⟨l,k,xs,ex,ey,h1,k1,k2,hz,q⟩=>by
 subst ex ey
 cases rx
 obtain ⟨t,rfl⟩:=ry
 obtain ⟨_,as,n,va,la,ea⟩:=I.lstR h1
 have few:as.toArray.size*k.toNat≤sizeLine:=by rw [List.size_toArray,← la];exact hz
 have top:(sizeLine:Nat)≤(2 ^ 63 - 1) / 8:=by decide
 refine wpAny_binaryOp_repeat_ref (T := "list") (U := "int") (by decide) ⟨_,ea,rfl⟩ (fun s'=>typeIs_int s' k t) noFill_list_mul F.fills_int_mul F.slot_int_rmul repeat_list F.slot_int_index.lookup
  (call_meets F.slot_int_rmul (typeIs_int s k t) F.entry_int_rmul (F.args_int_rmul_2 _ _) (int___rmul___int_list k t l as.toArray n)
   ⟨ea,rfl,⟨_,ea,rfl⟩,call_meets F.slot_list_mul ⟨_,ea,rfl⟩ F.entry_list_mul (F.args_list_mul_2 _ _)
    (AutoListH.list___mul___list_int_3 l as.toArray n k t (by rw [fitsIndex_both k1 k2];exact Bool.false_ne_true) (by omega) (by rw [agy few];exact Bool.false_ne_true)) ⟨ea,?_⟩⟩)
 rw [am1]
 exact ⟨.ref _,_,I.lnew (t':=s.toks) (va.rep k.toNat) (by rw [len_rep,Nat.mul_comm];exact hz),rfl,q _ I.fresh⟩
end
end L2
namespace MI
open PySem PySem.Spec L2 TPM
def vm (d:D) (h:Hd):Option (List D):=match d with
 | .rol xs=>some xs
 | .ref i=>(match h[i]? with | some (.lst xs)=>some xs | _=>none)
 | _=>none
section
variable {K:PySem.W.Frag} {ι:List Addr} {H:Hp} {h:Hd}
theorem a0m {x:V} {d:D} {xs:List D} (r:Rep K ι H x d) (hr:HRep K ι H h) (e:vm d h=some xs):∃ a vs,x = .ref a∧Rd H a (.lst vs)∧Reps K ι H vs xs:=by
 cases r with
 | @rol a vs ys hp rs=>cases e;exact ⟨a,vs,rfl, .inr hp,rs⟩
 | @ref a i hp =>
  obtain ⟨ob,e1,e2⟩:=hr.at hp
  simp only [vm,e1] at e
  cases ob with
  | lst ys=>cases e;obtain ⟨vs,h3,h4⟩:=e2;exact ⟨a,vs,rfl, .inl h3,h4⟩
  | _=>cases e
 | _=>cases e
def jk:D→D→Hd→R D
 | .int i, .int j,h=>.ok (.int (i+j)) h
 | .str x, .str y,h=>if x.length+y.length≤LINE then .ok (.str (x++y)) h else .no
 | .tup [], .tup ys,h=>.ok (.tup ys) h
 | .tup (x::xs), .tup ys,h=>if (x::xs).length+ys.length≤LINE then .ok (.tup (x::xs++ys)) h else .no
 | x,y,h=>match vm x h,vm y h with
  | some xs,some ys=>if xs.length+ys.length≤LINE then .ok (.ref h.length) (h++[.lst (xs++ys)]) else .no
  | _,_=>.no
theorem am3 {x y:D} {xs ys:List D} (e1:vm x h=some xs) (e2:vm y h=some ys):jk x y h=if xs.length+ys.length≤LINE then .ok (.ref h.length) (h++[.lst (xs++ys)]) else .no:=by
 cases x<;>first | (cases e1;done) | (cases y<;>first | (cases e2;done) | (simp only [jk,e1,e2]))
theorem ahl:a0e K jk (fun x y H Q=>(rI0 (fun i j=>.int (i+j)) x y H Q∨(∃ i j,x = .str i∧y = .str j∧i.length+j.length≤sizeLine∧Q (.str (i++j)) H)∨aou K x y H Q∨alz x y H Q)∨aq3 K x y H Q):=by
 intro E ι H h x y dx dy Q rx ry hr o
 have lists:∀ xs ys,vm dx h=some xs→vm dy h=some ys→alz x y H Q:=fun xs ys e1 e2=>by
  rw [am3 e1 e2] at o
  obtain ⟨a,vs,rfl,h1,h2⟩:=a0m rx hr e1
  obtain ⟨b,us,rfl,h3,h4⟩:=a0m ry hr e2
  split at o
  ·rename_i hc
   exact ⟨a,b,vs,us,rfl,rfl,h1,h3,ll (by rw [h2.len,h4.len];exact hc),ur (h2.app h4) hr o⟩
  ·exact o.elim
 cases hx:vm dx h with
 | some xs =>
  cases hy:vm dy h with
  | some ys=>exact .inl (.inr (.inr (.inr (lists xs ys hx hy))))
  | none =>
   exfalso
   cases rx<;>first | (cases hx;done) | (cases ry<;>first | (simp only [jk,hx,hy] at o;exact o) | (simp only [jk] at o;exact o))
 | none =>
  cases rx with
  | int i =>
   cases ry with
   | int j=>exact .inl (.inl ⟨i,j,rfl,rfl,ans o (.int _) hr⟩)
   | _=>exact o.elim
  | str i =>
   cases ry with
   | str j =>
    simp only [jk] at o
    split at o
    ·rename_i hc;exact .inl (.inr (.inl ⟨i,j,rfl,rfl,ll hc,ans o (.str _) hr⟩))
    ·exact o.elim
   | _=>exact o.elim
  | @tup a vs xs ha r1 =>
   cases ry with
   | @tup b us ys hb r2 =>
    cases xs with
    | nil=>cases r1;exact .inr ⟨a,b,us,rfl,rfl,SqT.of ha,SqT.of hb,ans o (.tup hb r2) hr⟩
    | cons z xs =>
     simp only [jk] at o
     split at o
     ·rename_i hc
      refine .inl (.inr (.inr (.inl ⟨a,b,vs,us,rfl,rfl,SqT.of ha,SqT.of hb,fun z=>(by subst z;cases r1),ll (by rw [r1.len,r2.len];exact hc),fun z=>?_,fun _=>?_⟩)))
      ·subst z;cases r2
       rw [List.append_nil] at o
       exact ans o (.tup ha r1) hr
      ·exact zy (r1.app r2) hr o
     ·exact o.elim
   | _=>cases xs<;>exact o.elim
  | rol _ _=>cases hx
  | ref _=>cases ry<;>(simp only [jk,hx] at o;exact o.elim)
  | _=>cases ry<;>exact o.elim
theorem jz {X:Cx} {E:XD} {a b:Expr} {fa fb:SE} {pos:Pos} (ha:ME X E a fa) (hb:ME X E b fb):ME X E (.BinOp a .Add b pos) (s2 jk fa fb) :=
 abj (OpR.or (aog.or (ab6.or (aks.or am0))) aly) ahl ha hb
open Classical in
noncomputable def xr:D→D→Hd→R D
 | .int i, .int j,h=>if CMul i j then .ok (.int (i*j)) h else .no
 | x, .int k,h=>match vm x h with
  | some xs=>if (-(2 ^ 63)≤k∧k<2 ^ 63)∧xs.length*k.toNat≤LINE then .ok (.ref h.length) (h++[.lst (List.replicate k.toNat xs).flatten]) else .no
  | none=>.no
 | _,_,_=>.no
theorem ahm:a0e K xr (fun x y H Q=>rI CMul (fun i j=>.int (i*j)) x y H Q∨aq4 x y H Q):=by
 intro E ι H h x y dx dy Q rx ry hr o
 cases ry with
 | int k =>
  cases hx:vm dx h with
  | some xs =>
   obtain ⟨a,vs,rfl,h1,h2⟩:=a0m rx hr hx
   have o':out K E (qt K) ι H (if (-(2 ^ 63)≤k∧k<2 ^ 63)∧xs.length*k.toNat≤LINE then .ok (.ref h.length) (h++[.lst (List.replicate k.toNat xs).flatten]) else .no) Q:=by
    cases dx<;>first | (cases hx;done) | (simp only [xr,hx] at o;exact o)
   split at o'
   ·rename_i hc
    exact .inr ⟨a,k,vs,rfl,rfl,h1,hc.1.1,hc.1.2,ll (by rw [h2.len];exact hc.2),ur (h2.flat _) hr o'⟩
   ·exact o'.elim
  | none =>
   cases rx with
   | int i =>
    by_cases hc:CMul i k
    ·simp only [xr,if_pos hc] at o;exact .inl ⟨i,k,rfl,rfl,hc,ans o (.int _) hr⟩
    ·simp only [xr,if_neg hc] at o;exact o.elim
   | _=>simp only [xr,hx] at o;exact o.elim
 | _=>cases rx<;>exact o.elim
theorem a1c {X:Cx} {E:XD} {a b:Expr} {fa fb:SE} {pos:Pos} (ha:ME X E a fa) (hb:ME X E b fb):ME X E (.BinOp a .Mult b pos) (s2 xr fa fb):=abj (aoi.or am2) ahm ha hb
end
end MI
namespace MI
open PySem PySem.Spec L2
def a1s (d:D) (h:Hd):Option (List Int):=match d with
 | .ref i=>(match h[i]? with | some (.lst xs)=>a3i xs | _=>none)
 | .rol xs=>a3i xs
 | _=>none
theorem a3m {K:PySem.W.Frag} {ι:List Addr} {H:Hp} {h:Hd} {v:V} {d:D} {ns:List Int} (r:Rep K ι H v d) (hr:HRep K ι H h) (e:a1s d h=some ns):∃ p,v = .ref p∧SqL K H p (ns.map V.int):=by
 unfold a1s at e
 split at e
 ·cases r with
  | @ref p _ hp =>
   split at e
   ·rename_i xs hx
    obtain ⟨vs,h3,h4⟩:=hr.lst hp hx
    exact ⟨p,rfl,SqL.of (by rw [h3,a0i h4 e])⟩
   ·cases e
 ·cases r with
  | @rol p vs xs hp r=>exact ⟨p,rfl,by rw [← a0i r e];exact hp.l⟩
 ·cases e
def abt:List D→Hd→R D
 | [d],h=>(match a1s d h with | some (n::ns)=>.ok (.int (mxI (n::ns))) h | _=>.no)
 | _,_=>.no
theorem ahn {K:PySem.W.Frag}:abi K abt (fun xs H Q=>∃ (p:Addr) (ns:List Int),xs=[.ref p]∧SqL K H p (ns.map V.int)∧ns≠[]∧Q (.int (mxI ns)) H):=by
 intro E ι H h xs ds Q r hr o
 unfold abt at o
 split at o
 ·cases r with
  | cons r rs =>
   cases rs
   split at o
   ·rename_i n ns e
    obtain ⟨p,rfl,q⟩:=a3m r hr e
    exact ⟨p,n::ns,rfl,q,by simp,ans o (.int _) hr⟩
   ·exact o.elim
 ·exact o.elim
theorem aq5 {xs:List Int} {h:Hd} (ne:xs≠[]):abt [.rol (xs.map D.int)] h = .ok (.int (mxI xs)) h:=by
 have e:∀ l:List Int,a3i (l.map D.int)=some l:=fun l=>by
  induction l with
  | nil=>rfl
  | cons a l ih=>rw [List.map_cons];simp only [a3i,ih,Option.map_some]
 unfold abt a1s
 simp only [e]
 cases xs with
 | nil=>exact absurd rfl ne
 | cons n ns=>rfl
end MI
namespace L2
open PySem PySem.Spec PyProof.Rows
section
variable {X:Cx}
theorem a5u:CallR X (.builtin "sorted") (fun xs H Q=>∃ (p:Addr) (ns:List Int),xs=[.ref p]∧SqL X.K H p (ns.map V.int)∧ns.length<64∧∀ l,H l=none→Q (.ref l) (upd H l (.lst ((PySem.W.sortI ns).map V.int)))):=by
 intro pins s σ H xs us Q I r ⟨p,ns,e,hq,h64,q⟩
 subst e
 obtain ⟨u,rfl,ru⟩:=vals1 r
 cases ru
 obtain ⟨its,r',pl,hz⟩:=I.list hq
 have hI:IntsAre its ns:=intsAre_of r'
 have hl:its.length=ns.length:=by have:=r'.length;simp at this;omega
 refine sorted_ints pl.isList hI (by omega) fun out ns' a1 a2 a3=>?_
 obtain ⟨e,he⟩:=sortedAll_at s.heap its out
 have e2:ns'=PySem.W.sortI ns:=PySem.W.eq_sortI a2 a3
 subst e2
 have ln:(PySem.W.sortI ns).length=ns.length:=(PySem.W.sortI_perm ns).length_eq
 refine ⟨.ref (s.heap.objs.size+1),_,I.laid (t':=s.toks) (fun _ _=>sortedAll_old) (Nat.le_succ _) (show ObjOk X.prog X.w _ _ _ (.lst ((PySem.W.sortI ns).map V.int)) from ⟨by rw [List.length_map,ln];have:=sizeLine_eq;omega,out.toList,e,a0a a1,by simpa [seqObj] using he⟩),rfl,q _ (I.hok.fresh (Nat.le_succ _))⟩
end
end L2
namespace MI
open PySem PySem.Spec L2
def a02:List D→Hd→R D
 | [d],h=>(match a1s d h with | some ns=>if ns.length<64 then .ok (.ref h.length) (h++[.lst ((PySem.W.sortI ns).map D.int)]) else .no | none=>.no)
 | _,_=>.no
theorem a4q {K:PySem.W.Frag} {ι:List Addr} {H:Hp}:∀ ns:List Int,Reps K ι H (ns.map V.int) (ns.map D.int)
 | []=>.nil
 | n::ns=>.cons (.int n) (a4q ns)
theorem abu {K:PySem.W.Frag}:abi K a02 (fun xs H Q=>∃ (p:Addr) (ns:List Int),xs=[.ref p]∧SqL K H p (ns.map V.int)∧ns.length<64∧∀ l,H l=none→Q (.ref l) (upd H l (.lst ((PySem.W.sortI ns).map V.int)))):=by
 intro E ι H h xs ds Q r hr o
 unfold a02 at o
 split at o
 ·cases r with
  | cons r rs =>
   cases rs
   split at o
   ·rename_i ns e
    split at o
    ·rename_i hl
     obtain ⟨p,rfl,q⟩:=a3m r hr e
     exact ⟨p,ns,rfl,q,hl,ur (a4q _) hr o⟩
    ·exact o.elim
   ·exact o.elim
 ·exact o.elim
end MI
namespace L2
open PySem PySem.Spec PyProof.Rows
def ixI (n:Int):List Int→Option Nat
 | []=>none
 | a::l=>if a=n then some 0 else (ixI n l).map (·+1)
theorem ael {n:Int}:∀ {l:List Int} {j:Nat},ixI n l=some j→l[j]? = some n∧∀ i,i<j→l[i]?≠some n
 | [],_,h=>by cases h
 | a::l,j,h=>by
  unfold ixI at h
  split at h
  ·rename_i e
   cases h
   exact ⟨by rw [e];rfl,fun i hi=>absurd hi (Nat.not_lt_zero i)⟩
  ·rename_i e
   obtain ⟨k,hk,rfl⟩:=Option.map_eq_some_iff.mp h
   obtain ⟨h1,h2⟩:=ael hk
   refine ⟨h1,fun i hi=>?_⟩
   cases i with
   | zero=>intro z;exact e (Option.some.inj z)
   | succ i=>exact h2 i (Nat.lt_of_succ_lt_succ hi)
theorem aa9 {n:Int}:∀ {l:List Int},n∈l→∃ j,ixI n l=some j
 | [],h=>by cases h
 | a::l,h=>by
  unfold ixI
  split
  ·exact ⟨0,rfl⟩
  ·rename_i e
   rcases List.mem_cons.mp h with h | h
   ·exact absurd h.symm e
   ·obtain ⟨j,hj⟩:=aa9 h
    exact ⟨j+1,by rw [hj];rfl⟩
def eqI (n:Int):Value→Bool
 | .int a _=>a == n
 | _=>false
def aem (K:PySem.W.Frag):V→List V→Hp→VK→Prop:=fun x vs H Q=>∃ (l:Addr) (ns:List Int) (n:Int) (j:Nat),x = .ref l∧vs=[.int n]∧SqL K H l (ns.map V.int)∧ixI n ns=some j∧Q (.int (j:Nat)) H
theorem aen {X:Cx}:MtR X "list.index" (aem X.K):=by
 intro pins s σ H x vs v us Q I rx rv h
 obtain ⟨l,ns,n,j,rfl,rfl,hq,hj,q⟩:=h
 cases rx
 obtain ⟨u,rfl,ru⟩:=rv.one
 obtain ⟨t,rfl⟩:=ru
 obtain ⟨its,r,⟨⟨cls,dict,data,slots⟩,m,e1,e2,e3,e4⟩,hz⟩:=I.list hq
 have e2:cls = .type "list":=e2
 have e3:dict=none:=e3
 have e4:data = .seq its.toArray m:=e4
 subst e2 e3 e4
 have hl:its.length=ns.length:=by have:=r.length;simp at this;omega
 have each:∀ i (h:i<its.length),∃ a t,its[i] = .int a t∧ns[i]? = some a:=fun i h=>by
  obtain ⟨y,h1,h2⟩:=r.get (show (ns.map V.int)[i]? = some (V.int (ns[i]'(by omega))) by rw [List.getElem?_map,List.getElem?_eq_getElem (by omega)];rfl)
  obtain ⟨t,rfl⟩:=h2
  exact ⟨_,t,(List.getElem?_eq_some_iff.mp h1).2,List.getElem?_eq_getElem _⟩
 obtain ⟨p1,p2⟩:=ael hj
 have jl:j<ns.length:=(List.getElem?_eq_some_iff.mp p1).1
 rw [List.length_map] at hz
 rw [sizeLine_eq] at hz
 refine call_meets F.slot_list_index ⟨_,e1,rfl⟩ F.entry_list_index (F.args_list_index_2 _ _)
  (SeqAt.list_indexAt l its.toArray m none slots (.int n t) (eqI n) j (by simp;omega) (by omega) ?_ ?_) ⟨e1,fun y hy=>?_, .int (j:Nat),H,I.tok _,⟨_,rfl⟩,q⟩
 ·obtain ⟨a,t,h1,h2⟩:=each j (by omega)
  rw [p1] at h2;cases h2
  rw [List.getElem_toArray,h1]
  exact beq_self_eq_true _
 ·intro i hi hij
  obtain ⟨a,t,h1,h2⟩:=each i (by simpa using hi)
  rw [List.getElem_toArray,h1]
  exact beq_eq_false_iff_ne.mpr fun z=>p2 i hij (by rw [h2,z])
 ·obtain ⟨i,hi,rfl⟩:=List.getElem_of_mem (List.mem_toArray.mp hy)
  obtain ⟨a,t',h1,_⟩:=each i hi
  rw [h1]
  exact SeqAt.EqAt.int_int a t' n t
end L2
namespace MI
open PySem PySem.Spec L2
def a3n (d:D) (ds:List D) (h:Hd):R D:=match a1s d h,ds with
 | some ns,[.int n]=>(match ixI n ns with | some j=>.ok (.int (j:Nat)) h | none=>.no)
 | _,_=>.no
theorem abv {K:PySem.W.Frag}:atr K a3n (aem K):=by
 intro E ι H h x dx xs ds Q rx r hr o
 unfold a3n at o
 split at o
 ·rename_i ns n e
  cases r with
  | cons r rs =>
   cases r;cases rs
   split at o
   ·rename_i j hj
    obtain ⟨p,rfl,q⟩:=a3m rx hr e
    exact ⟨p,ns,n,j,rfl,rfl,q,hj,ans o (.int _) hr⟩
   ·exact o.elim
 ·exact o.elim
end MI
namespace MI
open PySem PySem.Spec L2
def agk:D→Option Key
 | .int i=>some (.inl i)
 | .str x=>some (.inr x)
 | _=>none
def ank:D→Option (List Key)
 | .tup xs=>xq agk xs
 | _=>none
def a7h {κ:Type} [DecidableEq κ] (kvs:List (κ × D)) (k:κ):Option D:=(kvs.find? fun kv=>decide (kv.1=k)).map (·.2)
def putD {κ:Type} [DecidableEq κ] (kvs:List (κ × D)) (k:κ) (d:D):List (κ × D):=if (kvs.any fun kv=>decide (kv.1=k))=true then kvs.map fun kv=>if kv.1=k then (kv.1,d) else kv else kvs++[(k,d)]
section
variable {K:PySem.W.Frag} {ι:List Addr} {H:Hp} {h:Hd}
theorem a5v {v:V} {d:D} {k:Key} (r:Rep K ι H v d) (e:agk d=some k):v=kV k:=by
 cases r with
 | int i=>cases e;rfl
 | str x=>cases e;rfl
 | _=>cases e
theorem aaa:∀ {vs:List V} {ds:List D} {ks:List Key},Reps K ι H vs ds→xq agk ds=some ks→vs=ks.map kV
 | _,_,_, .nil,e=>by cases e;rfl
 | _,d::ds,_, .cons r rs,e=>by
  unfold xq at e
  split at e
  ·rename_i y ys h1 h2
   cases e
   rw [a5v r h1,aaa rs h2];rfl
  ·cases e
theorem aeo {v:V} {d:D} {ks:List Key} (r:Rep K ι H v d) (e:ank d=some ks):∃ b,v = .ref b∧H b=some (.tup (ks.map kV)):=by
 cases r with
 | @tup a vs xs hp rs=>exact ⟨a,rfl,by rw [← aaa rs e];exact hp⟩
 | _=>cases e
theorem a5w {κ:Type} [DecidableEq κ] (k:κ):∀ {us:List (κ × V)} {kvs:List (κ × D)},KRep K ι H us kvs→match a7h kvs k with | some d=>∃ v,a9m us k=some v∧Rep K ι H v d | none=>a9m us k=none
 | [],[],_=>rfl
 | [],_::_,r=>by have:=congrArg List.length r.1;simp at this
 | _::_,[],r=>by have:=congrArg List.length r.1;simp at this
 | (a,v)::us,(b,d)::kvs,r=>by
  obtain ⟨e,rs⟩:=r
  simp only [List.map_cons,List.cons.injEq] at e
  obtain ⟨e1,e2⟩:=e
  subst e1
  cases rs with
  | cons r1 rs =>
   by_cases hk:a=k
   ·simp only [a7h,a9m,List.find?_cons,hk,decide_true,Option.map_some]
    exact ⟨v,rfl,r1⟩
   ·have ih:=a5w k (us:=us) (kvs:=kvs) ⟨e2,rs⟩
    simp only [a7h,a9m,List.find?_cons,hk,decide_false] at ih ⊢
    exact ih
theorem aab {κ:Type} [DecidableEq κ] {us:List (κ × V)} {kvs:List (κ × D)} (k:κ) {v:V} {d:D} (r:KRep K ι H us kvs) (rv:Rep K ι H v d):KRep K ι H (putK us k v) (putD kvs k d):=by
 have anyEq:∀ {us:List (κ × V)} {kvs:List (κ × D)},us.map (·.1)=kvs.map (·.1)→(us.any fun kv=>decide (kv.1=k))=(kvs.any fun kv=>decide (kv.1=k)):=fun {us kvs} e=>by
  have h1:(us.any fun kv=>decide (kv.1=k))=(us.map (·.1)).any fun a=>decide (a=k):=by rw [List.any_map];rfl
  have h2:(kvs.any fun kv=>decide (kv.1=k))=(kvs.map (·.1)).any fun a=>decide (a=k):=by rw [List.any_map];rfl
  rw [h1,h2,e]
 have rmap:∀ {us:List (κ × V)} {kvs:List (κ × D)},KRep K ι H us kvs→KRep K ι H (us.map fun kv=>if kv.1=k then (kv.1,v) else kv) (kvs.map fun kv=>if kv.1=k then (kv.1,d) else kv):=fun {us}=>by
  induction us with
  | nil=>intro kvs r;cases kvs with
   | nil=>exact ⟨rfl, .nil⟩
   | cons _ _=>have:=congrArg List.length r.1;simp at this
  | cons a us ih=>intro kvs r;cases kvs with
   | nil=>have:=congrArg List.length r.1;simp at this
   | cons b kvs =>
    obtain ⟨e,rs⟩:=r
    simp only [List.map_cons,List.cons.injEq] at e
    obtain ⟨e1,e2⟩:=e
    cases rs with
    | cons r1 rs =>
     obtain ⟨i1,i2⟩:=ih ⟨e2,rs⟩
     obtain ⟨a1,a2⟩:=a
     obtain ⟨b1,b2⟩:=b
     simp only at e1
     subst e1
     by_cases hk:a1=k
     ·simp only [List.map_cons,hk,if_true]
      exact ⟨by simp only [List.map_cons,i1], .cons rv i2⟩
     ·simp only [List.map_cons,hk,if_false]
      exact ⟨by simp only [List.map_cons,i1], .cons r1 i2⟩
 have ae:=anyEq r.1
 unfold putK putD
 rw [ae]
 split
 ·exact rmap r
 ·exact ⟨by simp [r.1],by simpa using r.2.snoc rv⟩
def atw (x y:D) (h:Hd):Option (Option D):=match x with
 | .ref i=>(match h[i]? with
  | some (.dK kvs)=>(agk y).map fun k=>a7h kvs k
  | some (.dT kvs)=>(ank y).map fun k=>a7h kvs k
  | _=>none)
 | .rod ks xs=>(agk y).map fun k=>a7h (ks.zip xs) k
 | .rdT ks xs=>(ank y).map fun k=>a7h (ks.zip xs) k
 | _=>none
def atx (K:PySem.W.Frag) (ι:List Addr) (H:Hp) (a:Addr) (y:V):Option D→Prop
 | some d=>∃ v,as3 H a y (some v)∧Rep K ι H v d
 | none=>as3 H a y none
theorem aep {κ:Type} {us:List (κ × V)} {ks:List κ} {xs:List D} (e:us.map (·.1)=ks) (r:Reps K ι H (us.map (·.2)) xs):KRep K ι H us (ks.zip xs):=a5t e r
theorem am4 {x y:V} {dx dy:D} {r:Option D} (rx:Rep K ι H x dx) (ry:Rep K ι H y dy) (hr:HRep K ι H h) (e:atw dx dy h=some r):∃ a,x = .ref a∧atx K ι H a y r:=by
 have goK:∀ {a:Addr} {us:List (Key × V)} {kvs:List (Key × D)},Rd H a (.dK us)→KRep K ι H us kvs→(agk dy).map (fun k=>a7h kvs k)=some r→atx K ι H a y r:=fun {a us kvs} rd kr e=>by
  simp only [Option.map_eq_some_iff] at e
  obtain ⟨k,ek,rfl⟩:=e
  have ey:=a5v ry ek
  have q:=a5w k kr
  cases hv:a7h kvs k with
  | none=>rw [hv] at q;exact .inl ⟨us,k,rd,ey,q.symm⟩
  | some d=>rw [hv] at q;obtain ⟨v,q1,q2⟩:=q;exact ⟨v, .inl ⟨us,k,rd,ey,q1.symm⟩,q2⟩
 have goT:∀ {a:Addr} {us:List (List Key × V)} {kvs:List (List Key × D)},Rd H a (.dT us)→KRep K ι H us kvs→(ank dy).map (fun k=>a7h kvs k)=some r→atx K ι H a y r:=fun {a us kvs} rd kr e=>by
  simp only [Option.map_eq_some_iff] at e
  obtain ⟨k,ek,rfl⟩:=e
  obtain ⟨b,ey,eb⟩:=aeo ry ek
  have q:=a5w k kr
  cases hv:a7h kvs k with
  | none=>rw [hv] at q;exact .inr ⟨us,k,b,rd,ey,eb,q.symm⟩
  | some d=>rw [hv] at q;obtain ⟨v,q1,q2⟩:=q;exact ⟨v, .inr ⟨us,k,b,rd,ey,eb,q1.symm⟩,q2⟩
 cases rx with
 | @ref a i ha =>
  obtain ⟨ob,e1,e2⟩:=hr.at ha
  simp only [atw,e1] at e
  cases ob with
  | lst _=>cases e
  | dK kvs=>obtain ⟨us,h3,h4⟩:=e2;exact ⟨a,rfl,goK (.inl h3) h4 e⟩
  | dT kvs=>obtain ⟨us,h3,h4⟩:=e2;exact ⟨a,rfl,goT (.inl h3) h4 e⟩
 | @rod a o us ks xs hp ek rs=>exact ⟨a,rfl,goK (.inr ⟨o,hp⟩) (aep ek rs) e⟩
 | @rdT a o us ks xs hp ek rs=>exact ⟨a,rfl,goT (.inr ⟨o,hp⟩) (aep ek rs) e⟩
 | _=>cases e
def anl (neg:Bool) (y x:D) (h:Hd):R D:=match atw x y h with
 | some r=>.ok (.bl (if neg then !r.isSome else r.isSome)) h
 | none=>.no
def aeq:R2:=fun y x H Q=>∃ a o,x = .ref a∧as3 H a y o∧Q (.bl (!o.isSome)) H
theorem u1 {A:Around} (hu:A.units+64<cLine):A.units+1<cLine:=by omega
theorem aer {X:Cx} (hu:X.A.units+64<cLine):OpR X (compareOp .NotIn) aeq:=fun pins s σ H y x v u Q I ry rx ⟨a,o,ex,g,q⟩=>by
 subst ex
 obtain rfl:u=Value.ref a:=rx
 exact akx (u1 hu) I g ry fun s3 I3=>⟨.bl (!o.isSome),H,I3,rfl,q⟩
theorem abw:a0e K (anl true) aeq:=by
 intro E ι H h y x dy dx Q ry rx hr o
 unfold anl at o
 split at o
 ·rename_i r e
  obtain ⟨a,rfl,q⟩:=am4 rx ry hr e
  cases r with
  | none=>exact ⟨a,none,rfl,q,ans o (.bl _) hr⟩
  | some d=>obtain ⟨v,q,_⟩:=q;exact ⟨a,some v,rfl,q,ans o (.bl _) hr⟩
 ·exact o.elim
variable {X:Cx} {E:XD} {a b e o i:Expr} {fa fb fc:SE} {pos:Pos}
def anm (o k v:D) (h:Hd):Option Hd:=match o with
 | .ref i=>(match h[i]? with
  | some (.dK kvs)=>(match agk k with | some kk=>if kvs.length<LINE then some (h.set i (.dK (putD kvs kk v))) else none | none=>none)
  | some (.dT kvs)=>(match ank k with | some kk=>if kvs.length<LINE then some (h.set i (.dT (putD kvs kk v))) else none | none=>none)
  | _=>none)
 | _=>none
def a5x (fe fo fi:SE):SS:=fun τ h=>(fe τ h).fl fun v h1=>(fo τ h1).fl fun o h2=>(fi τ h2).fl fun k h3=>match anm o k v h3 with | some h4=>.nx τ h4 | none=>.no
theorem KRep.mono {κ:Type} {ι':List Addr} {H':Hp} {us:List (κ × V)} {kvs:List (κ × D)} (g:Gr ι H ι' H') (r:KRep K ι H us kvs):KRep K ι' H' us kvs:=⟨r.1,r.2.mono g⟩
theorem aho {h':Hd} {o k v:V} {od kd vd:D} {Q:Hp→Prop} (r1:Rep K ι H o od) (r2:Rep K ι H k kd) (r3:Rep K ι H v vd) (hr:HRep K ι H h) (e:anm od kd vd h=some h') (q:∀ H',Gr ι H ι H'→HRep K ι H' h'→Q H') :
  ∃ a H4,o = .ref a∧ati H a k v H4∧Q H4:=by
 cases r1 with
 | @ref a i ha =>
  obtain ⟨ob,h1,h2⟩:=hr.at ha
  simp only [anm,h1] at e
  cases ob with
  | lst _=>cases e
  | dK kvs =>
   obtain ⟨us,h3,h4⟩:=h2
   cases hk:agk kd with
   | none=>simp only [hk] at e;cases e
   | some kk =>
    simp only [hk] at e
    split at e
    ·rename_i hl
     cases e
     have lu:us.length=kvs.length:=by simpa using congrArg List.length h4.1
     exact ⟨a,_,rfl, .inl ⟨us,kk,h3,a5v r2 hk,by rw [al3,lu];exact hl,rfl⟩,q _ (zp hr ha _) (hr.put ha ⟨_,jc,(aab kk h4 r3).mono (zp hr ha _)⟩)⟩
    ·cases e
  | dT kvs =>
   obtain ⟨us,h3,h4⟩:=h2
   cases hk:ank kd with
   | none=>simp only [hk] at e;cases e
   | some kk =>
    simp only [hk] at e
    split at e
    ·rename_i hl
     cases e
     have lu:us.length=kvs.length:=by simpa using congrArg List.length h4.1
     obtain ⟨b,eb,tb⟩:=aeo r2 hk
     exact ⟨a,_,rfl, .inr ⟨us,kk,b,h3,eb,tb,by rw [al3,lu];exact hl,rfl⟩,q _ (zp hr ha _) (hr.put ha ⟨_,jc,(aab kk h4 r3).mono (zp hr ha _)⟩)⟩
    ·cases e
 | _=>cases e
theorem am5 {pos':Pos} (hu:X.A.units+64<cLine) (he:ME X E e fa) (ho:ME X E o fb) (hi:ME X E i fc) (hs:swapsWith e (some (.Subscript o i pos')) pos.line X.env=pure false:=by rfl):MS X E (.Assign [.Subscript o i pos'] e pos) (a5x fa fb fc):=by
 refine PS.weak (aky (u1 hu) ho hi he hs) fun N σ H ⟨ι,τ,h,S,Rh,oo⟩=>?_
 refine ⟨ι,τ,h,S,Rh,kh oo fun d h1 ι1 H1 v g1 r1 hr1 o1=>?_⟩
 refine ⟨ι1,τ,h1,S.mono g1,hr1,kh o1 fun d2 h2 ι2 H2 u g2 r2 hr2 o2=>?_⟩
 refine ⟨ι2,τ,h2,(S.mono g1).mono g2,hr2,kh o2 fun d3 h3 ι3 H3 w g3 r3 hr3 o3=>?_⟩
 cases hp:anm d2 d3 d h3 with
 | none=>rw [hp] at o3;exact o3.elim
 | some h4 =>
  rw [hp] at o3
  exact aho (r2.mono g3) r3 ((r1.mono g2).mono g3) hr3 hp fun H' g4 hr4=>o3 ι3 H' σ g4 ((((S.mono g1).mono g2).mono g3).mono g4) hr4
def gD1 (x y:D) (h:Hd):R D:=match agk x with
 | some k=>.ok (.ref h.length) (h++[.dK [(k,y)]])
 | none=>.no
theorem aes {p:Addr} {o:HO} {ob:O} (hr:HRep K ι H h) (pn:p ∉ ι) (gw:Gw ι H (ι++[p]) (upd H p o)) (q:ORep K (ι++[p]) (upd H p o) p ob):HRep K (ι++[p]) (upd H p o) (h++[ob]):=by
 refine ⟨List.nodup_append.mpr ⟨hr.nd,by simp,fun a ha b hb z=>pn (by rw [List.mem_singleton.mp hb] at z;rw [← z];exact ha)⟩,by simp [hr.len],fun j a o' q1 q2=>?_⟩
 by_cases hj:j<ι.length
 ·rw [List.getElem?_append_left hj] at q1
  rw [List.getElem?_append_left (by rw [← hr.len];exact hj)] at q2
  exact (hr.obj j a o' q1 q2).monoW gw (d9 fun z=>pn (by rw [← z];exact List.mem_of_getElem? q1))
 ·have hj2:j<(ι++[p]).length:=(List.getElem?_eq_some_iff.mp q1).1
  have:j=ι.length:=by simp at hj2;omega
  subst this
  rw [List.getElem?_append_right (Nat.le_refl _)] at q1
  rw [hr.len,List.getElem?_append_right (Nat.le_refl _)] at q2
  simp at q1 q2
  subst q1 q2
  exact q
theorem aty (ha:ME X E a fa) (hb:ME X E b fb):ME X E (.Dict [some a] [b] pos) (s2 gD1 fa fb):=by
 refine PE.weak (al0 (ah2 ha hb akz) rfl rfl (by simp) (by simp)) fun σ H Q ⟨ι,τ,h,S,Rh,o⟩ p hp=>?_
 have pn:p ∉ ι:=Rh.notin hp
 have g0:Gr ι H ι (upd H p (.dK [])):=ug hp _
 unfold s2 at o
 refine ⟨ι,τ,h,S.mono g0,Rh.aside hp _,?_⟩
 cases hfa:fa τ h with
 | no=>rw [hfa] at o;exact o.elim
 | ex c hx=>rw [hfa] at o;exact uh (Rp:=qt X.K) (r:=.ex c hx) (Q:=Q) o g0
 | ok d h1 =>
  rw [hfa] at o
  intro ι1 H1 v g1 r1 hr1
  refine ⟨ι1,τ,h1,(S.mono g0).mono g1,hr1,?_⟩
  simp only [R.bind] at o
  cases hfb:fb τ h1 with
  | no=>rw [hfb] at o;exact o.elim
  | ex c hx=>rw [hfb] at o;exact uh (Rp:=qt X.K) (r:=.ex c hx) (Q:=Q) o (g0.trans g1)
  | ok d2 h2 =>
   rw [hfb] at o
   intro ι2 H2 u g2 r2 hr2
   have g12:=g1.trans g2
   have e2:H2 p=some (.dK []):=g12.oth p _ jc pn
   simp only [gD1] at o
   cases hk:agk d with
   | none=>rw [hk] at o;exact o.elim
   | some k =>
    rw [hk] at o
    refine ⟨e2,[(k,u)],?_,by simp,?_⟩
    ·rw [a5v (r1.mono g2) hk];rfl
    ·obtain ⟨m,em,hm⟩:=g12.pre
     have nm:∀ c∈m,c≠p∧H c=none:=fun c hc=>by
      have q:=hm c hc
      by_cases z:c=p
      ·subst z;rw [jc] at q;cases q
      ·rw [d9 z] at q;exact ⟨z,q⟩
     have pn2:p ∉ ι2:=fun z=>by
      rw [em] at z
      rcases List.mem_append.mp z with z | z
      ·exact pn z
      ·exact (nm p z).1 rfl
     have ne:∀ {c u'},H c=some u'→c≠p:=fun e=>bh e hp
     have up:∀ {c u'},H c=some u'→(upd H p (.dK [])) c=some u':=fun e=>by rw [d9 (ne e)];exact e
     have gw:Gw ι2 H2 (ι2++[p]) (upd H2 p (.dK [(k,u)])):=⟨⟨[p],rfl⟩,fun c vs e=>by rw [d9 (fun z=>by subst z;rw [e2] at e;cases e)];exact e,fun c o u' e=>by rw [d9 (fun z=>by subst z;rw [e2] at e;cases e)];exact e⟩
     have G:Gr ι H (ι2++[p]) (upd H2 p (.dK [(k,u)])):=by
      refine ⟨⟨m++[p],by rw [em];simp,fun c hc=>?_⟩,fun c vs e=>?_,fun c o u' e=>?_,fun c u' e hn=>?_,fun c u' e=>?_⟩
      ·rcases List.mem_append.mp hc with hc | hc
       ·exact (nm c hc).2
       ·rw [List.mem_singleton.mp hc];exact hp
      ·rw [d9 (ne e)];exact g12.tup _ _ (up e)
      ·rw [d9 (ne e)];exact g12.frz _ _ _ (up e)
      ·rw [d9 (ne e)];exact g12.oth _ _ (up e) hn
      ·obtain ⟨w,q⟩:=g12.kp _ _ (up e)
       exact ⟨w,by rw [d9 (ne e)];exact q⟩
     refine o (ι2++[p]) _ (.ref p) G (.ref (by rw [List.getElem?_append_right (by rw [hr2.len];exact Nat.le_refl _),hr2.len];simp)) (aes hr2 pn2 gw ⟨_,jc,rfl, .cons (r2.monoW gw) .nil⟩)
end
end MI
namespace ZP
open PySem PySem.Spec PySem.Builtin PySem.Builtin.SmallTypes L2
def a1t (it:Addr):Obj:={ cls:=.type "enumerate",data:=.fields #[.none, .bool false, .ref it,rawInt 0, .none, .none] }
theorem aet (t:Tok) (k:Srk) (us:List Value):Meets (Builtin.«enumerate.__new__» ⟨[.type "enumerate",val t k],[]⟩)
  (fun _ R s=>cont s.heap k us∧R (.ok (.ret (.ref (s.heap.objs.size+1)))) { s with heap:=(s.heap.push (iob t k)).push (a1t s.heap.objs.size) }) :=
 .of_wp fun prog w A R s h=>by
  obtain ⟨hp,g,d,tk,os⟩:=s
  obtain ⟨c,h⟩:=h
  have sub:=sub_enumerate
  have c':cont (Shared.heap ⟨hp,g,d,tk,os⟩) k us:=c
  have fin:R (.ok (.ret (.ref (hp.push (iob t k)).objs.size))) { heap:=(hp.push (iob t k)).push (a1t hp.objs.size),gens:=g,drawn:=d,toks:=tk,os:=os }:=by simpa [Heap.size_push] using h
  wp_walk
  refine wpAny_stack_any fun st=>wpAny_pure ?_
  split
  ·rename_i cl _ _ _ _ _
   cases (cl == Value.type "enumerate")
   ·wp_walk using a0l (t:=t) c'
    exact ⟨_,rfl,fin⟩
   ·wp_walk using a0l (t:=t) c'
    exact ⟨_,rfl,fin⟩
  ·wp_walk using a0l (t:=t) c'
   exact ⟨_,rfl,fin⟩
def ItE (k:Srk):It where
 go:=fun i H=>∃ xs x,its H k=some xs∧xs[i]? = some x
 yld:=fun i H v H'=>∃ xs x p,its H k=some xs∧xs[i]? = some x∧H p=none∧v = .ref p∧H'=upd H p (.tup [.int i,x])
 stop:=fun i H=>∃ xs,its H k=some xs∧i=xs.length
def tnE (e it:Addr) (t:Tok) (k:Srk) (i:Nat) (h:Heap):Prop:=(∃ old,IsEnum h e it i old)∧own it t k i h
theorem aeu {P:Program} {w:World} {K:PySem.W.Frag} {elts:List Expr} {x1:Nat} {pos:Pos} {e it:Addr} {t:Tok} {k:Srk} (ne:e≠it):Turn P w K (.Tuple elts x1 pos) (ItE k) [e,it] e (tnE e it t k) where
 mem:=by simp
 obj:=fun i h st b hb=>by
  obtain ⟨⟨old,h1⟩,h4⟩:=st
  simp only [List.mem_cons,List.not_mem_nil,or_false] at hb
  rcases hb with rfl | rfl
  ·exact ⟨_,h1,fun v z=>(by cases z)⟩
  ·exact a0y h4
 keep:=fun i h h' st kk=>by
  obtain ⟨⟨old,h1⟩,h4⟩:=st
  exact ⟨⟨old,kk e (by simp) _ h1⟩,yz h4 fun ob q=>kk it (by simp) ob q⟩
 item:=by
  intro X hP hw hK hc i pins s σ H E I hf st hg
  subst hP hw hK
  obtain ⟨xs,x,e1,g1⟩:=hg
  obtain ⟨⟨old,h1⟩,h4⟩:=st
  have n:∀ c∈[e,it],H c=none:=fun c hc=>(hf c hc).1
  obtain ⟨cs,P1,S1,D1,a1,b1,c1,d1⟩:=a0z I (t:=t) e1 (n it (by simp))
  have hd:=I.ok.hd hc
  have ef:e ∉ it::cs:=by
   intro z
   rcases List.mem_cons.mp z with z | z
   ·exact ne z
   ·exact c1 e z (n e (by simp))
  refine wpAny_pyNext_enum_itemD (D1 X.A.in1 hd) h1 (a1 i h4) (List.getElem?_eq_some_iff.mp g1).1 ne ef fun u h' tk pu eo s1' pr sz kp=>?_
  obtain ⟨x',q1,r1⟩:=d1 i u pu
  rw [g1] at q1;cases q1
  refine ⟨_,rfl,wpAny_letOwnedTupleGo_enum eo fun h2' z2' sb=>?_⟩
  have hp:H s.heap.objs.size=none:=I.hok.fresh (Nat.le_refl _)
  have lt:∀ c∈[e,it],c<s.heap.objs.size:=fun c hc=>by
   simp only [List.mem_cons,List.not_mem_nil,or_false] at hc
   rcases hc with rfl | rfl
   ·exact Heap.lt_size h1
   ·obtain ⟨_,q,_⟩:=a0y h4;exact Heap.lt_size q
  have nT:∀ c∈[e,it],c≠s.heap.objs.size:=fun c hc=>Nat.ne_of_lt (lt c hc)
  have all:∀ c o,c ∉ [e,it]→s.heap.get? c=some o→h2'.get? c=some o:=fun c o nc q=>by
   simp only [List.mem_cons,List.not_mem_nil,or_false,not_or] at nc
   exact (sb.2 c nc.1).trans (kp c o nc.1 nc.2 q)
  have I0:Inv X pins σ (upd H s.heap.objs.size (.tup [.int i,x])) { s with heap:=s.heap.push { cls:=.type "tuple",data:=.seq #[.int i tk,u] } } :=
   I.laid (t':=s.toks) (o:=.tup [.int i,x]) (fun b o q=>Heap.get?_push_of_some _ q) (Nat.le_refl _) ⟨by show 2≤sizeLine;decide,[.int i tk,u], .cons ⟨tk,rfl⟩ (.cons r1 .nil),⟨_,Heap.get?_push_size _ rfl,rfl,_,rfl⟩⟩
  have I1:Inv X pins σ (upd H s.heap.objs.size (.tup [.int i,x])) { s with heap:=h2',toks:=tk+1 }:=by
   refine a5r (s:={ s with heap:=s.heap.push { cls:=.type "tuple",data:=.seq #[.int i tk,u] } }) (ch:=[e,it]) I0 (fun b hb=>?_) fun c o nc q=>?_
   ·obtain ⟨f0,f1⟩:=hf b hb
    exact ⟨by rw [d9 (nT b hb)];exact f0,f1⟩
   ·rcases Heap.get?_push_cases q with ⟨rfl,rfl⟩ | q
    ·exact (sb.2 _ (nT e (by simp)).symm).trans pr
    ·exact all c o nc q
  refine ⟨.ref s.heap.objs.size,_,I1,rfl,⟨xs,x,_,e1,g1,hp,rfl,rfl⟩,⟨⟨u,by simpa using z2'⟩,yz (b1 _ _ s1') fun ob q=>(sb.2 _ ne.symm).trans q⟩,fun b hb=>?_⟩
  rw [d9 (nT b hb)];exact n b hb
 done:=by
  intro X hP hw hK hc i pins s σ H E I hf st hg
  subst hP hw hK
  obtain ⟨xs,e1,rfl⟩:=hg
  obtain ⟨⟨old,h1⟩,h4⟩:=st
  have n:∀ c∈[e,it],H c=none:=fun c hc=>(hf c hc).1
  obtain ⟨cs,P1,S1,D1,a1,b1,c1,d1⟩:=a0z I (t:=t) e1 (n it (by simp))
  have hd:=I.ok.hd hc
  refine wpAny_pyNext_enum_endD (D1 X.A.in1 hd) h1 (a1 _ h4) fun h' ex=>⟨rfl,a5r (t':=s.toks) I hf fun c o nc q=>?_⟩
  simp only [List.mem_cons,List.not_mem_nil,or_false,not_or] at nc
  exact ex c o nc.2 q
 self:=fun _ _ _ _ _ st h=>by
  obtain ⟨⟨old,h1⟩,_⟩:=st
  exact wpAny_pyIter_enum h1 h
section
variable {X:Cx} {elts:List Expr} {x1:Nat} {tpos:Pos}
def atz (ta:TA):TI:=fun σ H R=>ta σ H fun vs H1=>∃ k xs,vs=[Srk.v k]∧its H1 k=some xs∧R (ItE k) H1
theorem am6 {e1:Expr} {ta:TA} {p pos:Pos} (hg:Gl X "enumerate") (hm:X.mg "enumerate" = none) (ha:PA X [e1] ta)
  (h1:starEach [e1] X.env=[(false,eval e1 X.env)]:=by rfl):PI X (.Tuple elts x1 tpos) (.Call (.Name "enumerate" p) [e1] [] pos) (atz ta):=by
 intro pins s σ H R I h
 refine wpAny_Call_Name_kw (a2n I hg hm PyProof.Rows.boot_enumerate ?_ (by decide) (by decide))
 refine PyProof.Rows.callWith_type1 (thn (ha pos pins s σ H _ I h) fun us s1 ⟨vs,H1,I1,r1,q1⟩=>?_) (by rw [h1];rfl) (by rfl)
 obtain ⟨k,xs,rfl,e1,q⟩:=q1
 obtain ⟨v1,rfl,rv1⟩:=vals1 r1
 obtain ⟨t,rfl⟩:=aed rv1
 obtain ⟨us1,c1,_⟩:=a3j I1 e1
 refine callType_new F.called_enumerate (by decide) (F.typeCall_enumerate_1 _) (F.newCall_enumerate_1 _) (fun obj=>F.args_object_init_2 obj _) F.entry_enumerate_new (aet t k us1) ⟨c1,?_⟩
 have at0:((s1.heap.push (iob t k)).push (a1t s1.heap.objs.size)).get? s1.heap.objs.size=some (iob t k):=Heap.get?_push_of_some _ (Heap.get?_push_size _ (by cases k<;>rfl))
 have at1:IsEnum ((s1.heap.push (iob t k)).push (a1t s1.heap.objs.size)) (s1.heap.objs.size+1) s1.heap.objs.size 0 .none:=by
  have:=Heap.get?_push_size (o:=a1t s1.heap.objs.size) (s1.heap.push (iob t k)) rfl
  rw [Heap.size_push] at this
  exact this
 have keepA:∀ b o,s1.heap.get? b=some o→((s1.heap.push (iob t k)).push (a1t s1.heap.objs.size)).get? b=some o:=fun b o q=>Heap.get?_push_of_some _ (Heap.get?_push_of_some _ q)
 have I2:Inv X pins σ H1 { s1 with heap:=(s1.heap.push (iob t k)).push (a1t s1.heap.objs.size) }:=I1.kept (t':=s1.toks) keepA
 refine ⟨⟨_,at1,rfl⟩,?_⟩
 refine wpAny_pyIter_enum (s:={ s1 with heap:=(s1.heap.push (iob t k)).push (a1t s1.heap.objs.size) }) at1 ?_
 refine ⟨s1.heap.objs.size+1,[s1.heap.objs.size+1,s1.heap.objs.size],tnE _ _ t k,ItE k,H1,rfl,I2,aeu (by intro z;have z:(_:Nat)=_:=z;omega),⟨⟨.none,at1⟩,atu at0⟩,fun b hb=>?_,q⟩
 have:s1.heap.objs.size≤b:=by
  simp only [List.mem_cons,List.not_mem_nil,or_false] at hb
  rcases hb with rfl | rfl
  ·exact Nat.le_succ _
  ·exact Nat.le_refl _
 exact I1.fpOk this (I1.hok.fresh this)
end
end ZP
namespace MI
open PySem PySem.Spec L2 ZP
def aev (x:D) (h:Hd):R Itm:=match srcOf x h with
 | some (xs,c)=>.ok ⟨((List.range xs.length).zip xs).map fun p=>.tup [.int (p.1:Nat),p.2],c⟩ h
 | none=>.no
def a7i (f:SE):SI:=fun τ h=>(f τ h).bind aev
theorem aew {X:Cx} {E:XD} {elts:List Expr} {x1:Nat} {tpos:Pos} {e1:Expr} {f:SE} {p pos:Pos} (hg:Gl X "enumerate") (hm:X.mg "enumerate" = none) (ha:ME X E e1 f)
  (h1:starEach [e1] X.env=[(false,eval e1 X.env)]:=by rfl):MI X E (.Tuple elts x1 tpos) (.Call (.Name "enumerate" p) [e1] [] pos) (a7i f):=by
 intro pins s σ H Rr I ⟨ι,τ,h,S,Rh,o⟩
 refine am6 hg hm (a2p ha a9h (by rw [h1];rfl)) h1 pins s σ H Rr I ?_
 refine ⟨ι,τ,h,S,Rh,d7 o fun d h1 ι1 H1 v g1 r1 hr1 o1=>?_⟩
 unfold aev at o1
 split at o1
 ·rename_i xs c q1
  obtain ⟨k,rfl,kc,kf⟩:=aee r1 hr1 q1
  obtain ⟨vs,w1,w2⟩:=kf ι1 H1 h1 (.refl _ _) hr1 kc
  refine ⟨k,vs,rfl,w1,o1 ι1 H1 _ (.refl _ _) ?_ hr1⟩
  intro ι3 H3 h3 g3 hr3 c3
  obtain ⟨us,a1,a2⟩:=kf ι3 H3 h3 g3 hr3 c3
  refine ⟨fun i d ed=>?_,us,a1,?_⟩
  ·simp only [List.getElem?_map,Option.map_eq_some_iff] at ed
   obtain ⟨⟨j,y⟩,ez,rfl⟩:=ed
   obtain ⟨ex,ey⟩:=List.getElem?_zip_eq_some.mp ez
   have hj:j=i:=by
    obtain ⟨_,q⟩:=List.getElem?_eq_some_iff.mp ex
    simpa using q.symm
   subst hj
   obtain ⟨v2,b3,b4⟩:=a2.get ey
   refine ⟨⟨us,v2,a1,b3⟩,fun x H' yl=>?_⟩
   obtain ⟨xs',x',p,c1,c3,c5,rfl,rfl⟩:=yl
   rw [a1] at c1;cases c1
   rw [b3] at c3;cases c3
   exact ⟨ug c5 _, .tup jc (.cons (.int _) (.cons (b4.mono (ug c5 _)) .nil)),hr3.aside c5 _⟩
  ·rw [List.length_map,List.length_zip,List.length_range,a2.len]
   omega
 ·exact o1.elim
end MI
namespace L2
open PySem PySem.Spec PyProof.Rows
end L2
namespace MI
open PySem PySem.Spec L2
end MI
namespace L2
open PySem PySem.Spec PyProof.Rows
end L2
namespace MI
open PySem PySem.Spec L2
def awa (lo:Int) (n:Nat):List D:=(List.range n).map fun i=>D.int (lo - (i:Nat))
def aq6 (ds:List D) (h:Hd):R Itm:=match ds with
 | [.int i, .int j, .int k]=>if k = -1∧B62 i∧B62 j then .ok ⟨awa i (i - j).toNat,fun _=>True⟩ h else .no
 | _=>.no
end MI
namespace MI
open PySem PySem.Spec L2
theorem aq7:bootBuiltins "any" = some (.builtin "any"):=by decide +kernel
theorem aex:bootBuiltins "sorted" = some (.builtin "sorted"):=by decide +kernel
end MI
namespace MI
open PySem PySem.Spec L2
theorem bx {α β:Type} (a:α) (h:Hd) (k:α→Hd→R β):(R.ok a h).bind k=k a h:=rfl
theorem a03 {α:Type} (a:α) (h:Hd) (k:α→Hd→Fl):(R.ok a h).fl k=k a h:=rfl
def thn (r:Fl) (g:SS):Fl:=match r with | .nx τ h=>g τ h | r=>r
theorem p6 (f g:SS) (τ:Sd) (h:Hd):j5 f g τ h=thn (f τ h) g:=by unfold j5 thn;cases f τ h<;>rfl
theorem yo (τ:Sd) (h:Hd) (g:SS):thn (.nx τ h) g=g τ h:=rfl
theorem a7j (d:D) (h:Hd) (g:SS):thn (.rt d h) g = .rt d h:=rfl
def toR (r:Fl):R D:=match r with | .rt d h1=>.ok d h1 | .nx _ h1=>.ok .non h1 | .ex c h1=>.ex c h1 | _=>.no
theorem jg (b:SS) (n:Nat) (ds:List D) (h:Hd):ql b n ds h=toR (b (a0g n ds) h):=by unfold ql toR;cases b (a0g n ds) h<;>rfl
theorem a7k (d:D) (h:Hd):toR (.rt d h) = .ok d h:=rfl
theorem aac (τ:Sd) (h:Hd):toR (.nx τ h) = .ok .non h:=rfl
theorem a2e {n:Nat}:∀ {xs:List D},clos n xs↔∀ x∈xs,clo n x
 | []=>by simp [clos]
 | x::xs=>by simp [clos,a2e (xs:=xs)]
theorem j7 {n:Nat} (i:Int):clo n (.int i):=by simp [clo]
theorem a04 {n:Nat} (i:Str):clo n (.str i):=by simp [clo]
theorem a7l {n:Nat} (i:Bool):clo n (.bl i):=by simp [clo]
theorem aey {n:Nat}:clo n .non:=by simp [clo]
theorem a2f {n:Nat}:clos n []:=by simp [clos]
theorem km {n:Nat} {x:D} {xs:List D} (a:clo n x) (b:clos n xs):clos n (x::xs):=by simp only [clos];exact ⟨a,b⟩
theorem u5 {n:Nat} {xs:List D} (h:clos n xs):clo n (.tup xs):=by simpa [clo] using h
theorem u6 {n:Nat} {xs:List D} (h:clos n xs):clo n (.rol xs):=by simpa [clo] using h
theorem ik {α:Type} {n:Nat} {f:α→D} {l:List α} (h:∀ a∈l,clo n (f a)):clos n (l.map f):=by
 rw [a2e]
 intro x hx
 obtain ⟨a,ha,rfl⟩:=List.mem_map.mp hx
 exact h a ha
mutual
theorem aez {n m:Nat} (hm:n≤m):∀ {d:D},clo n d→clo m d
 | .non,_=>by simp [clo]
 | .bl _,_=>by simp [clo]
 | .int _,_=>by simp [clo]
 | .str _,_=>by simp [clo]
 | .ty _,_=>by simp [clo]
 | .tup xs,h=>by simp only [clo] at h ⊢;exact vz hm h
 | .rol xs,h=>by simp only [clo] at h ⊢;exact vz hm h
 | .scr xs,h=>by simp only [clo] at h ⊢;exact vz hm h
 | .rod _ xs,h=>by simp only [clo] at h ⊢;exact vz hm h
 | .rdT _ xs,h=>by simp only [clo] at h ⊢;exact vz hm h
 | .exc _,_=>by simp [clo]
 | .ref i,h=>by simp only [clo] at h ⊢;omega
theorem vz {n m:Nat} (hm:n≤m):∀ {xs:List D},clos n xs→clos m xs
 | [],_=>by simp [clos]
 | x::xs,h=>by simp only [clos] at h ⊢;exact ⟨aez hm h.1,vz hm h.2⟩
end
theorem u9 {n m:Nat} (hm:n≤m) {o:O} (h:a1y n o):a1y m o:=by
 cases o with
 | lst xs=>exact vz hm h
 | dK kvs=>exact vz hm h
 | dT kvs=>exact vz hm h
theorem a8v {α:Type} {f:α→Option α}:∀ {xs:List α},(∀ x∈xs,f x=some x)→xq f xs=some xs
 | [],_=>rfl
 | x::xs,h=>by
  unfold xq
  rw [h x List.mem_cons_self,a8v fun y hy=>h y (List.mem_cons_of_mem _ hy)]
theorem aad {n k:Nat} {h:Hd} {d:D} (c:clo n d):a1r n h (k+1) d=some d:=by unfold a1r;rw [if_pos c]
theorem ahp {n k:Nat} {h:Hd} {o:O} (c:a1y n o):aq0 n h k o=some o:=by unfold aq0;rw [if_pos c]
theorem a5y {n k i:Nat} {h:Hd} {xs:List D} (hi:n≤i) (e:h[i]? = some (.lst xs)) (c:clos n xs):a1r n h (k+2) (.ref i)=some (.rol xs):=by
 unfold a1r
 rw [if_neg (by simp only [clo];omega)]
 simp only [e]
 rw [a8v fun x hx=>aad (a2e.mp c x hx)]
 rfl
theorem ahq {n k:Nat} {h:Hd} {xs ys:List D} (e:xq (a1r n h k) xs=some ys) (nc:¬ clos n xs):a1r n h (k+1) (.tup xs)=some (.tup ys):=by
 unfold a1r
 rw [if_neg (by simpa only [clo] using nc)]
 simp only [e,Option.map_some]
theorem a8w {n:Nat} {d d':D} {h1:Hd} (e:a1r n h1 FU d=some d') (c:∀ o∈h1.take n,a1y n o):abo n (.ok d h1) = .ok d' (h1.take n):=by
 unfold abo
 simp only [e]
 rw [a8v fun o ho=>ahp (c o ho)]
theorem m7 {n:Nat} {d:D} {h1:Hd} (e:clo n d) (c:∀ o∈h1.take n,a1y n o):abo n (.ok d h1) = .ok d (h1.take n):=a8w (aad e) c
theorem a2g {n i:Nat} {h1:Hd} {xs:List D} (hi:n≤i) (e:h1[i]? = some (.lst xs)) (cx:clos n xs) (c:∀ o∈h1.take n,a1y n o):abo n (.ok (.ref i) h1) = .ok (.rol xs) (h1.take n):=a8w (a5y hi e cx) c
theorem xu {f:SE} {τ:Sd} {h:Hd} {xs:List D} (e:f τ h = .ok (.ref h.length) (h++[.lst xs])) (cx:clos h.length xs) (c:∀ o∈h,a1y h.length o):sZ f τ h = .ok (.rol xs) h:=by
 unfold sZ
 rw [e,a2g (Nat.le_refl _) (by simp) cx (by simpa using c)]
 simp
def Pu (F:SF) (n:Nat) (ds:List D) (d:D):Prop:=∀ h,o8 false n F ds h = .ok d h
def Dr (F:SF) (n:Nat) (ds:List D) (o:O) (d:D) (o':O):Prop:=∀ p h,h[p]? = some o→o8 false n F (.ref p::ds) h = .ok d (h.set p o')
theorem a2h:∀ {ds:List D},(∀ d∈ds,clo 0 d)→a01 ds=[]∧ym 0 ds=ds∧∀ k,ym k ds=ds
 | [],_=>⟨rfl,rfl,fun _=>rfl⟩
 | d::ds,h=>by
  obtain ⟨a,b,c⟩:=a2h (ds:=ds) fun x hx=>h x (List.mem_cons_of_mem _ hx)
  have hd:=h d List.mem_cons_self
  have nr:refOf d=none:=by cases d<;>first | rfl | (simp only [clo] at hd;omega)
  refine ⟨?_,?_,fun k=>?_⟩
  ·simpa [a01,nr] using a
  ·cases d<;>first | (simp only [clo] at hd;omega) | (simp only [ym,b])
  ·cases d<;>first | (simp only [clo] at hd;omega) | (simp only [ym,c])
theorem Pu.of {F:SF} {n:Nat} {ds:List D} {r:R D} {d:D} (hn:ds.length=n) (cd:∀ x∈ds,clo 0 x) (e:F ds []=r) (z:abo 0 r = .ok d []) (c:clo 0 d):Pu F n ds d:=fun h=>by
 obtain ⟨p1,p2,_⟩:=a2h cd
 unfold o8
 rw [if_pos hn]
 unfold aq2
 rw [p1]
 simp only [xq,List.length_nil,Bool.false_eq_true,if_false]
 rw [if_pos ⟨List.nodup_nil,fun x hx=>.inl (cd x hx),fun o ho=>by simp at ho⟩,p2,e,z]
 simp [c,o7]
theorem Dr.of {F:SF} {n:Nat} {ds:List D} {o o':O} {r:R D} {d:D} (hn:ds.length+1=n) (cd:∀ x∈ds,clo 0 x) (co:a1y 0 o) (e:F (.ref 0::ds) [o]=r) (z:abo 1 r = .ok d [o']) (c:clo 0 d) (co':a1y 0 o'):Dr F n ds o d o':=fun p h hp=>by
 obtain ⟨p1,_,p3⟩:=a2h cd
 have e1:a01 (.ref p::ds)=[p]:=by
  have:a01 (.ref p::ds)=p::a01 ds:=rfl
  rw [this,p1]
 have e2:ym 0 (.ref p::ds) = .ref 0::ds:=by
  have:ym 0 (.ref p::ds) = .ref 0::ym 1 ds:=rfl
  rw [this,p3]
 unfold o8
 rw [if_pos (by simpa using hn)]
 unfold aq2
 rw [e1]
 simp only [xq,hp,List.length_singleton,Bool.false_eq_true,if_false]
 have all:∀ x∈(D.ref p::ds),clo 0 x∨isRef x:=fun x hx=>by
  rcases List.mem_cons.mp hx with rfl | hx
  ·exact .inr ⟨p,rfl⟩
  ·exact .inl (cd x hx)
 rw [if_pos ⟨by simp,all,fun u hu=>by rw [List.mem_singleton.mp hu];exact co⟩,e2,e,z]
 simp [c,co',o7]
theorem aq8 {F:SF} {n i:Nat} {ds:List D} {o:O} {h1:Hd} (hn:ds.length=n) (cd:∀ x∈ds,clo 0 x) (e:F ds [] = .ok (.ref i) h1) (ho:h1[i]? = some o) (co:a1y 0 o) (h:Hd):o8 true n F ds h = .ok (.ref h.length) (h++[o]):=by
 obtain ⟨p1,p2,_⟩:=a2h cd
 unfold o8
 rw [if_pos hn]
 unfold aq2
 rw [p1]
 simp only [xq,List.length_nil,if_true]
 rw [if_pos ⟨List.nodup_nil,fun x hx=>.inl (cd x hx),fun o ho=>by simp at ho⟩,p2,e]
 unfold ani
 simp only [ho]
 rw [if_pos ⟨Nat.zero_le _,co,by simp⟩]
 simp [co,o7]
theorem ahr (g:SG) (b:SS) (τ:Sd) (h:Hd):forL (fun _=>True) g b [] τ h = .nx τ h:=by rw [forL,if_pos True.intro]
def trn (r:Fl) (k:Sd→Hd→Fl):Fl:=match r with | .nx τ h=>k τ h | .ct τ h=>k τ h | .bk τ h=>.nx τ h | r=>r
theorem af0 (g:SG) (b:SS) (x:D) (xs:List D) (τ τ1:Sd) (h h1:Hd) (e:g x τ h = .nx τ1 h1):forL (fun _=>True) g b (x::xs) τ h=trn (b τ1 h1) (forL (fun _=>True) g b xs):=by
 rw [forL,if_pos True.intro,e]
 dsimp only
 unfold trn
 cases b τ1 h1<;>rfl
theorem aq9 (τ:Sd) (h:Hd) (k:Sd→Hd→Fl):trn (.nx τ h) k=k τ h:=rfl
theorem aqa (d:D) (h:Hd) (k:Sd→Hd→Fl):trn (.rt d h) k = .rt d h:=rfl
theorem a2i {g:SG} {b:SS} {α:Type} (f:α→D) (I:List α→Sd→Hd→Prop) (Rt:D→Hd→Prop):∀ (xs pre:List α) (τ:Sd) (h:Hd),
  (∀ pre' x post τ h,pre++xs=pre'++x::post→I pre' τ h→∃ τ1 h1,g (f x) τ h = .nx τ1 h1∧((∃ τ2 h2,b τ1 h1 = .nx τ2 h2∧I (pre'++[x]) τ2 h2)∨∃ d h2,b τ1 h1 = .rt d h2∧Rt d h2))→I pre τ h →
  (∃ τ' h',forL (fun _=>True) g b (xs.map f) τ h = .nx τ' h'∧I (pre++xs) τ' h')∨∃ d h',forL (fun _=>True) g b (xs.map f) τ h = .rt d h'∧Rt d h'
 | [],pre,τ,h,_,i0=>.inl ⟨τ,h,ahr ..,by simpa using i0⟩
 | x::xs,pre,τ,h,st,i0=>by
  obtain ⟨τ1,h1,e1,q⟩:=st pre x xs τ h rfl i0
  rw [List.map_cons,af0 _ _ _ _ _ _ _ _ e1]
  rcases q with ⟨τ2,h2,e2,i2⟩ | ⟨d,h2,e2,r⟩
  ·rw [e2,aq9]
   have:=a2i f I Rt xs (pre++[x]) τ2 h2 (fun pre' y post τ h e=>st pre' y post τ h (by simpa using e)) i2
   simpa using this
  ·rw [e2,aqa]
   exact .inr ⟨d,h2,rfl,r⟩
theorem n6 {g:SG} {b:SS} {α:Type} (f:α→D) (I:List α→Sd→Hd→Prop) (xs:List α) (τ:Sd) (h:Hd)
  (st:∀ pre x post τ h,xs=pre++x::post→I pre τ h→∃ τ1 h1,g (f x) τ h = .nx τ1 h1∧∃ τ2 h2,b τ1 h1 = .nx τ2 h2∧I (pre++[x]) τ2 h2) (i0:I [] τ h) :
  ∃ τ' h',forL (fun _=>True) g b (xs.map f) τ h = .nx τ' h'∧I xs τ' h':=by
 rcases a2i f I (fun _ _=>False) xs [] τ h (fun pre' x post τ h e i=>let ⟨τ1,h1,a,b⟩:=st pre' x post τ h e i; ⟨τ1,h1,a, .inl b⟩) i0 with ⟨τ',h',a,b⟩ | ⟨_,_,_,z⟩
 ·exact ⟨τ',h',a,b⟩
 ·exact z.elim
theorem aae {f:D→Hd→R D} {α:Type} (g:α→D) (I:List α→List D→Hd→Prop):∀ (xs pre:List α) (ys:List D) (h:Hd),
  (∀ pre' x post ys h,pre++xs=pre'++x::post→I pre' ys h→∃ y h',f (g x) h = .ok y h'∧I (pre'++[x]) (ys++[y]) h')→I pre ys h→∃ zs h',mapR (fun _=>True) f (xs.map g) h = .ok zs h'∧I (pre++xs) (ys++zs) h'
 | [],pre,ys,h,_,i0=>⟨[],h,by rw [List.map_nil,mapR,if_pos True.intro],by simpa using i0⟩
 | x::xs,pre,ys,h,st,i0=>by
  obtain ⟨y,h1,e1,i1⟩:=st pre x xs ys h rfl i0
  obtain ⟨zs,h',e2,i2⟩:=aae g I xs (pre++[x]) (ys++[y]) h1 (fun pre' z post ys h e=>st pre' z post ys h (by simpa using e)) i1
  refine ⟨y::zs,h',?_,by simpa using i2⟩
  rw [List.map_cons,mapR,if_pos True.intro,e1]
  show (mapR _ f (xs.map g) h1).bind _=_
  rw [e2];rfl
theorem a7m {f:D→Hd→R D} {α:Type} (g F:α→D) {h:Hd}:∀ {xs:List α},(∀ x∈xs,f (g x) h = .ok (F x) h)→mapR (fun _=>True) f (xs.map g) h = .ok (xs.map F) h
 | [],_=>by rw [List.map_nil,mapR,if_pos True.intro];rfl
 | x::xs,st=>by
  rw [List.map_cons,mapR,if_pos True.intro,st x List.mem_cons_self]
  show (mapR _ f (xs.map g) h).bind _=_
  rw [a7m g F fun y hy=>st y (List.mem_cons_of_mem _ hy)];rfl
theorem a7n {f:D→Hd→R (Option D)} {α:Type} (g:α→D) (F:α→Option D) {h:Hd}:∀ {xs:List α},(∀ x∈xs,f (g x) h = .ok (F x) h)→agh (fun _=>True) f (xs.map g) h = .ok (xs.filterMap F) h
 | [],_=>by rw [List.map_nil,agh,if_pos True.intro];rfl
 | x::xs,st=>by
  rw [List.map_cons,agh,if_pos True.intro,st x List.mem_cons_self]
  show (agh _ f (xs.map g) h).bind _=_
  rw [a7n g F fun y hy=>st y (List.mem_cons_of_mem _ hy)]
  show R.ok ((F x).toList++xs.filterMap F) h=_
  cases e:F x<;>simp [List.filterMap_cons,e]
theorem aqb {c:ST} {f:SS} (I:Nat→Sd→Hd→Prop) (N:Sd→Hd→Prop) (Rt:D→Hd→Prop)
  (st:∀ m τ h,I m τ h→(∃ h1,c τ h = .ok false h1∧N τ h1)∨∃ h1,c τ h = .ok true h1∧((∃ τ2 h2 m',f τ h1 = .nx τ2 h2∧m'<m∧I m' τ2 h2)∨∃ d h2,f τ h1 = .rt d h2∧Rt d h2)) :
  ∀ (m n:Nat) (τ:Sd) (h:Hd),m<n→I m τ h→(∃ τ' h',sWh c f n τ h = .nx τ' h'∧N τ' h')∨∃ d h',sWh c f n τ h = .rt d h'∧Rt d h':=by
 intro m
 induction m using Nat.strongRecOn with
 | ind m ih =>
  intro n τ h hn i0
  cases n with
  | zero=>omega
  | succ n =>
   rcases st m τ h i0 with ⟨h1,e1,q⟩ | ⟨h1,e1,q⟩
   ·exact .inl ⟨τ,h1,by rw [sWh,e1];rfl,q⟩
   ·rcases q with ⟨τ2,h2,m',e2,lt,i2⟩ | ⟨d,h2,e2,r⟩
    ·have e3:sWh c f (n+1) τ h=sWh c f n τ2 h2:=by
      rw [sWh,e1,a03,if_pos rfl,e2]
     rw [e3]
     exact ih m' lt n τ2 h2 (by omega) i2
    ·refine .inr ⟨d,h2,?_,r⟩
     rw [sWh,e1,a03,if_pos rfl,e2]
end MI
namespace MI
open PySem PySem.Spec L2
structure KD (P:Program) (w:World) (K:PySem.W.Frag) (a:Addr) (kvs:List (Str × Str)):Prop where
 sys:(a == sysModules)=false
 ex:∃ (o:Obj) (vs:List (Key × Value)),K.lookup a=some o∧KV (kvs.map fun p=>((.inr p.1:Key),V.str p.2)) vs∧∀ h:Heap,h.get? a=some o→h.DictOf (jq P w) a vs
section
variable {X:Cx} {E:XD} {e:Expr} {fa:SE} {pos p:Pos} {a:Addr} {kvs:List (Str × Str)} {x:Str}
theorem KD.at (kd:KD X.prog X.w X.K a kvs) {pins:List (Addr × Obj)} {σ:L2.St} {H:Hp} {s:Shared} (I:Inv X pins σ H s):∃ vs,KV (kvs.map fun p=>((.inr p.1:Key),V.str p.2)) vs∧s.heap.DictOf (jq X.prog X.w) a vs:=by
 obtain ⟨o,vs,l,r,d⟩:=kd.ex
 exact ⟨vs,r,d _ (I.bk _ _ (I.mod.kin _ _ l))⟩
end
end MI
namespace MI
open PySem PySem.Spec L2
mutual
def toPy:D→Option PyData
 | .non=>some .none
 | .bl b=>some (.bool b)
 | .int i=>some (.int i)
 | .str x=>some (.str x)
 | .tup xs=>(am7 xs).map .tuple
 | .rol xs=>(am7 xs).map .list
 | .rod [] []=>some (.dict [])
 | _=>none
def am7:List D→Option (List PyData)
 | []=>some []
 | x::xs=>match toPy x,am7 xs with | some p,some ps=>some (p::ps) | _,_=>none
end
mutual
def noL:D→Bool
 | .rol _=>false
 | .tup xs=>auv xs
 | _=>true
def auv:List D→Bool
 | []=>true
 | x::xs=>noL x && auv xs
end
open Classical in
theorem a1u {X:Cx}:CallR X (.builtin "isinstance") (fun xs H Q=>∃ a o us T b,xs=[.ref a, .ty T]∧H a=some (.frz o (.dK us))∧PySem.W.kitOne X.K (.type "dict") (.type T)=some b∧Q (.bl b) H):=by
 intro pins s σ H xs us Q I r h
 obtain ⟨a,o,kv,T,b,rfl,ea,e,q⟩:=h
 obtain ⟨u,w',rfl,rx,rt⟩:=vals2 r
 cases rt
 obtain rfl:u=Value.ref a:=rx
 obtain ⟨_,_,_,vs,_,p⟩:=(show ObjOk X.prog X.w H s.heap a (.frz o (.dK kv)) from I.hok a _ ea)
 obtain ⟨o',es,ep,h1,h2,_⟩:=p
 exact PySem.W.kia_one PySem.W.kitx_dict I.kIn ⟨o',h1,h2.1⟩ e (fun z=>nomatch z) fun tk=>⟨.bl b,H,I.tok tk,rfl,q⟩
def a7o:List D→Hd→R D
 | [.rod ks xs, .ty T],h=>(match ali "dict" T with | some b=>.ok (.bl b) h | none=>.no)
 | ds,h=>apn ds h
theorem aaf {K:PySem.W.Frag}:abi K a7o (fun xs H Q=>(∃ x T t b,xs=[x, .ty T]∧TyOf K H x t∧PySem.W.kitOne K t (.type T)=some b∧Q (.bl b) H)∨∃ a o us T b,xs=[.ref a, .ty T]∧H a=some (.frz o (.dK us))∧PySem.W.kitOne K (.type "dict") (.type T)=some b∧Q (.bl b) H):=by
 intro E ι H h xs ds Q r hr o
 unfold a7o at o
 split at o
 ·split at o
  ·rename_i b hb
   cases r with
   | cons r1 rs =>
    cases rs with
    | cons r2 rs2 =>
     cases rs2
     cases r2
     cases r1 with
     | rod hp ek rr=>exact .inr ⟨_,_,_,_,b,rfl,hp,ae8 hb,ans o (.bl _) hr⟩
  ·exact o.elim
 ·exact .inl (alj E ι H h xs _ Q r hr o)
end MI
namespace TPM
open PySem PySem.Spec PySem.W L2 HT MI PyProof.Rows
end TPM
namespace MI
open PySem PySem.Spec L2 TPM
end MI
namespace SRC
open PySem PySem.Spec L2 MI
noncomputable def uc:SE :=
 (s2 jk (s2 xr (sC (.int 2)) (sA as6 (ak (sV 0) gf))) (sA alg (ak (s2 gLt (sV 0) (sC (.int 0))) gf)))
noncomputable def uo:SS :=
 (j5 (jr 1 (sZ (jn (sIt (sZ (agj (sV 0) oN (oS (sC (.int 63)))))) t1 uc [])))
 (xn (sA a8b (ak (sV 1) (ak (sC (.int 0)) (ak (sC (.int 0)) (ak (sC (.int 0)) (ak (s2 a6q (sA apr (ak (sV 1) gf)) (sC (.int 2147483647))) gf))))))))
noncomputable def a1d:SS :=
 (j5 (a7g a0x (sV 0) (sC (.int 3)) (sC (.int 1)))
 (j5 (sIf (a8a (sT (s2 hEq (s2 gIx (sV 0) (sC (.int 2))) (sC (.int 0)))) (sT (s2 gLt (s2 gIx (sV 0) (sC (.int 1))) (sA xx (ak (s2 gIx (sV 0) (sC (.int 0))) gf)))))
 (j5 (jr 2 (s2 gIx (s2 gIx (sV 0) (sC (.int 0))) (s2 gIx (sV 0) (sC (.int 1)))))
 (j5 (a7g a0x (sV 0) (sC (.int 1)) (sC (.int 1)))
 (sIf (sT (s2 gGe (sV 2) (s2 abl (sC (.int 10)) (sC (.int 18)))))
 (agg (sV 2) (sV 0) (sC (.int 2)))
 (agg (s2 a6q (s2 jk (s2 xr (s2 gIx (sV 0) (sC (.int 4))) (sC (.int 31))) (sV 2)) (sC (.int 2147483647))) (sV 0) (sC (.int 4))))))
 sNx)
 (j5 (sIf (sT (s2 gGt (s2 gIx (sV 0) (sC (.int 2))) (sC (.int 0))))
 (j5 (jr 3 (s2 a6q (s2 gIx (sV 0) (sC (.int 2))) (sV 1)))
 (j5 (a7g agi (sV 0) (sC (.int 2)) (sV 1))
 (xn (sV 3))))
 sNx)
 (j5 (jr 3 (s2 a6q (s2 abl (s2 jk (s2 jk (s2 gIx (sV 0) (sC (.int 4))) (sC (.int 1))) (s2 xr (s2 gIx (sV 0) (sC (.int 3))) (sC (.int 7919)))) (sC (.int 3))) (sC (.int 2147483647))))
 (xn (s2 a6q (s2 agi (s2 a6q (s2 abl (s2 jk (s2 xr (sV 3) (sC (.int 48271))) (s2 gIx (sV 0) (sC (.int 3)))) (sC (.int 2))) (sC (.int 2147483629))) (sC (.int 64))) (sV 1)))))))
noncomputable def ud:SS :=
 (j5 (jr 0 (sC (.str " !\"#$&'()*+,-./0123456789:;<=>?@ABCDEFGHIJKLMNOPQRSTUVWXYZ[\\]^_`")))
 (xn (s2 jk (sV 0) (sC (.str "abcdefghijklmnopqrstuvwxyz{|}~\n")))))
noncomputable def n8 (aa:SF) (j4:SF):SS :=
 (j5 (jr 4 (sA (o8 false 2 aa) (ak (sV 0) (ak (sA xx (ak (sV 1) gf)) gf))))
 (j5 (acr 2 a0x (s2 gIx (sV 1) (sV 4)))
 (jr 1 (s2 jk (agj (sV 1) oN (oS (sV 4))) (agj (sV 1) (oS (s2 jk (sV 4) (sC (.int 1)))) oN)))))
noncomputable def yp (aa:SF) (j4:SF):SS :=
 (j5 (jr 1 (sA (o8 false 0 j4) gf))
 (j5 (jr 2 (sC (.str "")))
 (j5 (a4d (sRg vf (ak (s2 jk (sC (.int 1)) (sA (o8 false 2 aa) (ak (sV 0) (ak (sC (.int 6)) gf)))) gf)) (kN 3) (n8 aa j4))
 (xn (sV 2)))))
noncomputable def p7 (aa:SF):SS :=
 (a00 (sML a8c (sV 3) (ak (a9s (sT (s2 gLt (sA (o8 false 2 aa) (ak (sV 0) (ak (sC (.int 5)) gf))) (sC (.int 2)))) (sA (o8 false 2 aa) (ak (sV 0) (ak (sC (.int 6)) gf))) (s1 aa0 (sC (.int 1)))) gf)))
noncomputable def ph (aa:SF):SE :=
 (sA (o8 false 2 aa) (ak (sV 1) (ak (sV 2) gf)))
noncomputable def zq (aa:SF):SE :=
 (a9s (a8a (sT (s2 gLt (s2 gIx (sV 2) (sV 0)) (sC (.int 0)))) (sT (s2 gLe (sV 0) (sV 3)))) (s2 ab2 (sV 1) (sC (.int 1))) (sV 0))
noncomputable def ut (aa:SF):SE :=
 (sV 1)
noncomputable def pq (aa:SF):SS :=
 (j5 (jr 7 (sZ (jn (sIt (sV 1)) t1 (ph aa) [0,2])))
 (j5 (sIf (sT (s2 gGt (sV 5) (sC (.int 0))))
 (jr 7 (sZ (jn (sIt (sV 7)) t1 (zq aa) [2,3,4])))
 sNx)
 (j5 (sIf (a8a (sT (s2 hEq (sV 5) (sC (.int 1)))) (sT (s2 hEq (sV 4) (s2 ab2 (sV 2) (sC (.int 1))))))
 (jr 7 (sZ (jn (sIt (sV 7)) t1 (ut aa) [4])))
 sNx)
 (a00 (sML a8c (sV 6) (ak (sV 7) gf))))))
noncomputable def wg (aa:SF):SS :=
 (j5 (jr 3 (sA a8b (ak (s1 aa0 (sC (.int 1))) gf)))
 (j5 (a4d (sRg a4f (ak (sC (.int 1)) (ak (sV 2) gf))) (kN 4) (p7 aa))
 (j5 (jr 5 (sA (o8 false 2 aa) (ak (sV 0) (ak (sC (.int 3)) gf))))
 (j5 (jr 6 (sA a8b gf))
 (j5 (a4d (sRg vf (ak (sV 2) gf)) (kN 4) (pq aa))
 (xn (sA a4h (ak (sV 6) (ak (sV 3) gf)))))))))
noncomputable def qb (aa:SF) (dh:SF) (cj:SF):SS :=
 (sIf (sT (s2 (gIn true) (sV 8) (sV 6)))
 (a00 (sML a8c (sV 6) (ak (sV 8) gf)))
 sNx)
noncomputable def uv (aa:SF) (dh:SF) (cj:SF):ST :=
 (sT (s2 gLt (sV 7) (sA xx (ak (sV 6) gf))))
noncomputable def qd (aa:SF) (dh:SF) (cj:SF):SS :=
 (j5 (a4d (sIt (s2 gIx (sV 4) (s2 gIx (sV 6) (sV 7)))) (kN 8) (qb aa dh cj))
 (acr 7 a0x (sC (.int 1))))
noncomputable def uw (aa:SF) (dh:SF) (cj:SF):SE :=
 (sML a3n (sV 1) (ak (sV 0) gf))
noncomputable def qe (aa:SF) (dh:SF) (cj:SF):SE :=
 (sA mz (ak (sZ (jn (sIt (s2 gIx (sV 1) (sV 0))) t1 (uw aa dh cj) [2])) gf))
noncomputable def qg (aa:SF) (dh:SF) (cj:SF):SE :=
 (s2 gIx (sV 1) (sV 0))
noncomputable def wj (aa:SF) (dh:SF) (cj:SF):SS :=
 (j5 (jr 2 (sA (o8 false 1 cj) (ak (sV 0) gf)))
 (j5 (jr 3 (s2 jk (sC (.int 2)) (sA (o8 false 2 aa) (ak (sV 0) (ak (sC (.int 7)) gf)))))
 (j5 (sIf (sT (s2 hEq (sA (o8 false 2 aa) (ak (sV 0) (ak (sC (.int 6)) gf))) (sC (.int 0))))
 (jr 3 (s2 jk (sC (.int 1)) (sA (o8 false 2 aa) (ak (sV 0) (ak (sV 1) gf)))))
 sNx)
 (j5 (a9w (sA (o8 false 3 dh) (ak (sV 0) (ak (sV 2) (ak (sA a7b (ak (sV 3) (ak (sV 1) gf))) gf)))) (a6p 2 (jw (kN 4) (jw (kN 5) a78))))
 (j5 (jr 6 (sA a8b (ak (sC (.int 0)) gf)))
 (j5 (jr 7 (sC (.int 0)))
 (j5 (sWh (uv aa dh cj) (qd aa dh cj) 100000)
 (j5 (jr 6 (sA a02 (ak (sV 6) gf)))
 (j5 (jr 9 (sA mz (ak (sZ (jn (sIt (sV 6)) t1 (qe aa dh cj) [4,6])) gf)))
 (xn (sA a4h (ak (sV 2) (ak (sV 9) (ak (sA mz (ak (sZ (jn (sIt (sV 6)) t1 (qg aa dh cj) [5])) gf)) gf))))))))))))))
end SRC
namespace L2
open PySem PySem.Spec PySem.W PyProof.Rows
end L2
namespace L2
open PySem PySem.Spec PySem.W PyProof.Rows Builtin Builtin.ObjectAttr Builtin.Getset_descriptor
section
variable {prog:Program} {w:World} {A:Around} {E:Value→Shared→Prop} {s:Shared} {K:Frag} {x D:Addr} {ox:Obj} {odo:Option Obj}
structure XKit (K:Frag) (D:Addr):Prop where
 ga:findIn K (.ref D) "__getattribute__" = some (some (.builtin "BaseException.__getattribute__"))
 gn:findIn K (.ref D) "__getattr__" = some none
 cl:(clsIn K D).isSome=true
 ca:findIn K (.ref D) "__class__" = some (some (.builtin "object.__class__"))
 sp:specialIn K (.builtin "object.__class__") "__get__" = some (some (.builtin "getset_descriptor.__get__"))
 tk:takesIn K (.builtin "object.__class__")=some true
 ob:mroIn K D (.type "object")=some true
 be:subIn K (.ref D) (.type "BaseException")=some true
 kc:kitCls K (.ref D) (.ref D)=some true
abbrev ExAt (x D:Addr) (h:Heap):Prop:=∃ o,h.get? x=some o∧o.cls = .ref D
theorem ExAt.ty {M:Model} {h:Heap} (I:ExAt x D h):Looks M h (typeOf (.ref x)) (.ref D):=by
 obtain ⟨o,q,c⟩:=I
 exact c ▸ (Looks.ld q).andThen .now
theorem XKit.at (Z:XKit K D):∃ c o cd sl,K.lookup D=some ⟨c,o, .cls cd,sl⟩:=by
 have:=Z.cl
 unfold clsIn at this
 split at this
 ·exact ⟨_,_,_,_, ‹_›⟩
 ·cases this
theorem XKit.no (Z:XKit K D) {h:Heap} {tp:Addr} {dd:Option Addr} {its:List Value} {n:Nat} {sl:Array (Option Value)} (X:K.In h) (q:h.get? tp=some ⟨.type "tuple",dd, .seq its.toArray n,sl⟩):(Value.ref D == .ref tp)=false :=
 beq_eq_false_iff_ne.mpr fun e=>by
  obtain ⟨_,_,_,_,lo⟩:=Z.at
  rw [Value.ref.inj e] at lo
  have:=X _ _ lo
  rw [q] at this
  cases this
end
end L2
namespace L2
open PySem PySem.Spec PySem.W PyProof.Rows
end L2
namespace MI
open PySem PySem.Spec L2
end MI
namespace MI
open PySem PySem.Spec L2
end MI
namespace MI
open PySem PySem.Spec L2
end MI
namespace EVX
open PySem PySem.Spec L2 MI
end EVX
namespace MI
open PySem PySem.Spec L2
end MI
namespace EVX
open PySem PySem.Spec L2 MI
end EVX
namespace ZP
open PySem PySem.Spec PySem.Builtin PySem.Builtin.SmallTypes L2
end ZP
namespace MI
open PySem PySem.Spec L2 ZP
end MI
namespace AT
open L2
theorem ahs {α:Type} (x0:α) (xs:List α):atI (x0::xs) 0=some x0:=o9 (j:=0) rfl
theorem aht {α:Type} (x0 x1:α) (xs:List α):atI (x0::x1::xs) 1=some x1:=o9 (j:=1) rfl
theorem ahu {α:Type} (x0 x1 x2:α) (xs:List α):atI (x0::x1::x2::xs) 2=some x2:=o9 (j:=2) rfl
theorem ahv {α:Type} (x0 x1 x2 x3:α) (xs:List α):atI (x0::x1::x2::x3::xs) 3=some x3:=o9 (j:=3) rfl
theorem ahw {α:Type} (x0 x1 x2 x3 x4:α) (xs:List α):atI (x0::x1::x2::x3::x4::xs) 4=some x4:=o9 (j:=4) rfl
theorem ahx {α:Type} (x0 x1 x2 x3 x4 x5:α) (xs:List α):atI (x0::x1::x2::x3::x4::x5::xs) 5=some x5:=o9 (j:=5) rfl
theorem ahy {α:Type} (x0 x1 x2 x3 x4 x5 x6:α) (xs:List α):atI (x0::x1::x2::x3::x4::x5::x6::xs) 6=some x6:=o9 (j:=6) rfl
theorem ahz {α:Type} (x0 x1 x2 x3 x4 x5 x6 x7:α) (xs:List α):atI (x0::x1::x2::x3::x4::x5::x6::x7::xs) 7=some x7:=o9 (j:=7) rfl
theorem x10:ixN 1 0=some 0:=rfl
theorem x20:ixN 2 0=some 0:=rfl
theorem x21:ixN 2 1=some 1:=rfl
theorem x30:ixN 3 0=some 0:=rfl
theorem x31:ixN 3 1=some 1:=rfl
theorem x32:ixN 3 2=some 2:=rfl
theorem x40:ixN 4 0=some 0:=rfl
theorem x41:ixN 4 1=some 1:=rfl
theorem x42:ixN 4 2=some 2:=rfl
theorem x43:ixN 4 3=some 3:=rfl
theorem x50:ixN 5 0=some 0:=rfl
theorem x51:ixN 5 1=some 1:=rfl
theorem x52:ixN 5 2=some 2:=rfl
theorem x53:ixN 5 3=some 3:=rfl
theorem x54:ixN 5 4=some 4:=rfl
theorem x60:ixN 6 0=some 0:=rfl
theorem x61:ixN 6 1=some 1:=rfl
theorem x62:ixN 6 2=some 2:=rfl
theorem x63:ixN 6 3=some 3:=rfl
theorem x64:ixN 6 4=some 4:=rfl
theorem x65:ixN 6 5=some 5:=rfl
theorem x70:ixN 7 0=some 0:=rfl
theorem x71:ixN 7 1=some 1:=rfl
theorem x72:ixN 7 2=some 2:=rfl
theorem x73:ixN 7 3=some 3:=rfl
theorem x74:ixN 7 4=some 4:=rfl
theorem x75:ixN 7 5=some 5:=rfl
theorem x76:ixN 7 6=some 6:=rfl
def auw (x:Int):Int:=if x<0 then -x else x
theorem af1 (x:Int) (h:MI.Hd):MI.as6 [.int x] h = .ok (.int (auw x)) h:=rfl
theorem p18 (h:MI.Hd):MI.abl (.int 10) (.int 18) h = .ok (.int 1000000000000000000) h:=by rw [MI.abl,if_pos (by decide)];rfl
theorem aqc {i j:Int} {h:MI.Hd} (c:0≤j∧j≤1000000∧i.natAbs<2 ^ 64):MI.abl (.int i) (.int j) h = .ok (.int (i ^ j.toNat)) h:=by rw [MI.abl,if_pos c]
end AT
namespace MI
open PySem PySem.Spec L2 SeqAt
def auy (neg:Bool) (K:PySem.W.Frag):R2:=fun x y H Q=>∃ (ι:List Addr) (p q:Addr) (vs us:List V) (xs ys:List D),x = .ref p∧y = .ref q∧Rd H p (.lst vs)∧Rd H q (.lst us)∧Reps K ι H vs xs∧Reps K ι H us ys∧xs.all (pur 59)=true∧ys.all (pur 59)=true∧Q (.bl (if neg then !aa4 xs ys else aa4 xs ys)) H
theorem ai0 {X:Cx} {pins:List (Addr × Obj)} {s:Shared} {σ:St} {H:Hp} (I:Inv X pins σ H s) (hu:X.A.units+64<cLine) {ι:List Addr} {p q:Addr} {vs us:List V} {xs ys:List D} (h1:Rd H p (.lst vs)) (h2:Rd H q (.lst us)) (rs:Reps X.K ι H vs xs) (qs:Reps X.K ι H us ys) (p1:xs.all (pur 59)=true) (p2:ys.all (pur 59)=true) :
  RcAt X.A s (.ref p) (.ref q) (aa4 xs ys)∧RcNeAt X.A s (.ref p) (.ref q) (!aa4 xs ys):=by
 obtain ⟨its,r1,pl1,z1⟩:=I.list (.inl h1)
 obtain ⟨its2,r2,pl2,z2⟩:=I.list (.inl h2)
 have l1:its.toArray.size=xs.length:=by rw [List.size_toArray,← r1.length,rs.len]
 have l2:its2.toArray.size=ys.length:=by rw [List.size_toArray,← r2.length,qs.len]
 by_cases hl:xs.length=ys.length
 ·have step:∀ j (h1:j<its.toArray.size) (h2:j<its2.toArray.size),EqAt X.A.in1 s its.toArray[j] its2.toArray[j] (pairE xs ys j):=fun j h1 h2=>by
   have j1:j<xs.length:=by omega
   have j2:j<ys.length:=by omega
   obtain ⟨v1,e1,q1⟩:=rs.get (List.getElem?_eq_getElem j1)
   obtain ⟨v2,e2,q2⟩:=qs.get (List.getElem?_eq_getElem j2)
   obtain ⟨u1,e3,q3⟩:=r1.get e1
   obtain ⟨u2,e4,q4⟩:=r2.get e2
   have f1:its.toArray[j]=u1:=by simpa using (List.getElem?_eq_some_iff.mp e3).2
   have f2:its2.toArray[j]=u2:=by simpa using (List.getElem?_eq_some_iff.mp e4).2
   have pe:pairE xs ys j=eqD xs[j] ys[j]:=by simp [pairE,List.getElem?_eq_getElem j1,List.getElem?_eq_getElem j2]
   rw [f1,f2,pe]
   rw [List.all_eq_true] at p1 p2
   exact aji I.hok 59 X.A.in1 q1 q2 q3 q4 (p1 _ (List.getElem_mem j1)) (p2 _ (List.getElem_mem j2)) (by rw [Around.in1_units];omega)
  have c1:=RcAt.lists (A:=X.A) (s:=s) (e:=pairE xs ys) pl1.isList pl2.isList (by omega) (by omega) step
  have c2:=RcNeAt.lists (A:=X.A) (s:=s) (e:=pairE xs ys) pl1.isList pl2.isList (by omega) (by omega) step
  have ea:=a0j xs ys
  rw [hl,Nat.min_self,beq_self_eq_true,Bool.and_true,← hl] at ea
  rw [l1,ea] at c1 c2
  exact ⟨c1,c2⟩
 ·have ne:(its.toArray.size != its2.toArray.size)=true:=by rw [l1,l2];simpa using hl
  have ea:=a0j xs ys
  rw [beq_eq_false_iff_ne.mpr hl,Bool.and_false] at ea
  rw [← ea]
  exact ⟨RcAt.lists_lengths pl1.isList pl2.isList ne (by omega),RcNeAt.lists_lengths pl1.isList pl2.isList ne (by omega)⟩
theorem aqd {X:Cx} (hu:X.A.units+64<cLine):OpR X (compareOp .NotEq) (auy true X.K):=by
 intro pins s σ H x y v u Q I rx ry h
 obtain ⟨ι,p,q,vs,us,xs,ys,rfl,rfl,h1,h2,r1,r2,p1,p2,hq⟩:=h
 cases rx;cases ry
 exact (ai0 I hu h1 h2 r1 r2 p1 p2).2 X.prog X.w X.xe _ ⟨.bl _,H,I,rfl,hq⟩
def ano (neg:Bool) (x y:D) (h:Hd):R D:=match vm x h,vm y h with
 | some xs,some ys=>if xs.all (pur 59)=true∧ys.all (pur 59)=true then .ok (.bl (if neg then !aa4 xs ys else aa4 xs ys)) h else .no
 | _,_=>.no
theorem am8 (neg:Bool) {K:PySem.W.Frag}:a0e K (ano neg) (auy neg K):=by
 intro E ι H h x y dx dy Q rx ry hr o
 unfold ano at o
 split at o
 ·rename_i xs ys e1 e2
  split at o
  ·rename_i hc
   obtain ⟨a,vs,rfl,h1,r1⟩:=a0m rx hr e1
   obtain ⟨b,us,rfl,h2,r2⟩:=a0m ry hr e2
   exact ⟨ι,a,b,vs,us,xs,ys,rfl,rfl,h1,h2,r1,r2,hc.1,hc.2,ans o (.bl _) hr⟩
  ·exact o.elim
 ·exact o.elim
end MI
namespace SETA
open PySem PySem.SetTable
def acu (xs:Array Nat):Prop:=∀ i j (hi:i<xs.size) (hj:j<xs.size),i<j→xs[i]<xs[j]
theorem am9 (xs:Array Nat) (ri:acu xs) (j:Nat):∀ (fuel lo hi:Nat),hi - lo≤fuel→lo≤hi→hi≤xs.size→(∀ i (h:i<xs.size),i<lo→xs[i]<j)→(∀ i (h:i<xs.size),hi≤i→j≤xs[i]) →
  lo≤below.go xs j fuel lo hi∧below.go xs j fuel lo hi≤hi∧(∀ i (h:i<xs.size),i<below.go xs j fuel lo hi→xs[i]<j)∧∀ i (h:i<xs.size),below.go xs j fuel lo hi≤i→j≤xs[i]:=by
 intro fuel
 induction fuel with
 | zero =>
  intro lo hi h1 h2 h3 a b
  have:lo=hi:=by omega
  subst this
  exact ⟨Nat.le_refl _,Nat.le_refl _,a,b⟩
 | succ fuel ih =>
  intro lo hi h1 h2 h3 a b
  unfold below.go
  split
  ·rename_i c
   have hm:(lo+hi) / 2<xs.size:=by omega
   have e:xs.getD ((lo+hi) / 2) j=xs[(lo+hi) / 2]:=by simp [Array.getD,hm]
   dsimp only
   rw [e]
   split
   ·rename_i q
    have r:=ih ((lo+hi) / 2+1) hi (by omega) (by omega) h3 (fun i h z=>by
     by_cases y:i=(lo+hi) / 2
     ·subst y;exact q
     ·exact Nat.lt_trans (ri i _ h hm (by omega)) q) b
    exact ⟨by omega,r.2.1,r.2.2⟩
   ·rename_i q
    have r:=ih lo ((lo+hi) / 2) (by omega) (by omega) (by omega) a (fun i h z=>by
     by_cases y:i=(lo+hi) / 2
     ·subst y;omega
     ·have:=ri _ i hm h (by omega);omega)
    exact ⟨r.1,by omega,r.2.2⟩
  ·have:lo=hi:=by omega
   subst this
   exact ⟨Nat.le_refl _,Nat.le_refl _,a,b⟩
theorem vo {xs:Array Nat} (ri:acu xs) (j:Nat):below xs j≤xs.size∧(∀ i (h:i<xs.size),i<below xs j→xs[i]<j)∧∀ i (h:i<xs.size),below xs j≤i→j≤xs[i]:=by
 have:=am9 xs ri j xs.size 0 xs.size (by omega) (by omega) (Nat.le_refl _) (fun i _ z=>absurd z (Nat.not_lt_zero i)) fun i h z=>absurd h (by omega)
 exact ⟨this.2.1,this.2.2⟩
theorem below_at {xs:Array Nat} (ri:acu xs) {k:Nat} (hk:k<xs.size):below xs xs[k]=k:=by
 obtain ⟨h1,h2,h3⟩:=vo ri xs[k]
 apply Classical.byContradiction
 intro z
 rcases Nat.lt_or_gt_of_ne z with c | c
 ·have:=h3 (below xs xs[k]) (by omega) (Nat.le_refl _)
  have:=ri (below xs xs[k]) k (by omega) hk c
  omega
 ·have:=h2 k hk c
  omega
theorem abx {xs:Array Nat} (ri:acu xs) {k:Nat} (hk:k<xs.size):below xs (xs[k]+1)=k+1:=by
 obtain ⟨h1,h2,h3⟩:=vo ri (xs[k]+1)
 apply Classical.byContradiction
 intro z
 rcases Nat.lt_or_gt_of_ne z with c | c
 ·have:=h3 k hk (by omega)
  omega
 ·have:=h2 (k+1) (by omega) c
  have:=ri k (k+1) hk (by omega) (by omega)
  omega
theorem ama {xs:Array Nat} (ri:acu xs):below xs 0=0:=by
 obtain ⟨h1,h2,h3⟩:=vo ri 0
 apply Classical.byContradiction
 intro z
 have:=h2 0 (by omega) (by omega)
 omega
structure Gd (t:SetTable):Prop where
 ri:acu t.place
 dm:t.dummies = #[]
theorem aby:acu #[]:=fun i j hi=>absurd hi (by simp)
theorem ai1 (f m:Nat) (l:Bool):Gd (.fresh f m l):=⟨aby,rfl⟩
theorem abz (n:Nat):acu (Array.range n):=fun i j hi hj h=>by simpa using h
theorem a3o {l:List Nat} (h:l.Pairwise (· < ·)):acu l.toArray:=fun i j hi hj c=>by
 have:=List.pairwise_iff_getElem.mp h i j (by simpa using hi) (by simpa using hj) c
 simpa using this
theorem a7p {xs:Array Nat} (h:acu xs):xs.toList.Pairwise (· < ·):=List.pairwise_iff_getElem.mpr fun i j hi hj c=>by
 have:=h i j (by simpa using hi) (by simpa using hj) c
 simpa using this
theorem a4r (t:SetTable) (n:Nat):Gd (t.standIn n):=⟨abz n,rfl⟩
theorem a7q {t:SetTable} (g:Gd t) (n:Nat):Gd (t.orStandIn n):=by
 unfold SetTable.orStandIn
 split
 ·exact g
 ·exact a4r t n
theorem a3p (j:Nat):has #[] j=false:=by simp [has]
theorem ac0 {t:SetTable} (g:Gd t) {j:Nat} (h:t.slot j = .empty):∀ k (hk:k<t.place.size),t.place[k]≠j:=fun k hk e=>by
 subst e
 unfold SetTable.slot at h
 simp only [below_at g.ri hk] at h
 rw [if_pos (by simp [hk])] at h
 cases h
theorem ai2 {t:SetTable} (g:Gd t) {ha:Nat→Int} {h:Int}:∀ (fuel:Nat) (p:Probe) (j:Nat) (d:Option Nat),p.dummy=none→SetTable.probe.go t ha h fuel p=some (.empty j d)→t.slot j = .empty∧d=none:=by
 intro fuel
 induction fuel with
 | zero=>intro p j d _ z;simp [SetTable.probe.go] at z
 | succ fuel ih =>
  intro p j d hp z
  unfold SetTable.probe.go at z
  cases e:t.slot p.j with
  | empty =>
   rw [e] at z
   simp only [Option.some.injEq,Met.empty.injEq] at z
   obtain ⟨rfl,rfl⟩:=z
   exact ⟨e,hp⟩
  | dummy =>
   exfalso
   unfold SetTable.slot at e
   rw [g.dm,a3p] at e
   dsimp only at e
   split at e<;>simp at e
  | live i =>
   rw [e] at z
   dsimp only at z
   split at z
   ·cases z
   ·refine ih _ j d ?_ z
    unfold SetTable.advance
    split
    ·exact hp
    ·exact hp
theorem a3q {t:SetTable} (g:Gd t) {h:Int} {j:Nat} {b:Bool} (e:t.freeSlot h=some (j,b)):(∀ k (hk:k<t.place.size),t.place[k]≠j)∧b=false:=by
 unfold SetTable.freeSlot at e
 split at e
 ·rename_i j' d q
  obtain ⟨h1,h2⟩:=ai2 g _ _ _ _ rfl q
  subst h2
  simp only [Option.getD_none,Option.isSome_none,Option.some.injEq,Prod.mk.injEq] at e
  obtain ⟨rfl,rfl⟩:=e
  exact ⟨ac0 g h1,rfl⟩
 ·cases e
theorem a8x {xs:Array Nat} (ri:acu xs) {j:Nat} (h:∀ k (hk:k<xs.size),xs[k]≠j):acu (SetTable.insertAt xs (below xs j) j):=by
 obtain ⟨h1,h2,h3⟩:=vo ri j
 have e:(SetTable.insertAt xs (below xs j) j)=(xs.toList.take (below xs j)++j::xs.toList.drop (below xs j)).toArray:=by
  exact Array.ext' ((SetTable.toList_insertAt _ _ _).trans (by simp))
 rw [e]
 refine a3o ?_
 have rl:=a7p ri
 rw [List.pairwise_append]
 refine ⟨rl.sublist (List.take_sublist _ _),List.pairwise_cons.mpr ⟨fun a ha=>?_,rl.sublist (List.drop_sublist _ _)⟩,fun a ha b hb=>?_⟩
 ·obtain ⟨i,hi,rfl⟩:=List.mem_iff_getElem.mp ha
  rw [List.getElem_drop]
  rw [List.length_drop,Array.length_toList] at hi
  have h4:=h3 (below xs j+i) (by omega) (by omega)
  have h5:=h (below xs j+i) (by omega)
  rw [Array.getElem_toList]
  omega
 ·obtain ⟨i,hi,rfl⟩:=List.mem_iff_getElem.mp ha
  rw [List.getElem_take]
  rw [List.length_take,Array.length_toList] at hi
  have h4:=h2 i (by omega) (by omega)
  rw [Array.getElem_toList]
  rcases List.mem_cons.mp hb with rfl | hb
  ·exact h4
  ·obtain ⟨k,hk,rfl⟩:=List.mem_iff_getElem.mp hb
   rw [List.getElem_drop]
   rw [List.length_drop,Array.length_toList] at hk
   have h6:=h3 (below xs j+k) (by omega) (by omega)
   rw [Array.getElem_toList]
   omega
theorem ajn {t:SetTable} (g:Gd t) {j:Nat} (h:∀ k (hk:k<t.place.size),t.place[k]≠j):Gd (t.put j).1:=by
 refine ⟨a8x g.ri h,?_⟩
 show (if has t.dummies j=true then _ else t.dummies) = #[]
 rw [g.dm,a3p]
 rfl
theorem af2 {t:SetTable} (g:Gd t) (es:Array (Int × Value)) (h:Int) (x:Value):Gd (layNew t es h x).2.1∧(layNew t es h x).2.2.1=false:=by
 unfold layNew
 split
 ·rename_i slot wd e
  obtain ⟨h1,h2⟩:=a3q g e
  exact ⟨a7q (ajn g h1) _,h2⟩
 ·exact ⟨a4r _ _,rfl⟩
theorem af3 {mask f m:Nat} {l p:Bool} {hs:Array Int} {t:SetTable} {o:Array Nat} (e:SetTable.laid mask f m l p hs=some (t,o)):Gd t∧t.led=l:=by
 unfold SetTable.laid at e
 cases q:layClean mask hs with
 | none=>rw [q] at e;cases e
 | some owner =>
  rw [q] at e
  simp only [Option.bind_eq_bind,Option.bind_some,Option.pure_def,Option.some.injEq,Prod.mk.injEq] at e
  obtain ⟨rfl,rfl⟩:=e
  refine ⟨⟨a3o ?_,rfl⟩,rfl⟩
  have:∀ l:List Nat,l.Pairwise (· < ·)→((l.filterMap fun j=>(owner.getD j none).map (j, ·)).map (·.1)).Pairwise (· < ·):=fun l hl=>by
   have sub:((l.filterMap fun j=>(owner.getD j none).map (j, ·)).map (·.1)).Sublist l:=by
    clear hl
    induction l with
    | nil=>exact .slnil
    | cons a l ih =>
     cases q:owner.getD a none with
     | none =>
      rw [List.filterMap_cons_none (by rw [q];rfl)]
      exact .cons _ ih
     | some b =>
      rw [List.filterMap_cons_some (b:=(a,b)) (by rw [q];rfl),List.map_cons]
      exact .cons₂ _ ih
   exact hl.sublist sub
  exact this _ List.pairwise_lt_range
theorem a5z (t:SetTable) (n:Nat):(t.orStandIn n).led=t.led:=by
 unfold SetTable.orStandIn
 split<;>rfl
theorem ac1 (t:SetTable) (es:Array (Int × Value)) (h:Int) (x:Value):(layNew t es h x).2.1.led=t.led:=by
 unfold layNew
 split
 ·exact a5z _ _
 ·rfl
theorem af4 (t:SetTable) (es:Array (Int × Value)) (n:Nat):(relayAll t es n).2.1.led=t.led:=by
 unfold relayAll
 split
 ·rename_i t' o e
  dsimp only
  split
  ·exact (af3 e).2
  ·rfl
 ·rfl
end SETA
namespace SETH
def it:Nat→Nat→Nat
 | 0,x=>x
 | n+1,x=>it n (5*x+1)
theorem af5 (m:Nat):∀ (n x:Nat),it (n+m) x=it m (it n x)
 | 0,x=>by rw [Nat.zero_add];rfl
 | n+1,x=>by rw [show n+1+m=(n+m)+1 by omega];exact af5 m n _
theorem ajo:∀ k:Nat,∃ c,∀ x,it (2 ^ k) x=(4*(2 ^ k*(2*c+1))+1)*x+2 ^ k*(2*c+1)
 | 0=>⟨0,fun x=>by show 5*x+1=_;omega⟩
 | k+1=>by
  obtain ⟨c,h⟩:=ajo k
  refine ⟨2*c*(2 ^ k*(2*c+1))+c+2 ^ k*(2*c+1),fun x=>?_⟩
  have e:2 ^ (k+1)=2 ^ k+2 ^ k:=by rw [Nat.pow_succ];omega
  rw [e,af5,h,h]
  generalize 2 ^ k=P
  grind
theorem full:∀ (k x y:Nat),∃ n,n<2 ^ k∧it n x % 2 ^ k=y % 2 ^ k
 | 0,x,y=>⟨0,by decide,by rw [Nat.pow_zero,Nat.mod_one,Nat.mod_one]⟩
 | k+1,x,y=>by
  obtain ⟨n,hn,e⟩:=full k x y
  obtain ⟨c,h⟩:=ajo k
  have hp:0<2 ^ k:=Nat.pow_pos (by decide)
  rw [Nat.pow_succ]
  by_cases q:it n x / 2 ^ k % 2=y / 2 ^ k % 2
  ·exact ⟨n,by omega,by rw [Nat.mod_mul,Nat.mod_mul,e,q]⟩
  ·refine ⟨n+2 ^ k,by omega,?_⟩
   rw [af5,h]
   generalize 2 ^ k=P at *
   generalize it n x=z at *
   have:(4*(P*(2*c+1))+1)*z+P*(2*c+1)=(z+P)+P*2*(2*(2*c+1)*z+c):=by grind
   rw [this,Nat.add_mul_mod_self_left,Nat.mod_mul,Nat.mod_mul,Nat.add_mod_right,e,Nat.add_div_right _ hp]
   congr 2
   omega
def im (M:Nat):Nat→Nat→Nat
 | 0,x=>x
 | n+1,x=>im M n ((x*5+1) % M)
theorem aqe (M:Nat):∀ (n x:Nat),im M n x % M=it n x % M
 | 0,x=>rfl
 | n+1,x=>by
  show im M n _ % M=it n _ % M
  rw [aqe M n]
  have:∀ n a b,a % M=b % M→it n a % M=it n b % M:=by
   intro n
   induction n with
   | zero=>exact fun a b h=>h
   | succ n ih=>exact fun a b h=>ih _ _ (by rw [Nat.add_mod,Nat.mul_mod,h,← Nat.mul_mod,← Nat.add_mod])
  exact this n _ _ (by rw [Nat.mod_mod,Nat.mul_comm])
theorem aqf {M:Nat} (hM:0<M):∀ (n x:Nat),x<M→im M n x<M
 | 0,x,h=>h
 | n+1,x,h=>aqf hM n _ (Nat.mod_lt _ hM)
theorem amb {k x y:Nat} (hx:x<2 ^ k) (hy:y<2 ^ k):∃ n,n<2 ^ k∧im (2 ^ k) n x=y:=by
 obtain ⟨n,hn,e⟩:=full k x y
 refine ⟨n,hn,?_⟩
 rw [← aqe,Nat.mod_eq_of_lt hy,Nat.mod_eq_of_lt (aqf (by omega) n x hx)] at e
 exact e
open PySem PySem.SetTable
def ls (mask:Nat):Nat→Nat × Nat→Nat × Nat
 | 0,x=>x
 | n+1,x=>ls mask n (leap mask x.1 x.2)
theorem ajp (mask m:Nat):∀ (n:Nat) (x:Nat × Nat),ls mask (n+m) x=ls mask m (ls mask n x)
 | 0,x=>by rw [Nat.zero_add];rfl
 | n+1,x=>by rw [show n+1+m=(n+m)+1 by omega];exact ajp mask m n _
theorem a4s (mask:Nat):∀ (n:Nat) (x:Nat × Nat),(ls mask n x).2=x.2 / 32 ^ n
 | 0,x=>by rw [Nat.pow_zero,Nat.div_one];rfl
 | n+1,x=>by
  show (ls mask n _).2=_
  rw [a4s mask n,Nat.pow_succ,Nat.mul_comm,← Nat.div_div_eq_div_mul]
  rfl
theorem aqg (mask:Nat):∀ (n:Nat) (x:Nat × Nat),x.1≤mask→(ls mask n x).1≤mask
 | 0,x,h=>h
 | n+1,x,h=>aqg mask n _ (Nat.le_of_lt_succ (Nat.mod_lt _ (Nat.succ_pos _)))
theorem aqh (mask:Nat):∀ (n i:Nat),ls mask n (i,0)=(im (mask+1) n i,0)
 | 0,i=>rfl
 | n+1,i=>by
  show ls mask n (leap mask i 0)=(im (mask+1) n _,0)
  rw [← aqh mask n]
  rfl
theorem hit {mask k i p y:Nat} (hk:mask+1=2 ^ k) (hi:i≤mask) (hp:p<2 ^ 64) (hy:y≤mask):∃ m,m<mask+14∧(ls mask m (i,p)).1=y:=by
 have e:ls mask 13 (i,p)=((ls mask 13 (i,p)).1,0):=by
  refine Prod.ext rfl ?_
  rw [a4s]
  show p / 32 ^ 13=0
  exact Nat.div_eq_of_lt (by omega)
 have h13:=aqg mask 13 (i,p) hi
 obtain ⟨n,hn,en⟩:=amb (k:=k) (x:=(ls mask 13 (i,p)).1) (y:=y) (by omega) (by omega)
 refine ⟨13+n,by omega,?_⟩
 rw [ajp,e,aqh]
 show im (mask+1) n _=y
 rw [hk]
 exact en
end SETH
namespace SETH
open PySem PySem.SetTable SETA
theorem a3r (mask i:Nat):i≤runEnd mask i:=by unfold runEnd;split<;>omega
theorem a3s {mask i:Nat} (h:i≤mask):runEnd mask i≤mask:=by unfold runEnd;split<;>omega
theorem aag (mask i:Nat):runEnd mask i - i≤9:=by unfold runEnd;split<;>omega
theorem a7r {mask:Nat} {owner:Array (Option Nat)}:∀ (fuel i p m:Nat),m<fuel→i≤mask→owner.getD (ls mask m (i,p)).1 (some 0)=none→∃ j,layClean.free mask owner fuel i p=some j∧j≤mask∧owner.getD j (some 0)=none
 | 0,i,p,m,h,_,_=>absurd h (Nat.not_lt_zero _)
 | fuel+1,i,p,m,h,hi,e=>by
  unfold layClean.free
  have ge:=a3r mask i
  have le:=a3s hi
  split
  ·rename_i k hk
   refine ⟨_,rfl,?_,?_⟩
   ·have:=List.mem_of_find?_eq_some hk
    rw [List.mem_range] at this
    omega
   ·have:=List.find?_some hk
    exact Option.isNone_iff_eq_none.mp this
  ·rename_i hk
   cases m with
   | zero =>
    have:=List.find?_eq_none.mp hk 0 (List.mem_range.mpr (by omega))
    exact absurd (Option.isNone_iff_eq_none.mpr e) this
   | succ m=>exact a7r fuel _ _ m (by omega) (Nat.le_of_lt_succ (Nat.mod_lt _ (Nat.succ_pos _))) e
theorem a1v {t:SetTable} {p:Probe} (h:p.more > 0):t.advance p={ p with j:=p.j+1,more:=p.more - 1 }:=by unfold advance;rw [if_pos h]
theorem a1w {t:SetTable} {p:Probe} (h:p.more=0):t.advance p={ p with j:=(leap t.mask p.i p.perturb).1,more:=runEnd t.mask (leap t.mask p.i p.perturb).1 - (leap t.mask p.i p.perturb).1,i:=(leap t.mask p.i p.perturb).1,perturb:=(leap t.mask p.i p.perturb).2 }:=by unfold advance;rw [if_neg (by omega)]
theorem a8y {t:SetTable} {h:Int}:∀ (fuel m:Nat) (p:Probe),p.more+10*m+1<fuel→t.slot (ls t.mask (m+1) (p.i,p.perturb)).1 = .empty→∃ j d,probe.go t (fun _=>h+1) h fuel p=some (.empty j d)
 | 0,m,p,hf,_=>absurd hf (Nat.not_lt_zero _)
 | fuel+1,m,p,hf,e=>by
  have ne:(h+1 == h)=false:=by simpa using (by omega:h+1≠h)
  have next:∀ d,∃ j d',probe.go t (fun _=>h+1) h fuel (t.advance { p with dummy:=d })=some (.empty j d'):=fun d=>by
   by_cases hm:p.more > 0
   ·rw [a1v (by exact hm)]
    exact a8y fuel m _ (by show p.more - 1+10*m+1<fuel;omega) e
   ·rw [a1w (by show p.more=0;omega)]
    cases m with
    | zero =>
     cases fuel with
     | zero=>omega
     | succ fuel =>
      have e:t.slot (leap t.mask p.i p.perturb).1 = .empty:=e
      unfold probe.go
      simp only [e]
      exact ⟨_,_,rfl⟩
    | succ m =>
     have:=aag t.mask (leap t.mask p.i p.perturb).1
     exact a8y fuel m _ (by show runEnd t.mask (leap t.mask p.i p.perturb).1 - (leap t.mask p.i p.perturb).1+10*m+1<fuel;omega) e
  unfold probe.go
  split
  ·exact ⟨_,_,rfl⟩
  ·exact next _
  ·rw [ne]
   exact next p.dummy
theorem af6 {t:SetTable} (hd:t.dummies = #[]) {y:Nat} (hy:∀ k (hk:k<t.place.size),t.place[k]≠y):t.slot y = .empty:=by
 unfold slot
 dsimp only
 rw [if_neg,hd,a3p]
 ·rfl
 ·intro c
  have c:t.place[below t.place y]? = some y:=by simpa using c
  obtain ⟨hk,e⟩:=Array.getElem?_eq_some_iff.mp c
  exact hy _ hk e
theorem a65 {t:SetTable} {k y:Nat} (hk:t.mask+1=2 ^ k) (hd:t.dummies = #[]) (hy:y≤t.mask) (fr:∀ k (hk:k<t.place.size),t.place[k]≠y) (h:Int):∃ r,t.freeSlot h=some r:=by
 have sl:=af6 hd fr
 have hi:bits h % (t.mask+1)≤t.mask:=Nat.le_of_lt_succ (Nat.mod_lt _ (Nat.succ_pos _))
 have hb:bits h<2 ^ 64:=by unfold bits;omega
 obtain ⟨m,hm,e⟩:=hit hk hi hb hy
 have r9:=aag t.mask (bits h % (t.mask+1))
 have:∃ j d,t.probe (fun _=>h+1) h (t.probeStart h)=some (.empty j d):=by
  unfold probe turns
  cases m with
  | zero =>
   have e:bits h % (t.mask+1)=y:=e
   rw [show 10*(t.mask+15)=(10*(t.mask+15) - 1)+1 by omega]
   unfold probe.go probeStart
   simp only [e,sl]
   exact ⟨_,_,rfl⟩
  | succ m=>exact a8y _ m _ (by show runEnd t.mask (bits h % (t.mask+1)) - bits h % (t.mask+1)+10*m+1<_;omega) (by rw [← e] at sl;exact sl)
 obtain ⟨j,d,x⟩:=this
 unfold freeSlot
 rw [x]
 exact ⟨_,rfl⟩
end SETH
namespace SETH
open PySem PySem.SetTable SETA
theorem af7:∀ l:List (Option Nat),(l.filterMap id).length<l.length→∃ i,∃ h:i<l.length,l[i]=none
 | [],h=>absurd h (Nat.lt_irrefl _)
 | none::l,_=>⟨0,Nat.succ_pos _,rfl⟩
 | some x::l,h=>by
  obtain ⟨i,hi,e⟩:=af7 l (by simpa using h)
  exact ⟨i+1,Nat.succ_lt_succ hi,e⟩
theorem aah (k:Nat):∀ (l:List (Option Nat)) (i:Nat) (h:i<l.length),l[i]=none→((l.set i (some k)).filterMap id).Perm (k::l.filterMap id)
 | x::l,0,_,e=>by
  have e:x=none:=e
  subst e
  simp
 | x::l,i+1,h,e=>by
  have ih:=aah k l i (Nat.lt_of_succ_lt_succ h) e
  cases x with
  | none=>simpa using ih
  | some x =>
   simp only [List.set_cons_succ,List.filterMap_cons,id]
   exact (ih.cons x).trans (List.Perm.swap ..)
structure Own (mask n:Nat) (o:Array (Option Nat)):Prop where
 size:o.size=mask+1
 all:(o.toList.filterMap id).Perm (List.range n)
theorem au0 (mask:Nat):Own mask 0 (Array.replicate (mask+1) none) where
 size:=by simp
 all:=by simp
theorem Own.free {mask n:Nat} {o:Array (Option Nat)} (w:Own mask n o) (hn:n≤mask):∃ y,y≤mask∧o.getD y (some 0)=none:=by
 have:=w.all.length_eq
 rw [List.length_range] at this
 obtain ⟨i,hi,e⟩:=af7 o.toList (by rw [this,Array.length_toList,w.size];omega)
 have hs:i<o.size:=by simpa using hi
 refine ⟨i,by have:=w.size;omega,?_⟩
 simp only [Array.getD,hs,dif_pos]
 simpa using e
theorem Own.put {mask n j:Nat} {o:Array (Option Nat)} (w:Own mask n o) (hj:j≤mask) (e:o.getD j (some 0)=none):Own mask (n+1) (o.setIfInBounds j (some n)) where
 size:=by rw [Array.size_setIfInBounds];exact w.size
 all:=by
  have hs:j<o.size:=by have:=w.size;omega
  have e:o.toList[j]'(by simpa using hs)=none:=by
   simp only [Array.getD,hs,dif_pos] at e
   simpa using e
  rw [Array.toList_setIfInBounds,List.range_succ]
  exact (aah n _ _ _ e).trans ((w.all.cons n).trans (List.perm_append_singleton n _).symm)
theorem aai {mask k:Nat} (hk:mask+1=2 ^ k) {F:Option (Array (Option Nat) × Nat)→Int→Option (Array (Option Nat) × Nat)}
  (hF:∀ o n h j,layClean.free mask o (turns mask) (bits h % (mask+1)) (bits h)=some j→F (some (o,n)) h=some (o.setIfInBounds j (some n),n+1)) :
  ∀ (hs:List Int) (o:Array (Option Nat)) (n:Nat),Own mask n o→n+hs.length≤mask+1→∃ o',hs.foldl F (some (o,n))=some (o',n+hs.length)∧Own mask (n+hs.length) o'
 | [],o,n,w,_=>⟨o,rfl,w⟩
 | h::hs,o,n,w,le=>by
  rw [List.length_cons] at le ⊢
  obtain ⟨y,hy,e⟩:=w.free (by omega)
  have hi:bits h % (mask+1)≤mask:=Nat.le_of_lt_succ (Nat.mod_lt _ (Nat.succ_pos _))
  obtain ⟨m,hm,em⟩:=hit hk hi (p:=bits h) (by unfold bits;omega) hy
  obtain ⟨j,ej,hj,fj⟩:=a7r (turns mask) (bits h % (mask+1)) (bits h) m (by unfold turns;omega) hi (by rw [em];exact e)
  obtain ⟨o',eo,wo⟩:=aai hk hF hs _ (n+1) (w.put hj fj) (by omega)
  refine ⟨o',?_,by rw [show n+(hs.length+1)=n+1+hs.length by omega];exact wo⟩
  rw [List.foldl_cons,hF o n h j ej,eo,show n+(hs.length+1)=n+1+hs.length by omega]
theorem ai3 {mask k:Nat} (hk:mask+1=2 ^ k) (hs:Array Int) (le:hs.size≤mask+1) {F:Option (Array (Option Nat) × Nat)→Int→Option (Array (Option Nat) × Nat)}
  (hF:∀ o n h j,layClean.free mask o (turns mask) (bits h % (mask+1)) (bits h)=some j→F (some (o,n)) h=some (o.setIfInBounds j (some n),n+1)) :
  ∃ o,(hs.toList.foldl F (some (Array.replicate (mask+1) none,0))).map (·.1)=some o∧Own mask hs.size o:=by
 obtain ⟨o,e,w⟩:=aai hk hF hs.toList _ 0 (au0 mask) (by simpa using le)
 rw [e]
 exact ⟨o,rfl,by simpa using w⟩
theorem ac2 {mask k:Nat} (hk:mask+1=2 ^ k) (hs:Array Int) (le:hs.size≤mask+1):∃ o,layClean mask hs=some o∧Own mask hs.size o:=by
 unfold layClean
 rw [← Array.foldl_toList]
 refine ai3 hk hs le fun o n h j ej=>?_
 simp only [Option.bind_eq_bind,Option.bind_some,ej]
 rfl
theorem ai4 {mask n:Nat} {o:Array (Option Nat)} (w:Own mask n o):((List.range (mask+1)).filterMap fun j=>(o.getD j none).map (j, ·)).map (·.2)=o.toList.filterMap id:=by
 have e:o.toList=(List.range (mask+1)).map fun j=>o.getD j none:=by
  refine List.ext_getElem (by simp [w.size]) fun i h1 h2=>?_
  have hs:i<o.size:=by simpa using h1
  simp [Array.getD,hs]
 rw [e,List.filterMap_map,List.map_filterMap]
 congr 1
 funext j
 show _=o.getD j none
 cases o.getD j none<;>rfl
theorem af8 {mask k f m:Nat} {l p:Bool} (hk:mask+1=2 ^ k) (hs:Array Int) (le:hs.size≤mask+1):∃ t o,laid mask f m l p hs=some (t,o)∧t.mask=mask∧t.dummies = #[]∧t.plain=p∧t.place.size=hs.size∧(∀ i (h:i<t.place.size),t.place[i]≤mask)∧o.toList.Perm (List.range hs.size):=by
 obtain ⟨o,e,w⟩:=ac2 hk hs le
 unfold laid
 rw [e]
 have ls:=ai4 w
 have len:((List.range (mask+1)).filterMap fun j=>(o.getD j none).map (j, ·)).length=hs.size:=by
  have:=w.all.length_eq
  rw [← ls,List.length_map,List.length_range] at this
  exact this
 refine ⟨_,_,rfl,rfl,rfl,rfl,by simpa using len,fun i hi=>?_,?_⟩
 ·have hm:=Array.getElem_mem hi
  simp only [List.mem_toArray,List.mem_map,List.mem_filterMap,List.mem_range] at hm
  obtain ⟨⟨a,b⟩,⟨j,hj,x⟩,y⟩:=hm
  cases g:o.getD j none with
  | none=>rw [g] at x;cases x
  | some z =>
   rw [g] at x
   cases x
   exact Nat.le_of_lt_succ (y ▸ hj)
 ·show List.Perm (List.map _ _) _
  exact (ls ▸ w.all)
theorem aaj (n:Nat):∀ (fuel a:Nat),n<2 ^ (a+fuel)→∃ b,a≤b∧sizeAbove.go n fuel (2 ^ a)=2 ^ b∧n<2 ^ b
 | 0,a,h=>⟨a,Nat.le_refl _,rfl,h⟩
 | fuel+1,a,h=>by
  unfold sizeAbove.go
  split
  ·obtain ⟨b,h1,h2,h3⟩:=aaj n fuel (a+1) (by rw [show a+1+fuel=a+(fuel+1) by omega];exact h)
   exact ⟨b,by omega,h2,h3⟩
  ·exact ⟨a,Nat.le_refl _,rfl,by omega⟩
theorem above {n:Nat} (h:n<2 ^ 67):∃ b,3≤b∧sizeAbove n=2 ^ b∧n<2 ^ b:=aaj n 64 3 h
end SETH
namespace SETH
open PySem PySem.SetTable SETA
theorem gap:∀ (l:List Nat) (a:Nat),l.Pairwise (· < ·)→(∀ x∈l,a≤x)→∃ y,a≤y∧y≤a+l.length∧y ∉ l
 | [],a,_,_=>⟨a,Nat.le_refl _,Nat.le_refl _,List.not_mem_nil⟩
 | x::l,a,p,g=>by
  obtain ⟨p1,p2⟩:=List.pairwise_cons.mp p
  have gx:=g x (List.mem_cons_self ..)
  rw [List.length_cons]
  by_cases e:x=a
  ·obtain ⟨y,h1,h2,h3⟩:=gap l (a+1) p2 fun z hz=>by have:=p1 z hz;omega
   exact ⟨y,by omega,by omega,fun c=>(List.mem_cons.mp c).elim (fun c=>by omega) h3⟩
  ·exact ⟨a,Nat.le_refl _,by omega,fun c=>(List.mem_cons.mp c).elim (fun c=>e c.symm) fun c=>by have:=p1 a c;omega⟩
structure Gs (t:SetTable):Prop where
 gd:Gd t
 pow:∃ k,t.mask+1=2 ^ k
 big:7≤t.mask
 le:∀ i (h:i<t.place.size),t.place[i]≤t.mask
 plain:t.plain=true
theorem ai5 (f m:Nat) (l:Bool):Gs (.fresh f m l):=⟨ai1 f m l,⟨3,rfl⟩,Nat.le_refl _,fun i h=>absurd h (Nat.not_lt_zero _),rfl⟩
theorem a66 {t:SetTable} (g:Gd t):t.fill=t.place.size:=by unfold fill;rw [g.dm];rfl
theorem a4t {t:SetTable} {p:Probe} (h:p.j+p.more≤t.mask):(t.advance p).j+(t.advance p).more≤t.mask:=by
 by_cases hm:p.more > 0
 ·rw [a1v hm]
  show p.j+1+(p.more - 1)≤_
  omega
 ·rw [a1w (by omega)]
  have h1:(leap t.mask p.i p.perturb).1≤t.mask:=Nat.le_of_lt_succ (Nat.mod_lt _ (Nat.succ_pos _))
  have h2:=a3s h1
  have h3:=a3r t.mask (leap t.mask p.i p.perturb).1
  show (leap t.mask p.i p.perturb).1+(runEnd t.mask (leap t.mask p.i p.perturb).1 - (leap t.mask p.i p.perturb).1)≤_
  omega
theorem amc {t:SetTable} {ha:Nat→Int} {h:Int}:∀ (fuel:Nat) (p:Probe) (j:Nat) (d:Option Nat),p.j+p.more≤t.mask→probe.go t ha h fuel p=some (.empty j d)→j≤t.mask
 | 0,p,j,d,_,e=>by cases e
 | fuel+1,p,j,d,hp,e=>by
  unfold probe.go at e
  split at e
  ·cases e
   omega
  ·exact amc fuel _ j d (a4t (p:={ p with dummy:=some p.j }) hp) e
  ·split at e
   ·cases e
   ·exact amc fuel _ j d (a4t hp) e
theorem amd {t:SetTable} {h:Int} {j:Nat} {b:Bool} (e:t.freeSlot h=some (j,b)) (hb:b=false):j≤t.mask:=by
 unfold freeSlot at e
 split at e
 ·rename_i j' d x
  have:=amc _ _ j' d (by
   have h1:bits h % (t.mask+1)≤t.mask:=Nat.le_of_lt_succ (Nat.mod_lt _ (Nat.succ_pos _))
   have h2:=a3s h1
   have h3:=a3r t.mask (bits h % (t.mask+1))
   show bits h % (t.mask+1)+(runEnd t.mask (bits h % (t.mask+1)) - bits h % (t.mask+1))≤t.mask
   omega) x
  cases d with
  | none=>cases e;exact this
  | some d=>cases e;cases hb
 ·cases e
theorem ajq {xs:Array Nat} {a b z:Nat} (h:z∈xs.extract a b):z∈xs:=by
 obtain ⟨i,hi,e⟩:=Array.mem_iff_getElem.mp h
 rw [Array.getElem_extract] at e
 exact e ▸ Array.getElem_mem _
theorem a3t {α:Type} (xs:Array α) (p:Nat) (x:α) (hp:p≤xs.size):(insertAt xs p x).size=xs.size+1:=by
 simp [insertAt]
 omega
theorem af9 {t:SetTable} (g:Gs t) (es:Array (Int × Value)) (hs:t.place.size=es.size) (rest:t.fill*5<t.mask*3) (h:Int) (x:Value) :
  Gs (layNew t es h x).2.1∧(layNew t es h x).2.2.2=false∧(layNew t es h x).2.1.fits (layNew t es h x).1.size=true∧(layNew t es h x).2.1.mask=t.mask∧(layNew t es h x).2.1.place.size=es.size+1:=by
 have big:=g.big
 have fl:=a66 g.gd
 obtain ⟨k,hk⟩:=g.pow
 obtain ⟨y,_,hy,ny⟩:=gap t.place.toList 0 (a7p g.gd.ri) fun _ _=>Nat.zero_le _
 rw [Array.length_toList] at hy
 obtain ⟨⟨j,b⟩,e⟩:=a65 hk g.gd.dm (y:=y) (by omega) (fun i hi c=>ny (by rw [← c];simp)) h
 obtain ⟨f1,f2⟩:=a3q g.gd e
 have hj:=amd e f2
 have bl:=(vo g.gd.ri j).1
 have sz1:(t.put j).1.place.size=es.size+1:=by
  show (insertAt t.place _ j).size=_
  rw [a3t _ _ _ bl,hs]
 have sz2:(insertAt es (t.put j).2 (h,x)).size=es.size+1:=a3t _ _ _ (by show below t.place j≤_;omega)
 have gp:=ajn g.gd f1
 have ft:(t.put j).1.fits (insertAt es (t.put j).2 (h,x)).size=true:=by
  unfold fits
  rw [a66 gp,sz1,sz2]
  have:es.size+1≤(t.put j).1.mask:=by show _≤t.mask;omega
  simp [this]
 have pl:∀ z∈(t.put j).1.place,z≤t.mask:=fun z hz=>by
  have hz:z∈insertAt t.place (below t.place j) j:=hz
  simp only [insertAt,Array.mem_append,Array.mem_push] at hz
  rcases hz with (hz | hz) | hz
  ·obtain ⟨i,hi,e⟩:=Array.mem_iff_getElem.mp (ajq hz)
   exact e ▸ g.le i hi
  ·omega
  ·obtain ⟨i,hi,e⟩:=Array.mem_iff_getElem.mp (ajq hz)
   exact e ▸ g.le i hi
 have gs:Gs (t.put j).1:=⟨gp,g.pow,g.big,fun i hi=>pl _ (Array.getElem_mem hi),g.plain⟩
 have eq:layNew t es h x=(insertAt es (t.put j).2 (h,x),(t.put j).1,b,false):=by
  unfold layNew
  rw [e]
  simp only [ft,orStandIn,if_true,Bool.not_true]
 rw [eq]
 exact ⟨gs,rfl,ft,rfl,sz1⟩
theorem ajr {es:Array (Int × Value)}:∀ l:List Nat,(∀ x∈l,x<es.size)→(l.filterMap (es[·]?)).length=l.length
 | [],_=>rfl
 | x::l,h=>by
  rw [List.filterMap_cons,Array.getElem?_eq_getElem (h x (List.mem_cons_self ..))]
  exact congrArg (·+1) (ajr l fun z hz=>h z (List.mem_cons_of_mem _ hz))
theorem ai6 {t:SetTable} (g:Gs t) (es:Array (Int × Value)) {n:Nat} (hn:n<2 ^ 67) (big:es.size*2≤n) (pos:0<es.size) :
  Gs (relayAll t es n).2.1∧(relayAll t es n).2.2=false∧(relayAll t es n).2.1.fits (relayAll t es n).1.size=true∧(relayAll t es n).2.1.fill*5<(relayAll t es n).2.1.mask*3:=by
 obtain ⟨b,h3,eb,lb⟩:=above hn
 have p8:2 ^ 3≤2 ^ b:=Nat.pow_le_pow_right (by decide) h3
 have hk:sizeAbove n - 1+1=2 ^ b:=by omega
 obtain ⟨t',o,e,hm,hd,hp,hs,hl,ho⟩:=af8 (f:=t.finger) (m:=t.movedTo (sizeAbove n - 1)) (l:=t.led) (p:=t.plain) hk (es.map (·.1)) (by rw [Array.size_map];omega)
 rw [Array.size_map] at hs ho
 have gd':=(af3 e).1
 have cov:coversAll o es.size=true:=List.isPerm_iff.mpr ho
 have sz:(o.filterMap (es[·]?)).size=es.size:=by
  rw [← Array.length_toList,Array.toList_filterMap,ajr _ fun x hx=>List.mem_range.mp (ho.mem_iff.mp hx),ho.length_eq,List.length_range]
 have fl:=a66 gd'
 have ft:t'.fits (o.filterMap (es[·]?)).size=true:=by
  unfold fits
  rw [fl,sz,hs]
  have:es.size≤t'.mask:=by omega
  simp [this]
 have eq:relayAll t es n=(o.filterMap (es[·]?),t',false):=by
  unfold relayAll relaid
  rw [e]
  simp only [cov,ft,Bool.and_self,if_true]
 rw [eq]
 exact ⟨⟨gd',⟨b,by rw [hm];exact hk⟩,by rw [hm];omega,fun i hi=>by rw [hm];exact hl i hi,hp.trans g.plain⟩,rfl,ft,by show t'.fill*5<t'.mask*3;omega⟩
end SETH
namespace SETB
open PySem PySem.Spec PyProof.Rows SETA
def kOf:Int × Value→Int
 | (_, .int k _)=>k
 | _=>0
def AllI (l:List (Int × Value)):Prop:=∀ e∈l,∃ k t,e=(hashInt k,Value.int k t)
def Gr (t:SetTable):Prop:=SETH.Gs t∧t.fill*5<t.mask*3
def SetI (b:Bool) (a:Addr) (ks:List Int) (h:Heap):Prop :=
 ∃ o es ep t,h.get? a=some o∧o.ExactSet∧o.data = .set es ep t∧AllI es.toList∧(es.toList.map kOf).Perm ks∧es.size<scanBound∧t.fits es.size=true∧Gr t∧t.led=b
theorem SetI.keep {b:Bool} {a:Addr} {ks:List Int} {h h':Heap} (x:SetI b a ks h) (k:∀ o,h.get? a=some o→h'.get? a=some o):SetI b a ks h':=by
 obtain ⟨o,es,ep,t,ho,r⟩:=x
 exact ⟨o,es,ep,t,k o ho,r⟩
theorem SetI.len {b:Bool} {a:Addr} {ks:List Int} {h:Heap} (x:SetI b a ks h):ks.length<scanBound:=by
 obtain ⟨o,es,ep,t,_,_,_,_,p,hb,_⟩:=x
 have:=p.length_eq
 rw [List.length_map,Array.length_toList] at this
 omega
section
variable {prog:Program} {w:World} {E:Value→Shared→Prop} {A:Around} {s:Shared}
theorem AllI.el {l:List (Int × Value)} (h:AllI l):ElemsOf (intKind prog w) l:=fun e he=>by
 obtain ⟨k,t,rfl⟩:=h e he
 exact ⟨⟨k,by simp [intKind,Value.isInt],rfl⟩,rfl⟩
theorem auz {e:Int × Value} {k j:Int} {t:Tok} (h:e=(hashInt j,Value.int j t)):(intKind prog w).is k e.2=decide (k=j):=by
 subst h
 by_cases q:k=j
 ·subst q;simp [intKind,Value.isInt]
 ·rw [decide_eq_false q]
  show Value.isInt k (Value.int j t)=false
  simp only [Value.isInt,beq_eq_false_iff_ne,ne_eq]
  first | exact q | exact fun z=>q z.symm
theorem aak {l:List (Int × Value)} (h:AllI l) {k:Int}:l.findIdx? (fun e=>(intKind prog w).is k e.2)=none↔k ∉ l.map kOf:=by
 rw [List.findIdx?_eq_none_iff]
 constructor
 ·intro n m
  obtain ⟨e,he,q⟩:=List.mem_map.mp m
  have:=n e he
  obtain ⟨j,t,rfl⟩:=h e he
  rw [auz rfl] at this
  have:¬ k=j:=of_decide_eq_false this
  exact this q.symm
 ·intro n e he
  obtain ⟨j,t,rfl⟩:=h e he
  rw [auz rfl]
  exact decide_eq_false fun z=>n (List.mem_map.mpr ⟨_,he,z.symm⟩)
theorem stored (prog:Program) (w:World) {b:Bool} {a:Addr} {o:Obj} {es es':Array (Int × Value)} {ep:Nat} {t t':SetTable} {ks:List Int} {h:Heap} (ho:h.get? a=some o) (hex:o.ExactSet) (hd:o.data = .set es ep t) (al:AllI es'.toList) (p:(es'.toList.map kOf).Perm ks) (sz:es'.size<scanBound) (f:t'.fits es'.size=true) (g:Gr t') (l:t'.led=b) :
  SetI b a ks (h.update a (Obj.putSet es' t')):=by
 have e:=SetOf_store (knd:=intKind prog w) (S':=fun k=>es'.toList.any fun e=>(intKind prog w).is k e.2) ho hex hd al.el (fun k=>List.any_eq_true) sz f
 exact ⟨_,es',ep+1,t',e.1,hex,rfl,al,p,sz,f,g,l⟩
theorem held (prog:Program) (w:World) {a:Addr} {o:Obj} {es es':Array (Int × Value)} {ep:Nat} {t t':SetTable} {h:Heap} (ho:h.get? a=some o) (hex:o.ExactSet) (hd:o.data = .set es ep t) (al:AllI es'.toList) (sz:es'.size<scanBound) (f:t'.fits es'.size=true) :
  ∃ o1 ep1,(h.update a (Obj.putSet es' t')).get? a=some o1∧o1.ExactSet∧o1.data = .set es' ep1 t':=by
 have e:=SetOf_store (knd:=intKind prog w) (S':=fun k=>es'.toList.any fun e=>(intKind prog w).is k e.2) ho hex hd al.el (fun k=>List.any_eq_true) sz f
 exact ⟨_,ep+1,e.1,hex,rfl⟩
theorem size_of {t:SetTable} {n:Nat} (hf:t.fits n=true):t.place.size=n:=by
 simp only [SetTable.fits,Bool.and_eq_true,beq_iff_eq] at hf
 exact hf.1
theorem ame {b:Bool} {a:Addr} {o:Obj} {es es1:Array (Int × Value)} {ep:Nat} {t t2:SetTable} {ks:List Int} {wd:Bool} {g:Bool→Sem Unit} {R:Option Bool→Shared→Prop} {rl:Array (Int × Value) × SetTable × Bool}
  (hrl:rl=relayAll t2 es1 (SetTable.grown es1.size))
  (hg:∀ (c:Bool) (z:Shared) (R':Unit→Shared→Prop),R' () z→wpAny (model prog w) A (g c) R' E z)
  (ho:s.heap.get? a=some o) (hex:o.ExactSet) (hd:o.data = .set es ep t) (al:AllI es1.toList) (pm:(es1.toList.map kOf).Perm ks) (sz:es1.size<scanBound) (f:t2.fits es1.size=true) (gs:SETH.Gs t2) (ld:t2.led=b) (hwd:wd=false)
  (fin:∀ h',Heap.SameBut a s.heap h'→SetI b a ks h'→R (some true) { s with heap:=h' }) :
  wpAny (model prog w) A (storeSet a es1 t2>>=fun _=>if (!wd && t2.tooFull)=true then (g rl.2.2>>=fun _=>storeSet a rl.1 rl.2.1>>=fun _=>pure (some true)) else pure (some true)) R E s:=by
 have fl:=SETH.a66 gs.gd
 have ps:=size_of f
 have big:=gs.big
 have sb:=Heap.SameBut.update s.heap a (Obj.putSet es1 t2)
 refine wpAny_bind (wpAny_storeSet_of ho hd ?_ (fits_of_scanBound sz))
 split
 ·rename_i full
  have full:t2.fill*5≥t2.mask*3:=by
   rw [hwd] at full
   simpa [SetTable.tooFull] using full
  have lt:es1.size<4096:=sz
  have p2:=relayAll_perm t2 es1 (SetTable.grown es1.size)
  obtain ⟨g2,_,f2,r2⟩:=SETH.ai6 gs es1 (n:=SetTable.grown es1.size) (by unfold SetTable.grown;split<;>omega) (by unfold SetTable.grown;split<;>omega) (by omega)
  have l2:=af4 t2 es1 (SetTable.grown es1.size)
  rw [← hrl] at p2 f2 g2 l2 r2
  clear hrl
  obtain ⟨es2,t3,gv⟩:=rl
  have z2:es2.size<scanBound:=by
   have:=p2.length_eq
   simp only [Array.length_toList] at this
   omega
  obtain ⟨o1,p1,ho1,hex1,hd1⟩:=held prog w ho hex hd al sz f
  refine wpAny_bind (hg _ _ _ (wpAny_bind (wpAny_storeSet_of ho1 hd1 (wpAny_pure (fin _ (sb.trans (Heap.SameBut.update _ a _)) ?_)) (fits_of_scanBound z2))))
  exact stored prog w ho1 hex1 hd1 (fun e he=>al e (p2.mem_iff.mp he)) ((p2.map kOf).trans pm) z2 f2 ⟨g2,r2⟩ (l2.trans ld)
 ·rename_i full
  have full:t2.fill*5<t2.mask*3:=by
   rw [hwd] at full
   simpa [SetTable.tooFull] using full
  exact wpAny_pure (fin _ sb (stored prog w ho hex hd al pm sz f ⟨gs,full⟩ ld))
theorem ac3 {b:Bool} {a:Addr} {ks:List Int} {k:Int} {tk:Tok} {Q:Bool→Shared→Prop} (hS:SetI b a ks s.heap) (few:ks.length+1<scanBound)
  (q:∀ (h':Heap) (r:Bool),Heap.SameBut a s.heap h'→SetI b a (L2.stepK ks k) h'→Q r { s with heap:=h' }):wpAny (model prog w) A (setAddHashed a (.int k tk) (hashInt k)) Q E s:=by
 obtain ⟨o,es,ep,t,ho,hex,hd,al,pm,sz,ft,gd,ld⟩:=hS
 have hk:(intKind prog w).is k (Value.int k tk)=true:=by simp [intKind,Value.isInt]
 have lk:es.size=ks.length:=by have:=pm.length_eq;rwa [List.length_map,Array.length_toList] at this
 unfold setAddHashed setAddHashedIn
 refine wpAny_holding (wpAny_bind (wpAny_setState_of ho hd ft ?_))
 dsimp only
 rw [byScan_of (knd:=intKind prog w) rfl sz al.el,if_pos rfl]
 unfold setAddByScan
 refine wpAny_bind (wpAny_bind (wpAny_rule (wpAny_bind (wpAny_setScan_of (knd:=intKind prog w) hk ho hd ft al.el ?_))))
 cases c:es.toList.findIdx? (fun e=>(intKind prog w).is k e.2) with
 | some j =>
  have mem:k∈ks:=by
   apply Classical.byContradiction
   intro n
   have:=(aak (prog:=prog) (w:=w) al (k:=k)).mpr fun m=>n (pm.mem_iff.mp m)
   rw [this] at c
   cases c
  refine wpAny_pure (wpAny_pure ?_)
  have:=q s.heap false (Heap.SameBut.refl a s.heap) (by rw [show L2.stepK ks k=ks from if_pos mem];exact ⟨o,es,ep,t,ho,hex,hd,al,pm,sz,ft,gd,ld⟩)
  exact this
 | none =>
  have nm:k ∉ ks:=fun m=>(aak (prog:=prog) (w:=w) al).mp c (pm.mem_iff.mpr m)
  have es1p:=layNew_perm t es (hashInt k) (.int k tk)
  have wd1:=(af2 gd.1.gd es (hashInt k) (.int k tk)).2
  obtain ⟨gs1,_,ft1,_,_⟩:=SETH.af9 gd.1 es (size_of ft) gd.2 (hashInt k) (.int k tk)
  have ld1:=ac1 t es (hashInt k) (.int k tk)
  generalize layNew t es (hashInt k) (.int k tk)=L at es1p ft1 gs1 ld1 wd1 ⊢
  obtain ⟨es1,t1,wd,gave⟩:=L
  dsimp only at es1p ft1 gs1 ld1 wd1 ⊢
  rw [Array.toList_push] at es1p
  have al1:AllI es1.toList:=fun e he=>by
   rcases List.mem_append.mp (es1p.mem_iff.mp he) with m | m
   ·exact al e m
   ·rw [List.mem_singleton] at m;exact ⟨k,tk,m⟩
  have pm1:(es1.toList.map kOf).Perm (L2.stepK ks k):=by
   rw [show L2.stepK ks k=ks++[k] from if_neg nm]
   refine (es1p.map kOf).trans ?_
   rw [List.map_append]
   exact pm.append_right _
  have sz1:es1.size<scanBound:=by
   have:=es1p.length_eq
   rw [Array.length_toList,List.length_append,Array.length_toList,List.length_singleton] at this
   omega
  have fin:∀ h':Heap,Heap.SameBut a s.heap h'→SetI b a (L2.stepK ks k) h'→wpAny (model prog w) A (pure true) Q E { s with heap:=h' }:=fun h' sb x=>wpAny_pure (q h' true sb x)
  have way:∀ (c:Bool) (z:Shared) (R:Unit→Shared→Prop),R () z→wpAny (model prog w) A (match c with | true=>rule "set.scan.the-table-gave-way" | false=>pure ()) R E z:=fun c z R h=>by
   cases c
   ·exact wpAny_pure h
   ·exact wpAny_rule h
  refine wpAny_bind (way gave _ _ ?_)
  split
  ·refine wpAny_bind ?_
   rw [hashByValue_scannable 8 (x:=.int k tk) rfl]
   refine wpAny_pure ?_
   exact ame rfl way ho hex hd al1 pm1 sz1 ft1 gs1 (ld1.trans ld) wd1 fin
  ·rename_i z
   exact absurd gs1.plain z
end
end SETB
namespace SETB
open PySem PySem.Spec PyProof.Rows SETA
section
variable {prog:Program} {w:World} {E:Value→Shared→Prop} {A:Around} {s:Shared}
theorem SetI.typeIs {b:Bool} {a:Addr} {ks:List Int} (x:SetI b a ks s.heap):s.TypeIs (.ref a) "set":=by
 obtain ⟨o,_,_,_,ho,hex,_⟩:=x
 exact ⟨o,ho,hex.1⟩
theorem ai7 {b:Bool} {a:Addr} {ks:List Int} {k:Int} {tk:Tok} {Q:Value→Shared→Prop} (hS:SetI b a ks s.heap) (few:ks.length+1<scanBound)
  (q:∀ h':Heap,Heap.SameBut a s.heap h'→SetI b a (L2.stepK ks k) h'→Q .none { s with heap:=h',toks:=s.toks+1 }):wpAny (model prog w) A (call (.builtin "set.add") [.ref a, .int k tk]) Q E s:=by
 refine wpAny_call_entry F.slot_set_add hS.typeIs F.entry_set_add ?_ (F.args_set_add_2 _ _)
 show wpAny (model prog w) _ (Builtin.«set.add» ⟨[.ref a, .int k tk],[]⟩) _ _ s
 have e:Builtin.«set.add» ⟨[.ref a, .int k tk],[]⟩=(setAdd a (.int k tk)>>=fun _=>ret .none):=by
  unfold Builtin.«set.add» Builtin.Frozenset.oneOther
  rfl
 rw [e]
 unfold setAdd
 refine wpAny_bind (wpAny_holding (wpAny_bind ((intKind prog w).pyHash (k:=k) (by simp [intKind,Value.isInt]) ?_)))
 exact ac3 (s:={ s with toks:=s.toks+1 }) hS few fun h' r sb x=>wpAny_pure ⟨_,rfl,q h' sb x⟩
def amf (b:Bool):Obj:={ cls:=.type "set",dict:=none,data:=.set #[] 0 (.fresh 0 0 b) }
theorem amg {a:Addr} {b:Bool} {h:Heap} (e:h.get? a=some (amf b)):SetI b a [] h :=
 ⟨_, #[],0,_,e,⟨rfl,rfl,rfl⟩,rfl,fun e he=>by simp at he,by simp,by decide,by simp [SetTable.fits,SetTable.fresh,SetTable.fill],⟨SETH.ai5 _ _ _,by show 0*5<7*3;decide⟩,rfl⟩
def byT (w:World):Bool:=w.params.followText "set-order"
theorem amh {Q:Value→Shared→Prop} (q:Q (.ref s.heap.objs.size) { s with heap:=s.heap.push (amf (!byT w)) }):wpAny (model prog w) A (newSet (.type "set")) Q E s:=by
 unfold newSet setsByText
 refine wpAny_bind (wpAny_bind (wpAny_askSetting (wpAny_pure ?_)))
 exact wpAny_newObj_type q
end
end SETB
set_option maxHeartbeats 1000000
namespace SETB
open PySem PySem.Spec PyProof.Rows SETA PySem.Builtin
def itO (f:Value) (i:Nat) (a:Addr) (n ep:Nat):Obj:={ cls:=.type "set_iterator",data:=.fields #[f,rawInt i, .ref a,rawInt n,rawInt ep] }
theorem slot_next:Slot "set_iterator" "__next__" "set_iterator.__next__" :=
 .of (owner := "set_iterator") (n := "__next__") (by rw [typeLookup_type,builtinLookup_eq_fast];kernel_rfl) (by decide +kernel) (by decide +kernel) (by decide +kernel)
  (Or.inl (by decide +kernel)) (by rw [isSubtype_type];kernel_rfl)
theorem entry_next:entryFor table "set_iterator.__next__" = some Builtin.«set_iterator.__next__»:=entryFor_of_fast (by kernel_rfl)
theorem args_next (a:Value):argsOk "set_iterator.__next__" ⟨[a],[]⟩:=by unfold argsOk;kernel_rfl
theorem ac4:entryFor table "set.__iter__" = some Builtin.«frozenset.__iter__» :=
 entryFor_alias (id' := "frozenset.__iter__") (by kernel_rfl) rfl (by decide +kernel) (by kernel_rfl)
theorem afa (a:Value):argsOk "set.__iter__" ⟨[a],[]⟩:=by unfold argsOk;kernel_rfl
section
variable {prog:Program} {w:World} {E:Value→Shared→Prop} {A:Around} {s:Shared}
theorem a67 {Q:Bool→Shared→Prop} (q:Q (byT w) s):wpAny (model prog w) A setsByText Q E s:=by
 unfold setsByText
 exact wpAny_bind (wpAny_askSetting (wpAny_pure q))
theorem a3u {a:Addr} {o:Obj} {es:Array (Int × Value)} {ep i slot ep' k:Nat} {t:SetTable} {Q:Option (Value × Nat)→Shared→Prop} (ho:s.heap.get? a=some o) (hd:o.data = .set es ep t) (hf:t.fits es.size=true) (bt:byT w=false) (pl:t.plain=true∨es.size≤1) (ld:t.led=true) (hk:SetTable.below t.place slot=k)
  {r:Option (Value × Nat)} (hr:(∃ h x j,es[k]? = some (h,x)∧t.place[k]? = some j∧r=some (x,j+1))∨(es[k]? = none∧r=none)) (q:Q r s):wpAny (model prog w) A (setNext a slot i ep') Q E s:=by
 subst hk
 unfold setNext
 apply wpAny_bind
 apply wpAny_setState_of ho hd hf
 apply wpAny_bind
 apply a67
 simp only [bt,Bool.false_eq_true,if_false]
 split
 ·rename_i z
  have z:(!t.plain && decide (es.size > 1))=true:=z
  rcases pl with p | p
  ·rw [p] at z
   cases z
  ·rw [decide_eq_false (by omega),Bool.and_false] at z
   cases z
 have led:∀ R:Unit→Shared→Prop,R () s→wpAny (model prog w) A (if (!t.led && !es.isEmpty)=true then unsupported "set:maker-not-led" else pure ()) R E s:=fun R r=>by
  rw [ld]
  exact wpAny_pure r
 refine wpAny_bind (led _ (wpAny_pure ?_))
 rcases hr with ⟨h,x,j,e,f,rfl⟩ | ⟨e,rfl⟩
 ·rw [e,f];exact q
 ·rw [e];exact q
def Tells (w:World) (a:Addr) (slot i ep:Nat) (r:Option (Value × Nat)) (s:Shared):Prop:=∀ (prog:Program) (A:Around) (E:Value→Shared→Prop) (Q:Option (Value × Nat)→Shared→Prop),Q r s→wpAny (model prog w) A (setNext a slot i ep) Q E s
theorem next_item {it a:Addr} {o:Obj} {es:Array (Int × Value)} {ep i slot nx:Nat} {t:SetTable} {x:Value} {Q:Option Value→Shared→Prop} (hi:s.heap.get? it=some (itO (rawInt slot) i a es.size ep)) (ho:s.heap.get? a=some o) (hd:o.data = .set es ep t) (hf:t.fits es.size=true) (hn:Tells w a slot i ep (some (x,nx)) s)
  (q:∀ h':Heap,h'.get? it=some (itO (rawInt nx) (i+1) a es.size ep)→Heap.SameBut it s.heap h'→Q (some x) { s with heap:=h' }):wpAny (model prog w) A (pyNext (.ref it)) Q E s:=by
 have hT:s.TypeIs (.ref it) "set_iterator":=⟨_,hi,rfl⟩
 unfold pyNext
 refine wpAny_bind (wpAny_attempt (wpAny_callSpecial?_slot (name:=Str.ofString "__next__") hT slot_next (wpAny_call_entry slot_next hT entry_next ?_ (args_next _))))
 unfold Builtin.«set_iterator.__next__»
 have hn':∀ {A:Around} {E:Value→Shared→Prop} {Q:Option (Value × Nat)→Shared→Prop},Q _ s→wpAny (model prog w) A (setNext a (slot:Int).toNat (i:Int).toNat (ep:Int).toNat) Q E s:=fun {A E Q} r=>hn prog A E Q r
 wp_walk using hn',wpAny_setState_of ho hd hf
 exact ⟨x,rfl,wpAny_pure (q _ (Heap.get?_update_self _ (Heap.get?_update_self _ hi rfl) rfl) ((Heap.SameBut.update ..).trans (Heap.SameBut.update ..)))⟩
theorem afb {it a:Addr} {o:Obj} {es:Array (Int × Value)} {ep i slot:Nat} {t:SetTable} {Q:Option Value→Shared→Prop} (hh:A.handled=none) (hi:s.heap.get? it=some (itO (rawInt slot) i a es.size ep)) (ho:s.heap.get? a=some o) (hd:o.data = .set es ep t) (hf:t.fits es.size=true) (hn:Tells w a slot i ep none s)
  (q:∀ h':Heap,Heap.ExtBut it s.heap h'→Q none { s with heap:=h' }):wpAny (model prog w) A (pyNext (.ref it)) Q E s:=by
 have hT:s.TypeIs (.ref it) "set_iterator":=⟨_,hi,rfl⟩
 unfold pyNext
 refine wpAny_bind (wpAny_attempt (wpAny_callSpecial?_slot (name:=Str.ofString "__next__") hT slot_next (wpAny_call_entry slot_next hT entry_next ?_ (args_next _))))
 unfold Builtin.«set_iterator.__next__»
 have hn':∀ {A:Around} {E:Value→Shared→Prop} {Q:Option (Value × Nat)→Shared→Prop},Q _ s→wpAny (model prog w) A (setNext a (slot:Int).toNat (i:Int).toNat (ep:Int).toNat) Q E s:=fun {A E Q} r=>hn prog A E Q r
 wp_walk using hn',wpAny_setState_of ho hd hf
 unfold raiseNew
 apply wpAny_bind
 apply wpAny_handled
 rw [show A.in1.handled=_ from hh]
 wp_walk
 show wpAny (model prog w) A (isSubtype (.type "StopIteration") (.type "StopIteration")) _ _ _
 rw [isSubtype_stop]
 exact wpAny_pure (wpAny_pure (q _ fun b o hb e=>Heap.get?_push_of_some _ (Heap.get?_push_of_some _ ((Heap.SameBut.update s.heap it _).extBut b o hb e))))
end
end SETB
set_option maxHeartbeats 1000000
namespace SETB
open PySem PySem.Spec PyProof.Rows SETA PySem.Builtin
def slotAt (t:SetTable) (i:Nat):Nat:=if i=0 then 0 else t.place.getD (i - 1) 0+1
theorem afc {t:SetTable} (g:Gd t) {i:Nat} (h:i≤t.place.size):SetTable.below t.place (slotAt t i)=i:=by
 unfold slotAt
 split
 ·rename_i z
  subst z
  exact ama g.ri
 ·have hk:i - 1<t.place.size:=by omega
  have e:t.place.getD (i - 1) 0=t.place[i - 1]:=by simp [Array.getD,hk]
  rw [e,abx g.ri hk]
  omega
section
variable {prog:Program} {w:World} {E:Value→Shared→Prop} {A:Around} {s:Shared} {a:Addr} {o:Obj} {es:Array (Int × Value)} {ep i:Nat} {t:SetTable}
theorem ac6 (ho:s.heap.get? a=some o) (hd:o.data = .set es ep t) (hf:t.fits es.size=true) (bt:byT w=false) (pl:t.plain=true∨es.size≤1) (ld:t.led=true) (g:Gd t) (hi:i<es.size):Tells w a (slotAt t i) i ep (some (es[i].2,slotAt t (i+1))) s:=fun prog A E Q q=>by
 have sz:=size_of hf
 refine a3u ho hd hf bt pl ld (afc g (by omega)) (.inl ⟨_,_,_,Array.getElem?_eq_getElem hi,Array.getElem?_eq_getElem (by omega),rfl⟩) ?_
 have e:slotAt t (i+1)=t.place[i]'(by omega)+1:=by
  unfold slotAt
  rw [if_neg (by omega)]
  simp [Array.getD,show i<t.place.size by omega]
 rw [e] at q
 exact q
theorem ac8 (ho:s.heap.get? a=some o) (hd:o.data = .set es ep t) (hf:t.fits es.size=true) (bt:byT w=false) (pl:t.plain=true∨es.size≤1) (ld:t.led=true) (g:Gd t):Tells w a (slotAt t es.size) es.size ep none s:=fun prog A E Q q=>by
 have sz:=size_of hf
 exact a3u ho hd hf bt pl ld (afc g (by omega)) (.inr ⟨Array.getElem?_eq_none (by omega),rfl⟩) q
theorem ai8 {Q:Value→Shared→Prop} (ho:s.heap.get? a=some o) (hex:o.ExactSet) (hd:o.data = .set es ep t) (hf:t.fits es.size=true) (nd:byT w=true∨t.plain=true∨es.size≤1)
  (q:Q (.ref s.heap.objs.size) { s with heap:=s.heap.push (itO (rawInt 0) 0 a es.size ep) }):wpAny (model prog w) A (pyIter (.ref a)) Q E s:=by
 have ht:s.TypeIs (.ref a) "set":=⟨_,ho,hex.1⟩
 refine wpAny_pyIter_slot ht F.slot_set_iter (wpAny_call_entry F.slot_set_iter ht ac4 ?_ (afa _))
 have dr:∀ {A:Around} {E:Value→Shared→Prop} {Q:Bool→Shared→Prop},Q false s→wpAny (model prog w) A (setDrawn a) Q E s:=fun {A E Q} r=>by
  unfold setDrawn
  refine wpAny_bind (wpAny_setState_of ho hd hf (wpAny_bind (a67 (wpAny_pure ?_))))
  have:(!byT w && (!t.plain && decide (es.size > 1)))=false:=by
   rcases nd with z | z | z
   ·rw [z];rfl
   ·rw [z];simp
   ·rw [decide_eq_false (by omega)];simp
  rw [← this] at r
  exact r
 unfold Builtin.«frozenset.__iter__»
 wp_walk using dr,wpAny_setState_of ho hd hf
 exact ⟨_,rfl, "set_iterator",_,⟨_,Heap.get?_push_size _ rfl,rfl⟩,slot_next.lookup,q⟩
end
end SETB
set_option maxHeartbeats 1000000
namespace SETB
open PySem PySem.Spec PyProof.Rows SETA PySem.Builtin
theorem a4u {α:Type}:∀ (l:List α) (i:Nat) (h:i<l.length),(l[i]::l.eraseIdx i).Perm l
 | x::l,0,_=>.refl _
 | x::l,i+1,h=>(List.Perm.swap ..).trans ((a4u l i (Nat.lt_of_succ_lt_succ h)).cons x)
theorem afd {α:Type} (nx:Nat→Nat):∀ (n k:Nat) (l:List α) (out:Array α),l.length=n→(pickOrder.go nx n k l out).toList.Perm (out.toList++l)
 | 0,k,l,out,e=>by
  cases l with
  | nil=>simp [pickOrder.go]
  | cons x l=>cases e
 | n+1,k,l,out,e=>by
  have hi:nx k % l.length<l.length:=Nat.mod_lt _ (by omega)
  unfold pickOrder.go
  rw [List.getElem?_eq_getElem hi]
  refine (afd nx n (k+1) _ _ (by rw [List.length_eraseIdx_of_lt hi];omega)).trans ?_
  rw [Array.toList_push,List.append_assoc]
  exact (a4u l _ hi).append_left _
theorem afe {α:Type} (nx:Nat→Nat) (xs:Array α):(pickOrder nx xs).toList.Perm xs.toList:=by
 have:=afd nx xs.size 0 xs.toList #[] (by simp)
 simpa [pickOrder] using this
def aal (w:World) (a:Addr) (ep:Nat) (es:Array (Int × Value)):Array (Int × Value):=if byT w then pickOrder (w.params.setOrder a ep) es else es
theorem aam (w:World) (a:Addr) (ep:Nat) (es:Array (Int × Value)):(aal w a ep es).toList.Perm es.toList:=by
 unfold aal
 split
 ·exact afe _ _
 ·exact .refl _
theorem a0n (w:World) (a:Addr) (ep:Nat) (es:Array (Int × Value)):(aal w a ep es).size=es.size:=by
 have:=(aam w a ep es).length_eq
 simpa using this
def a68 (w:World) (t:SetTable) (i:Nat):Nat:=if byT w then 0 else slotAt t i
section
variable {prog:Program} {w:World} {E:Value→Shared→Prop} {A:Around} {s:Shared} {a:Addr} {o:Obj} {es:Array (Int × Value)} {ep i:Nat} {t:SetTable}
theorem a7s {Q:Array (Int × Value)→Shared→Prop} (ho:s.heap.get? a=some o) (hd:o.data = .set es ep t) (hf:t.fits es.size=true) (bt:byT w=true) (q:Q (pickOrder (w.params.setOrder a ep) es) s):wpAny (model prog w) A (setWalk a) Q E s:=by
 unfold setWalk
 apply wpAny_bind
 apply wpAny_setState_of ho hd hf
 apply wpAny_bind
 apply a67
 simp only [bt,if_true]
 exact wpAny_bind (wpAny_askSetting (wpAny_pure q))
theorem a7t {slot:Nat} {Q:Option (Value × Nat)→Shared→Prop} (ho:s.heap.get? a=some o) (hd:o.data = .set es ep t) (hf:t.fits es.size=true) (bt:byT w=true)
  (q:Q (((pickOrder (w.params.setOrder a ep) es)[i]?).map fun e=>(e.2,slot)) s):wpAny (model prog w) A (setNext a slot i ep) Q E s:=by
 unfold setNext
 apply wpAny_bind
 apply wpAny_setState_of ho hd hf
 apply wpAny_bind
 apply a67
 simp only [bt,if_true,bne_self_eq_false,Bool.false_eq_true,if_false]
 first
 | exact wpAny_bind (a7s ho hd hf bt (wpAny_pure q))
 | exact wpAny_bind (wpAny_pure (wpAny_bind (a7s ho hd hf bt (wpAny_pure q))))
theorem ami (ho:s.heap.get? a=some o) (hd:o.data = .set es ep t) (hf:t.fits es.size=true) (nd:byT w=true∨t.plain=true∨es.size≤1) (ld:t.led = !byT w) (g:Gd t) (hi:i<(aal w a ep es).size):Tells w a (a68 w t i) i ep (some ((aal w a ep es)[i].2,a68 w t (i+1))) s:=by
 have sz:=a0n w a ep es
 cases bt:byT w with
 | true =>
  intro prog A E Q q
  refine a7t ho hd hf bt ?_
  have e:pickOrder (w.params.setOrder a ep) es=aal w a ep es:=by unfold aal;rw [bt];rfl
  rw [e,Array.getElem?_eq_getElem hi]
  unfold a68 at q ⊢
  rw [bt] at q ⊢
  exact q
 | false =>
  have e:aal w a ep es=es:=by unfold aal;rw [bt];rfl
  rw [bt] at ld
  have:=ac6 (i:=i) ho hd hf bt (nd.resolve_left (by rw [bt];decide)) ld g (by omega)
  unfold a68
  rw [bt]
  simp only [e,Bool.false_eq_true,if_false]
  exact this
theorem afg (ho:s.heap.get? a=some o) (hd:o.data = .set es ep t) (hf:t.fits es.size=true) (nd:byT w=true∨t.plain=true∨es.size≤1) (ld:t.led = !byT w) (g:Gd t):Tells w a (a68 w t es.size) es.size ep none s:=by
 have sz:=a0n w a ep es
 cases bt:byT w with
 | true =>
  intro prog A E Q q
  refine a7t ho hd hf bt ?_
  have e:pickOrder (w.params.setOrder a ep) es=aal w a ep es:=by unfold aal;rw [bt];rfl
  rw [e,Array.getElem?_eq_none (by omega)]
  exact q
 | false =>
  rw [bt] at ld
  have:=ac8 ho hd hf bt (nd.resolve_left (by rw [bt];decide)) ld g
  unfold a68
  rw [bt]
  exact this
end
end SETB
set_option maxHeartbeats 1000000
namespace SETB
open PySem PySem.Spec PyProof.Rows SETA PySem.Builtin
theorem slot_self:Slot "set_iterator" "__iter__" "set_iterator.__iter__" :=
 .of (owner := "set_iterator") (n := "__iter__") (by rw [typeLookup_type,builtinLookup_eq_fast];kernel_rfl) (by decide +kernel) (by decide +kernel) (by decide +kernel)
  (Or.inl (by decide +kernel)) (by rw [isSubtype_type];kernel_rfl)
theorem entry_self:entryFor table "set_iterator.__iter__" = some Builtin.«dict_keyiterator.__iter__»:=entryFor_alias (id' := "dict_keyiterator.__iter__") (by kernel_rfl) rfl (by decide +kernel) (by kernel_rfl)
theorem args_self (a:Value):argsOk "set_iterator.__iter__" ⟨[a],[]⟩:=by unfold argsOk;kernel_rfl
section
variable {prog:Program} {w:World} {A:Around} {a I:Addr} {o:Obj} {es:Array (Int × Value)} {ep:Nat} {t:SetTable}
theorem amj {s:Shared} {E:Value→Shared→Prop} {Q:Value→Shared→Prop} (ht:s.TypeIs (.ref I) "set_iterator") (q:Q (.ref I) s):wpAny (model prog w) A (pyIter (.ref I)) Q E s:=by
 refine wpAny_pyIter_slot ht slot_self (wpAny_call_entry slot_self ht entry_self ?_ (args_self _))
 show wpAny (model prog w) _ (ret (.ref I)) _ _ s
 exact wpAny_pure ⟨_,rfl, "set_iterator",_,ht,slot_next.lookup,q⟩
theorem afh (hh:A.handled=none) (ne:a≠I) (hd:o.data = .set es ep t) (hf:t.fits es.size=true) (nd:byT w=true∨t.plain=true∨es.size≤1) (ld:t.led = !byT w) (g:Gd t) :
  Walks prog w A I [I,a] [I] es.size (fun i v=>((aal w a ep es)[i]?).map (·.2)=some v) (fun i h=>h.get? I=some (itO (rawInt (a68 w t i)) i a es.size ep)∧h.get? a=some o) where
 sub:=fun b hb=>List.mem_cons.mpr (.inl (List.mem_singleton.mp hb))
 frame:=fun _ _ _ st hk=>⟨hk I (by simp) _ st.1,hk a (by simp) _ st.2⟩
 item:=fun i s Q E hi st q=>by
  have hi':i<(aal w a ep es).size:=by rw [a0n];exact hi
  refine next_item st.1 st.2 hd hf (ami st.2 hd hf nd ld g hi') fun h' e sb=>?_
  exact q _ h' s.toks (by rw [Array.getElem?_eq_getElem hi'];rfl) ⟨e,sb.extBut a o ne st.2⟩ fun b o hb e=>sb.extBut b o (fun h=>hb (by simp [h])) e
 done:=fun s Q E st q=>afb hh st.1 st.2 hd hf (afg st.2 hd hf nd ld g) fun h' e=>q h' s.toks fun b o hb x=>e b o (fun h=>hb (by simp [h])) x
 self:=fun i s Q E st q=>amj ⟨_,st.1,rfl⟩ q
end
end SETB
namespace SETB
open PySem PySem.Spec PyProof.Rows SETA PySem.Builtin
theorem afi {prog:Program} {w:World} {A:Around} {s:Shared} {E:Value→Shared→Prop} {a:Addr} {ks:List Int} {Q:Value→Shared→Prop} (hh:A.handled=none) (hS:SetI (!byT w) a ks s.heap)
  (q:∀ (es:Array (Int × Value)) (St:Nat→Heap→Prop),AllI es.toList→(es.toList.map kOf).Perm ks→∀ h':Heap,(∀ b o,s.heap.get? b=some o→h'.get? b=some o)→h'.objs.size=s.heap.objs.size+1→St 0 h' →
   Walks prog w A s.heap.objs.size [s.heap.objs.size,a] [s.heap.objs.size] es.size (fun i v=>(es[i]?).map (·.2)=some v) St→Q (.ref s.heap.objs.size) { s with heap:=h' }):wpAny (model prog w) A (pyIter (.ref a)) Q E s:=by
 obtain ⟨o,es,ep,t,ho,hex,hd,al,pm,sz,ft,gr,ld⟩:=hS
 have nd:byT w=true∨t.plain=true∨es.size≤1:=.inr (.inl gr.1.plain)
 refine ai8 ho hex hd ft nd ?_
 have ne:a≠s.heap.objs.size:=fun c=>by
  rw [c] at ho
  simp [Heap.get?] at ho
 have W:=afh (prog:=prog) (I:=s.heap.objs.size) hh ne hd ft nd ld gr.1.gd
 have pp:=aam w a ep es
 rw [← a0n w a ep es] at W
 refine q (aal w a ep es) _ (fun e he=>al e (pp.mem_iff.mp he)) ((pp.map kOf).trans pm) _ (fun b o e=>Heap.get?_push_of_some _ e) (by simp [Heap.push]) ⟨?_,Heap.get?_push_of_some _ ho⟩ W
 have s0:a68 w t 0=0:=by unfold a68 slotAt;simp
 rw [s0,a0n]
 exact Heap.get?_push_size _ rfl
end SETB
set_option maxHeartbeats 1000000
namespace SETB
open PySem PySem.Spec PyProof.Rows SETA PySem.Builtin
section
variable {prog:Program} {w:World} {A:Around} {s:Shared} {E:Value→Shared→Prop} {a:Addr} {ks:List Int}
theorem ai9 {Q:Bool→Shared→Prop} (ht:s.TypeIs (.ref a) "set") (q:Q false s):wpAny (model prog w) A (Builtin.List.listLengthHint (.ref a)) Q E s:=by
 unfold Builtin.List.listLengthHint
 refine wpAny_bind (wpAny_specialOf ht F.slot_set_len.lookup ?_)
 have sp:splitId "set.__len__" = some ("set", "__len__"):=by decide +kernel
 dsimp only
 rw [sp]
 dsimp only
 apply wpAny_bind
 apply wpAny_isInstance (T := "set") (b:=true) ht (by rw [isSubtype_type];kernel_rfl)
 rw [if_neg (by decide)]
 refine wpAny_ite_split (fun _=>?_) fun n=>absurd (by decide +kernel) n
 apply wpAny_bind
 apply wpAny_typeOf ht
 exact wpAny_pure q
theorem a8z {Q:List Value→Shared→Prop} (hh:A.handled=none) (hS:SetI (!byT w) a ks s.heap)
  (q:∀ (vs:List Value) (js:List Int) (s':Shared),js.Perm ks→vs.length=js.length→(∀ (i:Nat) (v:Value),vs[i]? = some v→∃ k t,js[i]? = some k∧v=Value.int k t)→Moved [] (fun x y=>y=x) s s'→s.heap.objs.size≤s'.heap.objs.size→Q vs s'):wpAny (model prog w) A (collect (.ref a)) Q E s:=by
 unfold collect
 apply wpAny_bind
 apply wpAny_runValue
 apply codeAny_builtin F.entry_proto_collect
 rw [Around.under_plainId F.plain_proto_collect _]
 unfold Builtin.«proto.collect»
 wp_walk
 refine ⟨plainId_quiet F.plain_list_iadd _,codeAny_builtin F.entry_list_iadd ?_⟩
 rw [Around.under_plainId F.plain_list_iadd _]
 obtain ⟨o,ho,hT⟩:∃ o,s.heap.get? a=some o∧o.cls = .type "set":=by
  obtain ⟨o,es,ep,t,ho,hex,_⟩:=hS
  exact ⟨o,ho,hex.1⟩
 have lt:=Heap.lt_size ho
 have up:∀ b x,s.heap.get? b=some x→(s.heap.push { cls:=.type "list",data:=.seq #[] }).get? b=some x:=fun b x e=>Heap.get?_push_of_some _ e
 have sz0:(s.heap.push { cls:=.type "list",data:=.seq #[] }).objs.size=s.heap.objs.size+1:=by simp [Heap.push]
 have hL:(s.heap.push { cls:=.type "list",data:=.seq #[] }).get? s.heap.objs.size=some { cls:=.type "list",data:=.seq #[] }:=Heap.get?_push_size _ rfl
 have hS0:=hS.keep fun x e=>up a x e
 have few:=hS.len
 generalize s.heap.push { cls:=.type "list",data:=.seq #[] }=h0 at up sz0 hL hS0 ⊢
 show wpAny (model prog w) A.in1 (Builtin.List.listExtendWith (.ref s.heap.objs.size) (.ref a) (.ref s.heap.objs.size)) _ _ _
 unfold Builtin.List.listExtendWith
 apply wpAny_bind
 have ht0:({ s with heap:=h0 }:Shared).TypeIs (.ref a) "set":=⟨o,up a o ho,hT⟩
 apply wpAny_typeOf ht0
 have far:s.heap.objs.size≠a:=Nat.ne_of_gt lt
 rw [if_neg (by simp [Builtin.List.listSameRef,far])]
 apply wpAny_bind
 refine afi (s:={ s with heap:=h0 }) hh hS0 fun es St al pm h1 ext sz1 st W=>?_
 apply wpAny_bind
 apply wpAny_holding
 have ht1:({ s with heap:=h1 }:Shared).TypeIs (.ref a) "set":=⟨o,ext a o (up a o ho),hT⟩
 apply ai9 ht1
 refine wpAny_ite_split (fun _=>?_) fun n=>absurd (by decide +kernel) n
 apply wpAny_bind
 apply wpAny_rule
 apply wpAny_bind
 have n1:es.size=ks.length:=by
  have:=pm.length_eq
  rwa [List.length_map,Array.length_toList] at this
 have hL1:=ext _ _ hL
 show wpAny (model prog w) A.in1 (updateSeq s.heap.objs.size (·.push .none)>>=fun _=>updateSeq s.heap.objs.size (·.pop)) _ _ _
 refine wpAny_bind (wpAny_updateSeq hL1 rfl ?_)
 have hL2:=Heap.get?_update_self (Obj.mapSeq (·.push Value.none)) hL1 rfl
 refine wpAny_updateSeq hL2 rfl ?_
 have hL3:=Heap.get?_update_self (Obj.mapSeq (·.pop)) hL2 rfl
 have oth:∀ b x,b≠s.heap.objs.size→h1.get? b=some x→((h1.update s.heap.objs.size (Obj.mapSeq (·.push Value.none))).update s.heap.objs.size (Obj.mapSeq (·.pop))).get? b=some x :=
  fun b x hb e=>(Heap.get?_update_other _ _ (Ne.symm hb)).trans ((Heap.get?_update_other _ _ (Ne.symm hb)).trans e)
 have hf:s.heap.objs.size ∉ [h0.objs.size,a]:=fun c=>by
  simp only [List.mem_cons,List.not_mem_nil,or_false] at c
  rcases c with c | c
  ·exact Nat.ne_of_lt (Nat.lt_of_lt_of_eq (Nat.lt_succ_self _) sz0.symm) c
  ·exact far c
 refine wpAny_pure ⟨plainId_quiet F.plain_extend_loop _,codeAny_extend_loopS W.toS (by have:ks.length<4096:=few;rw [n1];unfold sizeLine;omega) _ hf _ es.size 0 _ _ _ rfl (Nat.zero_le _)
  (W.frame 0 h1 _ st fun b hb x e=>oth b x (fun c=>hf (c ▸ hb)) e) hL3 (ItemsOf.nil _) fun s' acc c' hm hA hI=>?_⟩
 show wpAny (model prog w) A (load s.heap.objs.size>>=_) _ _ s'
 apply wpAny_bind
 apply wpAny_load hA
 refine wpAny_pure (q acc.toList (es.toList.map kOf) s' pm (by rw [Array.length_toList,hI.1,List.length_map,Array.length_toList]) (fun i v e=>?_) ⟨fun b x _ e=>?_,hm.gens,hm.drawn,hm.os,hm.toks⟩ (Nat.le_of_lt (Heap.lt_size hA)))
 ·have this:(es[i]?).map (·.2)=some v:=hI.2 i v (by simpa using e)
  cases g:es[i]? with
  | none=>rw [g] at this;cases this
  | some y =>
   rw [g] at this
   have m:y∈es.toList:=by
    obtain ⟨hi,z⟩:=Array.getElem?_eq_some_iff.mp g
    rw [← z]
    simp
   obtain ⟨k,t,rfl⟩:=al y m
   cases this
   exact ⟨k,t,by simp [g,kOf],rfl⟩
 ·have lb:=Heap.lt_size e
  refine hm.heap b x (fun c=>?_) (oth b x (Nat.ne_of_lt lb) (ext b x (up b x e)))
  simp only [List.mem_cons,List.not_mem_nil,or_false] at c
  rcases c with c | c
  ·exact Nat.ne_of_lt lb c
  ·exact Nat.ne_of_lt (Nat.lt_of_lt_of_eq (Nat.lt_succ_of_lt lb) sz0.symm) c
end
end SETB
set_option maxHeartbeats 1000000
namespace SETB
open PySem PySem.Spec PyProof.Rows SETA PySem.Builtin
section
variable {prog:Program} {w:World} {A:Around} {s:Shared} {E:Value→Shared→Prop} {a:Addr} {ks:List Int}
theorem ints_of {vs:List Value} {js:List Int} (len:vs.length=js.length) (h:∀ (i:Nat) (v:Value),vs[i]? = some v→∃ k t,js[i]? = some k∧v=Value.int k t):IntsAre vs js:=by
 have all:∀ v,v∈vs→∃ n t,v=Value.int n t:=fun v hv=>by
  obtain ⟨i,hi,e⟩:=List.mem_iff_getElem.mp hv
  obtain ⟨k,t,_,z⟩:=h i v (by rw [List.getElem?_eq_getElem hi,e])
  exact ⟨k,t,z⟩
 have e:vs.map numOf=js:=by
  refine List.ext_getElem (by rw [List.length_map,len]) fun i h1 h2=>?_
  have hi:i<vs.length:=by omega
  obtain ⟨k,t,x,z⟩:=h i vs[i] (List.getElem?_eq_getElem hi)
  rw [List.getElem_map,z]
  rw [List.getElem?_eq_getElem h2] at x
  cases x
  rfl
 have:=intsAre_map vs all
 rwa [e] at this
theorem aca {Q:Value→Shared→Prop} (hh:A.handled=none) (hS:SetI (!byT w) a ks s.heap) (h64:ks.length<64)
  (q:∀ (l:Addr) (out:Array Value) (e:Nat) (s':Shared),s.heap.objs.size≤l→IntsAre out.toList (PySem.W.sortI ks)→s'.heap.get? l=some (seqObj "list" out e)→Moved [] (fun x y=>y=x) s s'→Q (.ref l) s') :
  wpAny (model prog w) A (call (.builtin "sorted") [.ref a]) Q E s:=by
 refine Calls.call_function_entry kind_sorted plain_sorted entry_sorted (args_sorted1 _) ?_
 unfold Builtin.«sorted»
 apply wpAny_bind (m:=checkCount "sorted" 1 1 _)
 apply wpAny_pure
 apply wpAny_bind
 refine a8z hh hS fun vs js s1 pj len it mv up=>?_
 have hI:=ints_of len it
 have l64:vs.length<64:=by rw [len,pj.length_eq];exact h64
 apply wpAny_bind
 refine wpAny_newList ?_ (hsz:=by rw [sizeLine_eq];omega)
 have hL:(s1.heap.push (seqObj "list" vs.toArray 0)).get? s1.heap.objs.size=some (seqObj "list" vs.toArray 0):=Heap.get?_push_size _ rfl
 apply wpAny_bind
 apply wpAny_holding
 refine wpAny_call_entry slot_list_sort (s:={ s1 with heap:=s1.heap.push (seqObj "list" vs.toArray 0) }) ⟨_,hL,rfl⟩ entry_list_sort (list_sort_tree hL hI l64 fun out ns a1 a2 a3=>⟨_,rfl,?_⟩) (args_list_sort _)
 have e2:ns=PySem.W.sortI ks:=PySem.W.eq_sortI (a2.trans pj) a3
 subst e2
 obtain ⟨e,he⟩:=sortedHeap_at (out:=out) hL
 refine wpAny_pure ⟨_,rfl,q _ out e _ ?_ a1 he ⟨fun b x hb g=>?_,mv.gens,mv.drawn,mv.os,mv.toks⟩⟩
 ·exact up
 ·have g1:=mv.heap b x hb g
  have lt:=Heap.lt_size g1
  show (sortedHeap _ _ _ _).get? b=some x
  rw [sortedHeap_old (Nat.ne_of_lt lt) (by rw [size_push'];exact Nat.lt_succ_of_lt lt)]
  exact Heap.get?_push_of_some _ g1
end
end SETB
set_option maxHeartbeats 1000000
namespace L2
open PySem PySem.Spec PyProof.Rows SETB
def aqi (w:World) (a:Addr) (ks:List Int):HO:=.ext fun h=>SetI (!byT w) a ks h
section
variable {X:Cx}
theorem a3v (hc:X.calm=true):CallR X (.builtin "sorted") (fun xs H Q=>∃ (p:Addr) (ks:List Int),xs=[.ref p]∧H p=some (aqi X.w p ks)∧ks.length<64∧∀ l,H l=none→Q (.ref l) (upd H l (.lst ((PySem.W.sortI ks).map V.int)))):=by
 intro pins s σ H xs us Q I r ⟨p,ks,e,hp,h64,q⟩
 subst e
 obtain ⟨u,rfl,ru⟩:=vals1 r
 cases ru
 obtain ⟨hS,_⟩:=I.hok p _ hp
 refine aca (I.ok.hd hc) hS h64 fun l out e s' hl a1 he mv=>?_
 obtain ⟨h',g',d',t',o'⟩:=s'
 obtain ⟨mh,mg,md,mo,mt⟩:=mv
 dsimp only at mh mg md mo mt he
 subst mg md mo
 have ln:(PySem.W.sortI ks).length=ks.length:=(PySem.W.sortI_perm ks).length_eq
 refine ⟨.ref l,_,I.laid (t':=t') (fun b u g=>mh b u (by simp) g) hl (show ObjOk X.prog X.w _ _ _ (.lst ((PySem.W.sortI ks).map V.int)) from ⟨by rw [List.length_map,ln];have:=sizeLine_eq;omega,out.toList,e,a0a a1,by simpa [seqObj] using he⟩),rfl,q _ (I.hok.fresh hl)⟩
theorem amk {P:Program} {w:World} {H:Hp} {h:Heap} {a:Addr} {ks:List Int} (x:SetI (!byT w) a ks h):ObjOk P w H h a (aqi w a ks):=by
 refine ⟨x,?_,fun h1 h2 p k=>p.keep k⟩
 obtain ⟨o,_,_,_,ho,_⟩:=x
 exact ⟨o,ho⟩
end
end L2
set_option maxHeartbeats 1000000
namespace L2
open PySem PySem.Spec PyProof.Rows SETB
section
variable {prog:Program} {w:World} {A:Around} {R:Result→Shared→Prop} {s:Shared} {elt t0 i0 t1 i1:Expr} {scope:Scope} {pos:Pos} {it acc:Value} {env:Env}
theorem acb (J:Nat→Shared→Prop)
  (step:∀ m z,J m z→wpAny (model prog w) A (pyNext it) (fun got z1=>match got with
   | none=>R (.ok .next) z1
   | some v=>wpAny (model prog w) A (letOwnedTupleGo t1 it v) (fun _ z2=>wpAny (model prog w) A (assign t1 env v) (fun _ z3=>wpAny (model prog w) A (eval elt env) (fun x z4 =>
     wpAny (model prog w) A (call (.builtin "set.add") [acc,x]) (fun _ z5=>∃ m',m'<m∧J m' z5) (fun _ _=>False) z4)
     (fun _ _=>False) z3) (fun _ _=>False) z2) (fun _ _=>False) z1) (fun _ _=>False) z)
  (m:Nat) (j0:J m s):codeAny (model prog w) A (.compLoop (.SetComp elt [⟨t0,i0,[],0⟩,⟨t1,i1,[],0⟩] scope pos) 1 it acc env) R s:=by
 refine codeAny_loop rfl J (fun m z hj=>(wpAny_noted ?_:wpAny _ _ ((compTurn (.SetComp elt [⟨t0,i0,[],0⟩,⟨t1,i1,[],0⟩] scope pos) 1 it acc env).onRaise _) _ _ z)) m j0
 show wpAny (model prog w) _ (standAt i1.pos>>=fun _=>pyNext it>>=_) _ _ z
 apply wpAny_bind
 apply wpAny_standAt
 apply wpAny_bind
 refine wpAny_mono (step m z hj) (fun got z1 h1=>?_) fun _ _ no=>no.elim
 match got,h1 with
 | none,h1=>exact wpAny_pure h1
 | some v,h1 =>
  apply wpAny_bind
  refine wpAny_mono h1 (fun _ z2 h2=>?_) fun _ _ no=>no.elim
  apply wpAny_bind
  refine wpAny_mono h2 (fun _ z3 h3=>?_) fun _ _ no=>no.elim
  show wpAny (model prog w) _ ((eval elt env>>=fun x=>standAt elt.pos>>=fun _=>call (.builtin "set.add") [acc,x]>>=fun _=>pure ())>>=_) _ _ _
  apply wpAny_bind
  apply wpAny_bind
  refine wpAny_mono h3 (fun x z4 h4=>?_) fun _ _ no=>no.elim
  apply wpAny_bind
  apply wpAny_standAt
  apply wpAny_bind
  exact wpAny_mono h4 (fun _ z5 h5=>wpAny_pure (wpAny_pure ⟨rfl,h5⟩)) fun _ _ no=>no.elim
theorem a90 (h0:codeAny (model prog w) A (.compLoop (.SetComp elt [⟨t0,i0,[],0⟩,⟨t1,i1,[],0⟩] scope pos) 1 it acc env) R s)
  (h:wpAny (model prog w) A (pyIter it) (fun it' s'=>codeAny (model prog w) A (.compLoop (.SetComp elt [⟨t0,i0,[],0⟩,⟨t1,i1,[],0⟩] scope pos) 1 it' acc env) R s') (fun _ _=>False) s) :
  codeAny (model prog w) A (.compStart (.SetComp elt [⟨t0,i0,[],0⟩,⟨t1,i1,[],0⟩] scope pos) 1 it acc env) R s:=by
 apply codeAny_of_tree
 show wpAny (model prog w) _ ((compStart (.SetComp elt [⟨t0,i0,[],0⟩,⟨t1,i1,[],0⟩] scope pos) 1 it acc env).onRaise _) _ _ s
 apply wpAny_onRaise
 unfold compStart
 show wpAny (model prog w) _ (ask>>=_) _ _ s
 apply wpAny_bind
 apply wpAny_askSetting
 refine wpAny_ite ?_
 split
 ·first
  | exact wpAny_pure ⟨rfl,h0⟩
  | exact wpAny_bind (wpAny_pure (wpAny_pure ⟨rfl,h0⟩))
 ·apply wpAny_bind
  apply wpAny_rule
  show wpAny (model prog w) _ (standAt i1.pos>>=_) _ _ s
  apply wpAny_bind
  apply wpAny_standAt
  apply wpAny_bind
  exact wpAny_mono h (fun it' s' h'=>wpAny_pure ⟨rfl,h'⟩) fun _ _ no=>no.elim
theorem a91 (J:Nat→Shared→Prop)
  (step:∀ m z,J m z→wpAny (model prog w) A (pyNext it) (fun got z1=>match got with
   | none=>R (.ok .next) z1
   | some v=>wpAny (model prog w) A (letOwnedTupleGo t0 it v) (fun _ z2=>wpAny (model prog w) A (assign t0 env v) (fun _ z3=>wpAny (model prog w) A (eval i1 env) (fun x z4 =>
     wpAny (model prog w) A (foldedSetIterable i1 env x) (fun y z5=>wpAny (model prog w) A (pyIter y) (fun it1 z6 =>
      codeAny (model prog w) A (.compStart (.SetComp elt [⟨t0,i0,[],0⟩,⟨t1,i1,[],0⟩] scope pos) 1 it1 acc env) (fun r z7=>∃ f,r = .ok f∧∃ m',m'<m∧J m' z7) z6) (fun _ _=>False) z5) (fun _ _=>False) z4)
     (fun _ _=>False) z3) (fun _ _=>False) z2) (fun _ _=>False) z1) (fun _ _=>False) z)
  (m:Nat) (j0:J m s):codeAny (model prog w) A (.compLoop (.SetComp elt [⟨t0,i0,[],0⟩,⟨t1,i1,[],0⟩] scope pos) 0 it acc env) R s:=by
 refine codeAny_loop rfl J (fun m z hj=>(wpAny_noted ?_:wpAny _ _ ((compTurn (.SetComp elt [⟨t0,i0,[],0⟩,⟨t1,i1,[],0⟩] scope pos) 0 it acc env).onRaise _) _ _ z)) m j0
 show wpAny (model prog w) _ (standAt i0.pos>>=fun _=>pyNext it>>=_) _ _ z
 apply wpAny_bind
 apply wpAny_standAt
 apply wpAny_bind
 refine wpAny_mono (step m z hj) (fun got z1 h1=>?_) fun _ _ no=>no.elim
 match got,h1 with
 | none,h1=>exact wpAny_pure h1
 | some v,h1 =>
  apply wpAny_bind
  refine wpAny_mono h1 (fun _ z2 h2=>?_) fun _ _ no=>no.elim
  apply wpAny_bind
  refine wpAny_mono h2 (fun _ z3 h3=>?_) fun _ _ no=>no.elim
  show wpAny (model prog w) _ (eval i1 env>>=_) _ _ _
  apply wpAny_bind
  refine wpAny_mono h3 (fun x z4 h4=>?_) fun _ _ no=>no.elim
  apply wpAny_bind
  apply wpAny_standAt
  show wpAny (model prog w) _ (foldedSetIterable i1 env x>>=_) _ _ _
  apply wpAny_bind
  refine wpAny_mono h4 (fun y z5 h5=>?_) fun _ _ no=>no.elim
  show wpAny (model prog w) _ (holding [y] (pyIter y)>>=_) _ _ _
  apply wpAny_bind
  apply wpAny_holding
  refine wpAny_mono h5 (fun it1 z6 h6=>?_) fun _ _ no=>no.elim
  apply wpAny_bind
  refine wpAny_runOwn (codeAny_mono h6 fun r z7 h7=>?_)
  obtain ⟨f,rfl,h8⟩:=h7
  exact wpAny_pure ⟨rfl,h8⟩
end
end L2
namespace L2
open PySem PySem.Spec PyProof.Rows SETB
theorem afj {elt:Expr} {gens:List Comprehension} {scope:Scope} {pos:Pos} {env:Env}:eval (.SetComp elt gens scope pos) env =
  comprehension (.SetComp elt gens scope pos) scope env (firstIterPos gens pos) (newSet (.type "set")) (firstAsync gens) (firstIter gens env):=rfl
section
variable {prog:Program} {w:World} {A:Around} {R:Result→Shared→Prop} {s:Shared} {elt t0 i0 t1 i1:Expr} {scope:Scope} {pos:Pos} {it acc:Value} {env:Env}
theorem a7u (h0:codeAny (model prog w) A (.compLoop (.SetComp elt [⟨t0,i0,[],0⟩,⟨t1,i1,[],0⟩] scope pos) 0 it acc env) R s)
  (h:wpAny (model prog w) A (pyIter it) (fun it' s'=>codeAny (model prog w) A (.compLoop (.SetComp elt [⟨t0,i0,[],0⟩,⟨t1,i1,[],0⟩] scope pos) 0 it' acc env) R s') (fun _ _=>False) s) :
  codeAny (model prog w) A (.compStart (.SetComp elt [⟨t0,i0,[],0⟩,⟨t1,i1,[],0⟩] scope pos) 0 it acc env) R s:=by
 apply codeAny_of_tree
 show wpAny (model prog w) _ ((compStart (.SetComp elt [⟨t0,i0,[],0⟩,⟨t1,i1,[],0⟩] scope pos) 0 it acc env).onRaise _) _ _ s
 apply wpAny_onRaise
 unfold compStart
 show wpAny (model prog w) _ (ask>>=_) _ _ s
 apply wpAny_bind
 apply wpAny_askSetting
 refine wpAny_ite ?_
 split
 ·first
  | exact wpAny_pure ⟨rfl,h0⟩
  | exact wpAny_bind (wpAny_pure (wpAny_pure ⟨rfl,h0⟩))
 ·apply wpAny_bind
  apply wpAny_rule
  show wpAny (model prog w) _ (standAt i0.pos>>=_) _ _ s
  apply wpAny_bind
  apply wpAny_standAt
  apply wpAny_bind
  exact wpAny_mono h (fun it' s' h'=>wpAny_pure ⟨rfl,h'⟩) fun _ _ no=>no.elim
end
section
variable {X:Cx}
theorem acd {pins:List (Addr × Obj)} {σ σ':St} {H H':Hp} {s s':Shared} {scope:Scope} {cl:List (Str × Addr)} {N:List Str} {C acc:Addr} {fp:List Addr} {h':Heap} {ho:HO} (I:Inv X pins σ H s)
  (hf:∀ b∈fp,FpOk X pins H b) (hC:s.heap.objs.size≤C) (hacc:s.heap.objs.size≤acc)
  (J:Inv (cxC X N scope cl C fp s H) [] σ' H' s') (hn:H' acc=none) (hob:ObjOk X.prog X.w (upd H' acc ho) h' acc ho) (sb:Heap.SameBut C s'.heap h') :
  Inv X pins σ (upd H' acc ho) { s' with heap:=h' }:=by
 have k:∀ b o,b≠C→s'.heap.get? b=some o→h'.get? b=some o:=fun b o hb e=>sb.extBut b o hb e
 have old:∀ b o,s.heap.get? b=some o→b≠C∧b≠acc:=fun b o e=>⟨Nat.ne_of_lt (Nat.lt_of_lt_of_le (Heap.lt_size e) hC),Nat.ne_of_lt (Nat.lt_of_lt_of_le (Heap.lt_size e) hacc)⟩
 have u0:Un (frs X.stack) fp H H' s.heap s'.heap:=J.base
 have fC:H' C=none:=J.free
 have u:Un (frs X.stack) fp H (upd H' acc ho) s.heap h':=by
  refine ⟨fun b o e n' hb hx=>k b o (old b o e).1 (u0.keep b o e n' hb hx),fun b o e n' hb hx=>?_,fun b o e n' hx=>?_,fun b o e hx=>?_,fun b xs e=>?_,fun b o v e=>?_,fun b ps e=>?_⟩
  ·obtain ⟨sl,e1⟩:=u0.slot b o e n' hb hx
   exact ⟨sl,k b _ (old b o e).1 e1⟩
  ·rw [d9 (old b o e).2];exact u0.free b o e n' hx
  ·obtain ⟨o',e1⟩:=u0.there b o e hx
   exact ⟨o',k b _ (old b o e).1 e1⟩
  ·rw [d9 (bh (u0.tups b xs e) hn)];exact u0.tups b xs e
  ·rw [d9 (bh (u0.frzs b o v e) hn)];exact u0.frzs b o v e
  ·obtain ⟨more,e1⟩:=u0.tbls b ps e
   exact ⟨more,by rw [d9 (bh e1 hn)];exact e1⟩
 have hok:HOk X.prog X.w (upd H' acc ho) h':=fun b o e=>by
  by_cases hb:b=acc
  ·subst hb;rw [jc] at e;cases e
   exact hob
  ·rw [d9 hb] at e
   refine (J.hok b o e).stay (fun c v hc q=>k c v ?_ q) (fun c q=>by rw [d9 (bh q hn)];exact q) fun c xs q=>by rw [d9 (bh q hn)];exact q
   rcases hc with z | z
   ·rw [z];exact bh e fC
   ·exact bh z fC
 have J':=I.call (g':=s'.gens) (t':=s'.toks) (d':=s'.drawn) (ch:=fp) u hok J.bare fun b hb=>⟨(hf b hb).2.2.2.1,(hf b hb).2.1,(hf b hb).2.2.2.2.1,(hf b hb).2.2.2.2.2⟩
 have eo:s'.os=s.os:=J.os
 obtain ⟨hp,g,d,t,o⟩:=s'
 have eo':o=s.os:=eo
 subst eo'
 exact J'
theorem FpOk.on {Y:Cx} {pins:List (Addr × Obj)} {H H':Hp} {b:Addr} {L:List Addr} {h:Heap} (f:FpOk Y pins H b) (hp:Y.pn=[]) (hn:H' b=none) (ne:b ∉ L):FpOk Y (o6 L h) H' b:=by
 obtain ⟨_,f1,f2,f3,f4,_⟩:=f
 refine ⟨hn,f1,f2,f3,f4,fun p hq z=>ne ?_⟩
 rw [hp] at hq
 have:=(a6t (show p∈o6 L h from hq)).1
 rw [← z];exact this
def av0 (w:World) (wi1:TI) (s0:St) (g0 g1:TG) (te:TE) (Q:VK) (J0:It) (H1:Hp):Prop :=
 ∃ W:Nat→Nat→List Int→Hp→Prop,(∃ m,W 0 m [] H1)∧∀ i m ks H,W i m ks H →
  (J0.stop i H∧∀ p,H p=none→Q (.ref p) (upd H p (aqi w p ks))) ∨
  (J0.go i H∧∀ x H',J0.yld i H x H'→g0 x s0 H' fun σ2 H2=>Ext s0 σ2∧wi1 σ2 H2 fun J1 H3=>∃ V:Nat→Nat→List Int→Hp→Prop,(∃ n,V 0 n ks H3)∧∀ j n ks H,V j n ks H →
   (J1.stop j H∧∃ m',m'<m∧W (i+1) m' ks H) ∨
   (J1.go j H∧∀ y H',J1.yld j H y H'→g1 y σ2 H' fun σ3 H4=>Ext σ2 σ3∧te σ3 H4 fun z H5=>∃ k,z = .int k∧ks.length+1<scanBound∧∃ n',n'<n∧V (j+1) n' (stepK ks k) H5))
def au1 (w:World) (wi0 wi1:TI) (s0:St→St) (g0 g1:TG) (te:TE):TE:=fun σ H Q=>wi0 σ H fun J0 H1=>av0 w wi1 (s0 σ) g0 g1 te Q J0 H1
theorem aml {elt t0 i0 t1 i1:Expr} {scope:Scope} {pos:Pos} {cl:List (Str × Addr)} {ts fr:List Str} {ix:List Nat} {wi0 wi1:TI} {g0 g1:TG} {te:TE} (hc:X.calm=true) (S:CSc X scope cl ts fr ix) (hi0:PI X t0 i0 wi0)
  (hg0:∀ C fp s H,PG (cxC X (ts++fr) scope cl C fp s H) t0 g0) (hi1:∀ C fp s H,PI (cxC X (ts++fr) scope cl C fp s H) t1 i1 wi1) (hg1:∀ C fp s H,PG (cxC X (ts++fr) scope cl C fp s H) t1 g1) (he:∀ C fp s H,PE (cxC X (ts++fr) scope cl C fp s H) elt te)
  (hs0:∀ x,foldedSetIterable i0 X.env x=pure x:=by intro _;rfl) (hs1:∀ env x,foldedSetIterable i1 env x=pure x:=by intro _ _;rfl) :
  PE X (.SetComp elt [⟨t0,i0,[],0⟩,⟨t1,i1,[],0⟩] scope pos) (au1 X.w wi0 wi1 (ie ts.length ix) g0 g1 te):=by
 intro pins s σ H Q I h
 rw [afj]
 refine wpAny_comprehension_free (use:=none) rfl hs0 S.clos S.kind S.names (thn (hi0 pins s σ H _ I h) fun v s1 h1=>thn h1 fun itv s2 h2=>?_)
 obtain ⟨it,fp,tn,J,H2,e,I2,T,st2,f2,W,⟨m0,w0⟩,turn⟩:=h2
 subst e
 have hob:∀ b∈fp,b<s2.heap.objs.size:=fun b hb=>let ⟨o,e,_⟩:=T.obj _ _ st2 b hb;Heap.lt_size e
 refine amh (wpAny_newFunctionEnv S.nocell (by intro y hy;simp at hy) (fun h4 hns4 hsb4=>?_) S.kind)
 dsimp only at hns4 hsb4 ⊢
 generalize hH2:s2.heap.push (amf (!byT X.w))=G at hns4 hsb4 ⊢
 have hCs:G.objs.size=s2.heap.objs.size+1:=by rw [← hH2,Heap.size_push]
 have hCle:s2.heap.objs.size≤G.objs.size:=by omega
 have hne:G.objs.size≠s2.heap.objs.size:=by omega
 have old:∀ b o,s2.heap.get? b=some o→h4.get? b=some o:=fun b o e=>by
  have hlt:=Heap.lt_size e
  exact hsb4.extBut b o (Nat.ne_of_lt (Nat.lt_of_lt_of_le hlt hCle)) (Heap.get?_push_of_some _ (hH2 ▸ Heap.get?_push_of_some _ e))
 have hacc:SetI (!byT X.w) s2.heap.objs.size [] h4 :=
  amg (hsb4.extBut _ _ (Ne.symm hne) (Heap.get?_push_of_some _ (hH2 ▸ Heap.get?_push_size _ rfl)))
 have K0:Inv (cxC X (ts++fr) scope cl G.objs.size fp s2 H2) [] (ie ts.length ix σ) H2 { s2 with heap:=h4,toks:=s2.toks+([]:List (Str × Value)).length } :=
  a8l S I2 f2 hob hCle old hns4 rfl rfl
 have st4:tn 0 h4:=T.keep _ _ _ st2 fun b _ o e=>old b o e
 have accF:s2.heap.objs.size ∉ fp:=fun z=>Nat.lt_irrefl _ (hob _ z)
 generalize hY:cxC X (ts++fr) scope cl G.objs.size fp s2 H2=Y at K0
 have Yc:Y.calm=true:=by rw [← hY];exact hc
 have Yp:Y.prog=X.prog:=by rw [← hY];rfl
 have Yw:Y.w=X.w:=by rw [← hY];rfl
 have YK:Y.K=X.K:=by rw [← hY];rfl
 have YA:Y.A=X.A:=by rw [← hY];rfl
 have Yn:Y.pn=[]:=by rw [← hY];rfl
 have Ye:Y.env=compEnvC scope cl G.objs.size X.env:=by rw [← hY];rfl
 have Yx:Y.xe=fun _ _=>False:=by rw [← hY];rfl
 have YG0:PG Y t0 g0:=by rw [← hY];exact hg0 _ _ _ _
 have YG1:PG Y t1 g1:=by rw [← hY];exact hg1 _ _ _ _
 have YI1:PI Y t1 i1 wi1:=by rw [← hY];exact hi1 _ _ _ _
 have YE:PE Y elt te:=by rw [← hY];exact he _ _ _ _
 have stat:∀ {H':Hp},(∀ b∈fp,H' b=none)→∀ b∈fp,FpOk Y [] H' b:=fun hn b hb=>by
  rw [← hY]
  exact ⟨hn b hb,fun z=>by have h1:=hob b hb;have z':b=G.objs.size:=z;exact Nat.ne_of_lt (Nat.lt_of_lt_of_le h1 hCle) z',fun z=>(a2v S I2 f2 hob hCle).exfs b hb z, .inl hb,fun x c e=>(f2 b hb).2.2.2.2.1 x c (S.sub x c e),fun p hp=>absurd (show p∈([]:List (Addr × Obj)) from hp) (by simp)⟩
 have statA:∀ {H':Hp},H' s2.heap.objs.size=none→FpOk Y [] H' s2.heap.objs.size:=fun hn=>by
  rw [← hY]
  exact ⟨hn,fun z=>hne (show G.objs.size=s2.heap.objs.size from z.symm),fun z=>by
   obtain ⟨_,o,ho,_⟩:=(a2v S I2 f2 hob hCle).funs.mem z
   exact Nat.lt_irrefl _ (Heap.lt_size ho), .inr (Nat.le_refl _),fun x c e z=>by
   obtain ⟨v,o,ho,_⟩:=I2.cell x c (S.sub x c e)
   rw [z] at ho
   exact Nat.lt_irrefl _ (Heap.lt_size ho),fun p hp=>absurd (show p∈([]:List (Addr × Obj)) from hp) (by simp)⟩
 generalize hacca:s2.heap.objs.size=ac at hacc accF statA hne hCle
 rw [← Yw] at hacc
 have loop:∀ s4:Shared,s4={ s2 with heap:=h4,toks:=s2.toks+([]:List (Str × Value)).length } →
   codeAny (model X.prog X.w) X.A (.compLoop (.SetComp elt [⟨t0,i0,[],0⟩,⟨t1,i1,[],0⟩] scope pos) 0 (.ref it) (.ref ac) (compEnvC scope cl G.objs.size X.env))
    (compPost (model X.prog X.w) X.A X.xe none (EP X pins σ Q) (.ref ac) G.objs.size) s4:=by
  rintro s4 rfl
  refine a91 (fun n s'=>∃ i σ' H' ks,Inv Y [] σ' H' s'∧Ext (ie ts.length ix σ) σ'∧tn i s'.heap∧(∀ b∈fp,H' b=none)∧H' ac=none ∧
   SetI (!byT Y.w) ac ks s'.heap∧W i n ks H') ?_ m0
   ⟨0,_,H2,[],K0,⟨rfl,fun _ _ z=>z⟩,st4,fun b hb=>(f2 b hb).1,I2.hok.fresh (by omega),hacc,w0⟩
  rintro n s5 ⟨i,σ5,H5,ks,I5,x5,st5,fr5,fa5,ac5,w5⟩
  have I5':Inv Y [] (ie ts.length ix σ) H5 s5:=I5.weak x5.1.symm x5.2
  have hao:∃ o,s5.heap.get? ac=some o∧∀ v,o.data≠.cell v:=by
   obtain ⟨o,es,ep,t,ho,_,hd,_⟩:=ac5
   exact ⟨o,ho,fun v z=>by rw [hd] at z;cases z⟩
  have I5p:Inv Y (o6 [ac] s5.heap) (ie ts.length ix σ) H5 s5:=Inv.pinned (pins:=[]) (fp:=[ac]) I5' (fun b hb=>by rw [List.mem_singleton.mp hb];exact statA fa5) (fun b hb=>by rw [List.mem_singleton.mp hb];exact hao)
  have F5:∀ b∈fp,FpOk Y (o6 [ac] s5.heap) H5 b:=fun b hb=>(stat fr5 b hb).on Yn (fr5 b hb) (fun z=>accF (by rw [List.mem_singleton.mp z] at hb;exact hb))
  obtain ⟨ao,hao1,hao2⟩:=hao
  have pa:(ac,ao)∈o6 [ac] s5.heap:=gj (by simp) hao1
  rcases turn i n ks H5 w5 with ⟨stop,qn⟩ | ⟨go,step⟩
  ·rw [← YA]
   refine thn (T.done Y Yp Yw YK Yc i _ s5 _ H5 _ I5p F5 st5 stop) fun r s6 ⟨hr,I6⟩=>?_
   subst hr
   have e6:=(I6.pin (ac,ao) (List.mem_append_right _ pa)).1
   have S6:SetI (!byT Y.w) ac ks s6.heap:=ac5.keep fun o ho=>by rw [hao1] at ho;cases ho;exact e6
   have I6':Inv (cxC X (ts++fr) scope cl G.objs.size fp s2 H2) [] (ie ts.length ix σ) H5 s6:=by rw [hY];exact I6.unpinned'
   obtain ⟨m6,hn6,_⟩:=I6'.loc
   rw [YA]
   refine a5j (X:=X) ac G.objs.size s6 (upd H5 ac (aqi X.w ac ks)) m6 hn6 (I2.fpOk (by omega) (by rw [d9 hne];exact I6'.free)) (fun h' sb=>?_) (qn _ fa5)
   exact acd I2 f2 (by omega) (by omega) I6' fa5 (amk ((by rw [← Yw];exact S6:SetI (!byT X.w) ac ks s6.heap).keep fun o ho=>sb.extBut _ _ (Ne.symm hne) ho)) sb
  ·rw [← YA]
   refine thn (T.item Y Yp Yw YK Yc i _ s5 _ H5 _ I5p F5 st5 go) fun r s6 ⟨u,hr,h6⟩=>?_
   subst hr
   refine thn h6 fun _ s7 ⟨x,H7,I7,r7,y7,st7,fr7⟩=>?_
   have fa7:H7 ac=none:=(I7.pin (ac,ao) (List.mem_append_right _ pa)).2.1
   have ac7:=(I7.pin (ac,ao) (List.mem_append_right _ pa)).1
   have S7:SetI (!byT Y.w) ac ks s7.heap:=ac5.keep fun o ho=>by rw [hao1] at ho;cases ho;exact ac7
   have obj7:∀ b∈ac::fp,∃ o,s7.heap.get? b=some o∧∀ v,o.data≠.cell v:=fun b hb=>by
    rcases List.mem_cons.mp hb with e | e
    ·subst e;exact ⟨_,ac7,hao2⟩
    ·exact T.obj _ _ st7 b e
   have I7':Inv Y (o6 (ac::fp) s7.heap) (ie ts.length ix σ) H7 s7:=by
    refine Inv.pinned (pins:=[]) (fp:=ac::fp) I7.unpinned' (fun b hb=>?_) obj7
    rcases List.mem_cons.mp hb with e | e
    ·subst e;exact statA fa7
    ·exact stat fr7 b e
   rw [← Ye,← Yp,← Yw]
   refine wpAny_mono (YG0 _ s7 _ H7 x u _ I7' r7 (step x H7 y7)) (fun _ s8 ⟨σ8,H8,I8,x8,q8⟩=>?_) (fun _ _ z=>by rw [Yx] at z;exact z)
   refine wpAny_mono (YI1 _ s8 _ H8 _ I8 q8) (fun v8 z4 h8=>wpAny_of_eq (hs1 _ v8) (wpAny_mono h8 (fun itv z6 h9=>?_) (fun _ _ z=>by rw [Yx] at z;exact z))) (fun _ _ z=>by rw [Yx] at z;exact z)
   obtain ⟨it1,fp1,tn1,J1,H9,e1,I9,T1,st9,f9,V,⟨n0,v0⟩,turn1⟩:=h9
   subst e1
   have pin9:∀ b∈ac::fp,∀ o,s7.heap.get? b=some o→z6.heap.get? b=some o∧H9 b=none:=fun b hb o e=>by
    obtain ⟨z1,z2,_⟩:=I9.pin (b,o) (List.mem_append_right _ (gj hb e))
    exact ⟨z1,z2⟩
   have apart:∀ b∈fp1,b ∉ ac::fp:=fun b hb z=>by
    obtain ⟨o,e,_⟩:=obj7 b z
    exact (f9 b hb).2.2.2.2.2 (b,o) (List.mem_append_right _ (gj z e)) rfl
   have stat1:∀ {H':Hp},(∀ b∈fp1,H' b=none)→∀ b∈fp1,FpOk Y [] H' b:=fun hn b hb=>by
    obtain ⟨_,k1,k2,k3,k4,_⟩:=f9 b hb
    refine ⟨hn b hb,k1,k2,k3,k4,fun p hp=>?_⟩
    rw [Yn] at hp
    exact absurd (show p∈([]:List (Addr × Obj)) from hp) (by simp)
   have S9:SetI (!byT Y.w) ac ks z6.heap:=S7.keep fun o ho=>(pin9 ac (by simp) o ho).1
   have inner:codeAny (model Y.prog Y.w) Y.A (.compLoop (.SetComp elt [⟨t0,i0,[],0⟩,⟨t1,i1,[],0⟩] scope pos) 1 (.ref it1) (.ref ac) Y.env)
     (fun r z7=>∃ f,r = .ok f∧∃ m',m'<n∧∃ i σ' H' ks,Inv Y [] σ' H' z7∧Ext (ie ts.length ix σ) σ'∧tn i z7.heap∧(∀ b∈fp,H' b=none)∧H' ac=none∧SetI (!byT Y.w) ac ks z7.heap∧W i m' ks H') z6:=by
    refine acb (fun n s'=>∃ j σ' H' ks,Inv Y [] σ' H' s'∧Ext σ8 σ'∧tn1 j s'.heap∧(∀ b∈fp1,H' b=none)∧(∀ b∈fp,∀ o,s7.heap.get? b=some o→s'.heap.get? b=some o∧H' b=none)∧H' ac=none∧SetI (!byT Y.w) ac ks s'.heap∧V j n ks H') ?_ n0
     ⟨0,_,H9,ks,I9.unpinned',⟨rfl,fun _ _ z=>z⟩,st9,fun b hb=>(f9 b hb).1,fun b hb=>pin9 b (List.mem_cons_of_mem _ hb),(pin9 ac (by simp) _ ac7).2,S9,v0⟩
    rintro k a5 ⟨j,τ5,G5,ks5,Q5,y5,t5,e5,o5,c5,d5,v5⟩
    have Q5':Inv Y [] σ8 G5 a5:=Q5.weak y5.1.symm y5.2
    have fp5:∀ b∈fp,G5 b=none:=fun b hb=>by
     obtain ⟨o,e,_⟩:=T.obj _ _ st7 b hb
     exact (o5 b hb o e).2
    have dob:∃ o,a5.heap.get? ac=some o∧∀ v,o.data≠.cell v:=by
     obtain ⟨o,es,ep,t,ho,_,hd,_⟩:=d5
     exact ⟨o,ho,fun v z=>by rw [hd] at z;cases z⟩
    have objs:∀ b∈ac::fp,∃ o,a5.heap.get? b=some o∧∀ v,o.data≠.cell v:=fun b hb=>by
     rcases List.mem_cons.mp hb with e | e
     ·subst e;exact dob
     ·obtain ⟨o,e',d⟩:=T.obj _ _ st7 b e
      exact ⟨o,(o5 b e o e').1,d⟩
    have Q5p:Inv Y (o6 (ac::fp) a5.heap) σ8 G5 a5:=by
     refine Inv.pinned (pins:=[]) (fp:=ac::fp) Q5' (fun b hb=>?_) objs
     rcases List.mem_cons.mp hb with e | e
     ·subst e;exact statA c5
     ·exact stat fp5 b e
    have FF:∀ b∈fp1,FpOk Y (o6 (ac::fp) a5.heap) G5 b:=fun b hb=>(f9 b hb).on Yn (e5 b hb) (apart b hb)
    obtain ⟨bo,hbo1,hbo2⟩:=dob
    have keep6:∀ {G6:Hp} {τ:St} {a6:Shared} {P:List (Addr × Obj)},Inv Y (o6 (ac::fp) a5.heap++P) τ G6 a6→(∀ b∈fp,∀ o,s7.heap.get? b=some o→a6.heap.get? b=some o∧G6 b=none)∧G6 ac=none∧SetI (!byT Y.w) ac ks5 a6.heap:=fun {G6 τ a6 P} I6=>by
     refine ⟨fun b hb o e=>?_,?_,?_⟩
     ·obtain ⟨z1,z2,_⟩:=I6.pin (b,o) (List.mem_append_right _ (List.mem_append_left _ (gj (List.mem_cons_of_mem _ hb) (o5 b hb o e).1)))
      exact ⟨z1,z2⟩
     ·exact (I6.pin (ac,bo) (List.mem_append_right _ (List.mem_append_left _ (gj (by simp) hbo1)))).2.1
     ·exact d5.keep fun o ho=>by
       rw [hbo1] at ho;cases ho
       exact (I6.pin (ac,bo) (List.mem_append_right _ (List.mem_append_left _ (gj (by simp) hbo1)))).1
    rcases turn1 j k ks5 G5 v5 with ⟨stop1,m',hm',w6⟩ | ⟨go1,step1⟩
    ·refine thn (T1.done Y rfl rfl rfl Yc j _ a5 _ G5 _ Q5p FF t5 stop1) fun r a6 ⟨hr,Q6⟩=>?_
     subst hr
     obtain ⟨kk1,kk2,kk3⟩:=keep6 (P:=[]) (by rw [List.append_nil];exact Q6)
     refine ⟨_,rfl,m',hm',i+1,σ8,G5,ks5,Q6.unpinned',x8,?_,fp5,c5,kk3,w6⟩
     exact T.keep _ _ _ st7 fun b hb o e=>(kk1 b hb o e).1
    ·refine thn (T1.item Y rfl rfl rfl Yc j _ a5 _ G5 _ Q5p FF t5 go1) fun r a6 ⟨u1,hr,h6'⟩=>?_
     subst hr
     refine thn h6' fun _ a7 ⟨y,G7,Q7,ry,yy,t7,e7⟩=>?_
     obtain ⟨p1,p2,p3⟩:=keep6 (P:=[]) (by rw [List.append_nil];exact Q7)
     have Q7p:Inv Y (o6 (ac::fp) a5.heap++o6 fp1 a7.heap) σ8 G7 a7:=by
      refine Inv.pinned (fp:=fp1) Q7 (fun b hb=>(f9 b hb).on Yn (e7 b hb) (apart b hb)) (T1.obj _ _ t7)
     refine wpAny_mono (YG1 _ a7 _ G7 y u1 _ Q7p ry (step1 y G7 yy)) (fun _ a8 ⟨τ8,G8,Q8,z8,q8'⟩=>?_) (fun _ _ z=>by rw [Yx] at z;exact z)
     refine wpAny_mono (YE _ a8 _ G8 _ Q8 q8') (fun yv a9 ⟨z,G9,Q9,rz,kz,ez,few,n',hn',v9⟩=>?_) (fun _ _ z=>by rw [Yx] at z;exact z)
     subst ez
     obtain ⟨tk,rfl⟩:=rz
     obtain ⟨r1,r2,r3⟩:=keep6 Q9
     refine ai7 r3 few fun h' sb x'=>?_
     have qo:∀ b o,b≠ac→a9.heap.get? b=some o→h'.get? b=some o:=fun b o hb e=>sb.extBut b o hb e
     obtain ⟨a0,a1,a2,a3,a4,a5'⟩:=statA (show G9 ac=none from r2)
     have nac:∀ b∈fp,b≠ac:=fun b hb z=>accF (z ▸ hb)
     have nac1:∀ b∈fp1,b≠ac:=fun b hb z=>apart b hb (by rw [z];simp)
     refine ⟨n',hn',j+1,τ8,G9,_,(Q9.unpinned').turned (t':=a9.toks+1) qo a0 a1 a3 a4 a5',z8,?_,?_,?_,r2,x',v9⟩
     ·exact T1.keep _ _ _ t7 fun b hb o e=>qo b o (nac1 b hb) (Q9.pin (b,o) (List.mem_append_right _ (List.mem_append_right _ (gj hb e)))).1
     ·intro b hb
      obtain ⟨o,e,_⟩:=T1.obj _ _ t7 b hb
      exact (Q9.pin (b,o) (List.mem_append_right _ (List.mem_append_right _ (gj hb e)))).2.1
     ·intro b hb o e
      obtain ⟨z1,z2⟩:=r1 b hb o e
      exact ⟨qo b o (nac b hb) z1,z2⟩
   exact a90 inner (T1.self _ 0 _ _ _ st9 inner)
 exact a7u (loop _ rfl) (T.self _ 0 _ _ _ st4 (loop _ rfl))
end
end L2
namespace MI
open PySem PySem.Spec L2 SETB
open Classical in
noncomputable def setIn (ck:Hd→Prop) (fe:SE) (x:D) (rd:Sd):List D→List Int→Hd→R (List Int)
 | [],ks,h=>if ck h then .ok ks h else .no
 | y::ys,ks,h=>if ck h then (fe (some x::some y::rd) h).bind fun d h1=>(match d with
   | .int k=>if ks.length<63 then setIn ck fe x rd ys (stepK ks k) h1 else .no
   | _=>.no) else .no
open Classical in
noncomputable def zr (ck:Hd→Prop) (fj:SI) (fe:SE) (rd:Sd):List D→List Int→Hd→R (List Int)
 | [],ks,h=>if ck h then .ok ks h else .no
 | x::xs,ks,h=>if ck h then (fj (some x::none::rd) h).bind fun jt h1=>(setIn jt.ck fe x rd jt.xs ks h1).bind fun ks1 h2=>zr ck fj fe rd xs ks1 h2 else .no
def amm (ks:List Int) (h:Hd):R D:=if ks.length<64 then .ok (.ref h.length) (h++[.lst ((PySem.W.sortI ks).map D.int)]) else .no
noncomputable def aia (fi fj:SI) (fe:SE) (ix:List Nat):SE:=fun τ h=>(fi τ h).bind fun it h1=>(zr it.ck fj fe (frs' ix τ) it.xs [] h1).bind amm
theorem yq:∀ {K:PySem.W.Frag} {ι:List Addr} {H:Hp} (ns:List Int),Reps K ι H (ns.map V.int) (ns.map D.int)
 | _,_,_,[]=>.nil
 | _,_,_,n::ns=>.cons (.int n) (yq ns)
def awc (w:World):List V→Hp→VK→Prop:=fun xs H Q=>∃ (p:Addr) (ks:List Int),xs=[.ref p]∧H p=some (aqi w p ks)∧ks.length<64∧∀ l,H l=none→Q (.ref l) (upd H l (.lst ((PySem.W.sortI ks).map V.int)))
theorem aqj {K:PySem.W.Frag} {E:XD} {w:World} {J:It} {jt:Itm} {fe:SE} {x:D} {vx:V} {r:St} {rd:Sd} {k1:List Int→Hd→R D} {ι0:List Addr} {H0:Hp} {h0:Hd} {Q:VK} {M:List Int→Hp→Prop} {ks0:List Int}
  (ir:aj7 K ι0 H0 J jt) (rx:Rep K ι0 H0 vx x) (S:SRep K ι0 H0 r rd) (Rh:HRep K ι0 H0 h0) (o:out K E (qt K) ι0 H0 ((setIn jt.ck fe x rd jt.xs ks0 h0).bind k1) Q)
  (fin:∀ ks ι H h,Gr ι0 H0 ι H→HRep K ι H h→out K E (qt K) ι H (k1 ks h) Q→M ks H) :
  ∃ V:Nat→Nat→List Int→Hp→Prop,(∃ n,V 0 n ks0 H0)∧∀ j n ks H,V j n ks H →
   (J.stop j H∧M ks H) ∨
   (J.go j H∧∀ y H',J.yld j H y H'→a07 1 y (some vx::none::r) H' fun σ3 H4=>L2.Ext (some vx::none::r) σ3∧lift K E (qt K) fe σ3 H4 fun z H5=>∃ k,z = .int k∧ks.length+1<scanBound∧∃ n',n'<n∧V (j+1) n' (stepK ks k) H5):=by
 refine ⟨fun j n ks H=>n=jt.xs.length - j∧j≤jt.xs.length∧∃ ι h,Gr ι0 H0 ι H∧HRep K ι H h∧out K E (qt K) ι H ((setIn jt.ck fe x rd (jt.xs.drop j) ks h).bind k1) Q,⟨_,rfl,Nat.zero_le _,ι0,h0, .refl _ _,Rh,o⟩,?_⟩
 rintro j n ks H ⟨rfl,hj,ι,h,g0,Rh,o⟩
 by_cases hlt:j<jt.xs.length
 ·rw [List.drop_eq_getElem_cons hlt,setIn] at o
  by_cases hc:jt.ck h
  ·rw [if_pos hc,R.bind_assoc] at o
   obtain ⟨go,yl⟩:=(ir ι H h g0 Rh hc).1 j _ (List.getElem?_eq_getElem hlt)
   refine .inr ⟨go,fun y H' yy=>?_⟩
   obtain ⟨g1,r1,hr1⟩:=yl y H' yy
   have o':=uh o g1
   refine ⟨⟨rfl,fun i v e=>?_⟩,ι,some x::some jt.xs[j]::rd,h,sy (rx.mono (g0.trans g1)) (sy r1 (S.mono (g0.trans g1))),hr1,d7 o' fun d h1 ι1 H1 u g2 r2 hr2 o2=>?_⟩
   ·match i,e with
    | 0,e=>exact e
    | 1,e=>simp at e
    | i+2,e=>simpa using e
   ·cases d with
    | int k =>
     cases r2
     by_cases h6:ks.length<63
     ·simp only [if_pos h6] at o2
      exact ⟨k,rfl,by have:scanBound=4096:=rfl;omega,jt.xs.length - (j+1),by omega,rfl,hlt,ι1,h1,(g0.trans g1).trans g2,hr2,o2⟩
     ·simp only [if_neg h6] at o2;exact o2.elim
    | _=>exact o2.elim
  ·rw [if_neg hc] at o;exact o.elim
 ·have e:j=jt.xs.length:=by omega
  subst e
  rw [List.drop_eq_nil_of_le (Nat.le_refl _),setIn] at o
  by_cases hc:jt.ck h
  ·rw [if_pos hc] at o
   exact .inl ⟨(ir ι H h g0 Rh hc).2,fin ks ι H h g0 Rh o⟩
  ·rw [if_neg hc] at o;exact o.elim
theorem amn {K:PySem.W.Frag} {E:XD} {w:World} {J:It} {it:Itm} {fj:SI} {fe:SE} {r:St} {rd:Sd} {ι0:List Addr} {H0:Hp} {h0:Hd} {Q:VK}
  (ir:aj7 K ι0 H0 J it) (S:SRep K ι0 H0 r rd) (Rh:HRep K ι0 H0 h0) (o:out K E (qt K) ι0 H0 ((zr it.ck fj fe rd it.xs [] h0).bind amm) Q) :
  av0 w (lift K E (apf K) fj) (List.replicate 2 none++r) (a07 0) (a07 1) (lift K E (qt K) fe) (fun v H=>awc w [v] H Q) J H0:=by
 refine ⟨fun i m ks H=>m=it.xs.length - i∧i≤it.xs.length∧∃ ι h,Gr ι0 H0 ι H∧HRep K ι H h∧out K E (qt K) ι H ((zr it.ck fj fe rd (it.xs.drop i) ks h).bind amm) Q,⟨_,rfl,Nat.zero_le _,ι0,h0, .refl _ _,Rh,o⟩,?_⟩
 rintro i m ks H ⟨rfl,hi,ι,h,g0,Rh,o⟩
 by_cases hlt:i<it.xs.length
 ·rw [List.drop_eq_getElem_cons hlt,zr] at o
  by_cases hc:it.ck h
  ·rw [if_pos hc,R.bind_assoc] at o
   obtain ⟨go,yl⟩:=(ir ι H h g0 Rh hc).1 i _ (List.getElem?_eq_getElem hlt)
   refine .inr ⟨go,fun x H' y=>?_⟩
   obtain ⟨g1,r1,hr1⟩:=yl x H' y
   have o':=uh o g1
   refine ⟨⟨rfl,fun k v e=>?_⟩,ι,some it.xs[i]::none::rd,h,sy r1 ?_,hr1,d7 o' fun jt h1 ι1 H1 J1 g2 r2 hr2 o2=>?_⟩
   ·match k,e with
    | 0,e=>simp at e
    | 1,e=>simp at e
    | k+2,e=>simpa using e
   ·have S':=S.mono (g0.trans g1)
    refine ⟨by simp [S'.len],fun k d e=>?_⟩
    cases k with
    | zero=>simp at e
    | succ k=>simpa using S'.val k d (by simpa using e)
   ·rw [R.bind_assoc] at o2
    refine aqj (w:=w) (k1:=fun ks1 h2=>(zr it.ck fj fe rd (it.xs.drop (i+1)) ks1 h2).bind amm) r2 (r1.mono g2) (S.mono ((g0.trans g1).trans g2)) hr2 o2 fun ks' ι3 H3 h3 g3 hr3 o3=>?_
    exact ⟨it.xs.length - (i+1),by omega,rfl,hlt,ι3,h3,((g0.trans g1).trans g2).trans g3,hr3,o3⟩
  ·rw [if_neg hc] at o;exact o.elim
 ·have e:i=it.xs.length:=by omega
  subst e
  rw [List.drop_eq_nil_of_le (Nat.le_refl _),zr] at o
  by_cases hc:it.ck h
  ·rw [if_pos hc] at o
   refine .inl ⟨(ir ι H h g0 Rh hc).2,fun p hp=>?_⟩
   have o1:out K E (qt K) ι H (amm ks h) Q:=o
   unfold amm at o1
   by_cases h6:ks.length<64
   ·rw [if_pos h6] at o1
    exact ⟨p,ks,rfl,jc,h6,ur (E:=E) (yq _) (Rh.aside hp _) (uh o1 (ug hp _))⟩
   ·rw [if_neg h6] at o1;exact o1.elim
  ·rw [if_neg hc] at o;exact o.elim
theorem amo {X:Cx} {E:XD} {elt t0 i0 t1 i1:Expr} {scope:Scope} {p pos spos:Pos} {cl:List (Str × Addr)} {a b:Str} {fr:List Str} {ix:List Nat} {fi fj:SI} {fe:SE} (hg:Gl X "sorted") (hm:X.mg "sorted" = none) (hc:X.calm=true) (S:CSc X scope cl [a,b] fr ix) (hi:MI X E t0 i0 fi)
  (hg0:∀ C fp s H,PG (cxC X ([a,b]++fr) scope cl C fp s H) t0 (a07 0)) (hj:∀ C fp s H,MI (cxC X ([a,b]++fr) scope cl C fp s H) E t1 i1 fj) (hg1:∀ C fp s H,PG (cxC X ([a,b]++fr) scope cl C fp s H) t1 (a07 1)) (he:∀ C fp s H,ME (cxC X ([a,b]++fr) scope cl C fp s H) E elt fe)
  (hs0:∀ x,foldedSetIterable i0 X.env x=pure x:=by intro _;rfl) (hs1:∀ env x,foldedSetIterable i1 env x=pure x:=by intro _ _;rfl) :
  ME X E (.Call (.Name "sorted" p) [.SetComp elt [⟨t0,i0,[],0⟩,⟨t1,i1,[],0⟩] scope spos] [] pos) (aia fi fj fe ix):=by
 refine PE.weak (a9k (a3v hc) hg hm rfl (a2p (aml (te:=lift X.K E (qt X.K) fe) (wi1:=lift X.K E (apf X.K) fj) hc S hi hg0 hj hg1 he hs0 hs1) a9h)) fun σ H Q ⟨ι,τ,h,Sr,Rh,o⟩=>?_
 refine ⟨ι,τ,h,Sr,Rh,d7 o fun it h1 ι1 H1 J g1 r1 hr1 o1=>?_⟩
 exact amn r1 (a0f (Sr.mono g1) ix) hr1 o1
end MI
namespace RCH
open PySem PySem.Spec L2 MI
noncomputable def nj (dz:SF):SE :=
 (sA (o8 false 2 dz) (ak (sV 1) (ak (sV 0) gf)))
noncomputable def m8 (dz:SF):SS :=
 (xn (sA mz (ak (sZ (jn (sRg vf (ak (sA xx (ak (s2 gIx (sV 0) (sC (.int 1))) gf)) gf)) t1 (nj dz) [0])) gf)))
noncomputable def gk:SS :=
 (j5 (sIf (sT (s2 hNe (s2 gIx (sV 4) (sV 11)) (s1 aa0 (sC (.int 1)))))
 (xn (s2 jk (sV 9) (sV 10)))
 sNx)
 (sIf (sT (s2 (anl true) (sV 11) (sV 6)))
 (j5 (a5x (sC (.bl true)) (sV 6) (sV 11))
 (a00 (sML a8c (sV 5) (ak (sA a4h (ak (sV 11) (ak (s2 jk (sV 9) (sV 10)) gf))) gf))))
 sNx))
noncomputable def lq:ST :=
 (sT (s2 gLt (sV 7) (sA xx (ak (sV 5) gf))))
noncomputable def jh:SS :=
 (j5 (a9w (s2 gIx (sV 5) (sV 7)) (a6p 2 (jw (kN 8) (jw (kN 9) a78))))
 (j5 (a4d (ajj (sV 2) (s2 gIx (sV 3) (sV 8))) (a6p 2 (jw (kN 10) (jw (kN 11) a78))) gk)
 (acr 7 a0x (sC (.int 1)))))
noncomputable def oh:SS :=
 (j5 (a9w (sV 0) (a6p 3 (jw (kN 2) (jw (kN 3) (jw (kN 4) a78)))))
 (j5 (jr 5 (sA a8b (ak (sA a4h (ak (sV 1) (ak (sC (.str "")) gf))) gf)))
 (j5 (jr 6 (s2 gD1 (sV 1) (sC (.bl true))))
 (j5 (jr 7 (sC (.int 0)))
 (j5 (sWh lq jh 100000)
 (xn (sC .non)))))))
noncomputable def zc (dw:SF):SE :=
 (s2 a4o (sV 0) (sC .non))
noncomputable def a1e (dw:SF):SS :=
 (xn (sA mz (ak (sZ (jn (sIt (sA (o8 false 1 dw) (ak (sV 0) gf))) t1 (zc dw) [])) gf)))
noncomputable def ace (jd:SF) (dq:SF):SE :=
 (sV 0)
noncomputable def acf (jd:SF) (dq:SF):ST :=
 (sT (s2 hNe (sV 1) (s1 aa0 (sC (.int 1)))))
noncomputable def a69 (jd:SF) (dq:SF):SS :=
 (j5 (jr 1 (s2 gIx (sV 0) (sC (.int 2))))
 (xn (sA (o8 false 3 dq) (ak (sV 0) (ak (sA (o8 false 1 jd) (ak (sV 0) gf)) (ak (sZ (my (a7i (sV 1)) (tN 2) (acf jd dq) (ace jd dq) [])) gf))))))
noncomputable def ue:SE :=
 (s2 hNe (s2 gIx (sV 1) (sV 0)) (s1 aa0 (sC (.int 1))))
noncomputable def uf:SE :=
 (sV 0)
noncomputable def ju:ST :=
 (a8a (sT (s2 hEq (s2 gIx (sV 2) (sV 0)) (s1 aa0 (sC (.int 1))))) (a75 (s2 gIx (sV 1) (sV 0))))
noncomputable def nq:SS :=
 (j5 (jr 9 (sZ (aia (sIt (sV 7)) (sIt (s2 gIx (sV 2) (sV 0))) (sV 1) [4])))
 (j5 (sIf (a75 (sA anj (ak (sZ (jn (sIt (sV 9)) t1 ue [5])) gf)))
 (jr 6 (sV 8))
 sNx)
 (j5 (jr 7 (sZ (my (sIt (sV 9)) t1 ju uf [1,5])))
 (sIf (acq (a75 (sV 7)))
 (xn (sV 6))
 sNx))))
noncomputable def uq:SS :=
 (j5 (a9w (sV 0) (a6p 3 (jw (kN 3) (jw (kN 4) (jw (kN 5) a78)))))
 (j5 (jr 6 (sC (.int 0)))
 (j5 (jr 7 (sV 2))
 (j5 (a4d (sRg a4f (ak (sC (.int 1)) (ak (s2 jk (sA xx (ak (sV 4) gf)) (sC (.int 2))) gf))) (kN 8) nq)
 (xn (sC .non))))))
noncomputable def wk:SE :=
 (sC (.bl false))
noncomputable def wu:SS :=
 (sIf (sOr (sT (s2 gGe (s2 gIx (s2 gIx (sV 0) (sC (.int 2))) (sV 4)) (sC (.int 0)))) (a75 (s2 gIx (sV 1) (sV 4))))
 (agg (sC (.bl true)) (sV 1) (sV 3))
 sNx)
noncomputable def qx:SS :=
 (a4d (sIt (s2 gIx (s2 gIx (sV 0) (sC (.int 1))) (sV 3))) (kN 4) wu)
noncomputable def qy:SS :=
 (a4d (sRg vf (ak (sA xx (ak (sV 1) gf)) gf)) (kN 3) qx)
noncomputable def zf:SS :=
 (j5 (jr 1 (jn (sIt (s2 gIx (sV 0) (sC (.int 1)))) t1 wk []))
 (j5 (a4d (sRg vf (ak (sA xx (ak (sV 1) gf)) gf)) (kN 2) qy)
 (xn (sV 1))))
noncomputable def ww:SS :=
 (sIf (sT (s2 (gIn true) (sV 4) (sV 2)))
 (a00 (sML a8c (sV 2) (ak (sV 4) gf)))
 sNx)
noncomputable def wy:SS :=
 (a4d (sIt (s2 gIx (s2 gIx (sV 0) (sC (.int 1))) (sV 3))) (kN 4) ww)
noncomputable def zg:SS :=
 (j5 (jr 2 (sA a8b gf))
 (j5 (a4d (sIt (sV 1)) (kN 3) wy)
 (xn (sV 2))))
noncomputable def ux (bu:SF) (bw:SF):SE :=
 (sV 0)
noncomputable def lw (bu:SF) (bw:SF):ST :=
 (sT (s2 gGe (s2 gIx (s2 gIx (sV 1) (sC (.int 2))) (sV 0)) (sC (.int 0))))
noncomputable def uy (bu:SF) (bw:SF):SE :=
 (sV 0)
noncomputable def lz (bu:SF) (bw:SF):ST :=
 (a8a (sT (s2 gLt (s2 gIx (s2 gIx (sV 1) (sC (.int 2))) (sV 0)) (sC (.int 0)))) (a75 (s2 gIx (sV 2) (sV 0))))
noncomputable def uz (bu:SF) (bw:SF):SS :=
 (j5 (jr 1 (sA (o8 false 2 bw) (ak (sV 0) (ak (sV 1) gf))))
 (j5 (sIf (sT (s2 (ano true) (sZ (my (sIt (sV 1)) t1 (lw bu bw) (ux bu bw) [0])) (sZ (sA a8b gf))))
 (jr 3 (sV 4))
 sNx)
 (jr 1 (sZ (my (sIt (sV 1)) t1 (lz bu bw) (uy bu bw) [0,2])))))
noncomputable def wz (bu:SF) (bw:SF):SS :=
 (j5 (jr 2 (sA (o8 false 1 bu) (ak (sV 0) gf)))
 (j5 (jr 3 (sC (.int 0)))
 (j5 (a4d (sRg a4f (ak (sC (.int 1)) (ak (s2 jk (s2 xr (sC (.int 2)) (sA xx (ak (sV 2) gf))) (sC (.int 2))) gf))) (kN 4) (uz bu bw))
 (xn (a9s (sT (s2 gLe (sV 3) (sA xx (ak (sV 2) gf)))) (sV 3) (sC .non))))))
noncomputable def xf:SS :=
 (j5 (sIf (sT (s2 gIs (sV 1) (sC .non)))
 (xn (s2 gIs (sV 0) (sC .non)))
 sNx)
 (xn (a5n (sA a7o (ak (sV 0) (ak (sC (.ty "int")) gf))) (a5n (a77 (sA a7o (ak (sV 0) (ak (sC (.ty "bool")) gf)))) (s2 hEq (sV 0) (sV 1))))))
end RCH
namespace L2
open PySem PySem.Spec PyProof.Rows
def cxD (X:Cx) (N:List Str) (scope:Scope) (cl:List (Str × Addr)) (t:Str) (C:Addr) (fp:List Addr) (s:Shared) (H:Hp):Cx where
 prog:=X.prog
 w:=X.w
 K:=X.K
 mg:=X.mg
 base:=X.base
 A:=X.A
 N:=N
 s₀:=s
 H₀:=H
 env:=compEnvC scope ((t,C+1)::cl) C X.env
 outer:=X.stack
 stack:=X.stack
 ex:=fp
 fn:=fun x=>x == t
 calm:=X.calm
 pn:=[]
 xe:=fun _ _=>False
structure CSd (X:Cx) (scope:Scope) (cl:List (Str × Addr)) (t:Str) (ts fr:List Str) (ix:List Nat):Prop where
 clos:closureFor scope X.env=pure cl
 kind:scope.kind = .function
 own:∀ a,cellsFrom a scope.names cl=(t,a)::cl
 push:∀ h,pushCells h scope.names=h.push { cls:=.type "cell",data:=.cell none }
 names:∀ y∈scope.names,y.2 = .local→scope.names.lookup y.1=some .local
 sub:∀ y c,cl.lookup y=some c→X.env.cells.lookup y=some c
 has:∀ y,((relabel scope X.env).names.lookup y=some .cell∨(relabel scope X.env).names.lookup y=some .free)→y=t∨∃ c,cl.lookup y=some c
 len:ix.length=fr.length
 vis:∀ (j:Nat) (y:Str),fr[j]? = some y→y≠t∧∃ i:Nat,ix[j]? = some i∧X.N[i]? = some y∧(X.env.kindOf y=some .cell∨X.env.kindOf y=some .free)∧((relabel scope X.env).names.lookup y=some .cell∨(relabel scope X.env).names.lookup y=some .free)
theorem look {t:Str} {a:Addr} {cl:List (Str × Addr)} {y:Str} {c:Addr} (e:((t,a)::cl).lookup y=some c):(y=t∧c=a)∨(y≠t∧cl.lookup y=some c):=by
 rw [List.lookup_cons] at e
 cases hb:y == t with
 | true=>rw [hb] at e;cases e;exact .inl ⟨beq_iff_eq.mp hb,rfl⟩
 | false=>rw [hb] at e;exact .inr ⟨fun z=>by rw [z] at hb;simp at hb,e⟩
theorem afk {t:Str} {a:Addr} {cl:List (Str × Addr)} {y:Str} {c:Addr} (ne:y≠t) (e:cl.lookup y=some c):((t,a)::cl).lookup y=some c:=by
 rw [List.lookup_cons]
 have hb:(y == t)=false:=by rw [beq_eq_false_iff_ne];exact ne
 rw [hb];exact e
theorem ajs {t:Str} {a:Addr} {cl:List (Str × Addr)}:((t,a)::cl).lookup t=some a:=by rw [List.lookup_cons];simp
theorem no1 {C n:Nat} (h:C+1<n) (h':n≤C):False:=by omega
theorem no2 {C n b:Nat} (h:b<n) (h':n≤C):C+1≠b:=by omega
theorem no3 {C n:Nat} (h:C+1=n) (h':n≤C):False:=by omega
theorem amq {M:Model} {A:Around} {E:Value→Shared→Prop} {s:Shared} {scope:Scope} {globals:Addr} {cl:List (Str × Addr)} {t:Str} {qual:Str} {func:Option Addr} {code:Value} {outer:Env} {builtins:Addr} {Q:Env→Shared→Prop}
  (own:∀ a,cellsFrom a scope.names cl=(t,a)::cl) (push:∀ h,pushCells h scope.names=h.push { cls:=.type "cell",data:=.cell none }) (hk:scope.kind = .function)
  (hQ:∀ h':Heap,h'.Ns s.heap.objs.size (fun _=>none)→h'.IsCell (s.heap.objs.size+1) none→(∀ b o,s.heap.get? b=some o→h'.get? b=some o)→Q (newEnv scope s.heap.objs.size globals ((t,s.heap.objs.size+1)::cl) qual func code (some outer) builtins) { s with heap:=h' }) :
  wpAny M A (newFunctionEnv scope globals cl [] qual func code (some outer) builtins) Q E s:=by
 simp only [newFunctionEnv,Option.isSome_some,if_true]
 refine wpAny_bind (wpAny_alloc ?_)
 refine wpAny_bind (wpAny_layCells _ (fun name kind cells=>by cases hkc:kind == NameKind.cell<;>simp [hkc]) _ _ _ _ ?_)
 rw [own,push]
 simp only [List.forIn_nil]
 refine wpAny_bind (wpAny_pure (wpAny_pure ?_))
 have sz:({ s with heap:=s.heap.push { cls:=.type "dict",data:=.dict #[] } }:Shared).heap.objs.size=s.heap.objs.size+1:=Heap.size_push ..
 rw [sz]
 refine hQ _ ((Heap.Ns.new s.heap (.type "dict")).keeps fun b o e=>Heap.get?_push_of_some _ e) ⟨{ cls:=.type "cell",data:=.cell none },?_,rfl⟩ fun b o e=>Heap.get?_push_of_some _ (Heap.get?_push_of_some _ e)
 rw [← sz]
 exact Heap.get?_push_size _ rfl
section
variable {X:Cx}
theorem afl {pins:List (Addr × Obj)} {σ:St} {H:Hp} {s:Shared} {scope:Scope} {cl:List (Str × Addr)} {t:Str} {ts fr:List Str} {ix:List Nat} {C:Addr} {fp:List Addr} (S:CSd X scope cl t ts fr ix) (I:Inv X pins σ H s)
  (hf:∀ b∈fp,FpOk X pins H b) (hb:∀ b∈fp,b<s.heap.objs.size) (hC:s.heap.objs.size≤C):(cxD X (ts++fr) scope cl t C fp s H).Ok where
 mod:=I.ok.mod
 kind:=S.kind
 glob:=I.ok.glob
 blt:=I.ok.blt
 above:=hC
 inj:=fun x y c h1 h2=>by
  have small:∀ z c,cl.lookup z=some c→c<s.heap.objs.size:=fun z c e=>let ⟨_,q⟩:=I.cell z c (S.sub z c e);q.lt
  rcases look h1 with ⟨e1,rfl⟩ | ⟨_,e1⟩<;>rcases look h2 with ⟨e2,e3⟩ | ⟨_,e2⟩
  ·rw [e1,e2]
  ·exact (no1 (small y _ e2) hC).elim
  ·rw [e3] at e1;exact (no1 (small x _ e1) hC).elim
  ·exact I.ok.inj x y c (S.sub x c e1) (S.sub y c e2)
 has:=fun y z=>by
  rcases S.has y z with rfl | ⟨c,e⟩
  ·exact ⟨_,ajs⟩
  ·by_cases h:y=t
   ·subst h;exact ⟨_,ajs⟩
   ·exact ⟨c,afk h e⟩
 cab:=fun x c h e=>by
  rcases look e with ⟨_,rfl⟩ | ⟨ne,_⟩
  ·show s.heap.objs.size≤C+1;omega
  ·exact absurd (beq_iff_eq.mp h) ne
 hd:=I.ok.hd
 frames:=I.ok.frames
 stk:=.inl rfl
 exf:=fun b hb'=>⟨Nat.ne_of_lt (Nat.lt_of_lt_of_le (hb b hb') hC),fun x c e=>by
  rcases look e with ⟨_,rfl⟩ | ⟨_,e⟩
  ·exact no2 (hb b hb') hC
  ·exact (hf b hb').2.2.2.2.1 x c (S.sub x c e)⟩
 bs:=fun b o e=>I.bs b o e
 bsz:=Nat.le_trans I.ok.bsz I.sz
 noex:=fun b o e hb'=>by
  rcases (hf b hb').2.2.2.1 with z | z
  ·exact I.ok.noex b o e z
  ·exact absurd (Nat.lt_of_lt_of_le (Heap.lt_size e) (Nat.le_trans I.ok.bsz z)) (Nat.lt_irrefl _)
 exfs:=fun b hb' z=>by
  rcases List.mem_cons.mp (I.stkSub b z) with e | e
  ·exact (hf b hb').2.1 e
  ·exact (hf b hb').2.2.1 e
 funs:=I.stack
 frf:=fun b hb'=>I.stkFree b hb'
theorem amr {pins:List (Addr × Obj)} {σ:St} {H:Hp} {s s4:Shared} {scope:Scope} {cl:List (Str × Addr)} {t:Str} {ts fr:List Str} {ix:List Nat} {C:Addr} {fp:List Addr} {m:Str→Option Value} (S:CSd X scope cl t ts fr ix) (I:Inv X pins σ H s)
  (hf:∀ b∈fp,FpOk X pins H b) (hb:∀ b∈fp,b<s.heap.objs.size) (hC:s.heap.objs.size≤C)
  (k:∀ b o,s.heap.get? b=some o→s4.heap.get? b=some o) (hn:s4.heap.Ns C m) (hcl:s4.heap.IsCell (C+1) none) (ho:s4.os=s.os) (hg:s4.gens=s.gens) :
  Inv (cxD X (ts++fr) scope cl t C fp s H) [] (ie ts.length ix σ) H s4 where
 ok:=afl S I hf hb hC
 os:=ho
 bare:=by rw [hg];exact I.bare
 base:=Un.kept k
 loc:=by
  refine ⟨m,hn,fun i x v e1 e2 e3=>?_⟩
  have e1:(ts++fr)[i]? = some x:=e1
  by_cases hi:i<ts.length
  ·unfold ie at e2
   rw [List.getElem?_append_left (by simpa using hi),List.getElem?_replicate,if_pos hi] at e2
   cases e2
  ·rw [List.getElem?_append_right (by omega)] at e1
   unfold ie at e2
   rw [List.getElem?_append_right (by simpa using hi),List.length_replicate,List.getElem?_map] at e2
   obtain ⟨nt,j,h1,h2,h3,h4⟩:=S.vis _ x e1
   rw [h1] at e2
   have e2':(σ[j]?).join=some v:=Option.some.inj e2
   have e5:σ[j]? = some (some v):=by
    cases q:σ[j]? with
    | none=>rw [q] at e2';cases e2'
    | some o=>rw [q] at e2';simp at e2';rw [e2']
   obtain ⟨m0,_,hl⟩:=I.loc
   have vis:Vis X.env.scope x:=h3.elim (fun z=>.inr (.inl z)) fun z=>.inr (.inr z)
   obtain ⟨u,ru,l⟩:=hl j x v h2 e5 vis
   refine ⟨u,ru,?_⟩
   rcases l with ⟨z,_⟩ | ⟨_,c,hc,hcell⟩
   ·rcases h3 with h3 | h3<;>rw [h3] at z<;>cases z
   ·rcases S.has x h4 with z | ⟨c',hc'⟩
    ·exact absurd z nt
    ·have e6:c'=c:=Option.some.inj ((S.sub x c' hc').symm.trans hc)
     subst e6
     obtain ⟨o,ho,hd⟩:=hcell
     exact .inr ⟨h4,c',afk nt hc',o,k _ _ ho,hd⟩
 cell:=fun x c e=>by
  rcases look e with ⟨_,rfl⟩ | ⟨_,e⟩
  ·exact ⟨_,hcl⟩
  ·obtain ⟨v,o,ho,hd⟩:=I.cell x c (S.sub x c e)
   exact ⟨v,o,k _ _ ho,hd⟩
 free:=I.hok.fresh hC
 freeC:=fun x c e=>by
  rcases look e with ⟨_,rfl⟩ | ⟨_,e⟩
  ·exact I.hok.fresh (by omega)
  ·exact I.freeC x c (S.sub x c e)
 pin:=fun p hp=>absurd (show p∈([]:List (Addr × Obj)) from hp) (by simp)
 hok:=I.hok.kept k
 len:=by
  rw [a4l]
  show _=(ts++fr).length
  rw [List.length_append,S.len]
theorem acg {pins:List (Addr × Obj)} {σ σ':St} {H H':Hp} {s s':Shared} {scope:Scope} {cl:List (Str × Addr)} {t:Str} {N:List Str} {C acc:Addr} {fp:List Addr} {h':Heap} {ys:List V} {its:List Value} {n:Nat} (I:Inv X pins σ H s)
  (hf:∀ b∈fp,FpOk X pins H b) (hC:s.heap.objs.size≤C) (hacc:s.heap.objs.size≤acc) (hCa:C≠acc)
  (J:Inv (cxD X N scope cl t C fp s H) [] σ' H' s') (hn:H' acc=none) (ha:s'.heap.get? acc=some { cls:=.type "list",data:=.seq its.toArray n }) (rv:Vals ys its) (hz:ys.length≤sizeLine) (sb:Heap.SameBut C s'.heap h') :
  Inv X pins σ (upd H' acc (.lst ys)) { s' with heap:=h' }:=by
 have k:∀ b o,b≠C→s'.heap.get? b=some o→h'.get? b=some o:=fun b o hb e=>sb.extBut b o hb e
 have old:∀ b o,s.heap.get? b=some o→b≠C∧b≠acc:=fun b o e=>⟨Nat.ne_of_lt (Nat.lt_of_lt_of_le (Heap.lt_size e) hC),Nat.ne_of_lt (Nat.lt_of_lt_of_le (Heap.lt_size e) hacc)⟩
 have u0:Un (frs X.stack) fp H H' s.heap s'.heap:=J.base
 have fC:H' C=none:=J.free
 have u:Un (frs X.stack) fp H (upd H' acc (.lst ys)) s.heap h':=by
  refine ⟨fun b o e n' hb hx=>k b o (old b o e).1 (u0.keep b o e n' hb hx),fun b o e n' hb hx=>?_,fun b o e n' hx=>?_,fun b o e hx=>?_,fun b xs e=>?_,fun b o v e=>?_,fun b ps e=>?_⟩
  ·obtain ⟨sl,e1⟩:=u0.slot b o e n' hb hx
   exact ⟨sl,k b _ (old b o e).1 e1⟩
  ·rw [d9 (old b o e).2];exact u0.free b o e n' hx
  ·obtain ⟨o',e1⟩:=u0.there b o e hx
   exact ⟨o',k b _ (old b o e).1 e1⟩
  ·rw [d9 (bh (u0.tups b xs e) hn)];exact u0.tups b xs e
  ·rw [d9 (bh (u0.frzs b o v e) hn)];exact u0.frzs b o v e
  ·obtain ⟨more,e1⟩:=u0.tbls b ps e
   exact ⟨more,by rw [d9 (bh e1 hn)];exact e1⟩
 have hok:HOk X.prog X.w (upd H' acc (.lst ys)) h':=fun b o e=>by
  by_cases hb:b=acc
  ·subst hb;rw [jc] at e;cases e
   exact ⟨hz,its,n,rv,k _ _ (Ne.symm hCa) ha⟩
  ·rw [d9 hb] at e
   refine (J.hok b o e).stay (fun c v hc q=>k c v ?_ q) (fun c q=>by rw [d9 (bh q hn)];exact q) fun c xs q=>by rw [d9 (bh q hn)];exact q
   rcases hc with z | z
   ·rw [z];exact bh e fC
   ·exact bh z fC
 have J':=I.call (g':=s'.gens) (t':=s'.toks) (d':=s'.drawn) (ch:=fp) u hok J.bare fun b hb=>⟨(hf b hb).2.2.2.1,(hf b hb).2.1,(hf b hb).2.2.2.2.1,(hf b hb).2.2.2.2.2⟩
 have eo:s'.os=s.os:=J.os
 obtain ⟨hp,g,d,t,o⟩:=s'
 have eo':o=s.os:=eo
 subst eo'
 exact J'
theorem ach {elt tg iter:Expr} {scope:Scope} {pos ppos:Pos} {cl:List (Str × Addr)} {t:Str} {ts fr:List Str} {ix:List Nat} {wi:TI} {g:TG} {te:TE} (hc:X.calm=true) (S:CSd X scope cl t ts fr ix) (hi:PI X tg iter wi)
  (hg:∀ C fp s H,PG (cxD X (ts++fr) scope cl t C fp s H) tg g) (he:∀ C fp s H,PE (cxD X (ts++fr) scope cl t C fp s H) elt te) (hs:∀ x,foldedSetIterable iter X.env x=pure x)
  (use:Option (Value→Sem Unit)) {pins:List (Addr × Obj)} {s:Shared} {σ:St} {H:Hp} {Q:VK} {Qf:Value→Shared→Prop} (I:Inv X pins σ H s) (h:abb wi (ie ts.length ix) g te σ H Q) (fin:a2w X pins σ use Q Qf) :
  wpAny (model X.prog X.w) X.A (comprehension (.ListComp elt [⟨tg,iter,[],0⟩] scope pos) scope X.env ppos (newList []) false (eval iter X.env) use) Qf X.xe s:=by
 refine wpAny_comprehension_free (use:=use) rfl hs S.clos S.kind S.names (thn (hi pins s σ H _ I h) fun v s1 h1=>thn h1 fun itv s2 h2=>?_)
 obtain ⟨it,fp,tn,J,H2,e,I2,T,st2,f2,W,⟨m0,w0⟩,turn⟩:=h2
 subst e
 have hob:∀ b∈fp,b<s2.heap.objs.size:=fun b hb=>let ⟨o,e,_⟩:=T.obj _ _ st2 b hb;Heap.lt_size e
 refine wpAny_newObj_type (amq S.own S.push S.kind fun h4 hns4 hc4 hsb4=>?_)
 dsimp only at hns4 hc4 hsb4 ⊢
 generalize hH2:s2.heap.push { cls:=.type "list",dict:=none,data:=.seq ([]:List Value).toArray }=G at hns4 hc4 hsb4 ⊢
 have hCs:G.objs.size=s2.heap.objs.size+1:=by rw [← hH2,Heap.size_push]
 have hCle:s2.heap.objs.size≤G.objs.size:=by omega
 have hne:G.objs.size≠s2.heap.objs.size:=by omega
 have old:∀ b o,s2.heap.get? b=some o→h4.get? b=some o:=fun b o e=>by
  have hlt:=Heap.lt_size e
  exact hsb4 b o (hH2 ▸ Heap.get?_push_of_some _ e)
 have hacc:h4.get? s2.heap.objs.size=some { cls:=.type "list",data:=.seq ([]:List Value).toArray 0 } :=
  hsb4 _ _ (hH2 ▸ Heap.get?_push_size _ rfl)
 have K0:Inv (cxD X (ts++fr) scope cl t G.objs.size fp s2 H2) [] (ie ts.length ix σ) H2 { s2 with heap:=h4 } :=
  amr S I2 f2 hob hCle old hns4 hc4 rfl rfl
 have st4:tn 0 h4:=T.keep _ _ _ st2 fun b _ o e=>old b o e
 have accF:s2.heap.objs.size ∉ fp:=fun z=>Nat.lt_irrefl _ (hob _ z)
 have stat:∀ {H':Hp},(∀ b∈fp,H' b=none)→∀ b∈fp,FpOk (cxD X (ts++fr) scope cl t G.objs.size fp s2 H2) [] H' b:=fun hn b hb =>
  ⟨hn b hb,fun z=>by have h1:=hob b hb;have z':b=G.objs.size:=z;exact Nat.ne_of_lt (Nat.lt_of_lt_of_le h1 hCle) z',fun z=>(afl S I2 f2 hob hCle).exfs b hb z, .inl hb,fun x c e=>by
   rcases look e with ⟨_,rfl⟩ | ⟨_,e⟩
   ·exact no2 (hob b hb) hCle
   ·exact (f2 b hb).2.2.2.2.1 x c (S.sub x c e),fun p hp=>absurd (show p∈([]:List (Addr × Obj)) from hp) (by simp)⟩
 have statA:∀ {H':Hp},H' s2.heap.objs.size=none→FpOk (cxD X (ts++fr) scope cl t G.objs.size fp s2 H2) [] H' s2.heap.objs.size:=fun hn =>
  ⟨hn,fun z=>hne (show G.objs.size=s2.heap.objs.size from z.symm),fun z=>by
   obtain ⟨_,o,ho,_⟩:=(afl S I2 f2 hob hCle).funs.mem z
   exact Nat.lt_irrefl _ (Heap.lt_size ho), .inr (Nat.le_refl _),fun x c e z=>by
   rcases look e with ⟨_,rfl⟩ | ⟨_,e⟩
   ·exact no3 z hCle
   ·obtain ⟨v,o,ho,_⟩:=I2.cell x c (S.sub x c e)
    rw [z] at ho
    exact Nat.lt_irrefl _ (Heap.lt_size ho),fun p hp=>absurd (show p∈([]:List (Addr × Obj)) from hp) (by simp)⟩
 have loop:∀ s4:Shared,s4={ s2 with heap:=h4 } →
   codeAny (model X.prog X.w) X.A (.compLoop (.ListComp elt [⟨tg,iter,[],0⟩] scope pos) 0 (.ref it) (.ref s2.heap.objs.size) (compEnvC scope ((t,G.objs.size+1)::cl) G.objs.size X.env))
    (compPost (model X.prog X.w) X.A X.xe use Qf (.ref s2.heap.objs.size) G.objs.size) s4:=by
  rintro s4 rfl
  refine a73 (fun n s'=>∃ i σ' H' ys its k,Inv (cxD X (ts++fr) scope cl t G.objs.size fp s2 H2) [] σ' H' s'∧Ext (ie ts.length ix σ) σ'∧tn i s'.heap∧(∀ b∈fp,H' b=none)∧H' s2.heap.objs.size=none ∧
   s'.heap.get? s2.heap.objs.size=some { cls:=.type "list",data:=.seq its.toArray k }∧Vals ys its∧ys.length≤sizeLine∧W i n ys H') ?_ m0
   ⟨0,_,H2,[],[],0,K0,⟨rfl,fun _ _ z=>z⟩,st4,fun b hb=>(f2 b hb).1,I2.hok.fresh (Nat.le_refl _),hacc, .nil,Nat.zero_le _,w0⟩
  rintro n s5 ⟨i,σ5,H5,ys,its,k5,I5,x5,st5,fr5,fa5,ac5,rv5,hz5,w5⟩
  have I5':Inv (cxD X (ts++fr) scope cl t G.objs.size fp s2 H2) [] (ie ts.length ix σ) H5 s5:=I5.weak x5.1.symm x5.2
  rcases turn i n ys H5 w5 with ⟨stop,qn⟩ | ⟨go,hlt,step⟩
  ·refine thn (T.done (cxD X (ts++fr) scope cl t G.objs.size fp s2 H2) rfl rfl rfl hc i [(s2.heap.objs.size,{ cls:=.type "list",data:=.seq its.toArray k5 })] s5 _ H5 _ (I5'.pins_of fun p hp=>?_) (fun b hb=>?_) st5 stop) fun r s6 ⟨hr,I6⟩=>?_
   ·have e:p=(s2.heap.objs.size,{ cls:=.type "list",data:=.seq its.toArray k5 }):=by simpa using hp
    subst e
    obtain ⟨a0,a1,a2,_⟩:=statA fa5
    exact ⟨ac5,a0,a1,a2,fun v z=>by cases z⟩
   ·obtain ⟨b0,b1,b2,b3,b4,b5⟩:=stat fr5 b hb
    refine ⟨b0,b1,b2,b3,b4,fun p hp=>?_⟩
    have e:p=(s2.heap.objs.size,{ cls:=.type "list",data:=.seq its.toArray k5 }):=by
     have hp':p∈[(s2.heap.objs.size,_)]:=hp
     simpa using hp'
    subst e
    exact fun z=>accF (by have z':s2.heap.objs.size=b:=z;rw [z'];exact hb)
   ·subst hr
    have e6:=(I6.pin (s2.heap.objs.size,{ cls:=.type "list",data:=.seq its.toArray k5 }) (by show _∈[]++[_];simp)).1
    obtain ⟨m6,hn6,_⟩:=I6.loc
    exact fin _ _ s6 _ m6 hn6 (I2.fpOk hCle (by rw [d9 hne];exact I6.free)) (fun h' sb=>acg I2 f2 hCle (Nat.le_refl _) hne I6.unpinned' fa5 e6 rv5 hz5 sb) (qn _ fa5)
  ·refine thn (T.item (cxD X (ts++fr) scope cl t G.objs.size fp s2 H2) rfl rfl rfl hc i [(s2.heap.objs.size,{ cls:=.type "list",data:=.seq its.toArray k5 })] s5 _ H5 _ (I5'.pins_of fun p hp=>?_) (fun b hb=>?_) st5 go) fun r s6 ⟨u,hr,h6⟩=>?_
   ·have e:p=(s2.heap.objs.size,{ cls:=.type "list",data:=.seq its.toArray k5 }):=by simpa using hp
    subst e
    obtain ⟨a0,a1,a2,_⟩:=statA fa5
    exact ⟨ac5,a0,a1,a2,fun v z=>by cases z⟩
   ·obtain ⟨b0,b1,b2,b3,b4,b5⟩:=stat fr5 b hb
    refine ⟨b0,b1,b2,b3,b4,fun p hp=>?_⟩
    have e:p=(s2.heap.objs.size,{ cls:=.type "list",data:=.seq its.toArray k5 }):=by
     have hp':p∈[(s2.heap.objs.size,_)]:=hp
     simpa using hp'
    subst e
    exact fun z=>accF (by have z':s2.heap.objs.size=b:=z;rw [z'];exact hb)
   ·subst hr
    refine thn h6 fun _ s7 ⟨x,H7,I7,r7,y7,st7,fr7⟩=>?_
    have fa7:H7 s2.heap.objs.size=none:=(I7.pin (s2.heap.objs.size,{ cls:=.type "list",data:=.seq its.toArray k5 }) (by show _∈[]++[_];simp)).2.1
    have ac7:=(I7.pin (s2.heap.objs.size,{ cls:=.type "list",data:=.seq its.toArray k5 }) (by show _∈[]++[_];simp)).1
    have I7':Inv (cxD X (ts++fr) scope cl t G.objs.size fp s2 H2) ([]++o6 (s2.heap.objs.size::fp) s7.heap) (ie ts.length ix σ) H7 s7:=by
     refine Inv.pinned I7.unpinned' (fun b hb=>?_) fun b hb=>?_
     ·rcases List.mem_cons.mp hb with e | e
      ·subst e;exact statA fa7
      ·exact stat fr7 b e
     ·rcases List.mem_cons.mp hb with e | e
      ·subst e;exact ⟨_,ac7,fun v z=>by cases z⟩
      ·exact T.obj _ _ st7 b e
    refine thn (hg G.objs.size fp s2 H2 _ s7 _ H7 x u _ I7' r7 (step x H7 y7)) fun _ s8 ⟨σ8,H8,I8,x8,q8⟩=>?_
    refine thn (he G.objs.size fp s2 H2 _ s8 _ H8 _ I8 q8) fun yv s9 ⟨y,H9,I9,r9,m',hm',w9⟩=>?_
    obtain ⟨ac9,fa9,_⟩:=I9.pin (s2.heap.objs.size,{ cls:=.type "list",data:=.seq its.toArray k5 }) (by show _∈[]++([]++_);simp;exact gj List.mem_cons_self ac7)
    have keep9:∀ b∈fp,∀ o,s7.heap.get? b=some o→s9.heap.get? b=some o∧H9 b=none:=fun b hb o e=>by
     obtain ⟨z1,z2,_⟩:=I9.pin (b,o) (by show _∈[]++([]++_);simp;exact gj (List.mem_cons_of_mem _ hb) e)
     exact ⟨z1,z2⟩
    have hl:=rv5.length
    refine call_meets F.slot_list_append ⟨_,ac9,rfl⟩ F.entry_list_append (F.args_list_append_2 _ _) (PySem.list_append s2.heap.objs.size its.toArray k5 yv (by rw [List.size_toArray];omega)) ⟨ac9,?_⟩
    have q:=PySem.IsL.update ac9 (fun a=>a.push yv)
    have qo:∀ b o,b≠s2.heap.objs.size→s9.heap.get? b=some o→(s9.heap.update s2.heap.objs.size (Obj.mapSeq (fun a=>a.push yv))).get? b=some o:=fun b o hb e=>(Heap.get?_update_other s9.heap _ (Ne.symm hb)).trans e
    have q':∃ k,(s9.heap.update s2.heap.objs.size (Obj.mapSeq (fun a=>a.push yv))).get? s2.heap.objs.size=some { cls:=.type "list",data:=.seq (its++[yv]).toArray k }:=⟨_,by rw [q];simp;rfl⟩
    obtain ⟨k9,q9⟩:=q'
    obtain ⟨a0,a1,a2,a3,a4,a5⟩:=statA (show H9 s2.heap.objs.size=none from fa9)
    refine ⟨m',hm',i+1,σ8,H9,ys++[y],its++[yv],k9,(I9.unpinned').turned qo a0 a1 a3 a4 a5,x8,?_,?_,fa9,q9,rv5.append (.cons r9 .nil),?_,w9⟩
    ·refine T.keep _ _ _ st7 fun b hb o e=>qo b o (fun z=>accF (z ▸ hb)) (keep9 b hb o e).1
    ·intro b hb
     obtain ⟨o,e,_⟩:=T.obj _ _ st7 b hb
     exact (keep9 b hb o e).2
    ·rw [List.length_append,List.length_singleton];omega
 exact codeAny_compStart_list (loop _ rfl) (T.self _ 0 _ _ _ st4 (loop _ rfl))
end
end L2
namespace L2
open PySem PySem.Spec PyProof.Rows
section
variable {X:Cx}
theorem CSd.of {scope:Scope} {cl:List (Str × Addr)} {t:Str} {ts fr:List Str} {ix:List Nat} (clos:closureFor scope X.env=pure cl) (kind:scope.kind = .function) (own:∀ a,cellsFrom a scope.names cl=(t,a)::cl) (push:∀ h,pushCells h scope.names=h.push { cls:=.type "cell",data:=.cell none })
  (names:(scope.names.all fun p=>p.2 != .local || scope.names.lookup p.1 == some .local)=true) (sub:∀ p∈cl,X.env.cells.lookup p.1=some p.2)
  (has:((relabel scope X.env).names.all fun p => !(p.2 == .cell || p.2 == .free) || p.1 == t || (cl.lookup p.1).isSome)=true)
  (len:ix.length=fr.length) (vis:((fr.zip ix).all fun p=>p.1 != t && X.N[p.2]? == some p.1 && (X.env.kindOf p.1 == some .cell || X.env.kindOf p.1 == some .free) && ((relabel scope X.env).names.lookup p.1 == some .cell || (relabel scope X.env).names.lookup p.1 == some .free))=true) :
  CSd X scope cl t ts fr ix:=by
 refine ⟨clos,kind,own,push,fun y hy e=>?_,fun y c e=>sub _ (PySem.mem_of_lookup e),fun y z=>?_,len,fun j y e=>?_⟩
 ·have:=List.all_eq_true.mp names y hy
  rw [e] at this
  simpa using this
 ·have key:∀ k,(relabel scope X.env).names.lookup y=some k→(k == .cell || k == .free)=true→y=t∨∃ c,cl.lookup y=some c:=fun k e hk=>by
   have:=List.all_eq_true.mp has _ (PySem.mem_of_lookup e)
   rw [hk] at this
   simp only [Bool.not_true,Bool.false_or,Bool.or_eq_true,beq_iff_eq] at this
   exact this.imp id fun z=>Option.isSome_iff_exists.mp z
  rcases z with z | z
  ·exact key _ z rfl
  ·exact key _ z rfl
 ·obtain ⟨hj,_⟩:=List.getElem?_eq_some_iff.mp e
  have hj2:j<ix.length:=by omega
  have hm:(y,ix[j])∈fr.zip ix:=by
   refine List.mem_of_getElem? (i:=j) ?_
   rw [List.getElem?_zip_eq_some]
   exact ⟨e,List.getElem?_eq_getElem hj2⟩
  have:=List.all_eq_true.mp vis _ hm
  simp only [Bool.and_eq_true,Bool.or_eq_true,beq_iff_eq,bne_iff_ne,ne_eq] at this
  obtain ⟨⟨⟨a,b⟩,c⟩,d⟩:=this
  exact ⟨a,ix[j],List.getElem?_eq_getElem hj2,b,c,d⟩
theorem afm {elt tg iter:Expr} {scope:Scope} {pos:Pos} {cl:List (Str × Addr)} {t:Str} {ts fr:List Str} {ix:List Nat} {wi:TI} {g:TG} {te:TE} {i:Nat} {x:Str} {pos' spos:Pos} (hN:X.N.Nodup) (hi':X.N[i]? = some x) (hx:Loc X.env.scope x) (hc:X.calm=true) (S:CSd X scope cl t ts fr ix) (hi:PI X tg iter wi)
  (hg:∀ C fp s H,PG (cxD X (ts++fr) scope cl t C fp s H) tg g) (he:∀ C fp s H,PE (cxD X (ts++fr) scope cl t C fp s H) elt te)
  (hs:∀ x,foldedSetIterable iter X.env x=pure x:=by intro _;rfl) (hsw:swapsWith (.ListComp elt [⟨tg,iter,[],0⟩] scope pos) (some (.Name x pos')) spos.line X.env=pure true:=by rfl) (hf:X.fn x=true∨X.env.scope.names.lookup x=some .local:=by first | exact .inl rfl | exact .inr rfl | assumption) :
  PS X (.Assign [.Name x pos'] (.ListComp elt [⟨tg,iter,[],0⟩] scope pos) spos) (aoa (abb wi (ie ts.length ix) g te) (a07 i)):=by
 intro pins s σ H D I h
 rw [exec_Assign_Name_used _ _ _ _ hsw]
 refine wpAny_bind (wpAny_standAt (wpAny_bind ?_))
 refine wpAny_bind (wpAny_mono (ach hc S hi hg he hs (some (assign (.Name x pos') X.env)) I h (a5k hN hi' hx hf)) (fun _ s' hq=>wpAny_pure (wpAny_pure hq)) fun _ _ e=>e)
end
end L2
namespace MI
open PySem PySem.Spec L2
section
variable {X:Cx} {E:XD} {elt tg iter cnd:Expr} {scope:Scope} {pos spos pos':Pos} {cl:List (Str × Addr)} {tt:Str} {ts fr:List Str} {ix:List Nat} {fi:SI} {g:TG} {t:D→Option Sd} {fe:SE} {fc:ST} {i:Nat} {x:Str}
theorem afn (hN:X.N.Nodup) (hi':X.N[i]? = some x) (hx:Loc X.env.scope x) (hc:X.calm=true) (S:CSd X scope cl tt ts fr ix) (hi:MI X E tg iter fi) (hg:∀ C fp s H,PG (cxD X (ts++fr) scope cl tt C fp s H) tg g) (ht:acs X.K ts.length g t) (he:∀ C fp s H,ME (cxD X (ts++fr) scope cl tt C fp s H) E elt fe)
  (hs:∀ x,foldedSetIterable iter X.env x=pure x:=by intro _;rfl) (hsw:swapsWith (.ListComp elt [⟨tg,iter,[],0⟩] scope pos) (some (.Name x pos')) spos.line X.env=pure true:=by rfl) (hf:X.fn x=true∨X.env.scope.names.lookup x=some .local:=by first | exact .inl rfl | exact .inr rfl | assumption) :
  MS X E (.Assign [.Name x pos'] (.ListComp elt [⟨tg,iter,[],0⟩] scope pos) spos) (jr i (sZ (jn fi t fe ix))) :=
 PS.weak (aek (afm (te:=lift X.K E (qt X.K) fe) hN hi' hx hc S hi hg he hs hsw hf)) fun N σ H q=>a8s ht (as7 (aa7 q))
end
end MI
namespace K44
open PySem PySem.Spec L2 MI
noncomputable def a6a (jd:SF) (dq:SF):SE :=
 (sV 0)
noncomputable def a6b (jd:SF) (dq:SF):ST :=
 (sT (s2 hEq (sV 1) (sV 2)))
noncomputable def zj (jd:SF) (dq:SF):SS :=
 (j5 (jr 2 (s2 gIx (sV 0) (sC (.int 2))))
 (xn (sA (o8 false 3 dq) (ak (sV 0) (ak (sA (o8 false 1 jd) (ak (sV 0) gf)) (ak (sZ (my (a7i (sV 2)) (tN 2) (a6b jd dq) (a6a jd dq) [1])) gf))))))
noncomputable def aan (dj:SF) (aa:SF) (du:SF) (bz:SF) (di:SF) (ji:SF) (fu:SF):SE :=
 (sV 0)
noncomputable def a2j (dj:SF) (aa:SF) (du:SF) (bz:SF) (di:SF) (ji:SF) (fu:SF):ST :=
 (sT (s2 hEq (s2 gIx (s2 gIx (sV 2) (sC (.int 2))) (sV 0)) (sV 1)))
noncomputable def aao (dj:SF) (aa:SF) (du:SF) (bz:SF) (di:SF) (ji:SF) (fu:SF):SE :=
 (sA (o8 false 2 du) (ak (sV 1) (ak (sZ (my (sRg vf (ak (sA xx (ak (s2 gIx (sV 1) (sC (.int 2))) gf)) gf)) t1 (a2j dj aa du bz di ji fu) (aan dj aa du bz di ji fu) [0,1])) gf)))
noncomputable def a6c (dj:SF) (aa:SF) (du:SF) (bz:SF) (di:SF) (ji:SF) (fu:SF):SS :=
 (j5 (jr 7 (s2 a6q (s2 jk (s2 xr (sV 6) (sC (.int 5))) (sV 2)) (sC (.int 6))))
 (j5 (sIf (acq (a75 (sA (o8 false 2 dj) (ak (sA (o8 false 2 fu) (ak (sV 3) (ak (sV 7) gf))) (ak (s2 gIx (sV 4) (sV 7)) gf)))))
 as8
 sNx)
 (sIf (acq (a75 (sA (o8 false 2 dj) (ak (sA (o8 false 1 ji) (ak (sV 3) gf)) (ak (sV 5) gf)))))
 as8
 sNx)))
noncomputable def aib (dj:SF) (aa:SF) (du:SF) (bz:SF) (di:SF) (ji:SF) (fu:SF):SS :=
 (j5 (jr 1 (sA (o8 true 1 bz) (ak (sV 0) gf)))
 (j5 (jr 2 (sA (o8 false 2 aa) (ak (sV 1) (ak (sC (.int 6)) gf))))
 (j5 (jr 3 (sA (o8 false 2 di) (ak (sV 1) (ak (sC (.int 16)) gf))))
 (j5 (jr 4 (sZ (jn (sRg vf (ak (sC (.int 6)) gf)) t1 (aao dj aa du bz di ji fu) [3])))
 (j5 (jr 5 (a9s (sT (s2 (gIn false) (sC .non) (sV 4))) (sC .non) (sA abt (ak (sV 4) gf))))
 (j5 (a4d (sRg vf (ak (sC (.int 6)) gf)) (kN 6) (a6c dj aa du bz di ji fu))
 (xn (sC (.bl true)))))))))
end K44
namespace K44
open PySem PySem.Spec L2 MI
def top (i:Nat):Stmt:=PySem.Challenge.pw_nearreach_k44_reaches_of_kinds.main.body.getD i (.Pass ⟨0,0,0,0⟩)
structure Nm (mg:Str→Option Value):Prop where
 abs:mg "abs" = none
 any:mg "any" = none
 bool:mg "bool" = none
 enumerate:mg "enumerate" = none
 int:mg "int" = none
 isinstance:mg "isinstance" = none
 len:mg "len" = none
 max:mg "max" = none
 min:mg "min" = none
 range:mg "range" = none
 sorted:mg "sorted" = none
 sum:mg "sum" = none
 tuple:mg "tuple" = none
 zip:mg "zip" = none
section
variable {P:Program} {w:World} {K:PySem.W.Frag} {mg:Str→Option Value} {base:Heap} {f:Addr}
theorem av1:FnScope ["table"] ["table"] (au (top 1)):=⟨rfl,rfl,rfl,by decide +kernel,rfl,by decide +kernel,by decide +kernel⟩
theorem m_0 {k:Nat} (M:Nm mg) {a_1:Addr} {d_1:FuncData} {k_1:Nat} {F_1:SF} (D_1:Dn P w K mg base k_1 "hope_word" ["table", "start"] (um K 2 F_1) a_1 d_1) (h_1:k_1≤k) (cdv:Value) (A:Around) (outer:List Env) (s:Shared) (H:Hp) (E:XK) (hr:Room k (A.deeper (PyProof.Rows.envOfC "hope_words" (au (top 1)) s.heap.objs.size f cdv))):MSs (a1x CX0 P w K mg base ["table"] "hope_words" (au (top 1)) f cdv A outer s H E).nox X0 (iz (top 1)) (RCH.m8 F_1) :=
 have SC:=av1
 (d8 (kj (a0v (L2.CallR.or m9 (qj rfl)) yh rfl M.tuple a0d (aj (abp (a0w rfl (CSc.of (ts:=["room"]) (fr:=["table"]) (ix:=[0]) rfl rfl rfl rfl (by intro p hp;cases List.mem_singleton.mp hp;rfl) rfl rfl rfl rfl) (yg rfl M.range (aj (vq (L2.CallR.or iw iy) tu rfl M.len ye (aj (dg (bj 0) az (fun _ _=>rfl)) bf)) bf)) (fun _ _ _ _=>(j9 (i:=0) (show (["room", "table"]:List Str).Nodup by decide +kernel) rfl (Or.inl rfl) (.inr rfl))) qu (fun _ _ _ _=>(g8 false D_1 (hr.mono h_1) rfl (aj (bj 1) (aj (bj 0) bf)))))) bf))))
theorem av2:FnScope ["table", "start", "tongue", "goes", "kinds", "found", "seen", "looked", "room", "word", "sign", "to"] ["table", "start"] (au (top 2)):=⟨rfl,rfl,rfl,by decide +kernel,rfl,by decide +kernel,by decide +kernel⟩
theorem m_1 {k:Nat} (M:Nm mg) (cdv:Value) (A:Around) (outer:List Env) (s:Shared) (H:Hp) (E:XK) (hr:Room k (A.deeper (PyProof.Rows.envOfC "hope_word" (au (top 2)) s.heap.objs.size f cdv))):MSs (a1x CX0 P w K mg base ["table", "start", "tongue", "goes", "kinds", "found", "seen", "looked", "room", "word", "sign", "to"] "hope_word" (au (top 2)) f cdv A outer s H E).nox X0 (iz (top 2)) (RCH.oh) :=
 have SC:=av2
 (aq (a9x (bj 0) (a79 rfl (m5 (j6 (i:=2) SC.nd rfl (Or.inl rfl)) (m5 (j6 (i:=3) SC.nd rfl (Or.inl rfl)) (m5 (j6 (i:=4) SC.nd rfl (Or.inl rfl)) a3e)))))
 (aq (iu (i:=5) SC.nd rfl (Or.inl rfl) (a3c (aj (a9u (aj (bj 1) (aj a9r bf))) bf)))
 (aq (iu (i:=6) SC.nd rfl (Or.inl rfl) (aty (bj 1) adv))
 (aq (iu (i:=7) SC.nd rfl (Or.inl rfl) az)
 (aq (a9v 100000 PassesOwn.never (ig (a8g.or rm) a3g (bj 7) (vq (L2.CallR.or iw iy) tu rfl M.len ye (aj (bj 5) bf)) (jf _)) (aq (a9x (dg (bj 5) (bj 7) (fun _ _=>rfl)) (a79 rfl (m5 (j6 (i:=8) SC.nd rfl (Or.inl rfl)) (m5 (j6 (i:=9) SC.nd rfl (Or.inl rfl)) a3e))))
 (aq (vg PassesOwn.never rfl (apy rfl M.zip apz (bj 2) (dg (bj 3) (bj 8) (fun _ _=>rfl))) (a79 rfl (m5 (j6 (i:=10) SC.nd rfl (Or.inl rfl)) (m5 (j6 (i:=11) SC.nd rfl (Or.inl rfl)) a3e))) (aq (yf (ig (ae9 hr.u) a8r (dg (bj 4) (bj 11) (fun _ _=>rfl)) (a4n az) (jf _))
 (d8 (kj (jz (bj 9) (bj 10))))
 jy)
 (d8 (yf (ig (aer hr.u) abw (bj 11) (bj 6) (by with_unfolding_all rfl))
 (aq (am5 hr.u adv (bj 6) (bj 11))
 (d8 (a3d (abm PySem.F.slot_list_append PySem.F.type_list_append yc a3h (bj 5) (aj (a9u (aj (bj 11) (aj (jz (bj 9) (bj 10)) bf))) bf)))))
 jy))))
 (d8 (adx (i:=7) SC.nd rfl (Or.inl rfl) (a2o.or sr) a0k az)))))
 (d8 (kj a1o)))))))
theorem av3:FnScope ["table"] ["table"] (au (top 3)):=⟨rfl,rfl,rfl,by decide +kernel,rfl,by decide +kernel,by decide +kernel⟩
theorem m_2 {k:Nat} (M:Nm mg) {a_0:Addr} {d_0:FuncData} {k_0:Nat} {F_0:SF} (D_0:Dn P w K mg base k_0 "hope_words" ["table"] (um K 1 F_0) a_0 d_0) (h_0:k_0≤k) (cdv:Value) (A:Around) (outer:List Env) (s:Shared) (H:Hp) (E:XK) (hr:Room k (A.deeper (PyProof.Rows.envOfC "hopes" (au (top 3)) s.heap.objs.size f cdv))):MSs (a1x CX0 P w K mg base ["table"] "hopes" (au (top 3)) f cdv A outer s H E).nox X0 (iz (top 3)) (RCH.a1e F_0) :=
 have SC:=av3
 (d8 (kj (a0v (L2.CallR.or m9 (qj rfl)) yh rfl M.tuple a0d (aj (abp (a0w rfl (CSc.noFree (ts:=["word"]) rfl (by decide +kernel) (by decide +kernel) (by decide +kernel)) (mq (g8 false D_0 (hr.mono h_0) rfl (aj (bj 0) bf))) (fun _ _ _ _=>(j9 (i:=0) (show (["word"]:List Str).Nodup by decide +kernel) rfl (Or.inl rfl) (.inr rfl))) qu (fun _ _ _ _=>(a2z (akj.or a8k) ae5 (bj 0) a1o (jf _))))) bf))))
theorem av4:FnScope ["table", "kinds"] ["table"] (au (top 5)):=⟨rfl,rfl,rfl,by decide +kernel,rfl,by decide +kernel,by decide +kernel⟩
theorem m_3 {k:Nat} (M:Nm mg) {a_2:Addr} {d_2:FuncData} {k_2:Nat} {F_2:SF} (D_2:Dn P w K mg base k_2 "hopes" ["table"] (um K 1 F_2) a_2 d_2) (h_2:k_2≤k) {a_5:Addr} {d_5:FuncData} {k_5:Nat} {F_5:SF} (D_5:Dn P w K mg base k_5 "reach_from" ["table", "hope", "starts"] (um K 3 F_5) a_5 d_5) (h_5:k_5≤k) (cdv:Value) (A:Around) (outer:List Env) (s:Shared) (H:Hp) (E:XK) (hr:Room k (A.deeper (PyProof.Rows.envOfC "reach" (au (top 5)) s.heap.objs.size f cdv))):MSs (a1x CX0 P w K mg base ["table", "kinds"] "reach" (au (top 5)) f cdv A outer s H E).nox X0 (iz (top 5)) (RCH.a69 F_2 F_5) :=
 have SC:=av4
 (aq (iu (i:=1) SC.nd rfl (Or.inl rfl) (dg (bj 0) az (fun _ _=>rfl)))
 (d8 (kj (g8 false D_5 (hr.mono h_5) rfl (aj (bj 0) (aj (g8 false D_2 (hr.mono h_2) rfl (aj (bj 0) bf)) (aj (abp (a2c rfl (CSc.noFree (ts:=["room", "kind"]) rfl (by decide +kernel) (by decide +kernel) (by decide +kernel)) (aew rfl M.enumerate (bj 1)) (fun _ _ _ _=>acz rfl (a08 (j9 (i:=0) (show (["room", "kind"]:List Str).Nodup by decide +kernel) rfl (Or.inl rfl) (.inr rfl)) (a08 (j9 (i:=1) (show (["room", "kind"]:List Str).Nodup by decide +kernel) rfl (Or.inl rfl) (.inr rfl)) a8f))) ajb (fun _ _ _ _=>(bj 0)) (fun _ _ _ _=>(ig (ae9 hr.u) a8r (bj 1) (a4n az) (jf _))))) bf)))))))
theorem av5:FnScope ["table", "kind", "kinds"] ["table", "kind"] (au (top 6)):=⟨rfl,rfl,rfl,by decide +kernel,rfl,by decide +kernel,by decide +kernel⟩
theorem m_4 {k:Nat} (M:Nm mg) {a_2:Addr} {d_2:FuncData} {k_2:Nat} {F_2:SF} (D_2:Dn P w K mg base k_2 "hopes" ["table"] (um K 1 F_2) a_2 d_2) (h_2:k_2≤k) {a_5:Addr} {d_5:FuncData} {k_5:Nat} {F_5:SF} (D_5:Dn P w K mg base k_5 "reach_from" ["table", "hope", "starts"] (um K 3 F_5) a_5 d_5) (h_5:k_5≤k) (cdv:Value) (A:Around) (outer:List Env) (s:Shared) (H:Hp) (E:XK) (hr:Room k (A.deeper (PyProof.Rows.envOfC "reach_of" (au (top 6)) s.heap.objs.size f cdv))):MSs (a1x CX0 P w K mg base ["table", "kind", "kinds"] "reach_of" (au (top 6)) f cdv A outer s H E).nox X0 (iz (top 6)) (zj F_2 F_5) :=
 have SC:=av5
 (aq (iu (i:=2) SC.nd rfl (Or.inl rfl) (dg (bj 0) az (fun _ _=>rfl)))
 (d8 (kj (g8 false D_5 (hr.mono h_5) rfl (aj (bj 0) (aj (g8 false D_2 (hr.mono h_2) rfl (aj (bj 0) bf)) (aj (abp (a2c rfl (CSc.of (ts:=["room", "other"]) (fr:=["kind"]) (ix:=[1]) rfl rfl rfl rfl (by intro p hp;cases List.mem_singleton.mp hp;rfl) rfl rfl rfl rfl) (aew rfl M.enumerate (bj 2)) (fun _ _ _ _=>acz rfl (a08 (j9 (i:=0) (show (["room", "other", "kind"]:List Str).Nodup by decide +kernel) rfl (Or.inl rfl) (.inr rfl)) (a08 (j9 (i:=1) (show (["room", "other", "kind"]:List Str).Nodup by decide +kernel) rfl (Or.inl rfl) (.inr rfl)) a8f))) ajb (fun _ _ _ _=>(bj 0)) (fun _ _ _ _=>(ig (a1q hr.u) yj (bj 1) (bj 2) (jf _))))) bf)))))))
theorem av6:FnScope ["table", "hope", "starts", "tongue", "goes", "kinds", "most", "layer", "count", "led"] ["table", "hope", "starts"] (au (top 7)):=⟨rfl,rfl,rfl,by decide +kernel,rfl,by decide +kernel,by decide +kernel⟩
theorem m_5 {k:Nat} (M:Nm mg) (cdv:Value) (A:Around) (outer:List Env) (s:Shared) (H:Hp) (E:XK) (hr:Room k (A.deeper (PyProof.Rows.envOfC "reach_from" (au (top 7)) s.heap.objs.size f cdv))):MSs (a1x CX0 P w K mg base ["table", "hope", "starts", "tongue", "goes", "kinds", "most", "layer", "count", "led"] "reach_from" (au (top 7)) f cdv A outer s H E).nox X0 (iz (top 7)) (RCH.uq) :=
 have SC:=av6
 (aq (a9x (bj 0) (a79 rfl (m5 (j6 (i:=3) SC.nd rfl (Or.inl rfl)) (m5 (j6 (i:=4) SC.nd rfl (Or.inr rfl)) (m5 (j6 (i:=5) SC.nd rfl (Or.inr rfl)) a3e)))))
 (aq (iu (i:=6) SC.nd rfl (Or.inl rfl) az)
 (aq (iu (i:=7) SC.nd rfl (Or.inl rfl) (bj 2))
 (aq (vg PassesOwn.never rfl (a8m rfl M.range (aj az (aj (jz (vq (L2.CallR.or iw iy) tu rfl M.len ye (aj (bj 4) bf)) az) bf))) (j6 (i:=8) SC.nd rfl (Or.inl rfl)) (aq (iu (i:=9) SC.nd rfl (Or.inl rfl) (abp (amo rfl M.sorted rfl (CSc.of (ts:=["room", "to"]) (fr:=["goes"]) (ix:=[4]) rfl rfl rfl rfl (by intro p hp;cases List.mem_singleton.mp hp;rfl) rfl rfl rfl rfl) (mq (bj 7)) (fun _ _ _ _=>j9 (i:=0) (show (["room", "to", "goes"]:List Str).Nodup by decide +kernel) rfl (Or.inl rfl) (.inr rfl)) (fun _ _ _ _=>(mq (dg (bj 2) (bj 0) (fun _ _=>rfl)))) (fun _ _ _ _=>j9 (i:=1) (show (["room", "to", "goes"]:List Str).Nodup by decide +kernel) rfl (Or.inl rfl) (.inr rfl)) (fun _ _ _ _=>(bj 1)))))
 (aq (yf (a3a (vq (a8t rfl) alx rfl M.any aq7 (aj (abp (a0w rfl (CSc.of (ts:=["to"]) (fr:=["kinds"]) (ix:=[5]) rfl rfl rfl rfl (by intro p hp;cases List.mem_singleton.mp hp;rfl) rfl rfl rfl rfl) (mq (bj 9)) (fun _ _ _ _=>(j9 (i:=0) (show (["to", "kinds"]:List Str).Nodup by decide +kernel) rfl (Or.inl rfl) (.inr rfl))) qu (fun _ _ _ _=>(a2z (ae9 hr.u) a8r (dg (bj 1) (bj 0) (fun _ _=>rfl)) (a4n az) (jf _))))) bf)))
 (d8 (iu (i:=6) SC.nd rfl (Or.inl rfl) (bj 8)))
 jy)
 (aq (aa8 (i:=7) SC.nd rfl (Or.inl rfl) rfl (CSc.of (ts:=["to"]) (fr:=["hope", "kinds"]) (ix:=[1,5]) rfl rfl rfl rfl (by intro p hp;simp only [List.mem_cons,List.not_mem_nil,or_false] at hp;rcases hp with rfl | rfl<;>rfl) rfl rfl rfl rfl) (mq (bj 9)) (fun _ _ _ _=>(j9 (i:=0) (show (["to", "hope", "kinds"]:List Str).Nodup by decide +kernel) rfl (Or.inl rfl) (.inr rfl))) qu (fun _ _ _ _=>(bj 0)) (fun _ _ _ _=>(PW.pt (a76 (ig (a1q hr.u) yj (dg (bj 2) (bj 0) (fun _ _=>rfl)) (a4n az) (jf _)) (a3b (a3a (dg (bj 1) (bj 0) (fun _ _=>rfl))))))))
 (d8 (yf (adw (a3a (bj 7)))
 (d8 (kj (bj 6)))
 jy))))))
 (d8 (kj a1o))))))
theorem av7:FnScope ["_law_script", "_law_cells"] ["_law_script"] (au (top 9)):=⟨rfl,rfl,rfl,by decide +kernel,rfl,by decide +kernel,by decide +kernel⟩
theorem m_6 {k:Nat} (M:Nm mg) (cdv:Value) (A:Around) (outer:List Env) (s:Shared) (H:Hp) (E:XK) (hr:Room k (A.deeper (PyProof.Rows.envOfC "_law_source" (au (top 9)) s.heap.objs.size f cdv))):MSs (a1x CX0 P w K mg base ["_law_script", "_law_cells"] "_law_source" (au (top 9)) f cdv A outer s H E).nox X0 (iz (top 9)) (SRC.uo) :=
 have SC:=av7
 (aq (a2d (i:=1) SC.nd rfl (Or.inl rfl) rfl (CSc.noFree (ts:=["_law_cell"]) rfl (by decide +kernel) (by decide +kernel) (by decide +kernel)) (mq (abp (a3l (bj 0) a8o (a8p az)))) (fun _ _ _ _=>(j9 (i:=0) (show (["_law_cell"]:List Str).Nodup by decide +kernel) rfl (Or.inl rfl) (.inr rfl))) qu (fun _ _ _ _=>(jz (a1c az (vq agu alf rfl M.abs ap8 (aj (bj 0) bf))) (a0v ad6 alh rfl M.int aj2 (aj (a2z (a8g.or rm) a3g (bj 0) az (jf _)) bf)))))
 (d8 (kj (a3c (aj (bj 1) (aj az (aj az (aj az (aj (a3f (vq (abg rfl) alm rfl M.sum apv (aj (bj 1) bf)) az) bf)))))))))
theorem av8:FnScope ["_law_left", "_law_many", "_law_cell", "_law_told"] ["_law_left", "_law_many"] (au (top 10)):=⟨rfl,rfl,rfl,by decide +kernel,rfl,by decide +kernel,by decide +kernel⟩
theorem m_7 {k:Nat} (M:Nm mg) (cdv:Value) (A:Around) (outer:List Env) (s:Shared) (H:Hp) (E:XK) (hr:Room k (A.deeper (PyProof.Rows.envOfC "_law_draw" (au (top 10)) s.heap.objs.size f cdv))):MSs (a1x CX0 P w K mg base ["_law_left", "_law_many", "_law_cell", "_law_told"] "_law_draw" (au (top 10)) f cdv A outer s H E).nox X0 (iz (top 10)) (SRC.a1d) :=
 have SC:=av8
 (aq (a8u (bj 0) az az (a2o.or sr) a0k)
 (aq (yf (PW.pt (a76 (ig (a1q hr.u) yj (dg (bj 0) az (fun _ _=>rfl)) az (jf _)) (a3b (ig (a8g.or rm) a3g (dg (bj 0) az (fun _ _=>rfl)) (vq (L2.CallR.or iw iy) tu rfl M.len ye (aj (dg (bj 0) az (fun _ _=>rfl)) bf)) (jf _)))))
 (aq (iu (i:=2) SC.nd rfl (Or.inl rfl) (dg (dg (bj 0) az (fun _ _=>rfl)) (dg (bj 0) az (fun _ _=>rfl)) (fun _ _=>rfl)))
 (aq (a8u (bj 0) az az (a2o.or sr) a0k)
 (d8 (yf (ig aki ae4 (bj 2) (ae3 az az) (jf _))
 (d8 (adz (bj 2) (bj 0) az))
 (d8 (adz (a3f (jz (a1c (dg (bj 0) az (fun _ _=>rfl)) az) (bj 2)) az) (bj 0) az))))))
 jy)
 (aq (yf (ig aon ajf (dg (bj 0) az (fun _ _=>rfl)) az (jf _))
 (aq (iu (i:=3) SC.nd rfl (Or.inl rfl) (a3f (dg (bj 0) az (fun _ _=>rfl)) (bj 1)))
 (aq (a8u (bj 0) az (bj 1) ags ae2)
 (d8 (kj (bj 3)))))
 jy)
 (aq (iu (i:=3) SC.nd rfl (Or.inl rfl) (a3f (ae3 (jz (jz (dg (bj 0) az (fun _ _=>rfl)) az) (a1c (dg (bj 0) az (fun _ _=>rfl)) az)) az) az))
 (d8 (kj (a3f (apj (a3f (ae3 (jz (a1c (bj 3) az) (dg (bj 0) az (fun _ _=>rfl))) az) az) az) (bj 1))))))))
theorem av9:FnScope ["_law_some"] [] (au (top 11)):=⟨rfl,rfl,rfl,by decide +kernel,rfl,by decide +kernel,by decide +kernel⟩
theorem m_8 {k:Nat} (cdv:Value) (A:Around) (outer:List Env) (s:Shared) (H:Hp) (E:XK) (hr:Room k (A.deeper (PyProof.Rows.envOfC "_law_signs" (au (top 11)) s.heap.objs.size f cdv))):MSs (a1x CX0 P w K mg base ["_law_some"] "_law_signs" (au (top 11)) f cdv A outer s H E).nox X0 (iz (top 11)) (SRC.ud) :=
 have SC:=av9
 (aq (iu (i:=0) SC.nd rfl (Or.inl rfl) a9r)
 (d8 (kj (jz (bj 0) a9r))))
theorem ava:FnScope ["_law_left", "_law_rest", "_law_told", "_law_k", "_law_at"] ["_law_left"] (au (top 12)):=⟨rfl,rfl,rfl,by decide +kernel,rfl,by decide +kernel,by decide +kernel⟩
theorem m_9 {k:Nat} (M:Nm mg) {a_7:Addr} {d_7:FuncData} {k_7:Nat} {F_7:SF} (D_7:Dn P w K mg base k_7 "_law_draw" ["_law_left", "_law_many"] (um K 2 F_7) a_7 d_7) (h_7:k_7≤k) {a_8:Addr} {d_8:FuncData} {k_8:Nat} {F_8:SF} (D_8:Dn P w K mg base k_8 "_law_signs" [] (um K 0 F_8) a_8 d_8) (h_8:k_8≤k) (cdv:Value) (A:Around) (outer:List Env) (s:Shared) (H:Hp) (E:XK) (hr:Room k (A.deeper (PyProof.Rows.envOfC "_law_tongue" (au (top 12)) s.heap.objs.size f cdv))):MSs (a1x CX0 P w K mg base ["_law_left", "_law_rest", "_law_told", "_law_k", "_law_at"] "_law_tongue" (au (top 12)) f cdv A outer s H E).nox X0 (iz (top 12)) (SRC.yp F_7 F_8) :=
 have SC:=ava
 (aq (iu (i:=1) SC.nd rfl (Or.inl rfl) (aej false D_8 (hr.mono h_8) rfl))
 (aq (iu (i:=2) SC.nd rfl (Or.inl rfl) a9r)
 (aq (vg PassesOwn.never rfl (yg rfl M.range (aj (jz az (g8 false D_7 (hr.mono h_7) rfl (aj (bj 0) (aj az bf)))) bf)) (j6 (i:=3) SC.nd rfl (Or.inl rfl)) (aq (iu (i:=4) SC.nd rfl (Or.inl rfl) (g8 false D_7 (hr.mono h_7) rfl (aj (bj 0) (aj (vq (L2.CallR.or iw iy) tu rfl M.len ye (aj (bj 1) bf)) bf))))
 (aq (adx (i:=2) SC.nd rfl (Or.inl rfl) (a2o.or sr) a0k (dg (bj 1) (bj 4) (fun _ _=>rfl)))
 (d8 (iu (i:=1) SC.nd rfl (Or.inl rfl) (jz (a3l (bj 1) a8o (a8p (bj 4))) (a3l (bj 1) (a8p (jz (bj 4) az)) a8o)))))))
 (d8 (kj (bj 2))))))
theorem aqk:FnScope ["_law_left", "_law_tongue_here", "_law_many", "_law_kinds", "_law_room", "_law_manner", "_law_goes", "_law_row"] ["_law_left", "_law_tongue_here", "_law_many"] (au (top 13)):=⟨rfl,rfl,rfl,by decide +kernel,rfl,by decide +kernel,by decide +kernel⟩
theorem awd {k:Nat} (M:Nm mg) {a_7:Addr} {d_7:FuncData} {k_7:Nat} {F_7:SF} (D_7:Dn P w K mg base k_7 "_law_draw" ["_law_left", "_law_many"] (um K 2 F_7) a_7 d_7) (h_7:k_7≤k) (cdv:Value) (A:Around) (outer:List Env) (s:Shared) (H:Hp) (E:XK) (hr:Room k (A.deeper (PyProof.Rows.envOfC "_law_rooms" (au (top 13)) s.heap.objs.size f cdv))):MSs (a1x CX0 P w K mg base ["_law_left", "_law_tongue_here", "_law_many", "_law_kinds", "_law_room", "_law_manner", "_law_goes", "_law_row"] "_law_rooms" (au (top 13)) f cdv A outer s H E).nox X0 (iz (top 13)) (SRC.wg F_7) :=
 have SC:=aqk
 (aq (iu (i:=3) SC.nd rfl (Or.inr rfl) (a3c (aj (a4n az) bf)))
 (aq (vg PassesOwn.never rfl (a8m rfl M.range (aj az (aj (bj 2) bf))) (j6 (i:=4) SC.nd rfl (Or.inr rfl)) (d8 (a3d (abm PySem.F.slot_list_append PySem.F.type_list_append yc a3h (bj 3) (aj (a9t (ig (a8g.or rm) a3g (g8 false D_7 (hr.mono h_7) rfl (aj (bj 0) (aj az bf))) az (jf _)) (g8 false D_7 (hr.mono h_7) rfl (aj (bj 0) (aj az bf))) (a4n az)) bf)))))
 (aq (iu (i:=5) SC.nd rfl (Or.inl rfl) (g8 false D_7 (hr.mono h_7) rfl (aj (bj 0) (aj az bf))))
 (aq (iu (i:=6) SC.nd rfl (Or.inl rfl) (a3c bf))
 (aq (vg PassesOwn.never rfl (yg rfl M.range (aj (bj 2) bf)) (j6 (i:=4) SC.nd rfl (Or.inr rfl)) (aq (a2d (i:=7) SC.nd rfl (Or.inl rfl) rfl (CSc.of (ts:=["_law_sign"]) (fr:=["_law_left", "_law_many"]) (ix:=[0,2]) rfl rfl rfl rfl (by intro p hp;simp only [List.mem_cons,List.not_mem_nil,or_false] at hp;rcases hp with rfl | rfl<;>rfl) rfl rfl rfl rfl) (mq (bj 1)) (fun _ _ _ _=>(j9 (i:=0) (show (["_law_sign", "_law_left", "_law_many"]:List Str).Nodup by decide +kernel) rfl (Or.inl rfl) (.inr rfl))) qu (fun _ _ _ _=>(g8 false D_7 (hr.mono h_7) rfl (aj (bj 1) (aj (bj 2) bf)))))
 (aq (yf (ig aon ajf (bj 5) az (jf _))
 (d8 (a2d (i:=7) SC.nd rfl (Or.inl rfl) rfl (CSc.of (ts:=["_law_to"]) (fr:=["_law_many", "_law_kinds", "_law_room"]) (ix:=[2,3,4]) rfl rfl rfl rfl (by intro p hp;simp only [List.mem_cons,List.not_mem_nil,or_false] at hp;rcases hp with rfl | rfl | rfl<;>rfl) rfl rfl rfl rfl) (mq (bj 7)) (fun _ _ _ _=>(j9 (i:=0) (show (["_law_to", "_law_many", "_law_kinds", "_law_room"]:List Str).Nodup by decide +kernel) rfl (Or.inl rfl) (.inr rfl))) qu (fun _ _ _ _=>(a9t (PW.pt (a76 (ig (a8g.or rm) a3g (dg (bj 2) (bj 0) (fun _ _=>rfl)) az (jf _)) (a3b (ig (aom.or a72) aje (bj 0) (bj 3) (jf _))))) (ajd (bj 1) az) (bj 0)))))
 jy)
 (aq (yf (PW.pt (a76 (ig (a1q hr.u) yj (bj 5) az (jf _)) (a3b (ig (a1q hr.u) yj (bj 4) (ajd (bj 2) az) (jf _)))))
 (d8 (a2d (i:=7) SC.nd rfl (Or.inl rfl) rfl (CSc.of (ts:=["_law_to"]) (fr:=["_law_room"]) (ix:=[4]) rfl rfl rfl rfl (by intro p hp;cases List.mem_singleton.mp hp;rfl) rfl rfl rfl rfl) (mq (bj 7)) (fun _ _ _ _=>(j9 (i:=0) (show (["_law_to", "_law_room"]:List Str).Nodup by decide +kernel) rfl (Or.inl rfl) (.inr rfl))) qu (fun _ _ _ _=>(bj 1))))
 jy)
 (d8 (a3d (abm PySem.F.slot_list_append PySem.F.type_list_append yc a3h (bj 6) (aj (bj 7) bf))))))))
 (d8 (kj (a9u (aj (bj 6) (aj (bj 3) bf))))))))))
theorem aql:FnScope ["_law_left", "_law_most", "_law_tongue_here", "_law_many", "_law_goes", "_law_kinds", "_law_met", "_law_at", "_law_to", "_law_rows"] ["_law_left", "_law_most"] (au (top 14)):=⟨rfl,rfl,rfl,by decide +kernel,rfl,by decide +kernel,by decide +kernel⟩
theorem awe {k:Nat} (M:Nm mg) {a_7:Addr} {d_7:FuncData} {k_7:Nat} {F_7:SF} (D_7:Dn P w K mg base k_7 "_law_draw" ["_law_left", "_law_many"] (um K 2 F_7) a_7 d_7) (h_7:k_7≤k) {a_10:Addr} {d_10:FuncData} {k_10:Nat} {F_10:SF} (D_10:Dn P w K mg base k_10 "_law_rooms" ["_law_left", "_law_tongue_here", "_law_many"] (um K 3 F_10) a_10 d_10) (h_10:k_10≤k) {a_9:Addr} {d_9:FuncData} {k_9:Nat} {F_9:SF} (D_9:Dn P w K mg base k_9 "_law_tongue" ["_law_left"] (um K 1 F_9) a_9 d_9) (h_9:k_9≤k) (cdv:Value) (A:Around) (outer:List Env) (s:Shared) (H:Hp) (E:XK) (hr:Room k (A.deeper (PyProof.Rows.envOfC "_law_table" (au (top 14)) s.heap.objs.size f cdv))):MSs (a1x CX0 P w K mg base ["_law_left", "_law_most", "_law_tongue_here", "_law_many", "_law_goes", "_law_kinds", "_law_met", "_law_at", "_law_to", "_law_rows"] "_law_table" (au (top 14)) f cdv A outer s H E).nox X0 (iz (top 14)) (SRC.wj F_7 F_10 F_9) :=
 have SC:=aql
 (aq (iu (i:=2) SC.nd rfl (Or.inl rfl) (g8 false D_9 (hr.mono h_9) rfl (aj (bj 0) bf)))
 (aq (iu (i:=3) SC.nd rfl (Or.inl rfl) (jz az (g8 false D_7 (hr.mono h_7) rfl (aj (bj 0) (aj az bf)))))
 (aq (yf (ig (a1q hr.u) yj (g8 false D_7 (hr.mono h_7) rfl (aj (bj 0) (aj az bf))) az (jf _))
 (d8 (iu (i:=3) SC.nd rfl (Or.inl rfl) (jz az (g8 false D_7 (hr.mono h_7) rfl (aj (bj 0) (aj (bj 1) bf))))))
 jy)
 (aq (a9x (g8 false D_10 (hr.mono h_10) rfl (aj (bj 0) (aj (bj 2) (aj (vq (ad5 rfl) ah7 rfl M.min apu (aj (bj 3) (aj (bj 1) bf))) bf)))) (a79 rfl (m5 (j6 (i:=4) SC.nd rfl (Or.inr rfl)) (m5 (j6 (i:=5) SC.nd rfl (Or.inr rfl)) a3e))))
 (aq (iu (i:=6) SC.nd rfl (Or.inr rfl) (a3c (aj az bf)))
 (aq (iu (i:=7) SC.nd rfl (Or.inl rfl) az)
 (aq (a9v 100000 PassesOwn.never (ig (a8g.or rm) a3g (bj 7) (vq (L2.CallR.or iw iy) tu rfl M.len ye (aj (bj 6) bf)) (jf _)) (aq (vg PassesOwn.never rfl (mq (dg (bj 4) (dg (bj 6) (bj 7) (fun _ _=>rfl)) (fun _ _=>rfl))) (j6 (i:=8) SC.nd rfl (Or.inl rfl)) (d8 (yf (ig (a4m.or a1n) ae7 (bj 8) (bj 6) (by with_unfolding_all rfl))
 (d8 (a3d (abm PySem.F.slot_list_append PySem.F.type_list_append yc a3h (bj 6) (aj (bj 8) bf))))
 jy)))
 (d8 (adx (i:=7) SC.nd rfl (Or.inl rfl) (a2o.or sr) a0k az))))
 (aq (iu (i:=6) SC.nd rfl (Or.inr rfl) (vq a5u abu rfl M.sorted aex (aj (bj 6) bf)))
 (aq (iu (i:=9) SC.nd rfl (Or.inl rfl) (a0v (L2.CallR.or m9 (qj rfl)) yh rfl M.tuple a0d (aj (abp (a0w rfl (CSc.of (ts:=["_law_room"]) (fr:=["_law_goes", "_law_met"]) (ix:=[4,6]) rfl rfl rfl rfl (by intro p hp;simp only [List.mem_cons,List.not_mem_nil,or_false] at hp;rcases hp with rfl | rfl<;>rfl) rfl rfl rfl rfl) (mq (bj 6)) (fun _ _ _ _=>(j9 (i:=0) (show (["_law_room", "_law_goes", "_law_met"]:List Str).Nodup by decide +kernel) rfl (Or.inl rfl) (.inr rfl))) qu (fun _ _ _ _=>(a0v (L2.CallR.or m9 (qj rfl)) yh rfl M.tuple a0d (aj (abp (a0w rfl (CSc.of (ts:=["_law_to"]) (fr:=["_law_met"]) (ix:=[2]) rfl rfl rfl rfl (by intro p hp;cases List.mem_singleton.mp hp;rfl) rfl rfl rfl rfl) (mq (dg (bj 1) (bj 0) (fun _ _=>rfl))) (fun _ _ _ _=>(j9 (i:=0) (show (["_law_to", "_law_met"]:List Str).Nodup by decide +kernel) rfl (Or.inl rfl) (.inr rfl))) qu (fun _ _ _ _=>(abm PySem.F.slot_list_index PySem.F.type_list_index aen abv (bj 1) (aj (bj 0) bf))))) bf))))) bf)))
 (d8 (kj (a9u (aj (bj 2) (aj (bj 9) (aj (a0v (L2.CallR.or m9 (qj rfl)) yh rfl M.tuple a0d (aj (abp (a0w rfl (CSc.of (ts:=["_law_room"]) (fr:=["_law_kinds"]) (ix:=[5]) rfl rfl rfl rfl (by intro p hp;cases List.mem_singleton.mp hp;rfl) rfl rfl rfl rfl) (mq (bj 6)) (fun _ _ _ _=>(j9 (i:=0) (show (["_law_room", "_law_kinds"]:List Str).Nodup by decide +kernel) rfl (Or.inl rfl) (.inr rfl))) qu (fun _ _ _ _=>(dg (bj 1) (bj 0) (fun _ _=>rfl))))) bf)) bf)))))))))))))))
theorem aqm:FnScope ["_law_table_here", "_law_hope_here", "_law_k", "_law_room", "_law_to"] ["_law_table_here"] (au (top 15)):=⟨rfl,rfl,rfl,by decide +kernel,rfl,by decide +kernel,by decide +kernel⟩
theorem awf {k:Nat} (M:Nm mg) (cdv:Value) (A:Around) (outer:List Env) (s:Shared) (H:Hp) (E:XK) (hr:Room k (A.deeper (PyProof.Rows.envOfC "_law_hope" (au (top 15)) s.heap.objs.size f cdv))):MSs (a1x CX0 P w K mg base ["_law_table_here", "_law_hope_here", "_law_k", "_law_room", "_law_to"] "_law_hope" (au (top 15)) f cdv A outer s H E).nox X0 (iz (top 15)) (RCH.zf) :=
 have SC:=aqm
 (aq (als (i:=1) SC.nd rfl (Or.inl rfl) rfl (CSc.noFree (ts:=["_law_row"]) rfl (by decide +kernel) (by decide +kernel) (by decide +kernel)) (mq (dg (bj 0) az (fun _ _=>rfl))) (fun _ _ _ _=>(j9 (i:=0) (show (["_law_row"]:List Str).Nodup by decide +kernel) rfl (Or.inl rfl) (.inr rfl))) qu (fun _ _ _ _=>adv))
 (aq (vg PassesOwn.never rfl (yg rfl M.range (aj (vq (L2.CallR.or iw iy) tu rfl M.len ye (aj (bj 1) bf)) bf)) (j6 (i:=2) SC.nd rfl (Or.inl rfl)) (d8 (vg PassesOwn.never rfl (yg rfl M.range (aj (vq (L2.CallR.or iw iy) tu rfl M.len ye (aj (bj 1) bf)) bf)) (j6 (i:=3) SC.nd rfl (Or.inl rfl)) (d8 (vg PassesOwn.never rfl (mq (dg (dg (bj 0) az (fun _ _=>rfl)) (bj 3) (fun _ _=>rfl))) (j6 (i:=4) SC.nd rfl (Or.inl rfl)) (d8 (yf (PW.pt (atp (ig aki ae4 (dg (dg (bj 0) az (fun _ _=>rfl)) (bj 4) (fun _ _=>rfl)) az (jf _)) (apb (a3a (dg (bj 1) (bj 4) (fun _ _=>rfl))))))
 (d8 (adz adv (bj 1) (bj 3)))
 jy)))))))
 (d8 (kj (bj 1)))))
theorem aqn:FnScope ["_law_table_here", "_law_rooms_here", "_law_told", "_law_room", "_law_to"] ["_law_table_here", "_law_rooms_here"] (au (top 16)):=⟨rfl,rfl,rfl,by decide +kernel,rfl,by decide +kernel,by decide +kernel⟩
theorem awg {k:Nat} (cdv:Value) (A:Around) (outer:List Env) (s:Shared) (H:Hp) (E:XK) (hr:Room k (A.deeper (PyProof.Rows.envOfC "_law_next" (au (top 16)) s.heap.objs.size f cdv))):MSs (a1x CX0 P w K mg base ["_law_table_here", "_law_rooms_here", "_law_told", "_law_room", "_law_to"] "_law_next" (au (top 16)) f cdv A outer s H E).nox X0 (iz (top 16)) (RCH.zg) :=
 have SC:=aqn
 (aq (iu (i:=2) SC.nd rfl (Or.inl rfl) (a3c bf))
 (aq (vg PassesOwn.never rfl (mq (bj 1)) (j6 (i:=3) SC.nd rfl (Or.inl rfl)) (d8 (vg PassesOwn.never rfl (mq (dg (dg (bj 0) az (fun _ _=>rfl)) (bj 3) (fun _ _=>rfl))) (j6 (i:=4) SC.nd rfl (Or.inl rfl)) (d8 (yf (ig (a4m.or a1n) ae7 (bj 4) (bj 2) (by with_unfolding_all rfl))
 (d8 (a3d (abm PySem.F.slot_list_append PySem.F.type_list_append yc a3h (bj 2) (aj (bj 4) bf))))
 jy)))))
 (d8 (kj (bj 2)))))
theorem aqo:FnScope ["_law_table_here", "_law_rooms_here", "_law_hope_here", "_law_due", "_law_many"] ["_law_table_here", "_law_rooms_here"] (au (top 17)):=⟨rfl,rfl,rfl,by decide +kernel,rfl,by decide +kernel,by decide +kernel⟩
theorem awh {k:Nat} (M:Nm mg) {a_12:Addr} {d_12:FuncData} {k_12:Nat} {F_12:SF} (D_12:Dn P w K mg base k_12 "_law_hope" ["_law_table_here"] (um K 1 F_12) a_12 d_12) (h_12:k_12≤k) {a_13:Addr} {d_13:FuncData} {k_13:Nat} {F_13:SF} (D_13:Dn P w K mg base k_13 "_law_next" ["_law_table_here", "_law_rooms_here"] (um K 2 F_13) a_13 d_13) (h_13:k_13≤k) (cdv:Value) (A:Around) (outer:List Env) (s:Shared) (H:Hp) (E:XK) (hr:Room k (A.deeper (PyProof.Rows.envOfC "_law_reach" (au (top 17)) s.heap.objs.size f cdv))):MSs (a1x CX0 P w K mg base ["_law_table_here", "_law_rooms_here", "_law_hope_here", "_law_due", "_law_many"] "_law_reach" (au (top 17)) f cdv A outer s H E).nox X0 (iz (top 17)) (RCH.wz F_12 F_13) :=
 have SC:=aqo
 (aq (iu (i:=2) SC.nd rfl (Or.inr rfl) (g8 false D_12 (hr.mono h_12) rfl (aj (bj 0) bf)))
 (aq (iu (i:=3) SC.nd rfl (Or.inl rfl) az)
 (aq (vg PassesOwn.never rfl (a8m rfl M.range (aj az (aj (jz (a1c az (vq (L2.CallR.or iw iy) tu rfl M.len ye (aj (bj 2) bf))) az) bf))) (j6 (i:=4) SC.nd rfl (Or.inl rfl)) (aq (iu (i:=1) SC.nd rfl (Or.inl rfl) (g8 false D_13 (hr.mono h_13) rfl (aj (bj 0) (aj (bj 1) bf))))
 (aq (yf (ig (aqd hr.u) (am8 true) (abp (a2c rfl (CSc.of (ts:=["_law_room"]) (fr:=["_law_table_here"]) (ix:=[0]) rfl rfl rfl rfl (by intro p hp;cases List.mem_singleton.mp hp;rfl) rfl rfl rfl rfl) (mq (bj 1)) (fun _ _ _ _=>(j9 (i:=0) (show (["_law_room", "_law_table_here"]:List Str).Nodup by decide +kernel) rfl (Or.inl rfl) (.inr rfl))) qu (fun _ _ _ _=>(bj 0)) (fun _ _ _ _=>(ig aki ae4 (dg (dg (bj 1) az (fun _ _=>rfl)) (bj 0) (fun _ _=>rfl)) az (jf _))))) (abp (a3c bf)) (jf _))
 (d8 (iu (i:=3) SC.nd rfl (Or.inl rfl) (bj 4)))
 jy)
 (d8 (aa8 (i:=1) SC.nd rfl (Or.inl rfl) rfl (CSc.of (ts:=["_law_room"]) (fr:=["_law_table_here", "_law_hope_here"]) (ix:=[0,2]) rfl rfl rfl rfl (by intro p hp;simp only [List.mem_cons,List.not_mem_nil,or_false] at hp;rcases hp with rfl | rfl<;>rfl) rfl rfl rfl rfl) (mq (bj 1)) (fun _ _ _ _=>(j9 (i:=0) (show (["_law_room", "_law_table_here", "_law_hope_here"]:List Str).Nodup by decide +kernel) rfl (Or.inl rfl) (.inr rfl))) qu (fun _ _ _ _=>(bj 0)) (fun _ _ _ _=>(PW.pt (a76 (ig (a8g.or rm) a3g (dg (dg (bj 1) az (fun _ _=>rfl)) (bj 0) (fun _ _=>rfl)) az (jf _)) (a3b (a3a (dg (bj 2) (bj 0) (fun _ _=>rfl))))))))))))
 (d8 (kj (a9t (ig (aom.or a72) aje (bj 3) (vq (L2.CallR.or iw iy) tu rfl M.len ye (aj (bj 2) bf)) (jf _)) (bj 3) a1o))))))
theorem aqp:FnScope ["_law_found", "_law_due"] ["_law_found", "_law_due"] (au (top 18)):=⟨rfl,rfl,rfl,by decide +kernel,rfl,by decide +kernel,by decide +kernel⟩
theorem awi {k:Nat} (M:Nm mg) (cdv:Value) (A:Around) (outer:List Env) (s:Shared) (H:Hp) (E:XK) (hr:Room k (A.deeper (PyProof.Rows.envOfC "_law_alike" (au (top 18)) s.heap.objs.size f cdv))):MSs (a1x CX0 P w K mg base ["_law_found", "_law_due"] "_law_alike" (au (top 18)) f cdv A outer s H E).nox X0 (iz (top 18)) (RCH.xf) :=
 have SC:=aqp
 (aq (yf (ig (aiw.or a9o) ajg (bj 1) a1o (jf _))
 (d8 (kj (a2z (aiw.or a9o) ajg (bj 0) a1o (jf _))))
 jy)
 (d8 (kj (aj6 (vq (L2.CallR.or a2u a1u) aaf rfl M.isinstance a0c (aj (bj 0) (aj (apa rfl M.int aj2) bf))) (aj6 (apd (vq (L2.CallR.or a2u a1u) aaf rfl M.isinstance a0c (aj (bj 0) (aj (apa rfl M.bool aln) bf)))) (apc (a2z (a1q hr.u) yj (bj 0) (bj 1) (jf _))))))))
theorem aqq:FnScope ["_law_script", "_law_left", "_law_turn", "_law_table_here", "_law_due", "_law_whole", "_law_k", "_law_kind"] ["_law_script"] (au (top 19)):=⟨rfl,rfl,rfl,by decide +kernel,rfl,by decide +kernel,by decide +kernel⟩
theorem awj {k:Nat} (M:Nm mg) {a_15:Addr} {d_15:FuncData} {k_15:Nat} {F_15:SF} (D_15:Dn P w K mg base k_15 "_law_alike" ["_law_found", "_law_due"] (um K 2 F_15) a_15 d_15) (h_15:k_15≤k) {a_7:Addr} {d_7:FuncData} {k_7:Nat} {F_7:SF} (D_7:Dn P w K mg base k_7 "_law_draw" ["_law_left", "_law_many"] (um K 2 F_7) a_7 d_7) (h_7:k_7≤k) {a_14:Addr} {d_14:FuncData} {k_14:Nat} {F_14:SF} (D_14:Dn P w K mg base k_14 "_law_reach" ["_law_table_here", "_law_rooms_here"] (um K 2 F_14) a_14 d_14) (h_14:k_14≤k) {a_6:Addr} {d_6:FuncData} {k_6:Nat} {F_6:SF} (D_6:Dn P w K mg base k_6 "_law_source" ["_law_script"] (um K 1 F_6) a_6 d_6) (h_6:k_6≤k) {a_11:Addr} {d_11:FuncData} {k_11:Nat} {F_11:SF} (D_11:Dn P w K mg base k_11 "_law_table" ["_law_left", "_law_most"] (um K 2 F_11) a_11 d_11) (h_11:k_11≤k) {a_3:Addr} {d_3:FuncData} {k_3:Nat} {F_3:SF} (D_3:Dn P w K mg base k_3 "reach" ["table"] (um K 1 F_3) a_3 d_3) (h_3:k_3≤k) {a_4:Addr} {d_4:FuncData} {k_4:Nat} {F_4:SF} (D_4:Dn P w K mg base k_4 "reach_of" ["table", "kind"] (um K 2 F_4) a_4 d_4) (h_4:k_4≤k) (cdv:Value) (A:Around) (outer:List Env) (s:Shared) (H:Hp) (E:XK) (hr:Room k (A.deeper (PyProof.Rows.envOfC "law" (au (top 19)) s.heap.objs.size f cdv))):MSs (a1x CX0 P w K mg base ["_law_script", "_law_left", "_law_turn", "_law_table_here", "_law_due", "_law_whole", "_law_k", "_law_kind"] "law" (au (top 19)) f cdv A outer s H E).nox X0 (iz (top 19)) (aib F_15 F_7 F_14 F_6 F_11 F_3 F_4) :=
 have SC:=aqq
 (aq (iu (i:=1) SC.nd rfl (Or.inl rfl) (g8 true D_6 (hr.mono h_6) rfl (aj (bj 0) bf)))
 (aq (iu (i:=2) SC.nd rfl (Or.inl rfl) (g8 false D_7 (hr.mono h_7) rfl (aj (bj 1) (aj az bf))))
 (aq (iu (i:=3) SC.nd rfl (Or.inr rfl) (g8 false D_11 (hr.mono h_11) rfl (aj (bj 1) (aj az bf))))
 (aq (afn (i:=4) SC.nd rfl (Or.inl rfl) rfl (CSd.of (t := "_law_kind") (ts:=["_law_kind"]) (fr:=["_law_table_here"]) (ix:=[3]) rfl rfl (fun _=>rfl) (fun _=>rfl) rfl (by intro p hp;cases List.mem_singleton.mp hp;rfl) rfl rfl rfl) (yg rfl M.range (aj az bf)) (fun _ _ _ _=>(j9 (i:=0) (show (["_law_kind", "_law_table_here"]:List Str).Nodup by decide +kernel) rfl (Or.inr rfl) (.inl (beq_self_eq_true _)))) qu (fun _ _ _ _=>(g8 false D_14 (hr.mono h_14) rfl (aj (bj 1) (aj (abp (a2c rfl (CSc.of (ts:=["_law_room"]) (fr:=["_law_kind", "_law_table_here"]) (ix:=[0,1]) rfl rfl rfl rfl (by intro p hp;simp only [List.mem_cons,List.not_mem_nil,or_false] at hp;rcases hp with rfl | rfl<;>rfl) rfl rfl rfl rfl) (yg rfl M.range (aj (vq (L2.CallR.or iw iy) tu rfl M.len ye (aj (dg (bj 1) az (fun _ _=>rfl)) bf)) bf)) (fun _ _ _ _=>(j9 (i:=0) (show (["_law_room", "_law_kind", "_law_table_here"]:List Str).Nodup by decide +kernel) rfl (Or.inl rfl) (.inr rfl))) qu (fun _ _ _ _=>(bj 0)) (fun _ _ _ _=>(ig (a1q hr.u) yj (dg (dg (bj 2) az (fun _ _=>rfl)) (bj 0) (fun _ _=>rfl)) (bj 1) (jf _))))) bf)))))
 (aq (iu (i:=5) SC.nd rfl (Or.inl rfl) (a9t (ig (al5.or adh) ale a1o (bj 4) (by with_unfolding_all rfl)) a1o (vq (abh rfl) ahn rfl M.max apt (aj (bj 4) bf))))
 (aq (vg PassesOwn.never rfl (yg rfl M.range (aj az bf)) (j6 (i:=6) SC.nd rfl (Or.inl rfl)) (aq (iu (i:=7) SC.nd rfl (Or.inl rfl) (a3f (jz (a1c (bj 6) az) (bj 2)) az))
 (aq (yf (adw (a3a (g8 false D_15 (hr.mono h_15) rfl (aj (g8 false D_4 (hr.mono h_4) rfl (aj (bj 3) (aj (bj 7) bf))) (aj (dg (bj 4) (bj 7) (fun _ _=>rfl)) bf)))))
 ajl
 jy)
 (d8 (yf (adw (a3a (g8 false D_15 (hr.mono h_15) rfl (aj (g8 false D_3 (hr.mono h_3) rfl (aj (bj 3) bf)) (aj (bj 5) bf)))))
 ajl
 jy)))))
 (d8 (kj adv))))))))
end
end K44
namespace K40
open PySem PySem.Spec L2 MI
end K40
namespace HND
open PySem PySem.Spec L2 MI
noncomputable def ud:SS :=
 (j5 (jr 0 (sC (.str " !\"#$&'()*+,-./0123456789:;<=>?@ABCDEFGHIJKLMNOPQRSTUVWXYZ[\\]^_`")))
 (xn (s2 jk (sV 0) (sC (.str "abcdefghijklmnopqrstuvwxyz{|}~\n")))))
end HND
namespace MI
open PySem PySem.Spec L2
abbrev S (l:List Nat):Str:=⟨l.toArray⟩
theorem afo (l:List Nat):(S l).cps.toList=l:=by simp
theorem afp (l:List Nat):(S l).length=l.length:=by simp [Str.length]
theorem ams (x:Str):S x.cps.toList=x:=by cases x;simp
theorem au2 (a b:List Nat):S a++S b=S (a++b):=by rw [← ams (S a++S b),atm]
section
variable {h:Hd} {a b l:List Nat} {i:Nat} {c:Nat}
theorem awk (hl:l.length≤LINE) (e:l[i]? = some c):gIx (.str (S l)) (.int (i:Nat)) h = .ok (.str (S [c])) h:=by
 unfold gIx
 simp only [afp,if_pos hl,afo,o9 e]
theorem aic (hl:a.length+b.length≤LINE):jk (.str (S a)) (.str (S b)) h = .ok (.str (S (a++b))) h:=by
 unfold jk
 simp only [afp,if_pos hl,au2]
theorem au3 (hl:l.length≤LINE):xx [.str (S l)] h = .ok (.int l.length) h:=by
 unfold xx
 simp only [afp,if_pos hl]
theorem awl (k:Nat) (hl:l.length≤LINE):ajm (.str (S l)) none (some (k:Int)) h = .ok (.str (S (l.take k))) h:=by
 show gSl (.str (S l)) none (some (k:Int)) h=_
 unfold gSl
 simp only [afp,if_pos hl,afo,adp]
theorem aqr (k:Nat) (hl:l.length≤LINE):ajm (.str (S l)) (some (k:Int)) none h = .ok (.str (S (l.drop k))) h:=by
 show gSl (.str (S l)) (some (k:Int)) none h=_
 unfold gSl
 simp only [afp,if_pos hl,afo,adq]
end
section
variable {h:Hd} {i j:Int} {xs ys:List D}
theorem a2r:gIx (.tup xs) (.int i) h=(match atI xs i with | some d=>.ok d h | none=>.no):=rfl
theorem a7v:gIx (.rol xs) (.int i) h=(match atI xs i with | some d=>.ok d h | none=>.no):=rfl
theorem a7w {k:Nat}:gIx (.ref k) (.int i) h=(match yx (.ref k) h with | some xs=>(match atI xs i with | some d=>.ok d h | none=>.no) | none=>.no):=rfl
theorem a1f:xx [.tup xs] h = .ok (.int xs.length) h:=rfl
theorem a3w:xx [.rol xs] h = .ok (.int xs.length) h:=rfl
theorem a3x {k:Nat}:xx [.ref k] h=(match yx (.ref k) h with | some xs=>.ok (.int xs.length) h | none=>.no):=rfl
theorem yr:jk (.int i) (.int j) h = .ok (.int (i+j)) h:=rfl
theorem a1g:a0x (.int i) (.int j) h = .ok (.int (i+j)) h:=rfl
open Classical in
theorem a3y:xr (.int i) (.int j) h=if CMul i j then .ok (.int (i*j)) h else .no:=by unfold xr;rfl
theorem a0o (b:Bool):tru (.bl b) h = .ok b h:=rfl
theorem a6d:tru (.int i) h = .ok (i != 0) h:=rfl
theorem a3z:tru (.rol xs) h = .ok (!xs.isEmpty) h:=rfl
theorem a6e:tru (.tup xs) h = .ok (!xs.isEmpty) h:=rfl
theorem a6f:tru .non h = .ok false h:=rfl
theorem aci:hEq (.int i) (.int j) h = .ok (.bl (i == j)) h:=rfl
theorem acj:hNe (.int i) (.int j) h = .ok (.bl (!(i == j))) h:=rfl
theorem aid (a b:Bool):hEq (.bl a) (.bl b) h = .ok (.bl (a == b)) h:=rfl
theorem aie (a b:Bool):hNe (.bl a) (.bl b) h = .ok (.bl (!(a == b))) h:=rfl
theorem aap (x:D):gIs x .non h = .ok (.bl (qw x)) h:=by cases x<;>rfl
theorem yt (x:D):a4o x .non h = .ok (.bl (!qw x)) h:=by cases x<;>rfl
theorem aif (a b:Bool):gIs (.bl a) (.bl b) h = .ok (.bl (a == b)) h:=rfl
theorem a2k (a b:Bool):a4o (.bl a) (.bl b) h = .ok (.bl (a != b)) h:=rfl
theorem as9:qw (.int i)=false:=rfl
theorem asa (x:Str):qw (.str x)=false:=rfl
theorem asb:qw .non=true:=rfl
theorem asd:qw (.tup xs)=false:=rfl
end
end MI
namespace HND
open PySem PySem.Spec L2 MI AT
local macro_rules | `(tactic| walk_at "ev") => `(tactic| simp only [p6,yo,a7j,a7k,aac,jr,acr,a7g,sIf,xn,a00,agg,put,a5x,a9w,a6p,jw,a78,kN,sV,sC,s2,s1,sA,ak,gf,sNx,sT,asB,a75,a0o,a6d,a3z,a6e,a6f,a8a,sOr,acq,a5n,as5,a77,sCh,a9s,bx,a03,MI.a2r,MI.a7v,MI.a7w,alv,yx,gLt,gGt,gGe,gLe,aci,acj,aid,aie,aap,yt,aif,a2k,as9,asa,asb,asd,yr,MI.ab2,a6q,agi,a3y,AT.af1,AT.p18,a1f,a3w,a3x,alg,a1g,aa0,a7b,ah6,MI.a4h,MI.a8b,sML,isL,a8c,oN,oS,agj,vm,sIt,aj8,sRg,List.length_map,List.length_cons,List.length_nil,List.length_append,List.getElem?_cons_zero,List.getElem?_cons_succ,List.set_cons_zero,List.set_cons_succ,List.nil_append,List.cons_append,AT.ahs,AT.aht,AT.ahu,AT.ahv,AT.ahw,AT.ahx,AT.ahy,AT.ahz,AT.x10,AT.x20,AT.x21,AT.x30,AT.x31,AT.x32,AT.x40,AT.x41,AT.x42,AT.x43,AT.x50,AT.x51,AT.x52,AT.x53,AT.x54,AT.x60,AT.x61,AT.x62,AT.x63,AT.x64,AT.x65,AT.x70,AT.x71,AT.x72,AT.x73,AT.x74,AT.x75,AT.x76,decide_true,decide_false,reduceIte,Bool.true_and,Bool.and_self,Bool.not_true,Bool.not_false,and_self,true_and,and_true,beq_self_eq_true,Nat.reduceAdd,Nat.reduceLeDiff,Nat.reduceLT,Nat.reducePow,Int.reduceLT,Int.reduceLE,Int.reduceNeg,Int.reduceEq,Int.reduceBEq,Bool.false_eq_true,Bool.true_eq_false,ite_true,ite_false,if_true,if_false, *])
end HND
namespace HND
open PySem PySem.Spec L2 MI AT
local macro_rules | `(tactic| walk_at "ev") => `(tactic| simp only [p6,yo,a7j,a7k,aac,jr,acr,a7g,sIf,xn,a00,agg,put,a5x,a9w,a6p,jw,a78,kN,sV,sC,s2,s1,sA,ak,gf,sNx,sT,asB,a75,a0o,a6d,a3z,a6e,a6f,a8a,sOr,acq,a5n,as5,a77,sCh,a9s,bx,a03,MI.a2r,MI.a7v,MI.a7w,alv,yx,gLt,gGt,gGe,gLe,aci,acj,aid,aie,aap,yt,aif,a2k,as9,asa,asb,asd,yr,MI.ab2,a6q,agi,a3y,AT.af1,AT.p18,a1f,a3w,a3x,alg,a1g,aa0,a7b,ah6,MI.a4h,MI.a8b,sML,isL,a8c,oN,oS,agj,vm,sIt,aj8,sRg,a4d,vf,a4f,aq6,a7i,aev,ajj,apx,srcOf,  List.length_map,List.length_cons,List.length_nil,List.length_append,List.getElem?_cons_zero,List.getElem?_cons_succ,List.set_cons_zero,List.set_cons_succ,List.nil_append,List.cons_append,AT.ahs,AT.aht,AT.ahu,AT.ahv,AT.ahw,AT.ahx,AT.ahy,AT.ahz,AT.x10,AT.x20,AT.x21,AT.x30,AT.x31,AT.x32,AT.x40,AT.x41,AT.x42,AT.x43,AT.x50,AT.x51,AT.x52,AT.x53,AT.x54,AT.x60,AT.x61,AT.x62,AT.x63,AT.x64,AT.x65,AT.x70,AT.x71,AT.x72,AT.x73,AT.x74,AT.x75,AT.x76,decide_true,decide_false,reduceIte,Bool.true_and,Bool.and_self,Bool.not_true,Bool.not_false,and_self,true_and,and_true,beq_self_eq_true,Nat.reduceAdd,Nat.reduceLeDiff,Nat.reduceLT,Nat.reducePow,Int.reduceLT,Int.reduceLE,Int.reduceNeg,Int.reduceEq,Int.reduceBEq,Bool.false_eq_true,Bool.true_eq_false,ite_true,ite_false,if_true,if_false, *])
def ase:Str := " !\"#$&'()*+,-./0123456789:;<=>?@ABCDEFGHIJKLMNOPQRSTUVWXYZ[\\]^_`"
def asf:Str := "abcdefghijklmnopqrstuvwxyz{|}~\n"
def sig:List Nat:=ase.cps.toList++asf.cps.toList
theorem amt:sig.length=95:=by decide +kernel
theorem aqs:sig.Nodup:=by decide +kernel
noncomputable def j4:SF:=ql ud 1
theorem lits {h:Hd}:jk (.str ase) (.str asf) h = .ok (.str (S sig)) h:=by
 rw [← ams ase,← ams asf,aic (by decide +kernel)]
 rfl
theorem a6g:Pu j4 0 [] (.str (S sig)):=by
 refine Pu.of rfl (by simp) (r:=.ok (.str (S sig)) []) ?_ (by rw [m7 (a04 _) (by simp)];rfl) (a04 _)
 unfold j4
 rw [jg]
 unfold ud
 have e:=@lits []
 unfold ase asf at e
 show toR (j5 (jr 0 _) _ [none] [])=_
 simp only [p6,jr,sC,a03,yo,xn,s2,sV,List.set_cons_zero,List.getElem?_cons_zero,bx,e,a7k]
structure Tongue (l:List Nat):Prop where
 lo:1≤l.length
 hi:l.length≤6
 nd:l.Nodup
 sub:∀ c∈l,c∈sig
theorem afq (a r:List Nat) (i:Nat) (c:Nat) (e:r[i]? = some c):List.Perm (a++r) ((a++[c])++(r.take i++r.drop (i+1))):=by
 obtain ⟨hi,e⟩:=List.getElem?_eq_some_iff.mp e
 have:r=r.take i++c::r.drop (i+1):=by rw [← e];simp
 rw [List.append_assoc]
 refine List.Perm.append_left a ?_
 rw [List.singleton_append]
 conv=>lhs;rw [this]
 exact List.perm_middle
end HND
namespace SRC
open PySem PySem.Spec L2 MI AT
local macro_rules | `(tactic| walk_at "ev") => `(tactic| simp only [p6,yo,a7j,a7k,aac,jr,acr,a7g,sIf,xn,a00,agg,put,a5x,a9w,a6p,jw,a78,kN,sV,sC,s2,s1,sA,ak,gf,sNx,sT,asB,a75,a0o,a6d,a3z,a6e,a6f,a8a,sOr,acq,a5n,as5,a77,sCh,a9s,bx,a03,MI.a2r,MI.a7v,MI.a7w,alv,yx,gLt,gGt,gGe,gLe,aci,acj,aid,aie,aap,yt,aif,a2k,as9,asa,asb,asd,yr,MI.ab2,a6q,agi,a3y,AT.af1,AT.p18,a1f,a3w,a3x,alg,a1g,aa0,a7b,ah6,MI.a4h,MI.a8b,sML,isL,a8c,oN,oS,agj,vm,sIt,aj8,sRg,List.length_map,List.length_cons,List.length_nil,List.length_append,List.getElem?_cons_zero,List.getElem?_cons_succ,List.set_cons_zero,List.set_cons_succ,List.nil_append,List.cons_append,AT.ahs,AT.aht,AT.ahu,AT.ahv,AT.ahw,AT.ahx,AT.ahy,AT.ahz,AT.x10,AT.x20,AT.x21,AT.x30,AT.x31,AT.x32,AT.x40,AT.x41,AT.x42,AT.x43,AT.x50,AT.x51,AT.x52,AT.x53,AT.x54,AT.x60,AT.x61,AT.x62,AT.x63,AT.x64,AT.x65,AT.x70,AT.x71,AT.x72,AT.x73,AT.x74,AT.x75,AT.x76,decide_true,decide_false,reduceIte,Bool.true_and,Bool.and_self,Bool.not_true,Bool.not_false,and_self,true_and,and_true,beq_self_eq_true,Nat.reduceAdd,Nat.reduceLeDiff,Nat.reduceLT,Nat.reducePow,Int.reduceLT,Int.reduceLE,Int.reduceNeg,Int.reduceEq,Int.reduceBEq,Bool.false_eq_true,Bool.true_eq_false,ite_true,ite_false,if_true,if_false, *])
structure Src (o:O) (N:Nat):Prop where
 ex:∃ (cells:List Int) (a l c s:Int),o = .lst [.rol (cells.map D.int), .int a, .int l, .int c, .int s]∧0≤a∧0≤l∧0≤s∧s<2147483647∧0≤c∧c≤N
theorem Src.clo {o:O} {N:Nat} (P:Src o N):a1y 0 o:=by
 obtain ⟨cells,a,l,c,s,rfl,_⟩:=P.ex
 exact km (u6 (ik fun x _=>j7 x)) (km (j7 _) (km (j7 _) (km (j7 _) (km (j7 _) a2f))))
theorem Src.up {o:O} {N M:Nat} (P:Src o N) (h:N≤M):Src o M:=by
 obtain ⟨cells,a,l,c,s,e,h1,h2,h3,h4,h5,h6⟩:=P.ex
 exact ⟨cells,a,l,c,s,e,h1,h2,h3,h4,h5,by omega⟩
noncomputable def aa:SF:=ql a1d 4
theorem afr {o:O} {N:Nat} {m:Int} (P:Src o N) (hN:N≤1000000000) (m0:0<m) (m1:m<1073741824):∃ r o',aa [.ref 0, .int m] [o] = .ok (.int r) [o']∧0≤r∧r<m∧Src o' (N+1):=by
 obtain ⟨cells,a,l,c,s,rfl,a0,l0,s0,s1,c0,c1⟩:=P.ex
 unfold aa
 rw [jg]
 unfold a1d a0g
 simp only [List.map_cons,List.map_nil,List.length_cons,List.length_nil,Nat.reduceSub,Nat.reduceAdd,List.replicate,List.cons_append,List.nil_append]
 have k3:(0<m∧m<1073741824)=True:=by simp [m0,m1]
 have k3':(0<m)=True:=by simp [m0]
 have last:∀ s':Int,0≤s'→s'<2147483647→∃ r q,0≤r∧r<m∧(s'+1+(c+1)*7919) ^ (3:Int).toNat % 2147483647=q∧(q*48271+(c+1)) ^ (2:Int).toNat % 2147483629 / 64 % m=r∧CMul (c+1) 7919∧CMul q 48271 ∧
   (∀ h,abl (.int (s'+1+(c+1)*7919)) (.int 3) h = .ok (.int ((s'+1+(c+1)*7919) ^ (3:Int).toNat)) h)∧∀ h,abl (.int (q*48271+(c+1))) (.int 2) h = .ok (.int ((q*48271+(c+1)) ^ (2:Int).toNat)) h:=fun s' h0 h1=>by
  have q0:0≤(s'+1+(c+1)*7919) ^ (3:Int).toNat % 2147483647:=Int.emod_nonneg _ (by decide)
  have q1:(s'+1+(c+1)*7919) ^ (3:Int).toNat % 2147483647<2147483647:=Int.emod_lt_of_pos _ (by decide)
  refine ⟨_,_,Int.emod_nonneg _ (by omega),Int.emod_lt_of_pos _ m0,rfl,rfl, .inr ⟨by decide,by decide⟩, .inr ⟨by decide,by decide⟩,fun h=>aqc ⟨by decide,by decide,by omega⟩,fun h=>aqc ⟨by decide,by decide,?_⟩⟩
  generalize (s'+1+(c+1)*7919) ^ (3:Int).toNat % 2147483647=q at q0 q1
  omega
 by_cases hA:l=0∧a<(cells.length:Int)
 ·obtain ⟨rfl,ha⟩:=hA
  obtain ⟨j,rfl⟩:=Int.eq_ofNat_of_zero_le a0
  have hj:j<cells.length:=by omega
  have hat:atI (cells.map D.int) (j:Int)=some (.int cells[j]):=o9 (by simp [hj])
  have ka:decide ((j:Int)<(cells.length:Int))=true:=decide_eq_true ha
  have cm:CMul s 31:=.inr ⟨by decide,by decide⟩
  have s2:0≤(s*31+cells[j]) % 2147483647:=Int.emod_nonneg _ (by decide)
  have s3:(s*31+cells[j]) % 2147483647<2147483647:=Int.emod_lt_of_pos _ (by decide)
  generalize hs':(s*31+cells[j]) % 2147483647=s' at s2 s3
  generalize hx:cells[j]=x at *
  by_cases hB:(1000000000000000000:Int)≤x
  ·have kb:decide ((1000000000000000000:Int)≤x)=true:=decide_eq_true hB
   have kc:decide (0<x)=true:=decide_eq_true (by omega)
   refine ⟨x % m,_,?_,Int.emod_nonneg _ (by omega),Int.emod_lt_of_pos _ m0,⟨cells,(j:Int)+1,x / m,c+1,s,rfl,by omega,Int.ediv_nonneg (by omega) (by omega),s0,s1,by omega,by omega⟩⟩
   walk_at "ev"
  ·have kb:decide ((1000000000000000000:Int)≤x)=false:=decide_eq_false hB
   obtain ⟨r,q,r0,r1,eq,er,d1,d2,d3,d4⟩:=last s' s2 s3
   refine ⟨r,_,?_,r0,r1,⟨cells,(j:Int)+1,0,c+1,s',rfl,by omega,by omega,s2,s3,by omega,by omega⟩⟩
   walk_at "ev"
 ·by_cases hC:0<l
  ·have kc:decide (0<l)=true:=decide_eq_true hC
   have kd:(l == 0)=false:=by simp;omega
   refine ⟨l % m,_,?_,Int.emod_nonneg _ (by omega),Int.emod_lt_of_pos _ m0,⟨cells,a,l / m,c+1,s,rfl,a0,Int.ediv_nonneg (by omega) (by omega),s0,s1,by omega,by omega⟩⟩
   walk_at "ev"
  ·have:l=0:=by omega
   subst this
   have ka:decide (a<(cells.length:Int))=false:=decide_eq_false fun z=>hA ⟨rfl,z⟩
   obtain ⟨r,q,r0,r1,eq,er,d1,d2,d3,d4⟩:=last s s0 s1
   refine ⟨r,_,?_,r0,r1,⟨cells,a,0,c+1,s,rfl,a0,by omega,s0,s1,by omega,by omega⟩⟩
   walk_at "ev"
theorem v4 {o:O} {N:Nat} {m:Int} (P:Src o N) (hN:N≤1000000000) (m0:0<m) (m1:m<1073741824):∃ r o',Dr aa 2 [.int m] o (.int r) o'∧0≤r∧r<m∧Src o' (N+1):=by
 obtain ⟨r,o',e,r0,r1,P'⟩:=afr P hN m0 m1
 refine ⟨r,o',Dr.of rfl (by simp [j7]) P.clo e (m7 (j7 _) ?_) (j7 _) P'.clo,r0,r1,P'⟩
 intro u hu
 simp at hu
 subst hu
 exact u9 (by omega) P'.clo
end SRC
namespace MI
open PySem PySem.Spec L2
theorem au4 (n:Nat):rng 0 n=(List.range n).map fun i:Nat=>D.int (i:Nat):=by
 unfold rng
 exact List.map_congr_left fun i _=>by rw [Int.zero_add]
theorem au5 (a:Int) (n:Nat):rng a n=(List.range n).map fun i:Nat=>D.int (a+(i:Nat)):=rfl
theorem a92 {n:Nat} (h:n≤LINE):B62 (n:Int):=by
 have:n≤16777216:=h
 unfold B62;omega
theorem aqt {n:Nat} (h:Hd) (z:n≤LINE):vf [.int (n:Nat)] h = .ok ⟨(List.range n).map fun i:Nat=>D.int (i:Nat),fun _=>True⟩ h:=by
 unfold vf
 simp only [a92 z,if_true,Int.toNat_natCast,au4]
theorem aqu {a n:Nat} (h:Hd) (za:a≤LINE) (z:n≤LINE):a4f [.int (a:Nat), .int (n:Nat)] h = .ok ⟨(List.range (n - a)).map fun i:Nat=>D.int ((a+i:Nat)),fun _=>True⟩ h:=by
 unfold a4f
 simp only [a92 z,a92 za,and_self,if_true,au5]
 rw [show ((n:Int) - (a:Int)).toNat=n - a by omega]
 congr 2
theorem au6 {f:SE} {τ:Sd} {h:Hd} {d:D} (e:f τ h = .ok d h):ak f gf τ h = .ok [d] h:=by unfold ak gf;rw [e];rfl
theorem ack {f g:SE} {τ:Sd} {h:Hd} {c d:D} (e:f τ h = .ok c h) (e':g τ h = .ok d h):ak f (ak g gf) τ h = .ok [c,d] h:=by unfold ak;rw [e,bx,e',bx];rfl
theorem a1h {f:SE} {τ:Sd} {h:Hd} {n:Nat} (e:f τ h = .ok (.int (n:Nat)) h) (z:n≤LINE):sRg vf (ak f gf) τ h = .ok ⟨(List.range n).map fun i:Nat=>D.int (i:Nat),fun _=>True⟩ h:=by
 unfold sRg
 rw [au6 e,bx]
 exact aqt h z
theorem a93 {f g:SE} {τ:Sd} {h:Hd} {a n:Nat} (e':g τ h = .ok (.int (a:Nat)) h) (e:f τ h = .ok (.int (n:Nat)) h) (za:a≤LINE) (z:n≤LINE):sRg a4f (ak g (ak f gf)) τ h = .ok ⟨(List.range (n - a)).map fun i:Nat=>D.int ((a+i:Nat)),fun _=>True⟩ h:=by
 unfold sRg
 rw [ack e' e,bx]
 exact aqu h za z
theorem cu {i:Nat} {τ:Sd} {h:Hd} {d:D} (e:τ[i]? = some (some d)):sV i τ h = .ok d h:=by unfold sV;rw [e]
theorem qp {fi:SI} {t:D→Option Sd} {fe:SE} {ix:List Nat} {τ:Sd} {h:Hd} {α:Type} (g F:α→D) (xs:List α) (e:fi τ h = .ok ⟨xs.map g,fun _=>True⟩ h) (z:xs.length≤LINE)
  (st:∀ x∈xs,a5o t fe (frs' ix τ) (g x) h = .ok (F x) h):jn fi t fe ix τ h = .ok (.ref h.length) (h++[.lst (xs.map F)]):=by
 unfold jn
 rw [e,bx]
 dsimp only
 rw [if_pos (by rw [List.length_map];exact z),a7m g F st]
 rfl
theorem yu {fi:SI} {t:D→Option Sd} {c:ST} {fe:SE} {ix:List Nat} {τ:Sd} {h:Hd} {α:Type} (g:α→D) (F:α→Option D) (xs:List α) (e:fi τ h = .ok ⟨xs.map g,fun _=>True⟩ h) (z:xs.length≤LINE)
  (st:∀ x∈xs,a8n t c fe (frs' ix τ) (g x) h = .ok (F x) h):my fi t c fe ix τ h = .ok (.ref h.length) (h++[.lst (xs.filterMap F)]):=by
 unfold my
 rw [e,bx]
 dsimp only
 rw [if_pos (by rw [List.length_map];exact z),a7n g F st]
 rfl
theorem v6 (fe:SE) (r:Sd) (x:D) (h:Hd):a5o t1 fe r x h=fe (some x::r) h:=rfl
theorem a6h (c:ST) (fe:SE) (r:Sd) (x:D) (h:Hd):a8n t1 c fe r x h=(c (some x::r) h).bind fun b h1=>if b=true then (fe (some x::r) h1).bind fun y h2=>.ok (some y) h2 else .ok none h1:=rfl
theorem qz (i:Nat) (ix:List Nat) (τ:Sd):frs' (i::ix) τ=(τ[i]?).join::frs' ix τ:=rfl
theorem a1i (τ:Sd):frs' [] τ=[]:=rfl
end MI
namespace MI
open PySem PySem.Spec L2
section
variable {f k f1 f2 f3:SE} {c c1 c2:ST} {g p q:SS} {τ τ1:Sd} {h h1 h2 h3 h4:Hd} {a b d v:D} {i:Nat} {t u:Bool}
theorem jj (d:D) (τ:Sd) (h:Hd):sC d τ h = .ok d h:=rfl
theorem a06 {G:List D→Hd→R D} (e1:f τ h = .ok a h1) (e3:G [a] h1 = .ok v h2):sA G (ak f gf) τ h = .ok v h2:=by
 have:ak f gf τ h = .ok [a] h1:=by unfold ak;rw [e1];rfl
 unfold sA
 rw [this,bx,e3]
theorem a1z {G:List D→Hd→R D} (e1:f τ h = .ok a h1) (e2:k τ h1 = .ok b h2) (e3:G [a,b] h2 = .ok v h3):sA G (ak f (ak k gf)) τ h = .ok v h3:=by
 have:ak f (ak k gf) τ h = .ok [a,b] h2:=by unfold ak;rw [e1,bx,e2];rfl
 unfold sA
 rw [this,bx,e3]
theorem ash {G:List D→Hd→R D} (e0:f1 τ h = .ok d h1) (e1:f τ h1 = .ok a h2) (e2:k τ h2 = .ok b h3) (e3:G [d,a,b] h3 = .ok v h4):sA G (ak f1 (ak f (ak k gf))) τ h = .ok v h4:=by
 have:ak f1 (ak f (ak k gf)) τ h = .ok [d,a,b] h3:=by unfold ak;rw [e0,bx,e1,bx,e2];rfl
 unfold sA
 rw [this,bx,e3]
theorem jx (e:f τ h = .ok d h1):j5 (jr i f) g τ h=g (τ.set i (some d)) h1:=by
 rw [p6]
 unfold jr
 rw [e]
 rfl
theorem anp (e:f τ h = .ok d h1):jr i f τ h = .nx (τ.set i (some d)) h1:=by
 unfold jr
 rw [e]
 rfl
theorem a2a (e:p τ h = .nx τ1 h1):j5 p g τ h=g τ1 h1:=by rw [p6,e];rfl
theorem amu (e:p τ h = .rt d h1):j5 p g τ h = .rt d h1:=by rw [p6,e];rfl
theorem ifT (e:c τ h = .ok true h1):sIf c p q τ h=p τ h1:=by unfold sIf;rw [e];rfl
theorem ifF (e:c τ h = .ok false h1):sIf c p q τ h=q τ h1:=by unfold sIf;rw [e];rfl
theorem ifN (e:c τ h = .ok false h1):j5 (sIf c p sNx) g τ h=g τ h1:=by rw [p6,ifF e];rfl
theorem tof (e:f τ h = .ok (.bl t) h1):sT f τ h = .ok t h1:=by unfold sT;rw [e];rfl
theorem a7x (e:f τ h = .ok d h1) (e':tru d h1 = .ok t h2):a75 f τ h = .ok t h2:=by unfold a75;rw [e,bx,e']
theorem aqv (e:c1 τ h = .ok true h1) (e':c2 τ h1 = .ok t h2):a8a c1 c2 τ h = .ok t h2:=by unfold a8a;rw [e,bx,if_pos rfl,e']
theorem au7 (e:c1 τ h = .ok false h1):a8a c1 c2 τ h = .ok false h1:=by unfold a8a;rw [e,bx,if_neg (by simp)]
theorem orT (e:c1 τ h = .ok true h1):sOr c1 c2 τ h = .ok true h1:=by unfold sOr;rw [e,bx,if_pos rfl]
theorem orF (e:c1 τ h = .ok false h1) (e':c2 τ h1 = .ok t h2):sOr c1 c2 τ h = .ok t h2:=by unfold sOr;rw [e,bx,if_neg (by simp),e']
theorem amv (e:c τ h = .ok t h1):acq c τ h = .ok (!t) h1:=by unfold acq;rw [e];rfl
theorem avb (e:c τ h = .ok true h1):acq c τ h = .ok false h1:=amv e
theorem a05 (e:f τ h = .ok d h1):xn f τ h = .rt d h1:=by unfold xn;rw [e];rfl
theorem aqw (e:f τ h = .ok (.bl true) h1) (e':k τ h1 = .ok d h2):a5n f k τ h = .ok d h2:=by unfold a5n;rw [e,bx];exact e'
theorem a4v {G:D→List D→Hd→R D} {A:SA} {ds:List D} (e1:f τ h = .ok d h1) (l:isL d h1=true) (e2:A τ h1 = .ok ds h2) (e3:G d ds h2 = .ok v h3):a00 (sML G f A) τ h = .nx τ h3:=by
 unfold a00 sML
 rw [e1,bx,if_pos l,e2,bx,e3]
 rfl
theorem au8 {G:D→List D→Hd→R D} {A:SA} {ds:List D} (e1:f τ h = .ok d h1) (l:isL d h1=true) (e2:A τ h1 = .ok ds h2) (e3:G d ds h2 = .ok v h3):sML G f A τ h = .ok v h3:=by
 unfold sML
 rw [e1,bx,if_pos l,e2,bx,e3]
theorem arg1 (e:f τ h = .ok d h1):ak f gf τ h = .ok [d] h1:=by unfold ak gf;rw [e];rfl
theorem j8 {G:D→D→Hd→R D} (e1:f τ h = .ok a h1) (e2:k τ h1 = .ok b h2) (e3:G a b h2 = .ok v h3):s2 G f k τ h = .ok v h3:=by
 unfold s2
 rw [e1,bx,e2,bx,e3]
theorem anq {G:D→Hd→R D} (e1:f τ h = .ok a h1) (e3:G a h1 = .ok v h2):s1 G f τ h = .ok v h2:=by
 unfold s1
 rw [e1,bx,e3]
theorem aqx {G:D→D→Hd→R D} (ht:τ[i]? = some (some a)) (e:f τ h = .ok b h1) (e2:G a b h1 = .ok d h2):acr i G f τ h = .nx (τ.set i (some d)) h2:=by
 unfold acr
 rw [ht]
 dsimp only
 rw [e,a03,e2]
 rfl
theorem aig {G:SG} (e:f τ h = .ok d h1) (e2:G d τ h1 = .nx τ1 h2):a9w f G τ h = .nx τ1 h2:=by
 unfold a9w
 rw [e,a03,e2]
theorem au9 (e1:f1 τ h = .ok v h1) (e2:f2 τ h1 = .ok a h2) (e3:f3 τ h2 = .ok b h3) (e4:put a b v h3=some h4):agg f1 f2 f3 τ h = .nx τ h4:=by
 unfold agg
 rw [e1,a03,e2,a03,e3,a03,e4]
theorem aqy (e1:f1 τ h = .ok v h1) (e2:f2 τ h1 = .ok a h2) (e3:f3 τ h2 = .ok b h3) (e4:anm a b v h3=some h4):a5x f1 f2 f3 τ h = .nx τ h4:=by
 unfold a5x
 rw [e1,a03,e2,a03,e3,a03,e4]
theorem a6i {fi:SI} {G:SG} {b:SS} {xs:List D} {ck:Hd→Prop} (e:fi τ h = .ok ⟨xs,ck⟩ h1):j5 (a4d fi G b) g τ h=thn (forL ck G b xs τ h1) g:=by
 rw [p6]
 unfold a4d
 rw [e]
 rfl
theorem a7y {xs:List D} {ck:Hd→Prop} (e:f τ h = .ok d h1) (e2:aj8 d h1 = .ok ⟨xs,ck⟩ h1):sIt f τ h = .ok ⟨xs,ck⟩ h1:=by
 unfold sIt
 rw [e,bx,e2]
theorem a4w {xs:List D} (e:h[i]? = some (.lst xs)) (z:xs.length<LINE):a8c (.ref i) [a] h = .ok .non (h.set i (.lst (xs++[a]))):=by
 unfold a8c
 simp only [e,if_pos z]
theorem aua {xs:List D} {j:Nat} (e:h[i]? = some (.lst xs)) (hj:j<xs.length):put (.ref i) (.int (j:Nat)) v h=some (h.set i (.lst (xs.set j v))):=by
 have:ixN xs.length (j:Int)=some j:=by unfold ixN;rw [if_pos (by omega),if_pos (by omega)];simp
 unfold put
 simp only [e,this]
theorem aaq {xs:List D} {j:Nat} {y:D} (e:h[i]? = some (.lst xs)) (hj:xs[j]? = some y):gIx (.ref i) (.int (j:Nat)) h = .ok y h:=by
 rw [a7w]
 unfold yx
 simp only [e,o9 hj]
theorem aqz {xs:List D} {j:Nat} {y:D} (hj:xs[j]? = some y):gIx (.rol xs) (.int (j:Nat)) h = .ok y h:=by
 rw [a7v]
 simp only [o9 hj]
theorem ajt {xs:List D} {j:Nat} {y:D} (hj:xs[j]? = some y):gIx (.tup xs) (.int (j:Nat)) h = .ok y h:=by
 rw [a2r]
 simp only [o9 hj]
theorem a94 {xs:List D} (e:h[i]? = some (.lst xs)):xx [.ref i] h = .ok (.int (xs.length:Nat)) h:=by
 rw [a3x]
 unfold yx
 simp only [e]
theorem aju {x y:Int} (c:0<y):a6q (.int x) (.int y) h = .ok (.int (x % y)) h:=by unfold a6q;exact if_pos c
theorem awm {x y:Int} (c:y<x):gGt (.int x) (.int y) h = .ok (.bl true) h:=by unfold gGt;simp only [c,decide_true]
theorem awn {x y:Int} (c:¬ y<x):gGt (.int x) (.int y) h = .ok (.bl false) h:=by unfold gGt;simp only [c,decide_false]
theorem ar0 {x y:Int} (c:x<y):gLt (.int x) (.int y) h = .ok (.bl true) h:=by unfold gLt;simp only [c,decide_true]
theorem asi {x y:Int} (c:¬ x<y):gLt (.int x) (.int y) h = .ok (.bl false) h:=by unfold gLt;simp only [c,decide_false]
theorem acl {x y:Int} (c:x=y):hEq (.int x) (.int y) h = .ok (.bl true) h:=by rw [aci,c,beq_self_eq_true]
theorem aih {x y:Int} (c:¬ x=y):hEq (.int x) (.int y) h = .ok (.bl false) h:=by rw [aci,beq_eq_false_iff_ne.mpr c]
theorem ar3 {x y:Int} (c:x=y):hNe (.int x) (.int y) h = .ok (.bl false) h:=by rw [acj,c,beq_self_eq_true];rfl
theorem ar4 {x y:Int} (c:¬ x=y):hNe (.int x) (.int y) h = .ok (.bl true) h:=by rw [acj,beq_eq_false_iff_ne.mpr c];rfl
theorem acn (x:Int):aa0 (.int x) h = .ok (.int (-x)) h:=rfl
theorem afs (x y:Int):MI.ab2 (.int x) (.int y) h = .ok (.int (x - y)) h:=rfl
theorem jb {n:Nat} (h:n≤1000000):n≤LINE:=by show n≤16777216;omega
theorem a4a {n:Nat} (h:n≤1000000):n<LINE:=by show n<16777216;omega
theorem aub:MI.a4h [a,b] h = .ok (.tup [a,b]) h:=by unfold MI.a4h;rw [if_pos (jb (by simp))]
theorem awo:MI.a4h [a,b,v] h = .ok (.tup [a,b,v]) h:=by unfold MI.a4h;rw [if_pos (jb (by simp))]
end
end MI
namespace EVX
open PySem PySem.Spec L2 MI
section
variable {i:Nat} {cs:Str→Bool} {fb fs p g:SS} {τ τ1 τ2:Sd} {h h1 h2:Hd} {c:Str} {f:SE} {ka:SA} {ds:List D} {F:SF} {n:Nat}
theorem ar5 {b:Bool} (e:f τ h = .ok (.bl b) h1):a77 f τ h = .ok (.bl (!b)) h1:=by unfold a77;rw [e];rfl
theorem a7z {d:D} (e:f τ h = .ok d h1) (e2:ka τ h1 = .ok ds h2):ak f ka τ h = .ok (d::ds) h2:=by
 unfold ak
 rw [e,bx,e2]
 rfl
end
end EVX
namespace SRC
open PySem PySem.Spec L2 MI AT HND EVX
local macro_rules | `(tactic| walk_at "ev") => `(tactic| simp only [p6,yo,a7j,a7k,aac,jr,acr,a7g,sIf,xn,a00,agg,put,a5x,a9w,a6p,jw,a78,kN,sV,sC,s2,s1,sA,ak,gf,sNx,sT,asB,a75,a0o,a6d,a3z,a6e,a6f,a8a,sOr,acq,a5n,as5,a77,sCh,a9s,bx,a03,MI.a2r,MI.a7v,MI.a7w,alv,yx,gLt,gGt,gGe,gLe,aci,acj,aid,aie,aap,yt,aif,a2k,as9,asa,asb,asd,yr,MI.ab2,a6q,agi,a3y,AT.af1,AT.p18,a1f,a3w,a3x,alg,a1g,aa0,a7b,ah6,MI.a4h,MI.a8b,sML,isL,a8c,oN,oS,agj,vm,sIt,aj8,sRg,a4d,vf,a4f,aq6,a7i,aev,ajj,apx,srcOf,  List.length_map,List.length_cons,List.length_nil,List.length_append,List.getElem?_cons_zero,List.getElem?_cons_succ,List.set_cons_zero,List.set_cons_succ,List.nil_append,List.cons_append,AT.ahs,AT.aht,AT.ahu,AT.ahv,AT.ahw,AT.ahx,AT.ahy,AT.ahz,AT.x10,AT.x20,AT.x21,AT.x30,AT.x31,AT.x32,AT.x40,AT.x41,AT.x42,AT.x43,AT.x50,AT.x51,AT.x52,AT.x53,AT.x54,AT.x60,AT.x61,AT.x62,AT.x63,AT.x64,AT.x65,AT.x70,AT.x71,AT.x72,AT.x73,AT.x74,AT.x75,AT.x76,decide_true,decide_false,reduceIte,Bool.true_and,Bool.and_self,Bool.not_true,Bool.not_false,and_self,true_and,and_true,beq_self_eq_true,Nat.reduceAdd,Nat.reduceLeDiff,Nat.reduceLT,Nat.reducePow,Int.reduceLT,Int.reduceLE,Int.reduceNeg,Int.reduceEq,Int.reduceBEq,Bool.false_eq_true,Bool.true_eq_false,ite_true,ite_false,if_true,if_false, *])
noncomputable def bz:SF:=ql uo 2
theorem ints_map:∀ l:List Int,a3i (l.map D.int)=some l
 | []=>rfl
 | a::l=>by rw [List.map_cons];simp only [a3i,ints_map l,Option.map_some]
theorem awp {g:List D→Hd→R D} {k:SA} {τ:Sd} {h h1 h2:Hd} {ds:List D} {d:D} (e:k τ h = .ok ds h1) (eg:g ds h1 = .ok d h2):sA g k τ h = .ok d h2:=by
 unfold sA
 rw [e,bx,eg]
def cell (x:Int):Int:=2*auw x+(if decide (x<0)=true then 1 else 0)
theorem aft (ns:List Int) (h:Hd):∃ o,Src o 0∧o8 true 1 bz [.scr (ns.map D.int)] h = .ok (.ref h.length) (h++[o]):=by
 have cl:clos 0 ((ns.take 63).map D.int):=ik fun x _=>j7 x
 have z1:sZ (agj (sV 0) oN (oS (sC (.int 63)))) [some (.scr (ns.map D.int)),none] [] = .ok (.rol ((ns.take 63).map D.int)) []:=by
  refine xu (by
   show gSl (.scr (ns.map D.int)) none (some ((63:Nat):Int)) []=_
   unfold gSl
   simp only [adp,List.map_take]) cl (by simp)
 have z2:sZ (jn (sIt (sZ (agj (sV 0) oN (oS (sC (.int 63)))))) t1 uc []) [some (.scr (ns.map D.int)),none] [] = .ok (.rol ((ns.take 63).map fun x=>D.int (cell x))) []:=by
  refine xu (qp D.int (fun x=>D.int (cell x)) (ns.take 63) (a7y z1 rfl) (jb (by simp;omega)) fun x _=>?_) (ik fun x _=>j7 _) (by simp)
  rw [v6]
  unfold uc
  exact j8 (j8 (jj _ _ _) (a06 (cu rfl) (af1 _ _)) (a3y.trans (if_pos (.inl ⟨by decide,by decide⟩)))) (a06 (j8 (cu rfl) (jj _ _ _) rfl) rfl) yr
 have em:((ns.take 63).map fun x=>D.int (cell x))=((ns.take 63).map cell).map D.int:=by rw [List.map_map];rfl
 rw [em] at z2
 generalize (ns.take 63).map cell=cs at z2
 have e:bz [.scr (ns.map D.int)] [] = .ok (.ref 0) [.lst [.rol (cs.map D.int), .int 0, .int 0, .int 0, .int (cs.sum % 2147483647)]]:=by
  unfold bz
  rw [jg]
  show toR (uo [some (.scr (ns.map D.int)),none] [])=_
  unfold uo
  refine Eq.trans (congrArg toR (jx z2)) ?_
  have su:apr [.rol (cs.map D.int)] [] = .ok (.int cs.sum) []:=by unfold apr;simp only [ints_map]
  exact congrArg toR (a05 (awp (a7z (cu rfl) (a7z (jj _ _ _) (a7z (jj _ _ _) (a7z (jj _ _ _) (a7z (j8 (a06 (cu rfl) su) (jj _ _ _) (aju (by decide))) rfl))))) rfl))
 have P:Src (.lst [.rol (cs.map D.int), .int 0, .int 0, .int 0, .int (cs.sum % 2147483647)]) 0:=⟨cs,0,0,0,_,rfl,by decide,by decide,Int.emod_nonneg _ (by decide),Int.emod_lt_of_pos _ (by decide),by decide,by decide⟩
 exact ⟨_,P,aq8 rfl (by simpa [MI.clo] using (ik fun x _=>j7 x:clos 0 (ns.map D.int))) e rfl P.clo h⟩
noncomputable def j4:SF:=ql ud 1
theorem a6g:Pu j4 0 [] (.str (S sig)):=HND.a6g
noncomputable def cj:SF:=ql (yp aa j4) 5
theorem ar6 {a b:List Nat} {h:Hd} (l:a.length+b.length≤LINE):a0x (.str (S a)) (.str (S b)) h = .ok (.str (S (a++b))) h:=by
 have:=aic (h:=h) l
 simpa [a0x,jk,aw2] using this
theorem afu {o:O} {N:Nat} (P:Src o N) (hN:N≤999999000):∃ l o',Tongue l∧Dr cj 1 [] o (.str (S l)) o'∧Src o' (N+7):=by
 obtain ⟨r0,o1,e1,r0a,r0b,P1⟩:=v4 (m:=6) P (by omega) (by decide) (by decide)
 have lo:=n6 (g:=kN 3) (b:=n8 aa j4) (fun i:Nat=>D.int (0+(i:Nat)))
  (fun pre τ h=>∃ (rest told:List Nat) (u:O) (t3 t4:Option D),τ=[some (.ref 0),some (.str (S rest)),some (.str (S told)),t3,t4]∧h=[u]∧Src u (N+1+pre.length)∧told.length=pre.length∧(told++rest).length=95∧(told++rest).Nodup∧∀ c∈told++rest,c∈sig)
  (List.range (1+r0).toNat) [some (.ref 0),some (.str (S sig)),some (.str (S [])),none,none] [o1] ?_
  ⟨sig,[],o1,none,none,rfl,rfl,P1,rfl,by simp [amt],by simpa using aqs,by simp⟩
 ·obtain ⟨τ',h',e2,rest,told,u,t3,t4,rfl,rfl,P2,l1,l2,nd,sb⟩:=lo
  rw [List.length_range] at P2 l1
  have T:Tongue told:=⟨by omega,by omega,(List.nodup_append.mp nd).1,fun c hc=>sb c (List.mem_append_left _ hc)⟩
  refine ⟨told,u,T,Dr.of rfl (by simp) P.clo (r:=.ok (.str (S told)) [u]) ?_ (m7 (a04 _) (by simpa using u9 (by omega) P2.clo)) (a04 _) P2.clo,P2.up (by omega)⟩
  unfold cj
  rw [jg]
  unfold yp a0g
  simp only [List.map_cons,List.map_nil,List.length_cons,List.length_nil,Nat.reduceSub,Nat.reduceAdd,List.replicate,List.cons_append,List.nil_append]
  have c1:=a6g [o]
  have c2:=e1 0 [o] rfl
  have em:("" : Str)=S []:=rfl
  have bd:B62 (1+r0):=by unfold B62;omega
  have e2:forL (fun _=>True) (kN 3) (n8 aa j4) (rng 0 (1+r0).toNat) [some (D.ref 0),some (D.str (S sig)),some (D.str (S [])),none,none] [o1]=_:=e2
  walk_at "ev"
 ·rintro pre i post τ h all ⟨rest,told,u,t3,t4,rfl,rfl,P2,l1,l2,nd,sb⟩
  have hlen:pre.length<(1+r0).toNat:=by
   have:=congrArg List.length all
   simp at this;omega
  rw [List.length_append] at l2
  obtain ⟨r,u',e2,ra,rb,P3⟩:=v4 (m:=(rest.length:Nat)) P2 (by omega) (by omega) (by omega)
  obtain ⟨j,rfl⟩:=Int.eq_ofNat_of_zero_le ra
  have hj:j<rest.length:=by omega
  have gx:rest[j]? = some rest[j]:=List.getElem?_eq_getElem hj
  have pp:=afq told rest j rest[j] gx
  refine ⟨_,_,rfl,_,_,?_,rest.take j++rest.drop (j+1),told++[rest[j]],u',some (.int (0+(i:Nat))),some (.int (j:Nat)),rfl,rfl,by simpa [Nat.add_assoc] using P3,by simp [l1],?_,pp.nodup_iff.mp nd,fun c hc=>sb c (pp.mem_iff.mpr hc)⟩
  ·unfold n8
   have L:∀ n:Nat,n≤95→n≤LINE:=fun n hn=>by show n≤16777216;omega
   have c2:=e2 0 [u] rfl
   have x1:∀ h,gIx (.str (S rest)) (.int (j:Nat)) h = .ok (.str (S [rest[j]])) h:=fun h=>awk (L _ (by omega)) gx
   have x2:∀ h,xx [.str (S rest)] h = .ok (.int rest.length) h:=fun h=>au3 (L _ (by omega))
   have x3:∀ h,a0x (.str (S told)) (.str (S [rest[j]])) h = .ok (.str (S (told++[rest[j]]))) h:=fun h=>ar6 (L _ (by simp;omega))
   have x4:∀ h,ajm (.str (S rest)) none (some (j:Int)) h = .ok (.str (S (rest.take j))) h:=fun h=>awl j (L _ (by omega))
   have x5:∀ h,ajm (.str (S rest)) (some ((j:Int)+1)) none h = .ok (.str (S (rest.drop (j+1)))) h:=fun h=>aqr (j+1) (L _ (by omega))
   have x6:∀ h,jk (.str (S (rest.take j))) (.str (S (rest.drop (j+1)))) h = .ok (.str (S (rest.take j++rest.drop (j+1)))) h:=fun h=>aic (L _ (by simp;omega))
   clear all hlen
   walk_at "ev"
  ·rw [← pp.length_eq];simpa using l2
end SRC
namespace HND
open PySem PySem.Spec L2 MI AT
end HND
namespace HND
open PySem PySem.Spec L2 MI AT
theorem vp {k i:Nat} {pre post:List Nat} (h:List.range k=pre++i::post):i=pre.length∧i<k:=by
 have h1:=congrArg (fun l=>l[pre.length]?) h
 have h2:=congrArg List.length h
 simp at h1 h2
 have:pre.length<k:=by omega
 rw [List.getElem?_range this] at h1
 simp at h1
 omega
end HND
namespace HND
open PySem PySem.Spec L2 MI AT
end HND
namespace HND
open PySem PySem.Spec L2 MI AT
end HND
namespace HND
open PySem PySem.Spec L2 MI AT
abbrev KOk (k:Int):Prop := -1≤k∧k≤5
end HND
namespace HND
open PySem PySem.Spec L2 MI AT
abbrev bc (i:Nat):D:=.int (i:Nat)
theorem gq {k:Nat} (l:List Nat):clos k (l.map bc):=ik fun x _=>j7 _
end HND
namespace HND
open PySem PySem.Spec L2 MI AT
theorem all_map {α:Type} (f:α→D) (P:α→Prop):∀ (l:List D),(∀ x∈l,∃ r,P r∧x=f r)→∃ G:List α,l=G.map f∧∀ r∈G,P r
 | [],_=>⟨[],rfl,by simp⟩
 | x::l,h=>by
  obtain ⟨r,pr,rfl⟩:=h _ List.mem_cons_self
  obtain ⟨G,rfl,pG⟩:=all_map f P l fun y hy=>h y (List.mem_cons_of_mem _ hy)
  exact ⟨r::G,rfl,fun q hq=>by
   rcases List.mem_cons.mp hq with rfl | h
   ·exact pr
   ·exact pG q h⟩
abbrev a4e (r:List Nat):D:=.tup (r.map bc)
abbrev afv (s n:Nat) (r:List Nat):Prop:=r.length=s∧∀ x∈r,x<n
structure Table where
 tg:List Nat
 go:List (List Nat)
 ks:List Int
def Table.d (T:Table):D:=.tup [.str (S T.tg), .tup (T.go.map a4e), .tup (T.ks.map D.int)]
structure Table.Ok (T:Table):Prop where
 tong:Tongue T.tg
 n1:1≤T.go.length
 n32:T.go.length≤32
 row:∀ r∈T.go,afv T.tg.length T.go.length r
 kl:T.ks.length=T.go.length
 k0:T.ks[0]? = some (-1)
 kk:∀ k∈T.ks,KOk k
theorem Table.clo {T:Table}:clo 0 T.d:=u5 (km (a04 _) (km (u5 (ik fun x _=>u5 (gq _))) (km (u5 (ik fun x _=>j7 x)) a2f)))
end HND
namespace MI
open PySem PySem.Spec L2
end MI
namespace PAP
open PySem PySem.Spec L2 MI AT HND
theorem awq (l:List Nat) (h:Hd):aj8 (.str (S l)) h = .ok ⟨l.map fun c=>.str (S [c]),fun _=>True⟩ h:=by
 show R.ok (⟨v7 (S l),fun _=>True⟩:Itm) _=_
 unfold v7
 rw [afo]
theorem ar7 {f:SE} {τ:Sd} {h h':Hd} {xs:List D} (hl:h'.length=h.length) (e:f τ h = .ok (.ref h'.length) (h'++[.lst xs])) (cx:clos h.length xs) (c:∀ o∈h',a1y h.length o):sZ f τ h = .ok (.rol xs) h':=by
 unfold sZ
 rw [e,a2g (by omega) (by simp) cx (by rw [← hl];simpa [hl] using c)]
 rw [← hl]
 simp
end PAP
namespace SRC
open PySem PySem.Spec L2 MI AT HND EVX
theorem avc {x y:Int} {h:Hd} (c:x≤y):gLe (.int x) (.int y) h = .ok (.bl true) h:=by
 show R.ok (D.bl (decide (x≤y))) h=_
 rw [decide_eq_true c]
theorem avd {x y:Int} {h:Hd} (c:¬ x≤y):gLe (.int x) (.int y) h = .ok (.bl false) h:=by
 show R.ok (D.bl (decide (x≤y))) h=_
 rw [decide_eq_false c]
theorem asj {c:ST} {f g:SE} {τ:Sd} {h h1:Hd} {r:R D} (e1:c τ h = .ok true h1) (e2:f τ h1=r):a9s c f g τ h=r:=by unfold a9s;rw [e1,bx,if_pos rfl];exact e2
theorem ar8 {c:ST} {f g:SE} {τ:Sd} {h h1:Hd} {r:R D} (e1:c τ h = .ok false h1) (e2:g τ h1=r):a9s c f g τ h=r:=by unfold a9s;rw [e1,bx,if_neg (by simp)];exact e2
noncomputable def dh:SF:=ql (wg aa) 8
abbrev a4g (r:List Nat):D:=.rol (r.map bc)
theorem aco {o:O} {N:Nat} {ks:List Int} {t n:D} {x y:Option D} (P:Src o N) (hN:N≤999999000) (l:ks.length≤100) :
  ∃ (u:O) (k:Int),p7 aa [some (.ref 0),some t,some n,some (.ref 1),x,y,none,none] [o, .lst (ks.map D.int)] = .nx [some (.ref 0),some t,some n,some (.ref 1),x,y,none,none] [u, .lst ((ks++[k]).map D.int)]∧Src u (N+2)∧KOk k:=by
 obtain ⟨a,o1,e1,a0,a1,P1⟩:=v4 (m:=5) P (by omega) (by omega) (by omega)
 obtain ⟨b,o2,e2,b0,b1,P2⟩:=v4 (m:=6) P1 (by omega) (by omega) (by omega)
 have c1:o8 false 2 aa [.ref 0, .int 5] [o, .lst (ks.map D.int)] = .ok (.int a) [o1, .lst (ks.map D.int)]:=e1 0 _ rfl
 have c2:o8 false 2 aa [.ref 0, .int 6] [o1, .lst (ks.map D.int)] = .ok (.int b) [o2, .lst (ks.map D.int)]:=e2 0 _ rfl
 unfold p7
 by_cases ha:a<2
 ·refine ⟨o2,b,?_,P2,by omega⟩
  rw [List.map_append]
  exact a4v (cu rfl) rfl (arg1 (asj (tof (j8 (a1z (cu rfl) (jj _ _ _) c1) (jj _ _ _) (ar0 ha))) (a1z (cu rfl) (jj _ _ _) c2))) (a4w (xs:=ks.map D.int) rfl (by rw [List.length_map];exact a4a (by omega)))
 ·refine ⟨o1, -1,?_,P1.up (by omega),by decide⟩
  rw [List.map_append]
  exact a4v (cu rfl) rfl (arg1 (ar8 (tof (j8 (a1z (cu rfl) (jj _ _ _) c1) (jj _ _ _) (asi ha))) (anq (jj _ _ _) (acn _)))) (a4w (xs:=ks.map D.int) rfl (by rw [List.length_map];exact a4a (by omega)))
abbrev HR (u:O) (ks:List Int) (rows:List (List Nat)):Hd:=[u, .lst (ks.map D.int), .lst (rows.map a4g)]
abbrev τR (tg:List Nat) (n:Nat) (i m:Option D) (r:Option D):Sd:=[some (.ref 0),some (.str (S tg)),some (bc n),some (.ref 1),i,m,some (.ref 2),r]
theorem ajv {u:O} {N:Nat} {ks:List Int} {rows:List (List Nat)} (P:Src u N) (k:Nat):∀ o∈HR u ks rows,a1y k o:=by
 intro o ho
 simp only [List.mem_cons,List.not_mem_nil,or_false] at ho
 rcases ho with rfl | rfl | rfl
 ·exact u9 (Nat.zero_le _) P.clo
 ·exact u9 (Nat.zero_le _) (ik fun x _=>j7 x)
 ·exact u9 (Nat.zero_le _) (ik fun x _=>u6 (gq _))
theorem afw {u:O} {N n:Nat} {tg:List Nat} {ks:List Int} {rows:List (List Nat)} {i m r:Option D} (P:Src u N) (hN:N≤999999000) (t6:tg.length≤6) (n1:1≤n) (n32:n≤32) :
  ∃ (u':O) (row:List Nat),afv tg.length n row∧Src u' (N+6)∧sZ (jn (sIt (sV 1)) t1 (ph aa) [0,2]) (τR tg n i m r) (HR u ks rows) = .ok (a4g row) (HR u' ks rows):=by
 have mp:=aae (f:=a5o t1 (ph aa) (frs' [0,2] (τR tg n i m r))) (fun c:Nat=>D.str (S [c]))
  (fun pre ys h=>∃ (u':O) (row:List Nat),h=HR u' ks rows∧Src u' (N+pre.length)∧ys=row.map bc∧row.length=pre.length∧∀ x∈row,x<n)
  tg [] [] (HR u ks rows) ?_ ⟨u,[],rfl,P,rfl,rfl,by simp⟩
 ·obtain ⟨zs,h',em,u',row,rfl,P',ez,rl,rx⟩:=mp
  rw [List.nil_append] at ez rl P'
  subst ez
  refine ⟨u',row,⟨rl,rx⟩,P'.up (by omega),?_⟩
  refine PAP.ar7 rfl ?_ (gq _) (ajv P' _)
  unfold jn
  rw [a7y (cu rfl) (PAP.awq tg _),bx]
  dsimp only
  rw [if_pos (by rw [List.length_map];exact jb (by omega)),em]
  rfl
 ·rintro pre c post ys h all ⟨u',row,rfl,P',rfl,rl,rx⟩
  rw [List.nil_append] at all
  have pl:pre.length<tg.length:=by rw [all];simp
  obtain ⟨x,u2,e,x0,x1,P2⟩:=v4 (m:=(n:Nat)) P' (by omega) (by omega) (by omega)
  obtain ⟨j,rfl⟩:=Int.eq_ofNat_of_zero_le x0
  have c1:o8 false 2 aa [.ref 0,bc n] (HR u' ks rows) = .ok (bc j) (HR u2 ks rows):=e 0 _ rfl
  refine ⟨bc j,HR u2 ks rows,?_,u2,row++[j],rfl,P2.up (by rw [List.length_append,List.length_singleton];omega),by rw [List.map_append];rfl,by rw [List.length_append,List.length_append,List.length_singleton,List.length_singleton,rl],fun y hy=>?_⟩
  ·rw [v6]
   unfold ph
   exact a1z (cu rfl) (cu rfl) c1
  ·rcases List.mem_append.mp hy with z | z
   ·exact rx y z
   ·rw [List.mem_singleton] at z;subst z;omega
theorem afx {u:O} {N n:Nat} {tg:List Nat} {ks:List Int} {rows:List (List Nat)} {i m:Option D} {row:List Nat} {fe:SE} {ix:List Nat} {f:Nat→Nat} (P:Src u N) (rl:row.length≤100) (fx:∀ x,x∈row→fe (some (bc x)::frs' ix (τR tg n i m (some (a4g row)))) (HR u ks rows) = .ok (bc (f x)) (HR u ks rows)) :
  sZ (jn (sIt (sV 7)) t1 fe ix) (τR tg n i m (some (a4g row))) (HR u ks rows) = .ok (a4g (row.map f)) (HR u ks rows):=by
 unfold a4g
 rw [List.map_map]
 refine xu (qp bc (bc ∘ f) row (a7y (cu rfl) rfl) (jb (by omega)) fun x hx=>?_) (ik fun y _=>j7 _) (ajv P _)
 rw [v6]
 exact fx x hx
theorem acp {u:O} {N n i:Nat} {tg:List Nat} {ks:List Int} {rows:List (List Nat)} {m:Int} {r:Option D} (P:Src u N) (hN:N≤999999000) (t6:tg.length≤6) (n1:1≤n) (n32:n≤32) (lk:ks.length=n) (hi:i<n) (lr:rows.length≤100) :
  ∃ (u':O) (row:List Nat) (r':Option D),afv tg.length n row∧Src u' (N+6)∧pq aa (τR tg n (some (bc i)) (some (.int m)) r) (HR u ks rows) = .nx (τR tg n (some (bc i)) (some (.int m)) r') (HR u' ks (rows++[row])):=by
 obtain ⟨u',row,⟨l1,x1⟩,P',e1⟩:=afw (i:=some (bc i)) (m:=some (.int m)) (r:=r) (ks:=ks) (rows:=rows) P hN t6 n1 n32
 have fin:∀ row:List Nat,a00 (sML a8c (sV 6) (ak (sV 7) gf)) (τR tg n (some (bc i)) (some (.int m)) (some (a4g row))) (HR u' ks rows) = .nx (τR tg n (some (bc i)) (some (.int m)) (some (a4g row))) (HR u' ks (rows++[row])):=fun row=>by
  unfold HR
  rw [List.map_append]
  exact a4v (cu rfl) rfl (arg1 (cu rfl)) (a4w (xs:=rows.map a4g) rfl (by rw [List.length_map];exact a4a (by omega)))
 have third:∀ row:List Nat,afv tg.length n row→∃ row',afv tg.length n row'∧j5 (sIf (a8a (sT (s2 hEq (sV 5) (sC (.int 1)))) (sT (s2 hEq (sV 4) (s2 ab2 (sV 2) (sC (.int 1))))))
   (jr 7 (sZ (jn (sIt (sV 7)) t1 (ut aa) [4]))) sNx) (a00 (sML a8c (sV 6) (ak (sV 7) gf))) (τR tg n (some (bc i)) (some (.int m)) (some (a4g row))) (HR u' ks rows) = .nx (τR tg n (some (bc i)) (some (.int m)) (some (a4g row'))) (HR u' ks (rows++[row'])):=fun row ⟨l2,x2⟩=>by
  by_cases h1:m=1
  ·by_cases h2:(i:Int)=(n:Int) - 1
   ·refine ⟨row.map fun _=>i,⟨by rw [List.length_map,l2],fun x hx=>by obtain ⟨_,_,rfl⟩:=List.mem_map.mp hx;exact hi⟩,?_⟩
    refine Eq.trans (a2a (Eq.trans (ifT (aqv (tof (j8 (cu rfl) (jj _ _ _) (acl h1))) (tof (j8 (cu rfl) (j8 (cu rfl) (jj _ _ _) (afs _ _)) (acl h2))))) (anp (afx (f:=fun _=>i) P' (by omega) fun x _=>by unfold ut;exact cu rfl)))) ?_
    exact fin _
   ·refine ⟨row,⟨l2,x2⟩,?_⟩
    refine Eq.trans (ifN (aqv (tof (j8 (cu rfl) (jj _ _ _) (acl h1))) (tof (j8 (cu rfl) (j8 (cu rfl) (jj _ _ _) (afs _ _)) (aih h2))))) ?_
    exact fin _
  ·refine ⟨row,⟨l2,x2⟩,?_⟩
   refine Eq.trans (ifN (au7 (tof (j8 (cu rfl) (jj _ _ _) (aih h1))))) ?_
   exact fin _
 unfold pq
 by_cases h0:0<m
 ·let g:Nat→Nat:=fun x=>if (ks[x]?).getD 0<0∧x≤i then n - 1 else x
  have gl:afv tg.length n (row.map g):=⟨by rw [List.length_map,l1],fun x hx=>by
   obtain ⟨y,hy,rfl⟩:=List.mem_map.mp hx
   have:=x1 y hy
   show (if _ then n - 1 else y)<n
   split
   ·exact Nat.sub_lt (by omega) (by decide)
   ·exact this⟩
  obtain ⟨row',q,e3⟩:=third _ gl
  refine ⟨u',row',some (a4g row'),q,P',?_⟩
  refine Eq.trans (jx e1) ?_
  refine Eq.trans (a2a (Eq.trans (ifT (tof (j8 (cu rfl) (jj _ _ _) (awm h0)))) (anp (afx (f:=g) P' (by omega) fun x hx=>?_)))) ?_
  ·unfold zq
   have hx':=x1 x hx
   have kx:ks[x]? = some ((ks[x]?).getD 0):=by rw [List.getElem?_eq_getElem (by omega)];rfl
   have ki:∀ h:Hd,h[1]? = some (.lst (ks.map D.int))→gIx (.ref 1) (bc x) h = .ok (.int ((ks[x]?).getD 0)) h:=fun h hh=>aaq hh (by rw [List.getElem?_map,kx];rfl)
   have sb:s2 ab2 (sV 1) (sC (.int 1)) (some (bc x)::frs' [2,3,4] (τR tg n (some (bc i)) (some (.int m)) (some (a4g row)))) (HR u' ks rows) = .ok (bc (n - 1)) (HR u' ks rows) :=
    (j8 (cu rfl) (jj _ _ _) (afs _ _)).trans (by show R.ok (D.int ((n:Int) - 1)) _=R.ok (D.int ((n - 1:Nat):Int)) _;congr 2;omega)
   by_cases hk:(ks[x]?).getD 0<0
   ·by_cases hx:x≤i
    ·show _=R.ok (bc (if _ then n - 1 else x)) _
     rw [if_pos ⟨hk,hx⟩]
     exact asj (aqv (tof (j8 (j8 (cu rfl) (cu rfl) (ki _ rfl)) (jj _ _ _) (ar0 hk))) (tof (j8 (cu rfl) (cu rfl) (avc (by omega))))) sb
    ·show _=R.ok (bc (if _ then n - 1 else x)) _
     rw [if_neg fun z=>hx z.2]
     exact ar8 (aqv (tof (j8 (j8 (cu rfl) (cu rfl) (ki _ rfl)) (jj _ _ _) (ar0 hk))) (tof (j8 (cu rfl) (cu rfl) (avd (by omega))))) (cu rfl)
   ·show _=R.ok (bc (if _ then n - 1 else x)) _
    rw [if_neg fun z=>hk z.1]
    exact ar8 (au7 (tof (j8 (j8 (cu rfl) (cu rfl) (ki _ rfl)) (jj _ _ _) (asi hk)))) (cu rfl)
  ·exact e3
 ·obtain ⟨row',q,e3⟩:=third _ ⟨l1,x1⟩
  refine ⟨u',row',some (a4g row'),q,P',?_⟩
  refine Eq.trans (jx e1) ?_
  refine Eq.trans (ifN (tof (j8 (cu rfl) (jj _ _ _) (awn h0)))) ?_
  exact e3
theorem afy {u:O} {ks:List Int} {rows:List (List Nat)}:a1r 1 (HR u ks rows) FU (.tup [.ref 2, .ref 1])=some (.tup [.rol (rows.map a4g), .rol (ks.map D.int)]):=by
 have oc:∀ {k:Nat} {d d':D} {ds ds':List D},a1r 1 (HR u ks rows) k d=some d'→xq (a1r 1 (HR u ks rows) k) ds=some ds'→xq (a1r 1 (HR u ks rows) k) (d::ds)=some (d'::ds'):=fun e1 e2=>by unfold xq;rw [e1,e2]
 refine ahq (k:=19) (oc (a5y (k:=17) (by omega) rfl (ik fun x _=>u6 (gq _))) (oc (a5y (k:=17) (by omega) rfl (ik fun x _=>j7 x)) rfl)) ?_
 intro z
 have:=a2e.mp z (.ref 2) List.mem_cons_self
 simp only [MI.clo] at this
 omega
theorem aii {o:O} {N n:Nat} {tg:List Nat} (P:Src o N) (hN:N≤999990000) (t6:tg.length≤6) (n1:1≤n) (n32:n≤32) :
  ∃ (ks:List Int) (rows:List (List Nat)) (o':O),ks.length=n∧ks[0]? = some (-1)∧(∀ k∈ks,KOk k)∧rows.length=n∧(∀ r∈rows,afv tg.length n r) ∧
   Dr dh 3 [.str (S tg),bc n] o (.tup [.rol (rows.map a4g), .rol (ks.map D.int)]) o'∧Src o' (N+300):=by
 have lo:=n6 (g:=kN 4) (b:=p7 aa) (fun i:Nat=>D.int ((1+i:Nat)))
  (fun pre τ h=>∃ (u:O) (ks:List Int) (t4:Option D),τ=[some (.ref 0),some (.str (S tg)),some (bc n),some (.ref 1),t4,none,none,none]∧h=[u, .lst (ks.map D.int)]∧Src u (N+2*pre.length)∧ks.length=1+pre.length∧ks[0]? = some (-1)∧∀ k∈ks,KOk k)
  (List.range (n - 1)) [some (.ref 0),some (.str (S tg)),some (bc n),some (.ref 1),none,none,none,none] [o, .lst ([-1].map D.int)] ?_
  ⟨o,[-1],none,rfl,rfl,P,rfl,rfl,by intro k hk;rw [List.mem_singleton] at hk;subst hk;decide⟩
 ·obtain ⟨τ',h',e1,u,ks,t4,rfl,rfl,P1,l1,k0,kk⟩:=lo
  rw [List.length_range] at P1 l1
  obtain ⟨m,u1,e2,m0,m1,P2⟩:=v4 (m:=3) P1 (by omega) (by omega) (by omega)
  have c2:o8 false 2 aa [.ref 0, .int 3] [u, .lst (ks.map D.int)] = .ok (.int m) [u1, .lst (ks.map D.int)]:=e2 0 _ rfl
  have lp:=n6 (g:=kN 4) (b:=pq aa) (fun i:Nat=>D.int (i:Nat))
   (fun pre τ h=>∃ (u':O) (rows:List (List Nat)) (i r:Option D),τ=τR tg n i (some (.int m)) r∧h=HR u' ks rows∧Src u' (N+100+6*pre.length)∧rows.length=pre.length∧∀ r∈rows,afv tg.length n r)
   (List.range n) (τR tg n t4 (some (.int m)) none) (HR u1 ks []) ?_ ⟨u1,[],_,_,rfl,rfl,P2.up (by omega),rfl,by simp⟩
  ·obtain ⟨τ',h',e3,u',rows,i,r,rfl,rfl,P3,lr,rr⟩:=lp
   rw [List.length_range] at P3 lr
   have ca:MI.clo 0 (.tup [.rol (rows.map a4g), .rol (ks.map D.int)]):=u5 (km (u6 (ik fun x _=>u6 (gq _))) (km (u6 (ik fun y _=>j7 y)) a2f))
   refine ⟨ks,rows,u',by omega,k0,kk,lr,rr,Dr.of rfl ?_ P.clo (r:=.ok (.tup [.ref 2, .ref 1]) (HR u' ks rows)) ?_ (a8w afy (by intro x hx;rw [show List.take 1 (HR u' ks rows)=[u'] from rfl,List.mem_singleton] at hx;subst hx;exact u9 (by omega) P3.clo)) ca P3.clo,P3.up (by omega)⟩
   ·intro x hx
    simp only [List.mem_cons,List.not_mem_nil,or_false] at hx
    rcases hx with rfl | rfl
    ·exact a04 _
    ·exact j7 _
   ·unfold dh
    rw [jg]
    show toR (wg aa [some (.ref 0),some (.str (S tg)),some (bc n),none,none,none,none,none] [o])=_
    unfold wg
    refine Eq.trans (congrArg toR (jx (d:=.ref 1) (h1:=[o, .lst ([-1].map D.int)]) rfl)) ?_
    refine Eq.trans (congrArg toR (a6i (a93 (a:=1) (n:=n) (jj _ _ _) (cu rfl) (jb (by omega)) (jb (by omega))))) ?_
    refine Eq.trans (congrArg (fun z=>toR (MI.thn z _)) e1) ?_
    rw [yo]
    refine Eq.trans (congrArg toR (jx (a1z (cu rfl) (jj _ _ _) c2))) ?_
    refine Eq.trans (congrArg toR (jx (d:=.ref 2) (h1:=HR u1 ks []) rfl)) ?_
    refine Eq.trans (congrArg toR (a6i (a1h (n:=n) (cu rfl) (jb (by omega))))) ?_
    refine Eq.trans (congrArg (fun z=>toR (MI.thn z _)) e3) ?_
    rw [yo]
    exact congrArg toR (a05 (a1z (cu rfl) (cu rfl) aub))
  ·rintro pre i post τ h all ⟨u',rows,i',r,rfl,rfl,P3,lr,rr⟩
   obtain ⟨hi,hk⟩:=vp all
   obtain ⟨u2,row,r',q,P4,e4⟩:=acp (i:=i) (m:=m) (r:=r) (ks:=ks) (rows:=rows) P3 (by omega) t6 n1 n32 (by omega) hk (by omega)
   refine ⟨_,_,rfl,_,_,e4,u2,rows++[row],_,_,rfl,rfl,P4.up (by rw [List.length_append,List.length_singleton];omega),by rw [List.length_append,List.length_append,List.length_singleton,List.length_singleton,lr],fun x hx=>?_⟩
   rcases List.mem_append.mp hx with z | z
   ·exact rr x z
   ·rw [List.mem_singleton] at z;subst z;exact q
 ·rintro pre i post τ h all ⟨u,ks,t4,rfl,rfl,P2,l1,k0,kk⟩
  obtain ⟨hi,hk⟩:=vp all
  obtain ⟨u',k,e3,P3,hk3⟩:=aco (ks:=ks) (t:=.str (S tg)) (n:=bc n) (x:=some (.int ((1+i:Nat):Int))) (y:=none) P2 (by omega) (by omega)
  refine ⟨_,_,rfl,_,_,e3,u',ks++[k],_,rfl,rfl,P3.up (by rw [List.length_append,List.length_singleton];omega),by rw [List.length_append,List.length_append,List.length_singleton,List.length_singleton];omega,?_,fun q hq=>?_⟩
  ·rw [List.getElem?_append_left (by omega)];exact k0
  ·rcases List.mem_append.mp hq with h | h
   ·exact kk q h
   ·rw [List.mem_singleton] at h;subst h;exact hk3
end SRC
namespace BF
def num (s:Nat):List Nat→Nat
 | []=>0
 | c::p=>num s p*s+c+1
def walk (step:Nat→Nat→Nat) (r:Nat):List Nat→Nat
 | []=>r
 | c::p=>step (walk step r p) c
def Ok (s:Nat) (w:List Nat):Prop:=∀ c∈w,c<s
theorem Ok.nil {s:Nat}:Ok s []:=fun _ h=>by simp at h
theorem Ok.cons {s c:Nat} {p:List Nat} (hc:c<s) (h:Ok s p):Ok s (c::p):=fun d hd=>by
 rcases List.mem_cons.mp hd with rfl | hd
 ·exact hc
 ·exact h d hd
theorem Ok.head {s c:Nat} {p:List Nat} (h:Ok s (c::p)):c<s:=h c List.mem_cons_self
theorem Ok.tail {s c:Nat} {p:List Nat} (h:Ok s (c::p)):Ok s p:=fun d hd=>h d (List.mem_cons_of_mem _ hd)
theorem ajw {s a b:Nat} (h:a<b):a*s+s≤b*s:=by
 have:(a+1)*s≤b*s:=Nat.mul_le_mul_right s h
 rw [Nat.add_mul,Nat.one_mul] at this
 exact this
theorem afz {s a b c d:Nat} (h:a<b) (hc:c<s):a*s+c+1<b*s+d+1:=by
 have:=ajw (s:=s) h
 omega
theorem a6j {s:Nat}:∀ {u v:List Nat},Ok s u→Ok s v→num s u=num s v→u=v
 | [],[],_,_,_=>rfl
 | [],_::_,_,_,e=>by simp [num] at e
 | _::_,[],_,_,e=>by simp [num] at e
 | c::p,d::q,hu,hv,e=>by
  simp only [num] at e
  have h1:=hu.head
  have h2:=hv.head
  rcases Nat.lt_trichotomy (num s p) (num s q) with h | h | h
  ·have:=afz (d:=d) h h1;omega
  ·have:=a6j hu.tail hv.tail h
   subst this
   have:c=d:=by omega
   rw [this]
  ·have:=afz (d:=c) h h2;omega
section
variable {s:Nat} {step:Nat→Nat→Nat} {r0:Nat} {hit:List Nat→Prop}
structure St (s:Nat) (step:Nat→Nat→Nat) (r0:Nat) (hit:List Nat→Prop) (found:List (List Nat)) (F:Nat):Prop where
 ok:∀ w∈found,Ok s w
 inc:found.Pairwise fun u v=>num s u<num s v
 dis:found.Pairwise fun u v=>walk step r0 u≠walk step r0 v
 com:∀ w,Ok s w→num s w<F→¬ hit w∧∃ v∈found,walk step r0 v=walk step r0 w∧num s v≤num s w
 low:∀ w∈found,num s w<F
 len:∀ (j:Nat) w,found[j]? = some w→w.length≤j
theorem St.start (h0:¬ hit []):St s step r0 hit [[]] 1:=by
 refine ⟨by simp [Ok.nil],by simp,by simp,fun w hw hn=>?_,by simp [num],fun j w e=>?_⟩
 rotate_left
 ·cases j with
  | zero=>simp at e;subst e;exact Nat.le_refl _
  | succ j=>simp at e
 cases w with
 | nil=>exact ⟨h0,[],by simp,rfl,Nat.le_refl _⟩
 | cons c p=>simp only [num] at hn;omega
theorem St.seen {found:List (List Nat)} {F:Nat} {w:List Nat} (S:St s step r0 hit found F) (hw:Ok s w) (e:num s w=F) (nh:¬ hit w) (h:∃ v∈found,walk step r0 v=walk step r0 w):St s step r0 hit found (F+1):=by
 refine ⟨S.ok,S.inc,S.dis,fun u hu hn=>?_,fun u hu=>Nat.lt_succ_of_lt (S.low u hu),S.len⟩
 rcases Nat.lt_or_ge (num s u) F with h1 | h1
 ·exact S.com u hu h1
 ·have:u=w:=a6j hu hw (by omega)
  subst this
  obtain ⟨v,hv,e2⟩:=h
  exact ⟨nh,v,hv,e2,Nat.le_of_lt (by rw [e];exact S.low v hv)⟩
theorem St.add {found:List (List Nat)} {F:Nat} {w:List Nat} (S:St s step r0 hit found F) (hw:Ok s w) (e:num s w=F) (nh:¬ hit w) (h:∀ v∈found,walk step r0 v≠walk step r0 w) (hlen:w.length≤found.length):St s step r0 hit (found++[w]) (F+1):=by
 refine ⟨fun u hu=>?_,?_,?_,fun u hu hn=>?_,fun u hu=>?_,fun j u e=>?_⟩
 ·rcases List.mem_append.mp hu with hu | hu
  ·exact S.ok u hu
  ·rw [List.mem_singleton.mp hu];exact hw
 ·refine List.pairwise_append.mpr ⟨S.inc,by simp,fun u hu v hv=>?_⟩
  rw [List.mem_singleton.mp hv,e];exact S.low u hu
 ·refine List.pairwise_append.mpr ⟨S.dis,by simp,fun u hu v hv=>?_⟩
  rw [List.mem_singleton.mp hv];exact h u hu
 ·rcases Nat.lt_or_ge (num s u) F with h1 | h1
  ·obtain ⟨a,v,hv,b⟩:=S.com u hu h1
   exact ⟨a,v,List.mem_append_left _ hv,b⟩
  ·have:u=w:=a6j hu hw (by omega)
   subst this
   exact ⟨nh,u,by simp,rfl,Nat.le_refl _⟩
 ·rcases List.mem_append.mp hu with hu | hu
  ·exact Nat.lt_succ_of_lt (S.low u hu)
  ·rw [List.mem_singleton.mp hu];omega
 ·by_cases hj:j<found.length
  ·rw [List.getElem?_append_left hj] at e
   exact S.len j u e
  ·rw [List.getElem?_append_right (by omega)] at e
   have:j - found.length=0:=by
    have:=(List.getElem?_eq_some_iff.mp e).1
    simp at this;omega
   rw [this] at e
   simp at e;subst e
   omega
theorem St.least {found:List (List Nat)} {F:Nat} (S:St s step r0 hit found F) {v:List Nat} (hv:Ok s v) (hh:hit v):F≤num s v :=
 Nat.le_of_not_lt fun z=>(S.com v hv z).1 hh
theorem St.next {found:List (List Nat)} {l:Nat} {w w':List Nat} (hs:0<s) (hl:found[l]? = some w) (hl':found[l+1]? = some w') (S:St s step r0 hit found (num s w*s+s+1)) (xg:∀ c p q,walk step r0 p=walk step r0 q→(hit (c::p)↔hit (c::q))):St s step r0 hit found (num s w'*s+1):=by
 obtain ⟨h1,e1⟩:=List.getElem?_eq_some_iff.mp hl
 obtain ⟨h2,e2⟩:=List.getElem?_eq_some_iff.mp hl'
 have lt:num s w<num s w':=by rw [← e1,← e2];exact List.pairwise_iff_getElem.mp S.inc l (l+1) h1 h2 (by omega)
 have up:=ajw (s:=s) lt
 refine ⟨S.ok,S.inc,S.dis,fun u hu hn=>?_,fun u hu=>Nat.lt_of_lt_of_le (S.low u hu) (by omega),S.len⟩
 rcases Nat.lt_or_ge (num s u) (num s w*s+s+1) with h3 | h3
 ·exact S.com u hu h3
 ·cases u with
  | nil=>simp only [num] at h3;omega
  | cons c p =>
   simp only [num] at hn h3 ⊢
   have hc:=hu.head
   have p1:num s p<num s w':=by
    refine Nat.lt_of_not_le fun z=>?_
    have:=Nat.mul_le_mul_right s z
    omega
   have p0:num s w<num s p:=by
    refine Nat.lt_of_not_le fun z=>?_
    have:=Nat.mul_le_mul_right s z
    omega
   have pw:num s p<num s w*s+s+1:=by
    have:=S.low w' (by rw [← e2];exact List.getElem_mem h2)
    omega
   obtain ⟨_,v,hv,ev,lv⟩:=S.com p hu.tail pw
   obtain ⟨j,hj⟩:=List.getElem?_of_mem hv
   obtain ⟨h4,e4⟩:=List.getElem?_eq_some_iff.mp hj
   have jl:j≤l:=by
    refine Nat.le_of_not_lt fun z=>?_
    have:num s w'≤num s v:=by
     rcases Nat.lt_or_eq_of_le (show l+1≤j from z) with q | q
     ·rw [← e2,← e4];exact Nat.le_of_lt (List.pairwise_iff_getElem.mp S.inc (l+1) j h2 h4 q)
     ·subst q;rw [← e2,← e4];exact Nat.le_refl _
    omega
   have vw:num s v≤num s w:=by
    rcases Nat.lt_or_eq_of_le jl with q | q
    ·rw [← e1,← e4];exact Nat.le_of_lt (List.pairwise_iff_getElem.mp S.inc j l h4 h1 q)
    ·subst q;rw [← e1,← e4];exact Nat.le_refl _
   have cv:num s (c::v)<num s w*s+s+1:=by
    simp only [num]
    have:=Nat.mul_le_mul_right s vw
    omega
   obtain ⟨nh,v',hv',ev',lv'⟩:=S.com (c::v) (Ok.cons hc (S.ok v hv)) cv
   refine ⟨fun z=>nh ((xg c v p ev).mpr z),v',hv',?_,?_⟩
   ·rw [ev'];simp only [walk,ev]
   ·simp only [num] at lv'
    have:=Nat.mul_le_mul_right s lv
    omega
theorem St.all {found:List (List Nat)} {l:Nat} {w:List Nat} (hl:found[l]? = some w) (hn:found.length=l+1) (S:St s step r0 hit found (num s w*s+s+1)) (h0:¬ hit []) (hz:[]∈found) (xg:∀ c p q,walk step r0 p=walk step r0 q→(hit (c::p)↔hit (c::q))) :
  ∀ u,Ok s u→¬ hit u∧∃ v∈found,walk step r0 v=walk step r0 u∧num s v≤num s u
 | [],_=>⟨h0,[],hz,rfl,Nat.le_refl _⟩
 | c::p,hu=>by
  obtain ⟨_,v,hv,ev,lv⟩:=St.all hl hn S h0 hz xg p hu.tail
  have hc:=hu.head
  obtain ⟨h1,e1⟩:=List.getElem?_eq_some_iff.mp hl
  obtain ⟨j,hj⟩:=List.getElem?_of_mem hv
  obtain ⟨h4,e4⟩:=List.getElem?_eq_some_iff.mp hj
  have vw:num s v≤num s w:=by
   rcases Nat.lt_or_eq_of_le (show j≤l by omega) with q | q
   ·rw [← e1,← e4];exact Nat.le_of_lt (List.pairwise_iff_getElem.mp S.inc j l h4 h1 q)
   ·subst q;rw [← e1,← e4];exact Nat.le_refl _
  have cv:num s (c::v)<num s w*s+s+1:=by
   simp only [num]
   have:=Nat.mul_le_mul_right s vw
   omega
  obtain ⟨nh,v',hv',ev',lv'⟩:=S.com (c::v) (Ok.cons hc (S.ok v hv)) cv
  refine ⟨fun z=>nh ((xg c v p ev).mpr z),v',hv',?_,?_⟩
  ·rw [ev'];simp only [walk,ev]
  ·simp only [num] at lv' ⊢
   have:=Nat.mul_le_mul_right s lv
   omega
end
theorem a6k (s c:Nat):∀ x:List Nat,num s (x++[c])=(c+1)*s ^ x.length+num s x
 | []=>by simp [num]
 | a::x=>by
  show num s (x++[c])*s+a+1=_
  rw [a6k s c x,List.length_cons,Nat.pow_succ,← Nat.mul_assoc,num,Nat.add_mul]
  omega
theorem aar {s:Nat}:∀ {x y:List Nat},x.length=y.length→Ok s x→Ok s y→num s x<num s y+s ^ x.length
 | [],[],_,_,_=>by simp [num]
 | a::x,b::y,l,hx,hy=>by
  have ih:=aar (x:=x) (y:=y) (by simpa using l) hx.tail hy.tail
  have ha:=hx.head
  simp only [num,List.length_cons,Nat.pow_succ]
  have:=Nat.mul_le_mul_right s (show num s x+1≤num s y+s ^ x.length from ih)
  rw [Nat.add_mul,Nat.add_mul,Nat.one_mul] at this
  omega
theorem a4x {s:Nat} (hs:0<s):∀ {x y:List Nat},x.length<y.length→Ok s x→num s x<num s y
 | [],b::y,_,_=>by simp [num]
 | a::x,b::y,l,hx=>by
  have:=a4x hs (x:=x) (y:=y) (by simpa using l) hx.tail
  exact afz this hx.head
theorem a0p (step:Nat→Nat→Nat) (r c:Nat):∀ x:List Nat,walk step r (x++[c])=walk step (step r c) x
 | []=>rfl
 | a::x=>by show step (walk step r (x++[c])) a=_;rw [a0p step r c x];rfl
section
variable (s:Nat) (step:Nat→Nat→Nat) (K:Nat→Bool)
def fl:Nat→Nat→Bool
 | 0,r=>K r
 | k+1,r=>(List.range s).any fun c=>fl k (step r c)
def fst (k r:Nat):Nat:=((List.range s).find? fun c=>fl s step K k (step r c)).getD 0
def gre:Nat→Nat→List Nat
 | 0,_=>[]
 | k+1,r=>fst s step K k r::gre k (step r (fst s step K k r))
variable {s step K}
theorem ajx {k r:Nat} (h:fl s step K (k+1) r=true):fst s step K k r<s∧fl s step K k (step r (fst s step K k r))=true∧∀ d,d<fst s step K k r→fl s step K k (step r d)=false:=by
 unfold fst
 cases e:(List.range s).find? fun c=>fl s step K k (step r c) with
 | none =>
  rw [List.find?_eq_none] at e
  simp only [fl,List.any_eq_true] at h
  obtain ⟨c,hc,h⟩:=h
  exact absurd h (e c hc)
 | some c =>
  simp only [Option.getD_some]
  have h1:=List.find?_some e
  have h2:=List.mem_of_find?_eq_some e
  refine ⟨List.mem_range.mp h2,h1,fun d hd=>?_⟩
  rw [List.find?_range_eq_some] at e
  simpa using e.2.2 d hd
theorem a80:∀ {k r:Nat},fl s step K k r=true→(gre s step K k r).length=k∧Ok s (gre s step K k r).reverse∧K (walk step r (gre s step K k r).reverse)=true
 | 0,r,h=>⟨rfl,Ok.nil,h⟩
 | k+1,r,h=>by
  obtain ⟨h1,h2,_⟩:=ajx h
  obtain ⟨l,o,w⟩:=a80 h2
  refine ⟨by simp [gre,l],fun c hc=>?_,?_⟩
  ·simp only [gre,List.reverse_cons,List.mem_append,List.mem_singleton] at hc
   rcases hc with hc | rfl
   ·exact o c hc
   ·exact h1
  ·rw [gre,List.reverse_cons,a0p];exact w
theorem aij:∀ {u:List Nat} {r:Nat},Ok s u.reverse→K (walk step r u.reverse)=true→fl s step K u.length r=true
 | [],r,_,h=>h
 | c::u,r,o,h=>by
  rw [List.reverse_cons] at o h
  rw [a0p] at h
  simp only [List.length_cons,fl,List.any_eq_true]
  exact ⟨c,List.mem_range.mpr (o c (by simp)),aij (fun d hd=>o d (by simp [List.mem_reverse.mp hd])) h⟩
theorem a81:∀ {u:List Nat} {r:Nat},Ok s u.reverse→K (walk step r u.reverse)=true→num s (gre s step K u.length r).reverse≤num s u.reverse
 | [],r,_,_=>Nat.le_refl _
 | c::u,r,o,h=>by
  have hf:=aij o h
  obtain ⟨h1,h2,h3⟩:=ajx (show fl s step K (u.length+1) r=true from hf)
  rw [List.reverse_cons] at o h
  rw [a0p] at h
  have ou:Ok s u.reverse:=fun d hd=>o d (by simp [List.mem_reverse.mp hd])
  have hc:fl s step K u.length (step r c)=true:=aij ou h
  rw [List.length_cons,gre,List.reverse_cons,List.reverse_cons,a6k,a6k]
  obtain ⟨gl,go,_⟩:=a80 h2
  rcases Nat.lt_trichotomy c (fst s step K u.length r) with q | q | q
  ·rw [h3 c q] at hc;cases hc
  ·rw [← q] at gl ⊢
   have:=a81 ou h
   simp only [List.length_reverse,gl] at this ⊢
   omega
  ·have n:=aar (s:=s) (x:=(gre s step K u.length (step r (fst s step K u.length r))).reverse) (y:=u.reverse) (by simp [gl]) go ou
   simp only [List.length_reverse,gl] at n ⊢
   have:=Nat.mul_le_mul_right (s ^ u.length) (show fst s step K u.length r+1+1≤c+1 by omega)
   rw [Nat.add_mul _ 1,Nat.one_mul] at this
   omega
end
theorem a2l:∀ (n:Nat) (l:List Nat),l.Nodup→(∀ x∈l,x<n)→l.length≤n
 | 0,l,_,h=>by
  cases l with
  | nil=>exact Nat.le_refl _
  | cons x l=>exact absurd (h x List.mem_cons_self) (by omega)
 | n+1,l,nd,h=>by
  have:=a2l n (l.erase n) (nd.erase n) fun x hx=>by
   have h1:=h x (List.mem_of_mem_erase hx)
   have h2:x≠n:=fun z=>by subst z;exact (List.Nodup.not_mem_erase nd) hx
   omega
  have:=List.length_erase (a:=n) (l:=l)
  split at this<;>omega
end BF
namespace SRC
open PySem PySem.Spec L2 MI AT HND EVX
theorem ave {ck:Hd→Prop} {f:D→Hd→R D} {α:Type} (g F:α→D) {h:Hd} (c:ck h):∀ {xs:List α},(∀ x∈xs,f (g x) h = .ok (F x) h)→mapR ck f (xs.map g) h = .ok (xs.map F) h
 | [],_=>by rw [List.map_nil,mapR,if_pos c];rfl
 | x::xs,st=>by
  rw [List.map_cons,mapR,if_pos c,st x List.mem_cons_self]
  show (mapR _ f (xs.map g) h).bind _=_
  rw [ave g F c fun y hy=>st y (List.mem_cons_of_mem _ hy)];rfl
theorem ar9 {fi:SI} {t:D→Option Sd} {fe:SE} {ix:List Nat} {τ:Sd} {h:Hd} {α:Type} {ck:Hd→Prop} (g F:α→D) (xs:List α) (c:ck h) (e:fi τ h = .ok ⟨xs.map g,ck⟩ h) (z:xs.length≤LINE)
  (st:∀ x∈xs,a5o t fe (frs' ix τ) (g x) h = .ok (F x) h):jn fi t fe ix τ h = .ok (.ref h.length) (h++[.lst (xs.map F)]):=by
 unfold jn
 rw [e,bx]
 dsimp only
 rw [if_pos (by rw [List.length_map];exact z),ave g F c st]
 rfl
theorem amw {x:Nat} {l:List Nat}:inD (bc x) (l.map bc)=decide (x∈l):=by
 unfold inD
 rw [List.any_map]
 by_cases h:x∈l
 ·rw [decide_eq_true h,List.any_eq_true]
  exact ⟨x,h,by show ((x:Int) == (x:Int))=true;simp⟩
 ·rw [decide_eq_false h,List.any_eq_false]
  intro y hy
  have:x≠y:=fun e=>h (e ▸ hy)
  show ¬ ((y:Int) == (x:Int))=true
  rw [beq_iff_eq]
  omega
theorem a2m {x i:Nat} {l:List Nat} {h:Hd} (e:h[i]? = some (.lst (l.map bc))):gIn true (bc x) (.ref i) h = .ok (.bl (!decide (x∈l))) h:=by
 have fl:vy (bc x)=true∧(l.map bc).all vy=true:=⟨rfl,by
  rw [List.all_eq_true]
  intro y hy
  obtain ⟨n,_,rfl⟩:=List.mem_map.mp hy
  rfl⟩
 unfold gIn yx
 simp only [e,if_pos fl,if_true,amw]
abbrev cst (l:List Nat):List Int:=l.map fun x:Nat=>(x:Int)
theorem a95 (l:List Nat):l.map bc=(cst l).map D.int:=by unfold cst;rw [List.map_map];rfl
theorem a4y {i:Nat} {l:List Nat} {h:Hd} (e:h[i]? = some (.lst (l.map bc))):a1s (.ref i) h=some (cst l):=by
 unfold a1s
 simp only [e]
 rw [a95,ints_map]
theorem a4z (l:List Nat):∃ m:List Nat,PySem.W.sortI (cst l)=cst m∧m.Perm l∧m.Pairwise (·≤·):=by
 have p:=PySem.W.sortI_perm (cst l)
 have s:=PySem.W.sortI_rises (cst l)
 refine ⟨(PySem.W.sortI (cst l)).map Int.toNat,?_,?_,?_⟩
 ·unfold cst
  rw [List.map_map]
  have:∀ x∈PySem.W.sortI (l.map fun x:Nat=>(x:Int)),((fun x:Nat=>(x:Int)) ∘ Int.toNat) x=x:=fun x hx=>by
   have:=p.mem_iff.mp hx
   obtain ⟨y,_,rfl⟩:=List.mem_map.mp this
   simp
  rw [List.map_congr_left this]
  simp
 ·have:=p.map Int.toNat
  have e:(cst l).map Int.toNat=l:=by
   unfold cst
   rw [List.map_map]
   exact (List.map_congr_left fun x _=>by simp).trans (List.map_id l)
  rwa [e] at this
 ·rw [List.pairwise_map]
  exact s.imp fun h=>by omega
def pos (m:List Nat) (x:Nat):Nat:=(ixI (x:Int) (cst m)).getD 0
theorem ajy {m:List Nat} {x:Nat} (h:x∈m):ixI (x:Int) (cst m)=some (pos m x)∧pos m x<m.length:=by
 obtain ⟨j,hj⟩:=aa9 (n:=(x:Int)) (l:=cst m) (List.mem_map.mpr ⟨x,h,rfl⟩)
 unfold pos
 rw [hj]
 refine ⟨rfl,?_⟩
 have:=(List.getElem?_eq_some_iff.mp (ael hj).1).1
 simpa using this
noncomputable def di:SF:=ql (wj aa dh cj) 10
abbrev τT (most:Nat) (tg:List Nat) (many:Int) (rows:List (List Nat)) (ks:List Int) (m:D) (i:Nat) (t8 t9:Option D):Sd:=[some (.ref 0),some (bc most),some (.str (S tg)),some (.int many),some (.rol (rows.map a4g)),some (.rol (ks.map D.int)),some m,some (bc i),t8,t9]
structure Met (n:Nat) (met:List Nat):Prop where
 nd:met.Nodup
 lt:∀ x∈met,x<n
 z:0∈met
theorem Met.len {n:Nat} {met:List Nat} (M:Met n met):met.length≤n:=BF.a2l n met M.nd M.lt
theorem Met.add {n x:Nat} {met:List Nat} (M:Met n met) (hx:x<n) (h:x ∉ met):Met n (met++[x]):=by
 refine ⟨?_,fun y hy=>?_,List.mem_append_left _ M.z⟩
 ·rw [List.nodup_append]
  refine ⟨M.nd,by simp,fun a ha b hb=>?_⟩
  rw [List.mem_singleton] at hb
  subst hb
  exact fun e=>h (e ▸ ha)
 ·rcases List.mem_append.mp hy with z | z
  ·exact M.lt y z
  ·rw [List.mem_singleton] at z;subst z;exact hx
section
variable {A B C:SF} {most n:Nat} {tg:List Nat} {many:Int} {rows:List (List Nat)} {ks:List Int}
theorem aik {u:O} {i:Nat} {t8:Option D} {met row:List Nat} (n32:n≤32) (M:Met n met) (rx:∀ x∈row,x<n) :
  ∃ (met':List Nat) (t8':Option D),forL (fun _=>True) (kN 8) (qb A B C) (row.map bc) (τT most tg many rows ks (.ref 1) i t8 none) [u, .lst (met.map bc)] = .nx (τT most tg many rows ks (.ref 1) i t8' none) [u, .lst (met'.map bc)]∧Met n met'∧(∃ add,met'=met++add)∧∀ x∈row,x∈met':=by
 have lp:=n6 (g:=kN 8) (b:=qb A B C) bc
  (fun pre τ h=>∃ (met':List Nat) (t8:Option D),τ=τT most tg many rows ks (.ref 1) i t8 none∧h=[u, .lst (met'.map bc)]∧Met n met'∧(∃ add,met'=met++add)∧∀ x∈pre,x∈met')
  row (τT most tg many rows ks (.ref 1) i t8 none) [u, .lst (met.map bc)] ?_ ⟨met,t8,rfl,rfl,M,⟨[],by simp⟩,by simp⟩
 ·obtain ⟨τ',h',e,met',t8',rfl,rfl,M',ad,al⟩:=lp
  exact ⟨met',t8',e,M',ad,al⟩
 ·rintro pre x post τ h all ⟨met',t8,rfl,rfl,M',⟨add,rfl⟩,al⟩
  have hx:x<n:=rx x (by rw [all];simp)
  unfold qb
  by_cases h:x∈met++add
  ·refine ⟨_,_,rfl,τT most tg many rows ks (.ref 1) i (some (bc x)) none,[u, .lst ((met++add).map bc)],?_,met++add,_,rfl,rfl,M',⟨add,rfl⟩,fun y hy=>?_⟩
   ·refine Eq.trans (ifF (tof (j8 (cu rfl) (cu rfl) ((a2m (l:=met++add) rfl).trans (by rw [decide_eq_true h];rfl))))) rfl
   ·rcases List.mem_append.mp hy with z | z
    ·exact al y z
    ·rw [List.mem_singleton] at z;subst z;exact h
  ·refine ⟨_,_,rfl,τT most tg many rows ks (.ref 1) i (some (bc x)) none,[u, .lst ((met++add++[x]).map bc)],?_,met++add++[x],_,rfl,rfl,M'.add hx h,⟨add++[x],by simp⟩,fun y hy=>?_⟩
   ·have ln:=M'.len
    refine Eq.trans (ifT (tof (j8 (cu rfl) (cu rfl) ((a2m (l:=met++add) rfl).trans (by rw [decide_eq_false h];rfl))))) ?_
    rw [List.map_append (l₁:=met++add)]
    exact a4v (cu rfl) rfl (arg1 (cu rfl)) (a4w (xs:=(met++add).map bc) rfl (by rw [List.length_map];exact a4a (by omega)))
   ·rcases List.mem_append.mp hy with z | z
    ·exact List.mem_append_left _ (al y z)
    ·rw [List.mem_singleton] at z;subst z;simp
def Done (rows:List (List Nat)) (met:List Nat) (i:Nat):Prop:=∀ j,j<i→∀ r,met[j]? = some r→∀ x∈(rows[r]?).getD [],x∈met
theorem amx {u:O} {s:Nat} (n1:1≤n) (n32:n≤32) (lr:rows.length=n) (rr:∀ r∈rows,afv s n r) :
  ∃ (met:List Nat) (i:Nat) (t8:Option D),sWh (uv A B C) (qd A B C) 100000 (τT most tg many rows ks (.ref 1) 0 none none) [u, .lst ([0].map bc)] = .nx (τT most tg many rows ks (.ref 1) i t8 none) [u, .lst (met.map bc)]∧Met n met∧∀ r∈met,∀ x∈(rows[r]?).getD [],x∈met:=by
 have w:=aqb (c:=uv A B C) (f:=qd A B C)
  (fun m τ h=>∃ (met:List Nat) (i:Nat) (t8:Option D),τ=τT most tg many rows ks (.ref 1) i t8 none∧h=[u, .lst (met.map bc)]∧m=32 - i∧i≤met.length∧Met n met∧Done rows met i)
  (fun τ h=>∃ (met:List Nat) (i:Nat) (t8:Option D),τ=τT most tg many rows ks (.ref 1) i t8 none∧h=[u, .lst (met.map bc)]∧Met n met∧Done rows met met.length)
  (fun _ _=>False) ?_ 32 100000 (τT most tg many rows ks (.ref 1) 0 none none) [u, .lst ([0].map bc)] (by omega)
  ⟨[0],0,none,rfl,rfl,rfl,by simp,⟨by simp,by simp;omega,by simp⟩,fun j hj=>absurd hj (Nat.not_lt_zero j)⟩
 ·rcases w with ⟨τ',h',e,met,i,t8,rfl,rfl,M,D⟩ | ⟨_,_,_,z⟩
  ·refine ⟨met,i,t8,e,M,fun r hr x hx=>?_⟩
   obtain ⟨j,hj,rfl⟩:=List.getElem_of_mem hr
   exact D j hj _ (List.getElem?_eq_getElem hj) x hx
  ·exact z.elim
 ·rintro m τ h ⟨met,i,t8,rfl,rfl,rfl,il,M,D⟩
  have ln:=M.len
  have lm:∀ h:Hd,h[1]? = some (.lst (met.map bc))→xx [.ref 1] h = .ok (bc met.length) h:=fun h e=>by rw [a94 e,List.length_map]
  by_cases lt:i<met.length
  ·refine .inr ⟨_,tof (j8 (cu rfl) (a06 (cu rfl) (lm _ rfl)) (ar0 (by omega))), .inl ?_⟩
   have rl:met[i]<n:=M.lt _ (List.getElem_mem lt)
   have gm:met[i]? = some met[i]:=List.getElem?_eq_getElem lt
   generalize met[i]=r at rl gm
   have gr:rows[r]? = some ((rows[r]?).getD []):=by rw [List.getElem?_eq_getElem (by omega)];rfl
   have rn:=rr _ (List.mem_of_getElem? gr)
   obtain ⟨met',t8',e,M',⟨add,ea⟩,al⟩:=aik (A:=A) (B:=B) (C:=C) (u:=u) (i:=i) (t8:=t8) (most:=most) (tg:=tg) (many:=many) (rows:=rows) (ks:=ks) n32 M rn.2
   refine ⟨τT most tg many rows ks (.ref 1) (i+1) t8' none,[u, .lst (met'.map bc)],32 - (i+1),?_,by omega,met',i+1,t8',rfl,rfl,rfl,by rw [ea,List.length_append];omega,M',fun j hj q hq x hx=>?_⟩
   ·unfold qd
    refine Eq.trans (a6i (a7y (j8 (cu rfl) (j8 (cu rfl) (cu rfl) (aaq (xs:=met.map bc) rfl (y:=bc r) (by rw [List.getElem?_map,gm];rfl))) (aqz (y:=a4g ((rows[r]?).getD [])) (by rw [List.getElem?_map,gr];rfl))) rfl)) ?_
    refine Eq.trans (congrArg (fun z=>MI.thn z _) e) ?_
    rw [yo]
    exact aqx rfl (jj _ _ _) a1g
   ·by_cases je:j=i
    ·subst je
     rw [ea,List.getElem?_append_left lt,gm] at hq
     cases hq
     exact al x hx
    ·have jl:j<met.length:=by omega
     rw [ea,List.getElem?_append_left jl] at hq
     rw [ea]
     exact List.mem_append_left _ (D j (by omega) q hq x hx)
  ·refine .inl ⟨_,tof (j8 (cu rfl) (a06 (cu rfl) (lm _ rfl)) (asi (by omega))),met,i,t8,rfl,rfl,M,?_⟩
   rw [show met.length=i by omega];exact D
end
end SRC
namespace SRC
open PySem PySem.Spec L2 MI AT HND EVX
theorem ag0 {i:Nat} {l m:List Nat} {h:Hd} (e:h[i]? = some (.lst (l.map bc))) (z:l.length<64) (em:PySem.W.sortI (cst l)=cst m):a02 [.ref i] h = .ok (.ref h.length) (h++[.lst (m.map bc)]):=by
 have q:=a4y e
 unfold a02
 simp only [q]
 rw [if_pos (by unfold cst;rw [List.length_map];exact z),em,← a95]
theorem ag1 {i x:Nat} {m:List Nat} {h:Hd} (e:h[i]? = some (.lst (m.map bc))) (hx:x∈m):a3n (.ref i) [bc x] h = .ok (bc (pos m x)) h:=by
 have q:=a4y e
 unfold a3n
 simp only [q,(ajy hx).1]
section
variable {A B C:SF} {most n:Nat} {tg:List Nat} {many:Int} {rows:List (List Nat)} {ks:List Int}
abbrev a96 (rows:List (List Nat)) (m:List Nat):List (List Nat):=m.map fun r=>((rows[r]?).getD []).map (pos m)
abbrev a5a (ks:List Int) (m:List Nat):List Int:=m.map fun r=>(ks[r]?).getD 0
theorem ag2 {u:O} {N i:Nat} {t8:Option D} {met:List Nat} (P:Src u N) (n32:n≤32) (lr:rows.length=n) (lk:ks.length=n) (t6:tg.length≤6) (rr:∀ r∈rows,afv tg.length n r) (M:Met n met) (cl:∀ r∈met,∀ x∈(rows[r]?).getD [],x∈met) :
  ∃ m:List Nat,m.Perm met∧m.Pairwise (·≤·)∧∃ h:Hd,h.take 1=[u]∧toR (j5 (jr 6 (sA a02 (ak (sV 6) gf)))
   (j5 (jr 9 (sA mz (ak (sZ (jn (sIt (sV 6)) t1 (qe A B C) [4,6])) gf)))
   (xn (sA a4h (ak (sV 2) (ak (sV 9) (ak (sA mz (ak (sZ (jn (sIt (sV 6)) t1 (qg A B C) [5])) gf)) gf)))))) (τT most tg many rows ks (.ref 1) i t8 none) [u, .lst (met.map bc)]) = .ok (.tup [.str (S tg), .tup ((a96 rows m).map a4e), .tup ((a5a ks m).map D.int)]) h:=by
 obtain ⟨m,em,pm,sm⟩:=a4z met
 have ln:=M.len
 have lm:m.length=met.length:=pm.length_eq
 let H:Hd:=[u, .lst (met.map bc), .lst (m.map bc)]
 have hc:∀ o∈H,a1y H.length o:=by
  intro o ho
  simp only [H,List.mem_cons,List.not_mem_nil,or_false] at ho
  rcases ho with rfl | rfl | rfl
  ·exact u9 (Nat.zero_le _) P.clo
  ·exact u9 (Nat.zero_le _) (gq _)
  ·exact u9 (Nat.zero_le _) (gq _)
 have so:a02 [.ref 1] [u, .lst (met.map bc)] = .ok (.ref 2) H:=by
  exact ag0 (l:=met) rfl (by omega) em
 have rw':∀ r∈m,rows[r]? = some ((rows[r]?).getD [])∧afv tg.length n ((rows[r]?).getD [])∧∀ x∈(rows[r]?).getD [],x∈m:=fun r hr=>by
  have h1:=M.lt r (pm.mem_iff.mp hr)
  have e:rows[r]? = some ((rows[r]?).getD []):=by rw [List.getElem?_eq_getElem (by omega)];rfl
  exact ⟨e,rr _ (List.mem_of_getElem? e),fun x hx=>pm.mem_iff.mpr (cl r (pm.mem_iff.mp hr) x hx)⟩
 have z1:sZ (jn (sIt (sV 6)) t1 (qe A B C) [4,6]) (τT most tg many rows ks (.ref 2) i t8 none) H = .ok (.rol ((a96 rows m).map a4e)) H:=by
  rw [List.map_map]
  refine xu (ar9 (ck:=fun h=>h[2]? = some (.lst (m.map bc))) bc (a4e ∘ fun r=>((rows[r]?).getD []).map (pos m)) m rfl (a7y (cu rfl) rfl) (jb (by omega)) fun r hr=>?_) (ik fun x _=>u5 (gq _)) hc
  obtain ⟨e1,⟨e2,_⟩,e3⟩:=rw' r hr
  rw [v6]
  unfold qe
  have z2:sZ (jn (sIt (s2 gIx (sV 1) (sV 0))) t1 (uw A B C) [2]) (some (bc r)::frs' [4,6] (τT most tg many rows ks (.ref 2) i t8 none)) H = .ok (.rol ((((rows[r]?).getD []).map (pos m)).map bc)) H:=by
   rw [List.map_map]
   refine xu (qp bc (bc ∘ pos m) ((rows[r]?).getD []) (a7y (j8 (cu rfl) (cu rfl) (aqz (y:=a4g ((rows[r]?).getD [])) (by rw [List.getElem?_map,e1];rfl))) rfl) (jb (by omega)) fun x hx=>?_) (ik fun x _=>j7 _) hc
   rw [v6]
   unfold uw
   exact au8 (cu rfl) rfl (arg1 (cu rfl)) (ag1 rfl (e3 x hx))
  exact a06 z2 rfl
 have z3:∀ t9:Option D,sZ (jn (sIt (sV 6)) t1 (qg A B C) [5]) (τT most tg many rows ks (.ref 2) i t8 t9) H = .ok (.rol ((a5a ks m).map D.int)) H:=fun t9=>by
  rw [List.map_map]
  refine xu (ar9 (ck:=fun h=>h[2]? = some (.lst (m.map bc))) bc (D.int ∘ fun r=>(ks[r]?).getD 0) m rfl (a7y (cu rfl) rfl) (jb (by omega)) fun r hr=>?_) (ik fun x _=>j7 _) hc
  have h1:=M.lt r (pm.mem_iff.mp hr)
  have e:ks[r]? = some ((ks[r]?).getD 0):=by rw [List.getElem?_eq_getElem (by omega)];rfl
  rw [v6]
  unfold qg
  exact j8 (cu rfl) (cu rfl) (aqz (by rw [List.getElem?_map,e];rfl))
 refine ⟨m,pm,sm,H,rfl,?_⟩
 refine Eq.trans (congrArg toR (jx (a06 (cu rfl) so))) ?_
 refine Eq.trans (congrArg toR (jx (a06 z1 (show mz [.rol ((a96 rows m).map a4e)] H = .ok (.tup ((a96 rows m).map a4e)) H from rfl)))) ?_
 exact congrArg toR (a05 (ash (cu rfl) (cu rfl) (a06 (z3 _) (show mz [.rol ((a5a ks m).map D.int)] H = .ok (.tup ((a5a ks m).map D.int)) H from rfl)) awo))
end
theorem ail {o:O} {N most:Nat} (P:Src o N) (hN:N≤999980000) (m1:1≤most) (m32:most≤32):∃ (T:Table) (o':O),T.Ok∧Dr di 2 [bc most] o T.d o'∧Src o' (N+400):=by
 obtain ⟨tg,o1,T1,e1,P1⟩:=afu P (by omega)
 obtain ⟨x,o2,e2,x0,x1,P2⟩:=v4 (m:=7) P1 (by omega) (by omega) (by omega)
 obtain ⟨y,o3,e3,y0,y1,P3⟩:=v4 (m:=6) P2 (by omega) (by omega) (by omega)
 obtain ⟨z,o4,e4,z0,z1,P4⟩:=v4 (m:=(most:Nat)) P3 (by omega) (by omega) (by omega)
 have c1:o8 false 1 cj [.ref 0] [o] = .ok (.str (S tg)) [o1]:=e1 0 _ rfl
 have c2:o8 false 2 aa [.ref 0, .int 7] [o1] = .ok (.int x) [o2]:=e2 0 _ rfl
 have c3:o8 false 2 aa [.ref 0, .int 6] [o2] = .ok (.int y) [o3]:=e3 0 _ rfl
 have c4:o8 false 2 aa [.ref 0,bc most] [o3] = .ok (.int z) [o4]:=e4 0 _ rfl
 obtain ⟨many,u,n1,Pu,eu⟩:∃ (many:Int) (u:O),1≤many∧Src u (N+10)∧∀ g:SS,j5 (jr 3 (s2 jk (sC (.int 2)) (sA (o8 false 2 aa) (ak (sV 0) (ak (sC (.int 7)) gf)))))
   (j5 (sIf (sT (s2 hEq (sA (o8 false 2 aa) (ak (sV 0) (ak (sC (.int 6)) gf))) (sC (.int 0))))
    (jr 3 (s2 jk (sC (.int 1)) (sA (o8 false 2 aa) (ak (sV 0) (ak (sV 1) gf)))))
    sNx) g) [some (.ref 0),some (bc most),some (.str (S tg)),none,none,none,none,none,none,none] [o1]=g [some (.ref 0),some (bc most),some (.str (S tg)),some (.int many),none,none,none,none,none,none] [u]:=by
  by_cases hy:y=0
  ·refine ⟨1+z,o4,by omega,P4,fun g=>?_⟩
   refine Eq.trans (jx (j8 (jj _ _ _) (a1z (cu rfl) (jj _ _ _) c2) yr)) ?_
   exact a2a (Eq.trans (ifT (tof (j8 (a1z (cu rfl) (jj _ _ _) c3) (jj _ _ _) (acl hy)))) (anp (j8 (jj _ _ _) (a1z (cu rfl) (cu rfl) c4) yr)))
  ·refine ⟨2+x,o3,by omega,P3.up (by omega),fun g=>?_⟩
   refine Eq.trans (jx (j8 (jj _ _ _) (a1z (cu rfl) (jj _ _ _) c2) yr)) ?_
   exact ifN (tof (j8 (a1z (cu rfl) (jj _ _ _) c3) (jj _ _ _) (aih hy)))
 obtain ⟨n,hn1,hn2,mn⟩:∃ n:Nat,1≤n∧n≤32∧(if (most:Int)<many then (most:Int) else many)=(n:Nat):=by
  by_cases h:(most:Int)<many
  ·exact ⟨most,m1,m32,if_pos h⟩
  ·exact ⟨many.toNat,by omega,by omega,by rw [if_neg h];omega⟩
 obtain ⟨ks,rows,u2,lk,k0,kk,lr,rr,e5,P5⟩:=aii (tg:=tg) (n:=n) Pu (by omega) T1.hi hn1 hn2
 have c5:o8 false 3 dh [.ref 0, .str (S tg),bc n] [u] = .ok (.tup [.rol (rows.map a4g), .rol (ks.map D.int)]) [u2]:=e5 0 _ rfl
 obtain ⟨met,i,t8,ew,M,cl⟩:=amx (A:=aa) (B:=dh) (C:=cj) (u:=u2) (most:=most) (tg:=tg) (many:=many) (ks:=ks) hn1 hn2 lr rr
 obtain ⟨m,pm,sm,H,hH,ee⟩:=ag2 (A:=aa) (B:=dh) (C:=cj) (most:=most) (many:=many) (i:=i) (t8:=t8) P5 hn2 lr lk T1.hi rr M cl
 have lm:m.length=met.length:=pm.length_eq
 have ln:=M.len
 have zm:0∈m:=pm.mem_iff.mpr M.z
 have m0:m[0]? = some 0:=by
  cases m with
  | nil=>cases zm
  | cons a l =>
   rcases List.mem_cons.mp zm with q | q
   ·rw [← q];rfl
   ·have:=(List.pairwise_cons.mp sm).1 0 q
    rw [show a=0 by omega];rfl
 let T:Table:=⟨tg,a96 rows m,a5a ks m⟩
 have ml:1≤m.length:=by cases m with | nil=>cases zm | cons _ _=>simp
 have ok:T.Ok:=by
  refine ⟨T1,by simpa [T] using ml,by show (a96 rows m).length≤32;rw [List.length_map];omega,fun r hr=>?_,by simp [T],?_,fun k hk=>?_⟩
  ·obtain ⟨q,hq,rfl⟩:=List.mem_map.mp hr
   have h1:=M.lt q (pm.mem_iff.mp hq)
   have e:rows[q]? = some ((rows[q]?).getD []):=by rw [List.getElem?_eq_getElem (by omega)];rfl
   obtain ⟨a,b⟩:=rr _ (List.mem_of_getElem? e)
   refine ⟨by rw [List.length_map];exact a,fun x hx=>?_⟩
   obtain ⟨v,hv,rfl⟩:=List.mem_map.mp hx
   show pos m v<(a96 rows m).length
   rw [List.length_map]
   exact (ajy (pm.mem_iff.mpr (cl q (pm.mem_iff.mp hq) v hv))).2
  ·show (a5a ks m)[0]? = _
   rw [List.getElem?_map,m0]
   show some ((ks[0]?).getD 0)=_
   rw [k0];rfl
  ·obtain ⟨q,hq,rfl⟩:=List.mem_map.mp hk
   have h1:=M.lt q (pm.mem_iff.mp hq)
   have e:ks[q]? = some ((ks[q]?).getD 0):=by rw [List.getElem?_eq_getElem (by omega)];rfl
   exact kk _ (List.mem_of_getElem? e)
 refine ⟨T,u2,ok,Dr.of rfl (by intro x hx;rw [List.mem_singleton] at hx;subst hx;exact j7 _) P.clo (r:=.ok T.d H) ?_ ((m7 (aez (Nat.zero_le 1) Table.clo) (by rw [hH];intro x hx;rw [List.mem_singleton] at hx;subst hx;exact u9 (by omega) P5.clo)).trans (by rw [hH])) Table.clo P5.clo,P5.up (by omega)⟩
 unfold di
 rw [jg]
 show toR (wj aa dh cj [some (.ref 0),some (bc most),none,none,none,none,none,none,none,none] [o])=_
 unfold wj
 refine Eq.trans (congrArg toR (jx (a06 (cu rfl) c1))) ?_
 refine Eq.trans (congrArg toR (eu _)) ?_
 refine Eq.trans (congrArg toR (a2a (aig (ash (cu rfl) (cu rfl) (a1z (cu rfl) (cu rfl) (show a7b [.int many, .int (most:Int)] [u] = .ok (bc n) [u] by show R.ok (D.int (if (most:Int)<many then (most:Int) else many)) [u]=_;rw [mn])) c5) rfl))) ?_
 refine Eq.trans (congrArg toR (jx (d:=.ref 1) (h1:=[u2, .lst ([0].map bc)]) rfl)) ?_
 refine Eq.trans (congrArg toR (jx (jj _ _ _))) ?_
 refine Eq.trans (congrArg toR (a2a ew)) ?_
 exact ee
end SRC
namespace K21
open PySem PySem.Spec L2 MI
end K21
namespace K23
open PySem PySem.Spec L2 MI
end K23
namespace K22
open PySem PySem.Spec L2 MI
noncomputable def nj (dz:SF):SE :=
 (sA (o8 false 2 dz) (ak (sV 1) (ak (sV 0) gf)))
noncomputable def m8 (dz:SF):SS :=
 (xn (sA mz (ak (sZ (jn (sRg vf (ak (sA xx (ak (s2 gIx (sV 0) (sC (.int 1))) gf)) gf)) t1 (nj dz) [0])) gf)))
noncomputable def gk:SS :=
 (j5 (sIf (sT (s2 hNe (s2 gIx (sV 4) (sV 11)) (s1 aa0 (sC (.int 1)))))
 (xn (s2 jk (sV 9) (sV 10)))
 sNx)
 (sIf (sT (s2 (anl true) (sV 11) (sV 6)))
 (j5 (a5x (sC (.bl true)) (sV 6) (sV 11))
 (a00 (sML a8c (sV 5) (ak (sA a4h (ak (sV 11) (ak (s2 jk (sV 9) (sV 10)) gf))) gf))))
 sNx))
noncomputable def lq:ST :=
 (sT (s2 gLt (sV 7) (sA xx (ak (sV 5) gf))))
noncomputable def jh:SS :=
 (j5 (a9w (s2 gIx (sV 5) (sV 7)) (a6p 2 (jw (kN 8) (jw (kN 9) a78))))
 (j5 (a4d (ajj (sV 2) (s2 gIx (sV 3) (sV 8))) (a6p 2 (jw (kN 10) (jw (kN 11) a78))) gk)
 (acr 7 a0x (sC (.int 1)))))
noncomputable def oh:SS :=
 (j5 (a9w (sV 0) (a6p 3 (jw (kN 2) (jw (kN 3) (jw (kN 4) a78)))))
 (j5 (jr 5 (sA a8b (ak (sA a4h (ak (sV 1) (ak (sC (.str "")) gf))) gf)))
 (j5 (jr 6 (s2 gD1 (sV 1) (sC (.bl true))))
 (j5 (jr 7 (sC (.int 0)))
 (j5 (sWh lq jh 100000)
 (xn (sC .non)))))))
noncomputable def zc (dw:SF):SE :=
 (s2 a4o (sV 0) (sC .non))
noncomputable def a1e (dw:SF):SS :=
 (xn (sA mz (ak (sZ (jn (sIt (sA (o8 false 1 dw) (ak (sV 0) gf))) t1 (zc dw) [])) gf)))
end K22
namespace K22
open PySem PySem.Spec L2 MI AT HND
section
variable (T:Table)
def stp (r c:Nat):Nat:=(((T.go[r]?).getD [])[c]?).getD 0
def knd (r:Nat):Bool:=decide ((T.ks[r]?).getD (-1) ≠ -1)
def tgA (c:Nat):Nat:=(T.tg[c]?).getD 0
def sgn (w:List Nat):List Nat:=(w.reverse).map (tgA T)
def hit (r0:Nat) (w:List Nat):Prop:=w≠[]∧knd T (BF.walk (stp T) r0 w)=true
end
theorem aim (T:Table) (c:Nat) (w:List Nat):sgn T (c::w)=sgn T w++[tgA T c]:=by simp [sgn]
theorem amy (T:Table) (w:List Nat):(sgn T w).length=w.length:=by simp [sgn]
section
variable {T:Table} (h:T.Ok)
theorem ajz (h:T.Ok) (r c:Nat):stp T r c<T.go.length:=by
 have h1:=h.n1
 unfold stp
 cases e:T.go[r]? with
 | none=>simp;omega
 | some row =>
  simp only [Option.getD_some]
  cases e2:row[c]? with
  | none=>simp;omega
  | some x=>simp only [Option.getD_some];exact (h.row row (List.mem_of_getElem? e)).2 x (List.mem_of_getElem? e2)
theorem a97 (h:T.Ok) {r:Nat} (hr:r<T.go.length):∀ w:List Nat,BF.walk (stp T) r w<T.go.length
 | []=>hr
 | c::w=>ajz h _ c
theorem ak0 (h:T.Ok) {r:Nat} (hr:r<T.go.length):∃ row:List Nat,T.go[r]? = some row∧row.length=T.tg.length∧(∀ x∈row,x<T.go.length)∧∀ c,c<T.tg.length→row[c]? = some (stp T r c):=by
 refine ⟨T.go[r],List.getElem?_eq_getElem hr,(h.row _ (List.getElem_mem hr)).1,(h.row _ (List.getElem_mem hr)).2,fun c hc=>?_⟩
 have l:=(h.row _ (List.getElem_mem hr)).1
 unfold stp
 rw [List.getElem?_eq_getElem hr,Option.getD_some,List.getElem?_eq_getElem (by omega),Option.getD_some]
theorem ag3 (h:T.Ok) {r:Nat} (hr:r<T.go.length):∃ k:Int,T.ks[r]? = some k ∧ -1≤k∧knd T r=decide (k ≠ -1):=by
 have l:r<T.ks.length:=by rw [h.kl];exact hr
 refine ⟨T.ks[r],List.getElem?_eq_getElem l,(h.kk _ (List.getElem_mem l)).1,?_⟩
 unfold knd
 rw [List.getElem?_eq_getElem l,Option.getD_some]
theorem auc {c:Nat} (hc:c<T.tg.length):T.tg[c]? = some (tgA T c):=by
 unfold tgA
 rw [List.getElem?_eq_getElem hc,Option.getD_some]
theorem xg (r0 c:Nat) (p q:List Nat) (e:BF.walk (stp T) r0 p=BF.walk (stp T) r0 q):hit T r0 (c::p)↔hit T r0 (c::q):=by
 unfold hit
 simp only [BF.walk,e,ne_eq,List.cons_ne_nil,not_false_eq_true,true_and]
theorem ag4 (r0:Nat):¬ hit T r0 []:=fun z=>z.1 rfl
end
def fnd (T:Table) (r0:Nat) (ws:List (List Nat)):List D:=ws.map fun w=>.tup [bc (BF.walk (stp T) r0 w), .str (S (sgn T w))]
def snn (T:Table) (r0:Nat) (ws:List (List Nat)):List (Key × D):=ws.map fun w=>(.inl ((BF.walk (stp T) r0 w:Nat):Int), .bl true)
theorem amz {T:Table} {r0 to:Nat} {ws:List (List Nat)} (h:∃ v∈ws,BF.walk (stp T) r0 v=to):∃ d,a7h (snn T r0 ws) (.inl (to:Int))=some d:=by
 obtain ⟨v,hv,e⟩:=h
 unfold a7h
 cases e2:(snn T r0 ws).find? fun kv=>decide (kv.1=(.inl (to:Int):Key)) with
 | some kv=>exact ⟨kv.2,rfl⟩
 | none =>
  rw [List.find?_eq_none] at e2
  exact absurd (by rw [decide_eq_true_iff,e]) (e2 _ (List.mem_map.mpr ⟨v,hv,rfl⟩))
theorem ara {T:Table} {r0 to:Nat} {ws:List (List Nat)} (h:∀ v∈ws,BF.walk (stp T) r0 v≠to):a7h (snn T r0 ws) (.inl (to:Int))=none∧putD (snn T r0 ws) (.inl (to:Int)) (.bl true)=snn T r0 ws++[(.inl (to:Int), .bl true)]:=by
 have no:∀ kv∈snn T r0 ws,¬ decide (kv.1=(.inl (to:Int):Key))=true:=fun kv hkv=>by
  obtain ⟨v,hv,rfl⟩:=List.mem_map.mp hkv
  rw [decide_eq_true_iff]
  intro z
  have:=Sum.inl.inj z
  exact h v hv (by omega)
 constructor
 ·unfold a7h
  rw [List.find?_eq_none.mpr no]
  rfl
 ·unfold putD
  rw [if_neg]
  intro z
  obtain ⟨kv,hkv,e⟩:=List.any_eq_true.mp z
  exact no kv hkv e
abbrev tau (T:Table) (r0 l:Nat) (t8 t9 t10 t11:Option D):Sd:=[some T.d,some (bc r0),some (.str (S T.tg)),some (.tup (T.go.map a4e)),some (.tup (T.ks.map D.int)),some (.ref 0),some (.ref 1),some (bc l),t8,t9,t10,t11]
abbrev hp (T:Table) (r0:Nat) (ws:List (List Nat)):Hd:=[.lst (fnd T r0 ws), .dK (snn T r0 ws)]
theorem few (T:Table) (h:T.Ok) {r0 F:Nat} {ws:List (List Nat)} (hr:r0<T.go.length) (St:BF.St T.tg.length (stp T) r0 (hit T r0) ws F):ws.length≤T.go.length:=by
 have:=BF.a2l T.go.length (ws.map fun w=>BF.walk (stp T) r0 w) (List.pairwise_map.mpr St.dis) fun x hx=>by
  obtain ⟨w,_,rfl⟩:=List.mem_map.mp hx
  exact a97 h hr w
 simpa using this
def Won (T:Table) (r0:Nat) (d:D):Prop:=∃ w,BF.Ok T.tg.length w∧hit T r0 w∧(∀ v,BF.Ok T.tg.length v→hit T r0 v→BF.num T.tg.length w≤BF.num T.tg.length v)∧w.length≤T.go.length∧d = .str (S (sgn T w))
theorem ag5 {T:Table} (h:T.Ok) {r0 l c:Nat} {ws:List (List Nat)} {w:List Nat} (hr:r0<T.go.length) (hl:ws[l]? = some w) (hc:c<T.tg.length) (St:BF.St T.tg.length (stp T) r0 (hit T r0) ws (BF.num T.tg.length w*T.tg.length+c+1)) (τ:Sd)
  (hτ:τ=tau T r0 l (some (bc (BF.walk (stp T) r0 w))) (some (.str (S (sgn T w)))) (some (.str (S [tgA T c]))) (some (bc (stp T (BF.walk (stp T) r0 w) c)))) :
  (∃ ws',gk τ (hp T r0 ws) = .nx τ (hp T r0 ws')∧(∀ v∈ws,v∈ws')∧ws'[l]? = some w∧BF.St T.tg.length (stp T) r0 (hit T r0) ws' (BF.num T.tg.length w*T.tg.length+(c+1)+1)) ∨
  ∃ d h',gk τ (hp T r0 ws) = .rt d h'∧Won T r0 d:=by
 have n32:=h.n32
 have fw:=few T h hr St
 have ll:=(List.getElem?_eq_some_iff.mp hl).1
 have wl:=St.len l w hl
 have rl:=a97 h hr w
 have wo:BF.Ok T.tg.length (c::w):=BF.Ok.cons hc (St.ok w (List.mem_of_getElem? hl))
 have sl:=ajz h (BF.walk (stp T) r0 w) c
 obtain ⟨k,hk,k1,kd⟩:=ag3 h sl
 have add:∀ hh,jk (.str (S (sgn T w))) (.str (S [tgA T c])) hh = .ok (.str (S (sgn T (c::w)))) hh:=fun hh=>by
  rw [aim]
  exact aic (jb (by rw [amy];simp;omega))
 have ki:∀ hh,gIx (.tup (T.ks.map D.int)) (bc (stp T (BF.walk (stp T) r0 w) c)) hh = .ok (.int k) hh:=fun hh=>ajt (by rw [List.getElem?_map,hk];rfl)
 by_cases hz:k = -1
 ·have nh:¬ hit T r0 (c::w):=fun z=>by
   have:=z.2
   rw [BF.walk,kd,hz] at this
   simp at this
  have s1:∀ g:SS,j5 (sIf (sT (s2 hNe (s2 gIx (sV 4) (sV 11)) (s1 aa0 (sC (.int 1))))) (xn (s2 jk (sV 9) (sV 10))) sNx) g τ (hp T r0 ws)=g τ (hp T r0 ws):=fun g=>by
   subst hτ
   exact ifN (tof (j8 (j8 (cu rfl) (cu rfl) (ki _)) (anq (jj _ _ _) (acn _)) (ar3 hz)))
  refine .inl ?_
  by_cases sn:∃ v∈ws,BF.walk (stp T) r0 v=stp T (BF.walk (stp T) r0 w) c
  ·obtain ⟨d,hd⟩:=amz sn
   refine ⟨ws,?_,fun v hv=>hv,hl,St.seen wo rfl nh sn⟩
   unfold gk
   rw [s1]
   have q:anl true (bc (stp T (BF.walk (stp T) r0 w) c)) (.ref 1) (hp T r0 ws) = .ok (.bl false) (hp T r0 ws):=by
    show (match (some (a7h (snn T r0 ws) (.inl ((stp T (BF.walk (stp T) r0 w) c:Nat):Int))):Option (Option D)) with | some r=>R.ok (D.bl (if true then !r.isSome else r.isSome)) (hp T r0 ws) | none=>.no)=_
    rw [hd];rfl
   subst hτ
   exact ifF (tof (j8 (cu rfl) (cu rfl) q))
  ·have sn':∀ v∈ws,BF.walk (stp T) r0 v≠stp T (BF.walk (stp T) r0 w) c:=fun v hv z=>sn ⟨v,hv,z⟩
   obtain ⟨d1,d2⟩:=ara sn'
   refine ⟨ws++[c::w],?_,fun v hv=>List.mem_append_left _ hv,by rw [List.getElem?_append_left ll];exact hl,St.add wo rfl nh sn' (by rw [List.length_cons];omega)⟩
   unfold gk
   rw [s1]
   have q:anl true (bc (stp T (BF.walk (stp T) r0 w) c)) (.ref 1) (hp T r0 ws) = .ok (.bl true) (hp T r0 ws):=by
    show (match (some (a7h (snn T r0 ws) (.inl ((stp T (BF.walk (stp T) r0 w) c:Nat):Int))):Option (Option D)) with | some r=>R.ok (D.bl (if true then !r.isSome else r.isSome)) (hp T r0 ws) | none=>.no)=_
    rw [d1];rfl
   have p:anm (.ref 1) (bc (stp T (BF.walk (stp T) r0 w) c)) (.bl true) (hp T r0 ws)=some [.lst (fnd T r0 ws), .dK (snn T r0 (ws++[c::w]))]:=by
    have lt:(snn T r0 ws).length<LINE:=a4a (by unfold snn;rw [List.length_map];omega)
    show (if (snn T r0 ws).length<LINE then some [O.lst (fnd T r0 ws),O.dK (putD (snn T r0 ws) (.inl ((stp T (BF.walk (stp T) r0 w) c:Nat):Int)) (.bl true))] else none)=_
    rw [if_pos lt,d2]
    unfold snn
    rw [List.map_append]
    rfl
   subst hτ
   refine Eq.trans (ifT (tof (j8 (cu rfl) (cu rfl) q))) ?_
   refine Eq.trans (a2a (aqy (jj _ _ _) (cu rfl) (cu rfl) p)) ?_
   refine Eq.trans (a4v (cu rfl) rfl (arg1 (a1z (cu rfl) (j8 (cu rfl) (cu rfl) (add _)) aub)) (a4w (xs:=fnd T r0 ws) rfl (a4a (by unfold fnd;rw [List.length_map];omega)))) ?_
   unfold hp fnd
   rw [List.map_append]
   rfl
 ·refine .inr ⟨_,hp T r0 ws,?_,c::w,wo,⟨by simp,by rw [BF.walk,kd];simpa using hz⟩,fun v ov hv=>?_,by rw [List.length_cons];omega,rfl⟩
  ·subst hτ
   unfold gk
   exact amu (Eq.trans (ifT (tof (j8 (j8 (cu rfl) (cu rfl) (ki _)) (anq (jj _ _ _) (acn _)) (ar4 hz)))) (a05 (j8 (cu rfl) (cu rfl) (add _))))
  ·exact St.least ov hv
theorem an0 {T:Table} {r:Nat} {row:List Nat} (l:row.length=T.tg.length) (at':∀ c,c<T.tg.length→row[c]? = some (stp T r c)) :
  ((v7 (S T.tg)).zip (row.map bc)).map (fun p=>D.tup [p.1,p.2])=(List.range T.tg.length).map fun c=>.tup [.str (S [tgA T c]),bc (stp T r c)]:=by
 refine List.ext_getElem? fun i=>?_
 unfold v7
 rw [afo]
 by_cases hi:i<T.tg.length
 ·have hx:=at' i hi
  have ht:=auc (T:=T) hi
  rw [List.getElem?_map,List.getElem?_map,List.getElem?_range hi,List.getElem?_zip_eq_some (z:=(D.str (S [tgA T i]),bc (stp T r i))).mpr ⟨by rw [List.getElem?_map,ht];rfl,by rw [List.getElem?_map,hx];rfl⟩]
  rfl
 ·rw [List.getElem?_eq_none (by simp;omega),List.getElem?_eq_none (by simp;omega)]
noncomputable def dz:SF:=ql oh 12
theorem a0q {T:Table} (h:T.Ok) {r0:Nat} (hr:r0<T.go.length):∃ d h',dz [T.d,bc r0] [] = .ok d h'∧(Won T r0 d∨(d = .non∧∀ v,BF.Ok T.tg.length v→¬ hit T r0 v)):=by
 have n32:=h.n32
 have s1:=h.tong.lo
 have s6:=h.tong.hi
 have wh:=aqb (c:=lq) (f:=jh)
  (fun m τ hh=>∃ (ws:List (List Nat)) (l:Nat) (t8 t9 t10 t11:Option D),τ=tau T r0 l t8 t9 t10 t11∧hh=hp T r0 ws∧[]∈ws∧m=T.go.length - l∧ws.length≤T.go.length∧((∃ w,ws[l]? = some w∧BF.St T.tg.length (stp T) r0 (hit T r0) ws (BF.num T.tg.length w*T.tg.length+1))∨(l=ws.length∧∀ v,BF.Ok T.tg.length v→¬ hit T r0 v)))
  (fun _ _=>∀ v,BF.Ok T.tg.length v→¬ hit T r0 v) (fun d _=>Won T r0 d) ?_ T.go.length 100000 (tau T r0 0 none none none none) (hp T r0 [[]]) (by omega)
  ⟨[[]],0,none,none,none,none,rfl,rfl,by simp,by simp,by simpa using h.n1, .inl ⟨[],rfl,by simpa [BF.num] using BF.St.start (ag4 r0)⟩⟩
 ·have e0:dz [T.d,bc r0] []=toR (j5 (sWh lq jh 100000) (xn (sC .non)) (tau T r0 0 none none none none) (hp T r0 [[]])):=by
   unfold dz
   rw [jg]
   show toR (oh [some T.d,some (bc r0),none,none,none,none,none,none,none,none,none,none] [])=_
   unfold oh
   refine congrArg toR ?_
   refine Eq.trans (a2a (aig (cu rfl) rfl)) ?_
   refine Eq.trans (jx (a06 (a1z (cu rfl) (jj _ _ _) aub) rfl)) ?_
   refine Eq.trans (jx (j8 (cu rfl) (jj _ _ _) rfl)) ?_
   exact Eq.trans (jx (jj _ _ _)) rfl
  rcases wh with ⟨τ',h',e,no⟩ | ⟨d,h',e,won⟩
  ·exact ⟨.non,h',by rw [e0,a2a e];rfl, .inr ⟨rfl,no⟩⟩
  ·exact ⟨d,h',by rw [e0,amu e];rfl, .inl won⟩
 ·rintro m τ hh ⟨ws,l,t8,t9,t10,t11,rfl,rfl,em,rfl,wn,q⟩
  have ln:xx [.ref 0] (hp T r0 ws) = .ok (.int (ws.length:Nat)) (hp T r0 ws):=by
   have:=a94 (h:=hp T r0 ws) (i:=0) (xs:=fnd T r0 ws) rfl
   rwa [show (fnd T r0 ws).length=ws.length from by simp [fnd]] at this
  rcases q with ⟨w,hw,St⟩ | ⟨rfl,no⟩
  ·have ll:=(List.getElem?_eq_some_iff.mp hw).1
   refine .inr ⟨_,tof (j8 (cu rfl) (a06 (cu rfl) ln) (ar0 (by omega))),?_⟩
   obtain ⟨row,er,lr,lx,at'⟩:=ak0 h (a97 h hr w)
   have lo:=a2i (g:=a6p 2 (jw (kN 10) (jw (kN 11) a78))) (b:=gk) (fun c:Nat=>D.tup [.str (S [tgA T c]),bc (stp T (BF.walk (stp T) r0 w) c)])
    (fun pre τ hh=>∃ (ws:List (List Nat)) (t10 t11:Option D),τ=tau T r0 l (some (bc (BF.walk (stp T) r0 w))) (some (.str (S (sgn T w)))) t10 t11∧hh=hp T r0 ws∧[]∈ws∧ws[l]? = some w∧BF.St T.tg.length (stp T) r0 (hit T r0) ws (BF.num T.tg.length w*T.tg.length+pre.length+1))
    (fun d _=>Won T r0 d) (List.range T.tg.length) [] (tau T r0 l (some (bc (BF.walk (stp T) r0 w))) (some (.str (S (sgn T w)))) t10 t11) (hp T r0 ws) ?_ ⟨ws,t10,t11,rfl,rfl,em,hw,St⟩
   ·have fx:gIx (.ref 0) (bc l) (hp T r0 ws) = .ok (.tup [bc (BF.walk (stp T) r0 w), .str (S (sgn T w))]) (hp T r0 ws):=aaq (xs:=fnd T r0 ws) rfl (by unfold fnd;rw [List.getElem?_map,hw];rfl)
    have zi:ajj (sV 2) (s2 gIx (sV 3) (sV 8)) (tau T r0 l (some (bc (BF.walk (stp T) r0 w))) (some (.str (S (sgn T w)))) t10 t11) (hp T r0 ws) = .ok ⟨(List.range T.tg.length).map fun c=>.tup [.str (S [tgA T c]),bc (stp T (BF.walk (stp T) r0 w) c)],fun _=>True⟩ (hp T r0 ws):=by
     unfold ajj
     rw [cu rfl,bx,j8 (cu rfl) (cu rfl) (ajt (by rw [List.getElem?_map,er];rfl)),bx,← an0 lr at']
     unfold apx
     simp only [srcOf,and_self]
    have e1:∀ g:SS,j5 (a9w (s2 gIx (sV 5) (sV 7)) (a6p 2 (jw (kN 8) (jw (kN 9) a78)))) (j5 (a4d (ajj (sV 2) (s2 gIx (sV 3) (sV 8))) (a6p 2 (jw (kN 10) (jw (kN 11) a78))) gk) g) (tau T r0 l t8 t9 t10 t11) (hp T r0 ws)=thn (forL (fun _=>True) (a6p 2 (jw (kN 10) (jw (kN 11) a78))) gk ((List.range T.tg.length).map fun c=>.tup [.str (S [tgA T c]),bc (stp T (BF.walk (stp T) r0 w) c)]) (tau T r0 l (some (bc (BF.walk (stp T) r0 w))) (some (.str (S (sgn T w)))) t10 t11) (hp T r0 ws)) g:=fun g=>by
     refine Eq.trans (a2a (aig (j8 (cu rfl) (cu rfl) fx) rfl)) ?_
     exact a6i zi
    rcases lo with ⟨τ',h',e2,ws',t10',t11',rfl,rfl,em',hw',St'⟩ | ⟨d,h',e2,won⟩
    ·rw [List.nil_append,List.length_range] at St'
     have wn':=few T h hr St'
     have ll':=(List.getElem?_eq_some_iff.mp hw').1
     refine .inl ⟨tau T r0 (l+1) (some (bc (BF.walk (stp T) r0 w))) (some (.str (S (sgn T w)))) t10' t11',hp T r0 ws',T.go.length - (l+1),?_,by omega,ws',l+1,_,_,_,_,rfl,rfl,em',rfl,wn',?_⟩
     ·unfold jh
      rw [e1,e2,yo]
      exact aqx rfl (jj _ _ _) a1g
     ·by_cases more:l+1<ws'.length
      ·exact .inl ⟨ws'[l+1],List.getElem?_eq_getElem more,St'.next (by omega) hw' (List.getElem?_eq_getElem more) (xg r0)⟩
      ·exact .inr ⟨by omega,fun v ov=>(St'.all hw' (by omega) (ag4 r0) em' (xg r0) v ov).1⟩
    ·refine .inr ⟨d,h',?_,won⟩
     unfold jh
     rw [e1,e2,a7j]
   ·rintro pre c post τ hh all ⟨ws,t10,t11,rfl,rfl,em,hw,St⟩
    rw [List.nil_append] at all
    obtain ⟨hi,hc⟩:=vp all
    rw [← hi] at St
    refine ⟨_,_,rfl,?_⟩
    rcases ag5 h hr hw hc St _ rfl with ⟨ws',e3,sb,hw',St'⟩ | ⟨d,h',e3,won⟩
    ·refine .inl ⟨_,_,e3,ws',_,_,rfl,rfl,sb _ em,hw',by rw [List.length_append,List.length_singleton,← hi];exact St'⟩
    ·exact .inr ⟨d,h',e3,won⟩
  ·refine .inl ⟨_,tof (j8 (cu rfl) (a06 (cu rfl) ln) (asi (by omega))),no⟩
end K22
namespace K22
open PySem PySem.Spec L2 MI AT HND
section
variable {T:Table}
abbrev FL (T:Table) (k r:Nat):Bool:=BF.fl T.tg.length (stp T) (knd T) k r
theorem aud (h:T.Ok) {r:Nat} (hr:r<T.go.length):T.go[r]? = some ((List.range T.tg.length).map (stp T r)):=by
 obtain ⟨row,e,l,_,at'⟩:=ak0 h hr
 rw [e]
 congr 1
 refine List.ext_getElem? fun i=>?_
 by_cases hi:i<T.tg.length
 ·rw [at' i hi,List.getElem?_map,List.getElem?_range hi];rfl
 ·rw [List.getElem?_eq_none (by omega),List.getElem?_eq_none (by simp;omega)]
def kI (T:Table) (r:Nat):Int:=(T.ks[r]?).getD (-1)
end
end K22
namespace K22
open PySem PySem.Spec L2 MI AT HND
section
variable {T:Table}
def ain (T:Table) (r:Nat):Option Nat:=(List.range T.go.length).find? fun i=>FL T (1+i) r
def gtx (T:Table) (k r:Nat):List Nat:=(BF.gre T.tg.length (stp T) (knd T) k r).map (tgA T)
def A (T:Table) (r:Nat):D:=match ain T r with | none=>.non | some i=>.str (S (gtx T (1+i) r))
theorem ak1 (h:T.Ok) {r:Nat} {d:D} (w:Won T r d∨(d = .non∧∀ v,BF.Ok T.tg.length v→¬ hit T r v)):d=A T r:=by
 have s1:=h.tong.lo
 unfold A
 rcases w with ⟨w,wo,wh,wl,wn,rfl⟩ | ⟨rfl,no⟩
 ·have w1:w.length≠0:=fun z=>wh.1 (List.length_eq_zero_iff.mp z)
  have fw:FL T w.length r=true:=by
   have:=BF.aij (s:=T.tg.length) (step:=stp T) (K:=knd T) (u:=w.reverse) (r:=r) (by rw [List.reverse_reverse];exact wo) (by rw [List.reverse_reverse];exact wh.2)
   rwa [List.length_reverse] at this
  cases e:ain T r with
  | none =>
   unfold ain at e
   rw [List.find?_eq_none] at e
   have:=e (w.length - 1) (by rw [List.mem_range];omega)
   rw [show 1+(w.length - 1)=w.length by omega] at this
   exact absurd fw this
  | some i =>
   unfold ain at e
   obtain ⟨fi,hi,lo⟩:=List.find?_range_eq_some.mp e
   obtain ⟨gl,go,gh⟩:=BF.a80 fi
   have ghit:hit T r (BF.gre T.tg.length (stp T) (knd T) (1+i) r).reverse:=⟨fun z=>by
    have:=congrArg List.length z
    simp [gl] at this,gh⟩
   have le:1+i≤w.length:=by
    refine Nat.le_of_not_lt fun z=>?_
    have:=lo (w.length - 1) (by omega)
    rw [show 1+(w.length - 1)=w.length by omega,fw] at this
    simp at this
   have n1:=wl _ go ghit
   have eq:w.length=1+i:=by
    refine Nat.le_antisymm (Nat.le_of_not_lt fun z=>?_) le
    have:=BF.a4x (s:=T.tg.length) (by omega) (x:=(BF.gre T.tg.length (stp T) (knd T) (1+i) r).reverse) (y:=w) (by rw [List.length_reverse,gl];exact z) go
    omega
   have n2:=BF.a81 (s:=T.tg.length) (step:=stp T) (K:=knd T) (u:=w.reverse) (r:=r) (by rw [List.reverse_reverse];exact wo) (by rw [List.reverse_reverse];exact wh.2)
   rw [List.length_reverse,List.reverse_reverse,eq] at n2
   have:=BF.a6j wo go (by omega)
   dsimp only
   unfold gtx sgn
   conv=>lhs;rw [this,List.reverse_reverse]
 ·cases e:ain T r with
  | none=>rfl
  | some i =>
   unfold ain at e
   obtain ⟨fi,hi,lo⟩:=List.find?_range_eq_some.mp e
   obtain ⟨gl,go,gh⟩:=BF.a80 fi
   exact (no _ go ⟨fun z=>by
    have:=congrArg List.length z
    simp [gl] at this,gh⟩).elim
theorem ana (n r:Nat):clo n (A T r):=by
 unfold A
 cases ain T r with
 | none=>exact aey
 | some i=>exact a04 _
theorem arb {n:Nat} (d:D) (hd:clo 0 d):∀ x∈[T.d,d],clo 0 x:=by
 intro x hx
 simp only [List.mem_cons,List.not_mem_nil,or_false] at hx
 rcases hx with rfl | rfl
 ·exact Table.clo
 ·exact hd
theorem a82 (h:T.Ok) {r:Nat} (hr:r<T.go.length):Pu dz 2 [T.d,bc r] (A T r):=by
 obtain ⟨d,h',e,q⟩:=a0q h hr
 have:=ak1 h q
 subst this
 exact Pu.of rfl (arb (n:=0) _ (j7 _)) e (m7 (ana _ _) (by simp)) (ana _ _)
end
end K22
namespace K23
open PySem PySem.Spec L2 MI AT HND K22
section
variable {T:Table}
def Pln:D→Prop
 | .non=>True | .bl _=>True | .int _=>True | .str x=>x.cps.toList.length≤1000 | .tup xs=>clos 0 xs | .rol xs=>clos 0 xs | .rod _ xs=>clos 0 xs | _=>False
end
end K23
namespace K21
open PySem PySem.Spec L2 MI AT HND K22 K23 EVX
section
variable {T:Table}
theorem ack {a b:D} (ha:MI.clo 0 a) (hb:MI.clo 0 b):∀ x∈[a,b],MI.clo 0 x:=by
 intro x hx
 simp only [List.mem_cons,List.not_mem_nil,or_false] at hx
 rcases hx with rfl | rfl
 ·exact ha
 ·exact hb
theorem arc {a b c:D} (ha:MI.clo 0 a) (hb:MI.clo 0 b) (hc:MI.clo 0 c):∀ x∈[a,b,c],MI.clo 0 x:=by
 intro x hx
 simp only [List.mem_cons,List.not_mem_nil,or_false] at hx
 rcases hx with rfl | rfl | rfl
 ·exact ha
 ·exact hb
 ·exact hc
theorem a98 (h:Hd):gIx T.d (.int 2) h = .ok (.tup (T.ks.map D.int)) h:=ajt (j:=2) rfl
theorem a83 (h:T.Ok) {r:Nat} (hr:r<T.go.length) (hh:Hd):gIx (.tup (T.ks.map D.int)) (bc r) hh = .ok (.int (kI T r)) hh:=by
 obtain ⟨k,e,_⟩:=ag3 h hr
 exact ajt (by rw [List.getElem?_map,e];simp [kI,e])
end
end K21
namespace K21
open PySem PySem.Spec L2 MI AT HND K22 K23 EVX
end K21
namespace SRC
open PySem PySem.Spec L2 MI AT HND EVX K22 K23 K21
end SRC
namespace K40
open PySem PySem.Spec L2 MI AT HND EVX K22 K23 K21
section
variable {τ:Sd} {h h1 h2:Hd} {c1 c2:ST} {f g k:SE} {p q:SS}
theorem avf {a b:Bool} (e1:c1 τ h = .ok a h) (e2:a=true→c2 τ h = .ok b h):a8a c1 c2 τ h = .ok (a && b) h:=by
 cases a with
 | true=>rw [aqv e1 (e2 rfl)];rfl
 | false=>rw [au7 e1];rfl
theorem orB {a b:Bool} (e1:c1 τ h = .ok a h) (e2:a=false→c2 τ h = .ok b h):sOr c1 c2 τ h = .ok (a || b) h:=by
 cases a with
 | true=>rw [orT e1];rfl
 | false=>rw [orF e1 (e2 rfl)];rfl
theorem avh (x y:Int):gGe (.int x) (.int y) h = .ok (.bl (decide (y≤x))) h:=rfl
theorem awr (x y:Int):gLt (.int x) (.int y) h = .ok (.bl (decide (x<y))) h:=rfl
theorem aue (x y:Int):hEq (.int x) (.int y) h = .ok (.bl (decide (x=y))) h:=by
 by_cases c:x=y
 ·rw [acl c,decide_eq_true c]
 ·rw [aih c,decide_eq_false c]
theorem avi (x y:Int):hNe (.int x) (.int y) h = .ok (.bl (decide (x≠y))) h:=by
 by_cases c:x=y
 ·rw [ar3 c,decide_eq_false (by simpa using c)]
 ·rw [ar4 c,decide_eq_true c]
end
section
variable {T:Table}
def rw' (T:Table) (r:Nat):List Nat:=(T.go[r]?).getD []
theorem a84 (h:T.Ok) {r:Nat} (hr:r<T.go.length):T.go[r]? = some (rw' T r)∧(rw' T r).length≤6∧∀ x∈rw' T r,x<T.go.length:=by
 have e:T.go[r]? = some (rw' T r):=by unfold rw';rw [List.getElem?_eq_getElem hr];rfl
 obtain ⟨a,b⟩:=h.row _ (List.mem_of_getElem? e)
 exact ⟨e,by have:=h.tong.hi;omega,b⟩
theorem ard (h:T.Ok) {r:Nat} (hr:r<T.go.length) (hh:Hd):gIx (.tup (T.go.map a4e)) (bc r) hh = .ok (a4e (rw' T r)) hh:=ajt (by rw [List.getElem?_map,(a84 h hr).1];rfl)
theorem go1 (h:Hd):gIx T.d (.int 1) h = .ok (.tup (T.go.map a4e)) h:=ajt (j:=1) rfl
theorem aas (h:T.Ok) {r:Nat} (hr:r<T.go.length) : -1≤kI T r:=by
 obtain ⟨k,e,k1,_⟩:=ag3 h hr
 unfold kI;rw [e];exact k1
end
end K40
namespace K40
open PySem PySem.Spec L2 MI AT HND EVX K22 K23 K21
section
variable {T:Table}
def isI:D→Bool | .int _=>true | _=>false
def isB:D→Bool | .bl _=>true | _=>false
theorem auf {d:D} {h:Hd} (p:Pln d):a7o [d, .ty "int"] h = .ok (.bl (isI d || isB d)) h:=by
 cases d<;>first | (simp only [Pln] at p;done) | simp [a7o,apn,tyD,ali,isI,isB]
theorem arf {d:D} {h:Hd} (p:Pln d):a7o [d, .ty "bool"] h = .ok (.bl (isB d)) h:=by
 cases d<;>first | (simp only [Pln] at p;done) | simp [a7o,apn,tyD,ali,isB]
theorem arh {a:D} (ha:MI.clo 0 a):∀ x∈[a],MI.clo 0 x:=by intro x hx;rw [List.mem_singleton] at hx;subst hx;exact ha
end
end K40
namespace K40
open PySem PySem.Spec L2 MI AT HND EVX K22 K23 K21
end K40
namespace K40
open PySem PySem.Spec L2 MI AT HND EVX K22 K23 K21
theorem auh {fi:SI} {G:SG} {b:SS} {xs:List D} {ck:Hd→Prop} {τ:Sd} {h h1:Hd} (e:fi τ h = .ok ⟨xs,ck⟩ h1):a4d fi G b τ h=forL ck G b xs τ h1:=by
 unfold a4d
 rw [e]
 rfl
section
variable {T:Table}
def bg (bs:List Bool) (i:Nat):Bool:=(bs[i]?).getD false
theorem ari {bs:List Bool} {i:Nat} (hi:i<bs.length):(bs.map D.bl)[i]? = some (.bl (bg bs i)):=by unfold bg;rw [List.getElem?_map,List.getElem?_eq_getElem hi];rfl
abbrev HB (bs:List Bool):Hd:=[.lst (bs.map D.bl)]
theorem arj (bs:List Bool) (i:Nat):(bs.map D.bl).set i (.bl true)=(bs.set i true).map D.bl:=by rw [List.map_set]
theorem kge (h:T.Ok) {τ:Sd} {j t:Nat} (hp:Hd) (h0:τ[0]? = some (some T.d)) (hj:τ[j]? = some (some (bc t))) (ht:t<T.go.length):s2 gIx (s2 gIx (sV 0) (sC (.int 2))) (sV j) τ hp = .ok (.int (kI T t)) hp:=j8 (j8 (cu h0) (jj _ _ _) (a98 _)) (cu hj) (a83 h ht _)
theorem ak2 (h:T.Ok) {τ:Sd} {j r:Nat} (hp:Hd) (h0:τ[0]? = some (some T.d)) (hj:τ[j]? = some (some (bc r))) (hr:r<T.go.length):sIt (s2 gIx (s2 gIx (sV 0) (sC (.int 1))) (sV j)) τ hp = .ok ⟨(rw' T r).map bc,fun _=>True⟩ hp:=a7y (j8 (j8 (cu h0) (jj _ _ _) (go1 _)) (cu hj) (ard h hr _)) rfl
end
end K40
namespace K40
open PySem PySem.Spec L2 MI AT HND EVX K22 K23 K21
section
variable {T:Table}
theorem nu (p:Nat→Bool):∀ l:List Nat,(l.filterMap fun i=>if p i=true then some (bc i) else none)=(l.filter p).map bc
 | []=>rfl
 | i::l=>by
  cases h:p i with
  | true=>rw [List.filterMap_cons_some (b:=bc i) (by rw [h];rfl),List.filter_cons_of_pos h,nu p l];rfl
  | false=>rw [List.filterMap_cons_none (by rw [h];rfl),List.filter_cons_of_neg (by rw [h];simp),nu p l]
end
end K40
namespace K22
open PySem PySem.Spec L2 MI AT HND
section
variable {T:Table}
noncomputable def dw:SF:=ql (m8 dz) 1
noncomputable def jd:SF:=ql (a1e dw) 1
abbrev aat (T:Table):List D:=(List.range T.go.length).map (A T)
abbrev aau (T:Table):List D:=(List.range T.go.length).map fun r=>.bl (!qw (A T r))
theorem a4b (n:Nat):clos n (aat T):=ik fun r _=>ana _ _
theorem a1j (n:Nat):clos n (aau T):=ik fun r _=>a7l _
theorem ark:∀ x∈[T.d],clo 0 x:=by
 intro x hx
 rw [List.mem_singleton] at hx
 subst hx
 exact Table.clo
theorem T1 (hh:Hd):gIx T.d (.int 1) hh = .ok (.tup (T.go.map a4e)) hh:=ajt (j:=1) rfl
theorem avj (hh:Hd):xx [.tup (T.go.map a4e)] hh = .ok (.int (T.go.length:Nat)) hh:=by rw [a1f,List.length_map]
theorem a6l (h:T.Ok):Pu dw 1 [T.d] (.tup (aat T)):=by
 have n32:=h.n32
 refine Pu.of rfl ark (r:=.ok (.tup (aat T)) []) ?_ (m7 (u5 (a4b _)) (by simp)) (u5 (a4b _))
 unfold dw
 rw [jg]
 show toR (m8 dz [some T.d] [])=_
 unfold m8
 have cz:sZ (jn (sRg vf (ak (sA xx (ak (s2 gIx (sV 0) (sC (.int 1))) gf)) gf)) t1 (nj dz) [0]) [some T.d] [] = .ok (.rol (aat T)) []:=by
  refine xu (qp (fun r:Nat=>D.int (r:Nat)) (A T) (List.range T.go.length) (a1h (a06 (j8 (cu rfl) (jj _ _ _) (T1 _)) (avj _)) (jb (by omega))) (jb (by rw [List.length_range];omega)) fun r hr=>?_) (a4b _) (by simp)
  rw [v6]
  exact a1z (cu rfl) (cu rfl) (a82 h (List.mem_range.mp hr) _)
 exact congrArg toR (a05 (a06 cz rfl))
theorem a0r (h:T.Ok):Pu jd 1 [T.d] (.tup (aau T)):=by
 have n32:=h.n32
 refine Pu.of rfl ark (r:=.ok (.tup (aau T)) []) ?_ (m7 (u5 (a1j _)) (by simp)) (u5 (a1j _))
 unfold jd
 rw [jg]
 show toR (a1e dw [some T.d] [])=_
 unfold a1e
 have cz:sZ (jn (sIt (sA (o8 false 1 dw) (ak (sV 0) gf))) t1 (zc dw) []) [some T.d] [] = .ok (.rol (aau T)) []:=by
  refine xu (qp (A T) (fun r=>.bl (!qw (A T r))) (List.range T.go.length) (a7y (a06 (cu rfl) (a6l h _)) rfl) (jb (by rw [List.length_range];omega)) fun r hr=>?_) (a1j _) (by simp)
  rw [v6]
  exact j8 (cu rfl) (jj _ _ _) (yt _)
 exact congrArg toR (a05 (a06 cz rfl))
end
end K22
namespace MI
open PySem PySem.Spec L2 SRC HND
theorem ag6 {l:List Nat} {y:Nat}:(y:Int)∈cst l↔y∈l:=by
 unfold cst
 rw [List.mem_map]
 constructor
 ·rintro ⟨x,hx,e⟩;have:x=y:=by omega
  subst this;exact hx
 ·intro h;exact ⟨y,h,rfl⟩
theorem ag7 (l:List Nat) (y:Nat):stepK (cst l) (y:Int)=cst (stepK l y):=by
 unfold L2.stepK
 by_cases h:y∈l
 ·rw [if_pos h,if_pos (ag6.mpr h)]
 ·rw [if_neg h,if_neg fun z=>h (ag6.mp z)]
  unfold cst;rw [List.map_append];rfl
structure Fw (n:Nat) (l:List Nat):Prop where
 nd:l.Nodup
 lt:∀ x∈l,x<n
theorem Fw.nil {n:Nat}:Fw n []:=⟨List.nodup_nil,by simp⟩
theorem Fw.len {n:Nat} {l:List Nat} (h:Fw n l):l.length≤n:=BF.a2l n l h.nd h.lt
theorem Fw.step {n x:Nat} {l:List Nat} (M:Fw n l) (hx:x<n):Fw n (stepK l x):=by
 unfold L2.stepK
 by_cases h:x∈l
 ·rw [if_pos h];exact M
 rw [if_neg h]
 refine ⟨?_,fun y hy=>?_⟩
 ·rw [List.nodup_append]
  refine ⟨M.nd,by simp,fun a ha b hb=>?_⟩
  rw [List.mem_singleton] at hb
  subst hb
  exact fun e=>h (e ▸ ha)
 ·rcases List.mem_append.mp hy with z | z
  ·exact M.lt y z
  ·rw [List.mem_singleton] at z;subst z;exact hx
theorem aio {l:List Nat} {x y:Nat}:y∈stepK l x↔y∈l∨y=x:=by
 unfold L2.stepK
 by_cases h:x∈l
 ·rw [if_pos h]
  exact ⟨.inl,fun z=>z.elim id fun e=>e ▸ h⟩
 ·rw [if_neg h,List.mem_append,List.mem_singleton]
theorem Fw.fold {n:Nat}:∀ {r l:List Nat},Fw n l→(∀ x∈r,x<n)→Fw n (r.foldl stepK l)
 | [],_,h,_=>h
 | x::r,l,h,k=>Fw.fold (r:=r) (h.step (k x List.mem_cons_self)) fun y hy=>k y (List.mem_cons_of_mem _ hy)
theorem aav {y:Nat}:∀ {r l:List Nat},y∈r.foldl stepK l↔y∈l∨y∈r
 | [],l=>by simp
 | x::r,l=>by
  rw [List.foldl_cons,aav (r:=r),aio,List.mem_cons]
  constructor
  ·rintro ((h | h) | h)
   ·exact .inl h
   ·exact .inr (.inl h)
   ·exact .inr (.inr h)
  ·rintro (h | h | h)
   ·exact .inl (.inl h)
   ·exact .inl (.inr h)
   ·exact .inr h
theorem a85 {n:Nat} (hn:n≤60) {x:D} {rd:Sd} {h:Hd}:∀ {r l:List Nat},Fw n l→(∀ y∈r,y<n)→setIn (fun _=>True) (sV 1) x rd (r.map bc) (cst l) h = .ok (cst (r.foldl stepK l)) h
 | [],l,_,_=>by rw [List.map_nil,setIn,if_pos True.intro];rfl
 | y::r,l,M,k=>by
  rw [List.map_cons,setIn,if_pos True.intro]
  have e:sV 1 (some x::some (bc y)::rd) h = .ok (bc y) h:=cu rfl
  rw [e,bx]
  have hl:=M.len
  show (if (cst l).length<63 then setIn (fun _=>True) (sV 1) x rd (r.map bc) (stepK (cst l) (y:Int)) h else .no)=_
  rw [if_pos (by unfold cst;rw [List.length_map];omega),ag7]
  exact a85 hn (M.step (k y List.mem_cons_self)) fun z hz=>k z (List.mem_cons_of_mem _ hz)
theorem a5b {n:Nat} (hn:n≤60) {fj:SI} {rd:Sd} {h:Hd} {α:Type} (g:α→D) (row:α→List Nat):∀ {xs:List α} {l:List Nat},Fw n l→(∀ x∈xs,∀ y∈row x,y<n)→(∀ x∈xs,fj (some (g x)::none::rd) h = .ok ⟨(row x).map bc,fun _=>True⟩ h) →
  zr (fun _=>True) fj (sV 1) rd (xs.map g) (cst l) h = .ok (cst (xs.foldl (fun l x=>(row x).foldl stepK l) l)) h
 | [],l,_,_,_=>by rw [List.map_nil,zr,if_pos True.intro];rfl
 | x::xs,l,M,k,e=>by
  rw [List.map_cons,zr,if_pos True.intro,e x List.mem_cons_self,bx]
  dsimp only
  have kx:=k x List.mem_cons_self
  rw [a85 hn M kx,bx]
  exact a5b hn g row (M.fold kx) (fun z hz=>k z (List.mem_cons_of_mem _ hz)) fun z hz=>e z (List.mem_cons_of_mem _ hz)
theorem Fw.folds {n:Nat} {α:Type} (row:α→List Nat):∀ {xs:List α} {l:List Nat},Fw n l→(∀ x∈xs,∀ y∈row x,y<n)→Fw n (xs.foldl (fun l x=>(row x).foldl stepK l) l)
 | [],_,h,_=>h
 | x::xs,l,h,k=>Fw.folds row (xs:=xs) (h.fold (k x List.mem_cons_self)) fun y hy=>k y (List.mem_cons_of_mem _ hy)
theorem a86 {y:Nat} {α:Type} (row:α→List Nat):∀ {xs:List α} {l:List Nat},y∈xs.foldl (fun l x=>(row x).foldl stepK l) l↔y∈l∨∃ x∈xs,y∈row x
 | [],l=>by simp
 | x::xs,l=>by
  rw [List.foldl_cons,a86 row (xs:=xs),aav]
  constructor
  ·rintro ((h | h) | ⟨z,hz,h⟩)
   ·exact .inl h
   ·exact .inr ⟨x,List.mem_cons_self,h⟩
   ·exact .inr ⟨z,List.mem_cons_of_mem _ hz,h⟩
  ·rintro (h | ⟨z,hz,h⟩)
   ·exact .inl (.inl h)
   ·rcases List.mem_cons.mp hz with rfl | hz
    ·exact .inl (.inr h)
    ·exact .inr ⟨z,hz,h⟩
theorem aip {fi fj:SI} {ix:List Nat} {τ:Sd} {h:Hd} {α:Type} (g:α→D) (xs:List α) (row:α→List Nat) {n:Nat} (hn:n≤60) (e:fi τ h = .ok ⟨xs.map g,fun _=>True⟩ h)
  (ej:∀ x∈xs,fj (some (g x)::none::frs' ix τ) h = .ok ⟨(row x).map bc,fun _=>True⟩ h) (lt:∀ x∈xs,∀ y∈row x,y<n) :
  ∃ ts:List Nat,Fw n ts∧ts.Pairwise (·≤·)∧(∀ y,y∈ts↔∃ x∈xs,y∈row x)∧aia fi fj (sV 1) ix τ h = .ok (.ref h.length) (h++[.lst (ts.map bc)]):=by
 obtain ⟨m,em,pm,sm⟩:=a4z (xs.foldl (fun l x=>(row x).foldl stepK l) [])
 have F:=Fw.folds row (l:=[]) (n:=n) .nil lt
 refine ⟨m,⟨pm.nodup_iff.mpr F.nd,fun x hx=>F.lt x (pm.mem_iff.mp hx)⟩,sm,fun y=>?_,?_⟩
 ·rw [pm.mem_iff,a86];simp
 ·unfold aia
  rw [e,bx]
  dsimp only
  have:=a5b hn (fj:=fj) (rd:=frs' ix τ) (h:=h) g row (xs:=xs) (l:=[]) .nil lt ej
  rw [show cst []=([]:List Int) from rfl] at this
  rw [this,bx]
  unfold amm
  have fl:=F.len
  rw [if_pos (by unfold cst;rw [List.length_map];omega),em,← a95]
end MI
namespace RCH
open PySem PySem.Spec L2 MI AT HND EVX K22 K23 K21 K40
def cnt (n:Nat) (p:Nat→Bool):Nat:=((List.range n).filter p).length
theorem a87 {p q:Nat→Bool}:∀ {l:List Nat},(∀ x∈l,p x=true→q x=true)→(∃ x∈l,q x=true∧p x=false)→(l.filter p).length<(l.filter q).length
 | [],_,⟨_,h,_⟩=>by simp at h
 | x::l,h,⟨y,hy,q1,p1⟩=>by
  have le:(l.filter p).length≤(l.filter q).length:=by
   clear hy q1 p1 y
   induction l with
   | nil=>simp
   | cons z l ih =>
    have ih:=ih fun y hy=>h y (by simp only [List.mem_cons] at hy ⊢;rcases hy with e | e<;>simp [e])
    have hz:=h z (by simp)
    rw [List.filter_cons,List.filter_cons]
    cases e1:p z with
    | true=>rw [hz e1];simp only [if_true,List.length_cons];omega
    | false=>cases q z<;>simp<;>omega
  rw [List.filter_cons,List.filter_cons]
  rcases List.mem_cons.mp hy with rfl | hy
  ·rw [q1,p1];simp only [if_true,Bool.false_eq_true,if_false,List.length_cons];omega
  ·have lt:=a87 (l:=l) (fun z hz=>h z (List.mem_cons_of_mem _ hz)) ⟨y,hy,q1,p1⟩
   cases e1:p x with
   | true=>rw [h x List.mem_cons_self e1];simp only [if_true,List.length_cons];omega
   | false=>cases q x<;>simp<;>omega
theorem rest {n:Nat} {P:Nat→Nat→Bool} (anti:∀ k x,x<n→P (k+1) x=true→P k x=true) (det:∀ k,(∀ x,x<n→P k x=P (k+1) x)→∀ x,x<n→P (k+1) x=P (k+2) x):∀ k x,x<n→P n x=true→P (n+k) x=true:=by
 have key:∀ k,cnt n (P k)≤n - k∨∃ j,j≤k∧∀ x,x<n→P j x=P (j+1) x:=by
  intro k
  induction k with
  | zero=>exact .inl (by unfold cnt;exact Nat.le_trans (List.length_filter_le _ _) (by simp))
  | succ k ih =>
   rcases ih with ih | ⟨j,hj,e⟩
   ·by_cases c:∃ x∈List.range n,P k x=true∧P (k+1) x=false
    ·have:=a87 (p:=P (k+1)) (q:=P k) (l:=List.range n) (fun x hx=>anti k x (List.mem_range.mp hx)) c
     exact .inl (by unfold cnt at ih ⊢;omega)
    ·refine .inr ⟨k,Nat.le_succ _,fun x hx=>?_⟩
     cases e1:P k x with
     | true =>
      cases e2:P (k+1) x with
      | true=>rfl
      | false=>exact (c ⟨x,List.mem_range.mpr hx,e1,e2⟩).elim
     | false =>
      cases e2:P (k+1) x with
      | true=>rw [anti k x hx e2] at e1;cases e1
      | false=>rfl
   ·exact .inr ⟨j,Nat.le_succ_of_le hj,e⟩
 have stay:∀ j,(∀ x,x<n→P j x=P (j+1) x)→∀ k x,x<n→P (j+k) x=P j x:=by
  intro j e k
  have step:∀ k x,x<n→P (j+k) x=P (j+k+1) x:=by
   intro k
   induction k with
   | zero=>exact e
   | succ k ih=>exact det _ ih
  induction k with
  | zero=>intro x _;rfl
  | succ k ih=>intro x hx;rw [← ih x hx];exact (step k x hx).symm
 intro k x hx h
 rcases key n with z | ⟨j,hj,e⟩
 ·have:x∈(List.range n).filter (P n):=List.mem_filter.mpr ⟨List.mem_range.mpr hx,h⟩
  have:=List.length_pos_of_mem this
  unfold cnt at z
  omega
 ·have e1:=stay j e (n - j) x hx
  have e2:=stay j e (n - j+k) x hx
  rw [show j+(n - j)=n by omega] at e1
  rw [show j+(n - j+k)=n+k by omega] at e2
  rw [e2,← e1];exact h
section
variable {T:Table}
def hp (T:Table) (x:Nat):Bool := !qw (A T x)
theorem arl (h:T.Ok) {r:Nat} (hr:r<T.go.length):rw' T r=(List.range T.tg.length).map (stp T r):=by unfold rw';rw [aud h hr];rfl
theorem ag8 (h:T.Ok) {r x:Nat} (hr:r<T.go.length):x∈rw' T r↔∃ c,c<T.tg.length∧stp T r c=x:=by
 rw [arl h hr,List.mem_map]
 exact ⟨fun ⟨c,hc,e⟩=>⟨c,List.mem_range.mp hc,e⟩,fun ⟨c,hc,e⟩=>⟨c,List.mem_range.mpr hc,e⟩⟩
theorem a4c (h:T.Ok) {r k:Nat} (hr:r<T.go.length):FL T (k+1) r=true↔∃ x∈rw' T r,FL T k x=true:=by
 show ((List.range T.tg.length).any fun c=>FL T k (stp T r c))=true↔_
 rw [List.any_eq_true]
 constructor
 ·rintro ⟨c,hc,e⟩;exact ⟨_,(ag8 h hr).mpr ⟨c,List.mem_range.mp hc,rfl⟩,e⟩
 ·rintro ⟨x,hx,e⟩
  obtain ⟨c,hc,rfl⟩:=(ag8 h hr).mp hx
  exact ⟨c,List.mem_range.mpr hc,e⟩
theorem a6m {r:Nat} (e:hp T r=true):∃ k,k<T.go.length∧FL T (k+1) r=true:=by
 unfold hp A at e
 cases q:ain T r with
 | none=>rw [q] at e;simp [qw] at e
 | some i =>
  unfold ain at q
  obtain ⟨fi,hi,_⟩:=List.find?_range_eq_some.mp q
  exact ⟨i,by simpa using hi,by rw [Nat.add_comm];exact fi⟩
theorem aiq (h:T.Ok) {r k:Nat} (hr:r<T.go.length) (f:FL T (k+1) r=true):hp T r=true:=by
 obtain ⟨d,_,_,q⟩:=a0q h hr
 have e:=ak1 h q
 rcases q with ⟨w,_,_,_,_,ew⟩ | ⟨_,no⟩
 ·unfold hp;rw [← e,ew];rfl
 ·obtain ⟨gl,go,gh⟩:=BF.a80 f
  exact (no _ go ⟨fun z=>by
   have:=congrArg List.length z
   simp [gl] at this,gh⟩).elim
theorem a6n (h:T.Ok) {r:Nat} (hr:r<T.go.length):FL T 0 r=true↔kI T r ≠ -1:=by
 show knd T r=true↔_
 obtain ⟨k,e,_,kd⟩:=ag3 h hr
 unfold kI
 rw [kd,e]
 simp
theorem anb (h:T.Ok) {r:Nat} (hr:r<T.go.length):hp T r=true↔∃ x∈rw' T r,kI T x ≠ -1∨hp T x=true:=by
 obtain ⟨_,_,rx⟩:=a84 h hr
 constructor
 ·intro e
  obtain ⟨k,_,f⟩:=a6m e
  obtain ⟨x,hx,fx⟩:=(a4c h hr).mp f
  cases k with
  | zero=>exact ⟨x,hx, .inl ((a6n h (rx x hx)).mp fx)⟩
  | succ k=>exact ⟨x,hx, .inr (aiq h (rx x hx) fx)⟩
 ·rintro ⟨x,hx,e | e⟩
  ·exact aiq (k:=0) h hr ((a4c h hr).mpr ⟨x,hx,(a6n h (rx x hx)).mpr e⟩)
  ·obtain ⟨k,_,f⟩:=a6m e
   exact aiq (k:=k+1) h hr ((a4c h hr).mpr ⟨x,hx,f⟩)
def gd (T:Table) (x:Nat):Bool:=decide (kI T x = -1) && hp T x
def Lam (T:Table) (st:List Nat):Nat→Nat→Prop
 | 0,x=>x∈st
 | k+1,x=>(∃ r,Lam T st k r∧x∈rw' T r)∧gd T x=true
def Led (T:Table) (st:List Nat) (k x:Nat):Prop:=∃ r,Lam T st k r∧x∈rw' T r
def Kn (T:Table) (st:List Nat) (k:Nat):Prop:=∃ x,Led T st k x∧kI T x ≠ -1
open Classical in
noncomputable def Mx (T:Table) (st:List Nat):Nat→Nat
 | 0=>0
 | k+1=>if Kn T st k then k+1 else Mx T st k
theorem aaw (h:T.Ok) {st:List Nat} (hs:∀ x∈st,x<T.go.length):∀ {k x:Nat},Lam T st k x→x<T.go.length
 | 0,x,q=>hs x q
 | k+1,x,⟨⟨r,q,hx⟩,_⟩=>(a84 h (aaw h hs q)).2.2 x hx
theorem air {st:List Nat}:∀ k,Mx T st k≤k
 | 0=>Nat.le_refl _
 | k+1=>by
  have:=air (st:=st) k
  unfold Mx
  split<;>omega
def Dp (T:Table):Nat→Nat→Bool
 | 0,_=>true
 | k+1,x=>(rw' T x).any fun y=>gd T y && Dp T k y
theorem a99:∀ k x,Dp T (k+1) x=true→Dp T k x=true
 | 0,_,_=>rfl
 | k+1,x,e=>by
  simp only [Dp,List.any_eq_true,Bool.and_eq_true] at e ⊢
  obtain ⟨y,hy,g,y2,hy2,g2,d⟩:=e
  refine ⟨y,hy,g,a99 k y ?_⟩
  simp only [Dp,List.any_eq_true,Bool.and_eq_true]
  exact ⟨y2,hy2,g2,d⟩
theorem arn (h:T.Ok) (k:Nat) (e:∀ x,x<T.go.length→Dp T k x=Dp T (k+1) x) (x:Nat) (hx:x<T.go.length):Dp T (k+1) x=Dp T (k+2) x:=by
 show (rw' T x).any _=(rw' T x).any _
 obtain ⟨_,_,rx⟩:=a84 h hx
 rw [Bool.eq_iff_iff,List.any_eq_true,List.any_eq_true]
 constructor
 ·rintro ⟨y,hy,q⟩;exact ⟨y,hy,by rw [← e y (rx y hy)];exact q⟩
 ·rintro ⟨y,hy,q⟩;exact ⟨y,hy,by rw [e y (rx y hy)];exact q⟩
theorem aro (h:T.Ok) {x:Nat} (hx:x<T.go.length) (d:Dp T T.go.length x=true) (k:Nat):Dp T (T.go.length+k) x=true:=rest (P:=Dp T) (fun k x _=>a99 k x) (arn h) k x hx d
theorem ag9 {st:List Nat}:∀ {k j:Nat},(∃ x,Lam T st (j+k) x)↔∃ r,Lam T st j r∧Dp T k r=true
 | 0,j=>⟨fun ⟨x,q⟩=>⟨x,q,rfl⟩,fun ⟨r,q,_⟩=>⟨r,q⟩⟩
 | k+1,j=>by
  rw [show j+(k+1)=(j+1)+k by omega,ag9 (k:=k) (j:=j+1)]
  constructor
  ·rintro ⟨y,⟨⟨r,q,hy⟩,g⟩,d⟩
   refine ⟨r,q,?_⟩
   simp only [Dp,List.any_eq_true,Bool.and_eq_true]
   exact ⟨y,hy,g,d⟩
  ·rintro ⟨r,q,d⟩
   simp only [Dp,List.any_eq_true,Bool.and_eq_true] at d
   obtain ⟨y,hy,g,d⟩:=d
   exact ⟨y,⟨⟨r,q,hy⟩,g⟩,d⟩
theorem arp (h:T.Ok) {st:List Nat} (hs:∀ x∈st,x<T.go.length) (e:∃ x,Lam T st T.go.length x) (k:Nat):∃ x,Lam T st k x:=by
 obtain ⟨r,q,d⟩:=(ag9 (T:=T) (k:=T.go.length) (j:=0)).mp (by rw [Nat.zero_add];exact e)
 have d':Dp T k r=true:=by
  have:=aro h (hs r q) d k
  clear d
  revert this
  generalize T.go.length=n
  intro this
  induction n with
  | zero=>rwa [Nat.zero_add] at this
  | succ n ih=>exact ih (a99 _ _ (by rw [show n+k+1=n+1+k by omega];exact this))
 have:=(ag9 (T:=T) (k:=k) (j:=0)).mpr ⟨r,q,d'⟩
 rwa [Nat.zero_add] at this
theorem aax {st:List Nat} {k:Nat} (e:¬ ∃ x,Lam T st k x):∀ j,¬ ∃ x,Lam T st (k+j) x
 | 0=>e
 | j+1=>fun ⟨x,⟨r,q,_⟩,_⟩=>aax e j ⟨r,q⟩
theorem a9a {st:List Nat} {k:Nat} (e:¬ ∃ x,Lam T st k x):∀ j,Mx T st (k+j)=Mx T st k
 | 0=>rfl
 | j+1=>by
  show Mx T st (k+j+1)=_
  rw [Mx,if_neg,a9a e j]
  rintro ⟨x,⟨r,q,_⟩,_⟩
  exact aax e j ⟨r,q⟩
theorem aga {st:List Nat} {k:Nat}:∀ {j:Nat},Mx T st k≤Mx T st (k+j)
 | 0=>Nat.le_refl _
 | j+1=>by
  have:=aga (st:=st) (k:=k) (j:=j)
  have l:=air (T:=T) (st:=st) (k+j)
  show _≤Mx T st (k+j+1)
  rw [Mx]
  split<;>omega
theorem agb {st:List Nat} {k:Nat} (e:Kn T st k):Mx T st (k+1)=k+1:=by unfold Mx;rw [if_pos e]
theorem arq (h:T.Ok) {st:List Nat} (hs:∀ x∈st,x<T.go.length):∀ {k m x:Nat},Lam T st m x→FL T (k+1) x=true→∃ j,m≤j∧j≤m+k∧Kn T st j
 | k,m,x,q,f=>by
  have hx:=aaw h hs q
  obtain ⟨_,_,rx⟩:=a84 h hx
  obtain ⟨y,hy,fy⟩:=(a4c h hx).mp f
  by_cases c:kI T y = -1
  ·cases k with
   | zero=>exact absurd c ((a6n h (rx y hy)).mp fy)
   | succ k =>
    have g:gd T y=true:=by unfold gd;rw [decide_eq_true c,aiq h (rx y hy) fy];rfl
    obtain ⟨j,a,b,e⟩:=arq h hs (m:=m+1) ⟨⟨x,q,hy⟩,g⟩ fy
    exact ⟨j,by omega,by omega,e⟩
  ·exact ⟨m,Nat.le_refl _,by omega,y,⟨x,q,hy⟩,c⟩
noncomputable def RA (T:Table) (st:List Nat):D:=if Mx T st (2*T.go.length+1)≤T.go.length then bc (Mx T st (2*T.go.length+1)) else .non
theorem yw {st:List Nat}:MI.clo 0 (RA T st):=by unfold RA;split;exact j7 _;exact aey
theorem ak3 (h:T.Ok) {st:List Nat} (hs:∀ x∈st,x<T.go.length) {k:Nat} (hk:k≤T.go.length+1) (e:¬ ∃ x,Lam T st k x):RA T st=bc (Mx T st k):=by
 have e2:¬ ∃ x,Lam T st T.go.length x:=fun z=>e (arp h hs z k)
 have m1:=a9a e (2*T.go.length+1 - k)
 have m2:=a9a e2 (T.go.length+1)
 rw [show T.go.length+(T.go.length+1)=2*T.go.length+1 by omega] at m2
 have h1:=h.n1
 rw [show k+(2*T.go.length+1 - k)=2*T.go.length+1 by omega] at m1
 unfold RA
 rw [if_pos (by rw [m2];exact air _),m1]
theorem ars (h:T.Ok) {st:List Nat} (hs:∀ x∈st,x<T.go.length) (e:∃ x,Lam T st (T.go.length+1) x):RA T st = .non:=by
 have h1:=h.n1
 have e0:∃ x,Lam T st T.go.length x:=by obtain ⟨x,⟨r,q,_⟩,_⟩:=e;exact ⟨r,q⟩
 obtain ⟨x,q⟩:=e0
 have g:gd T x=true:=by
  cases hn:T.go.length with
  | zero=>omega
  | succ n=>rw [hn] at q;exact q.2
 have hx:hp T x=true:=by unfold gd at g;rw [Bool.and_eq_true] at g;exact g.2
 obtain ⟨k,hk,f⟩:=a6m hx
 obtain ⟨j,a,b,kn⟩:=arq h hs q f
 have m1:=agb kn
 have m2:=aga (T:=T) (st:=st) (k:=j+1) (j:=2*T.go.length+1 - (j+1))
 rw [show j+1+(2*T.go.length+1 - (j+1))=2*T.go.length+1 by omega] at m2
 unfold RA
 rw [if_neg (by omega)]
end
end RCH
namespace RCH
open PySem PySem.Spec L2 MI AT HND EVX K22 K23 K21 K40
section
variable {T:Table}
theorem aay {bs:List Bool} {r x:Nat} (hr:r<bs.length):bg (bs.set r true) x=(decide (x=r) || bg bs x):=by
 unfold bg
 by_cases e:r=x
 ·subst e;rw [List.getElem?_set_self hr];simp
 ·rw [List.getElem?_set_ne e,decide_eq_false (fun z=>e z.symm)];simp
structure Mk (T:Table) (j:Nat) (bs:List Bool):Prop where
 len:bs.length=T.go.length
 snd:∀ r,r<T.go.length→bg bs r=true→hp T r=true
 all:∀ r,r<T.go.length→∀ k,k<j→FL T (k+1) r=true→bg bs r=true
theorem Mk.set {j r:Nat} {bs:List Bool} (M:Mk T j bs) (hr:r<T.go.length) (e:hp T r=true):Mk T j (bs.set r true):=by
 have l:=M.len
 refine ⟨by rw [List.length_set];exact l,fun x hx q=>?_,fun x hx k hk f=>?_⟩
 ·rw [aay (by omega),Bool.or_eq_true] at q
  rcases q with q | q
  ·rw [of_decide_eq_true q];exact e
  ·exact M.snd x hx q
 ·rw [aay (by omega),M.all x hx k hk f,Bool.or_true]
theorem lit {T:Table} (h:T.Ok) {r x:Nat} (hr:r<T.go.length) (hx:x∈rw' T r) (e:kI T x ≠ -1∨hp T x=true):hp T r=true:=(anb h hr).mpr ⟨x,hx,e⟩
noncomputable def bu:SF:=ql zf 5
abbrev hpD (T:Table):List D:=(List.range T.go.length).map fun r=>D.bl (hp T r)
theorem a9b (n:Nat):clos n (hpD T):=ik fun _ _=>a7l _
theorem agc {r:Nat} (hr:r<T.go.length):(hpD T)[r]? = some (.bl (hp T r)):=by rw [List.getElem?_map,List.getElem?_range hr];rfl
theorem a9c (h:T.Ok):Pu bu 1 [T.d] (.rol (hpD T)):=by
 have n32:=h.n32
 have ln:∀ (τ:Sd) (bs:List Bool),τ[1]? = some (some (.ref 0))→bs.length=T.go.length→sRg vf (ak (sA xx (ak (sV 1) gf)) gf) τ (HB bs) = .ok ⟨(List.range T.go.length).map bc,fun _=>True⟩ (HB bs):=fun τ bs h1 bl =>
  a1h (n:=T.go.length) (a06 (cu h1) ((a94 (xs:=bs.map D.bl) rfl).trans (by rw [List.length_map,bl]))) (jb (by omega))
 have L2:∀ (j:Nat) (bs:List Bool) (t2 t4:Option D) (r:Nat),Mk T j bs→r<T.go.length→∃ (bs':List Bool) (t4':Option D),qx [some T.d,some (.ref 0),t2,some (bc r),t4] (HB bs) = .nx [some T.d,some (.ref 0),t2,some (bc r),t4'] (HB bs')∧Mk T j bs'∧(∀ x,bg bs x=true→bg bs' x=true)∧(∀ k,k<j+1→FL T (k+1) r=true→bg bs' r=true):=fun j bs t2 t4 r M hr=>by
  obtain ⟨_,_,rx⟩:=a84 h hr
  have lp:=n6 (g:=kN 4) (b:=wu) bc (fun pre τ hp'=>∃ (bs':List Bool) (t4:Option D),τ=[some T.d,some (.ref 0),t2,some (bc r),t4]∧hp'=HB bs'∧Mk T j bs'∧(∀ x,bg bs x=true→bg bs' x=true)∧((∃ t∈pre,kI T t ≠ -1∨∃ k,k<j∧FL T (k+1) t=true)→bg bs' r=true)) (rw' T r) [some T.d,some (.ref 0),t2,some (bc r),t4] (HB bs) ?_ ⟨bs,t4,rfl,rfl,M,fun _ z=>z,fun ⟨_,z,_⟩=>by simp at z⟩
  ·obtain ⟨τ',h',e,bs',t4',rfl,rfl,M',up,all⟩:=lp
   refine ⟨bs',t4',?_,M',up,fun k hk f=>?_⟩
   ·unfold qx
    exact (auh (ak2 h _ rfl rfl hr)).trans e
   ·obtain ⟨x,hx,fx⟩:=(a4c h hr).mp f
    refine all ⟨x,hx,?_⟩
    cases k with
    | zero=>exact .inl ((a6n h (rx x hx)).mp fx)
    | succ k=>exact .inr ⟨k,by omega,fx⟩
  ·rintro pre t post τ hp' al ⟨bs',t4,rfl,rfl,M',up,all⟩
   have tin:t∈rw' T r:=by rw [al];simp
   have tl:=rx t tin
   have l':=M'.len
   have tst:sOr (sT (s2 gGe (s2 gIx (s2 gIx (sV 0) (sC (.int 2))) (sV 4)) (sC (.int 0)))) (a75 (s2 gIx (sV 1) (sV 4))) [some T.d,some (.ref 0),t2,some (bc r),some (bc t)] (HB bs') = .ok (decide (0≤kI T t) || bg bs' t) (HB bs') :=
    orB (tof (j8 (kge h _ rfl rfl tl) (jj _ _ _) (avh _ _))) fun _=>a7x (j8 (cu rfl) (cu rfl) (aaq (xs:=bs'.map D.bl) rfl (ari (by omega)))) (a0o _)
   have kk:=aas h tl
   unfold wu
   cases v:(decide (0≤kI T t) || bg bs' t) with
   | true =>
    rw [v] at tst
    have lt':hp T r=true:=lit h hr tin (by
     rw [Bool.or_eq_true] at v
     rcases v with v | v
     ·exact .inl (by have:=of_decide_eq_true v;omega)
     ·exact .inr (M'.snd t tl v))
    refine ⟨_,_,rfl,_,HB (bs'.set r true),?_,bs'.set r true,some (bc t),rfl,rfl,M'.set hr lt',fun x q=>?_,fun _=>?_⟩
    ·refine Eq.trans (ifT tst) (au9 (jj _ _ _) (cu rfl) (cu rfl) ((aua (xs:=bs'.map D.bl) rfl (by rw [List.length_map];omega)).trans ?_))
     rw [arj]
     rfl
    ·rw [aay (by omega),up x q,Bool.or_true]
    ·rw [aay (by omega),decide_eq_true rfl];rfl
   | false =>
    rw [v] at tst
    rw [Bool.or_eq_false_iff] at v
    refine ⟨_,_,rfl,_,_,Eq.trans (ifF tst) rfl,bs',_,rfl,rfl,M',up,?_⟩
    rintro ⟨x,hx,q⟩
    rcases List.mem_append.mp hx with z | z
    ·exact all ⟨x,z,q⟩
    ·rw [List.mem_singleton] at z
     subst z
     rcases q with q | ⟨k,hk,f⟩
     ·have:=of_decide_eq_false v.1;omega
     ·rw [M'.all _ tl k hk f] at v;cases v.2
 have L3:∀ (j:Nat) (bs:List Bool) (t2 t3 t4:Option D),Mk T j bs→∃ (bs':List Bool) (t3' t4':Option D),qy [some T.d,some (.ref 0),t2,t3,t4] (HB bs) = .nx [some T.d,some (.ref 0),t2,t3',t4'] (HB bs')∧Mk T (j+1) bs':=fun j bs t2 t3 t4 M=>by
  have lp:=n6 (g:=kN 3) (b:=qx) bc (fun pre τ hp'=>∃ (bs':List Bool) (t3 t4:Option D),τ=[some T.d,some (.ref 0),t2,t3,t4]∧hp'=HB bs'∧Mk T j bs'∧∀ r∈pre,∀ k,k<j+1→FL T (k+1) r=true→bg bs' r=true) (List.range T.go.length) [some T.d,some (.ref 0),t2,t3,t4] (HB bs) ?_ ⟨bs,t3,t4,rfl,rfl,M,by simp⟩
  ·obtain ⟨τ',h',e,bs',t3',t4',rfl,rfl,M',all⟩:=lp
   refine ⟨bs',t3',t4',?_,M'.len,M'.snd,fun r hr=>all r (List.mem_range.mpr hr)⟩
   unfold qy
   exact (auh (ln _ bs rfl M.len)).trans e
  ·rintro pre r post τ hp' al ⟨bs',t3,t4,rfl,rfl,M',all⟩
   obtain ⟨bs2,t4',e,M2,up,al2⟩:=L2 j bs' t2 t4 r M' (List.mem_range.mp (by rw [al];simp))
   refine ⟨_,_,rfl,_,_,e,bs2,_,t4',rfl,rfl,M2,fun x hx k hk f=>?_⟩
   rcases List.mem_append.mp hx with z | z
   ·exact up x (all x z k hk f)
   ·rw [List.mem_singleton] at z;subst z;exact al2 k hk f
 let b0:List Bool:=T.go.map fun _=>false
 have b0l:b0.length=T.go.length:=List.length_map _
 have M0:Mk T 0 b0:=by
  refine ⟨b0l,fun r _ q=>?_,fun _ _ k hk=>by omega⟩
  unfold bg at q
  rw [List.getElem?_map] at q
  cases z:T.go[r]? with
  | none=>rw [z] at q;exact absurd q (by simp)
  | some y=>rw [z] at q;exact absurd q (by simp)
 have lp:=n6 (g:=kN 2) (b:=qy) bc (fun pre τ hp'=>∃ (bs':List Bool) (t2 t3 t4:Option D),τ=[some T.d,some (.ref 0),t2,t3,t4]∧hp'=HB bs'∧Mk T pre.length bs') (List.range T.go.length) [some T.d,some (.ref 0),none,none,none] (HB b0) ?_ ⟨b0,none,none,none,rfl,rfl,M0⟩
 ·obtain ⟨τ',h',e,bs,t2,t3,t4,rfl,rfl,M⟩:=lp
  rw [List.length_range] at M
  have eq:bs.map D.bl=hpD T:=by
   refine List.ext_getElem? fun i=>?_
   by_cases hi:i<T.go.length
   ·rw [ari (by rw [M.len];exact hi),agc hi]
    congr 2
    rw [Bool.eq_iff_iff]
    refine ⟨M.snd i hi,fun q=>?_⟩
    obtain ⟨k,hk,f⟩:=a6m q
    exact M.all i hi k hk f
   ·have:=M.len
    rw [List.getElem?_eq_none (by rw [List.length_map];omega),List.getElem?_eq_none (by rw [List.length_map,List.length_range];omega)]
  refine Pu.of rfl (arh Table.clo) (r:=.ok (.ref 0) (HB bs)) ?_ (a2g (Nat.le_refl _) (congrArg (fun z=>some (O.lst z)) eq) (a9b _) (by simp)) (u6 (a9b _))
  unfold bu
  rw [jg]
  show toR (zf [some T.d,none,none,none,none] [])=_
  unfold zf
  have cm:jn (sIt (s2 gIx (sV 0) (sC (.int 1)))) t1 wk [] [some T.d,none,none,none,none] [] = .ok (.ref 0) (HB b0):=by
   have:=qp (fi:=sIt (s2 gIx (sV 0) (sC (.int 1)))) (t:=t1) (fe:=wk) (ix:=[]) (τ:=[some T.d,none,none,none,none]) (h:=[]) a4e (fun _=>D.bl false) T.go (a7y (j8 (cu rfl) (jj _ _ _) (go1 _)) rfl) (jb (by omega)) fun x _=>rfl
   rw [this]
   show R.ok (D.ref 0) [O.lst _]=R.ok (D.ref 0) [O.lst ((T.go.map fun _=>false).map D.bl)]
   rw [List.map_map]
   rfl
  refine Eq.trans (congrArg toR (jx cm)) ?_
  refine Eq.trans (congrArg toR (a6i (ln _ b0 rfl b0l))) ?_
  refine Eq.trans (congrArg (fun z=>toR (MI.thn z _)) e) ?_
  rfl
 ·rintro pre k post τ hp' al ⟨bs,t2,t3,t4,rfl,rfl,M⟩
  obtain ⟨bs',t3',t4',e,M'⟩:=L3 pre.length bs (some (bc k)) t3 t4 M
  exact ⟨_,_,rfl,_,_,e,bs',_,t3',t4',rfl,rfl,by rw [List.length_append];exact M'⟩
noncomputable def bw:SF:=ql zg 5
theorem a9d (h:T.Ok) {rs:List Nat} (rn:∀ r∈rs,r<T.go.length):∃ ts:List Nat,Fw T.go.length ts∧(∀ x,x∈ts↔∃ r∈rs,x∈rw' T r)∧Pu bw 2 [T.d, .rol (rs.map bc)] (.rol (ts.map bc)):=by
 have n32:=h.n32
 have lp:=n6 (g:=kN 3) (b:=wy) bc (fun pre τ hp'=>∃ (ts:List Nat) (t3 t4:Option D),τ=[some T.d,some (.rol (rs.map bc)),some (.ref 0),t3,t4]∧hp'=[.lst (ts.map bc)]∧Fw T.go.length ts∧∀ x,x∈ts↔∃ r∈pre,x∈rw' T r) rs [some T.d,some (.rol (rs.map bc)),some (.ref 0),none,none] [.lst []] ?_ ⟨[],none,none,rfl,rfl, .nil,by simp⟩
 ·obtain ⟨τ',h',e,ts,t3,t4,rfl,rfl,M,mem⟩:=lp
  refine ⟨ts,M,mem,Pu.of rfl (ack Table.clo (u6 (gq _))) (r:=.ok (.ref 0) [.lst (ts.map bc)]) ?_ (a2g (Nat.le_refl _) rfl (gq _) (by simp)) (u6 (gq _))⟩
  unfold bw
  rw [jg]
  show toR (zg [some T.d,some (.rol (rs.map bc)),none,none,none] [])=_
  unfold zg
  refine Eq.trans (congrArg toR (jx (d:=.ref 0) (h1:=[.lst []]) rfl)) ?_
  refine Eq.trans (congrArg toR (a6i (a7y (cu rfl) rfl))) ?_
  refine Eq.trans (congrArg (fun z=>toR (MI.thn z _)) e) ?_
  rfl
 ·rintro pre r post τ hp' al ⟨ts,t3,t4,rfl,rfl,M,mem⟩
  have hr:=rn r (by rw [al];simp)
  obtain ⟨_,_,rx⟩:=a84 h hr
  have l2:=n6 (g:=kN 4) (b:=ww) bc (fun pre τ hp'=>∃ (ts':List Nat) (t4:Option D),τ=[some T.d,some (.rol (rs.map bc)),some (.ref 0),some (bc r),t4]∧hp'=[.lst (ts'.map bc)]∧Fw T.go.length ts'∧∀ x,x∈ts'↔x∈ts∨x∈pre) (rw' T r) [some T.d,some (.rol (rs.map bc)),some (.ref 0),some (bc r),t4] [.lst (ts.map bc)] ?_ ⟨ts,t4,rfl,rfl,M,by simp⟩
  ·obtain ⟨τ',h',e,ts',t4',rfl,rfl,M',mem'⟩:=l2
   refine ⟨_,_,rfl,_,_,?_,ts',some (bc r),t4',rfl,rfl,M',fun x=>?_⟩
   ·unfold wy
    exact (auh (ak2 h _ rfl rfl hr)).trans e
   ·rw [mem',mem]
    constructor
    ·rintro (⟨y,hy,q⟩ | q)
     ·exact ⟨y,List.mem_append_left _ hy,q⟩
     ·exact ⟨r,by simp,q⟩
    ·rintro ⟨y,hy,q⟩
     rcases List.mem_append.mp hy with z | z
     ·exact .inl ⟨y,z,q⟩
     ·rw [List.mem_singleton] at z;subst z;exact .inr q
  ·rintro pre' t post' τ hp' al' ⟨ts',t4',rfl,rfl,M',mem'⟩
   have tl:=rx t (by rw [al'];simp)
   have ll:=M'.len
   unfold ww
   by_cases c:t∈ts'
   ·refine ⟨_,_,rfl,_,_,Eq.trans (ifF (tof (j8 (cu rfl) (cu rfl) ((SRC.a2m (l:=ts') rfl).trans (by rw [decide_eq_true c];rfl))))) rfl,ts',_,rfl,rfl,M',fun x=>?_⟩
    rw [mem',List.mem_append,List.mem_singleton]
    constructor
    ·rintro (q | q)
     ·exact .inl q
     ·exact .inr (.inl q)
    ·rintro (q | q | q)
     ·exact .inl q
     ·exact .inr q
     ·rw [← mem',q];exact c
   ·have st:stepK ts' t=ts'++[t]:=if_neg c
    refine ⟨_,_,rfl,_,_,Eq.trans (ifT (tof (j8 (cu rfl) (cu rfl) ((SRC.a2m (l:=ts') rfl).trans (by rw [decide_eq_false c];rfl))))) ?_,ts'++[t],some (bc t),rfl,rfl,by rw [← st];exact M'.step tl,fun x=>?_⟩
    ·rw [List.map_append]
     exact a4v (cu rfl) rfl (arg1 (cu rfl)) (a4w (xs:=ts'.map bc) rfl (by rw [List.length_map];exact a4a (by omega)))
    ·rw [List.mem_append,List.mem_append,mem',or_assoc]
end
end RCH
namespace RCH
open PySem PySem.Spec L2 MI AT HND EVX K22 K23 K21 K40
section
variable {T:Table}
noncomputable def du:SF:=ql (wz bu bw) 5
theorem anc (l:List Nat) (h:Hd):ano true (.rol (l.map bc)) (.rol []) h = .ok (.bl (!l.isEmpty)) h:=by
 unfold ano vm
 dsimp only
 rw [if_pos ⟨by rw [List.all_eq_true];intro x hx;obtain ⟨y,_,rfl⟩:=List.mem_map.mp hx;rfl,rfl⟩]
 cases l<;>rfl
theorem ane {l:List Nat} {x:Nat} (h:x∈l):l.isEmpty=false:=by cases l with | nil=>simp at h | cons=>rfl
theorem ak4 {st rs ts:List Nat} {k:Nat} (er:∀ x,x∈rs↔Lam T st k x) (et:∀ x,x∈ts↔∃ r∈rs,x∈rw' T r) (x:Nat):x∈ts↔Led T st k x:=by
 rw [et]
 exact ⟨fun ⟨r,hr,q⟩=>⟨r,(er r).mp hr,q⟩,fun ⟨r,hr,q⟩=>⟨r,(er r).mpr hr,q⟩⟩
theorem agd {st ts:List Nat} {k:Nat} (el:∀ x,x∈ts↔Led T st k x) {p:Nat→Bool} (hp':∀ x∈ts,p x=gd T x) (x:Nat):x∈ts.filter p↔Lam T st (k+1) x:=by
 rw [List.mem_filter]
 constructor
 ·rintro ⟨a,b⟩;exact ⟨(el x).mp a,by rw [← hp' x a];exact b⟩
 ·rintro ⟨a,b⟩
  have:=(el x).mpr a
  exact ⟨this,by rw [hp' x this];exact b⟩
theorem a5c {st ts:List Nat} {k:Nat} (el:∀ x,x∈ts↔Led T st k x) {p:Nat→Bool} (hp':∀ x∈ts,(p x=true↔kI T x ≠ -1)):(∃ x∈ts,p x=true)↔Kn T st k:=by
 constructor
 ·rintro ⟨x,a,b⟩;exact ⟨x,(el x).mp a,(hp' x a).mp b⟩
 ·rintro ⟨x,a,b⟩
  have:=(el x).mpr a
  exact ⟨x,this,(hp' x this).mpr b⟩
theorem a88 (h:T.Ok) {rs:List Nat} (rn:∀ r∈rs,r<T.go.length):Pu du 2 [T.d, .rol (rs.map bc)] (RA T rs):=by
 have n32:=h.n32
 have eh:=a9c h
 have lp:=n6 (g:=kN 4) (b:=uz bu bw) (fun i:Nat=>D.int ((1+i:Nat))) (fun pre τ hp'=>∃ (ls:List Nat) (t4:Option D),τ=[some T.d,some (.rol (ls.map bc)),some (.rol (hpD T)),some (bc (Mx T rs pre.length)),t4]∧hp'=[]∧∀ x,x∈ls↔Lam T rs pre.length x) (List.range (2*T.go.length+2 - 1)) [some T.d,some (.rol (rs.map bc)),some (.rol (hpD T)),some (.int 0),none] [] ?_ ⟨rs,none,rfl,rfl,fun x=>Iff.rfl⟩
 ·obtain ⟨τ',h',e,ls,t4,rfl,rfl,_⟩:=lp
  rw [List.length_range,show 2*T.go.length+2 - 1=2*T.go.length+1 by omega] at e
  have lnh:∀ hp':Hd,xx [.rol (hpD T)] hp' = .ok (bc T.go.length) hp':=fun hp'=>by rw [a3w,List.length_map,List.length_range]
  refine Pu.of rfl (ack Table.clo (u6 (gq _))) (r:=.ok (RA T rs) []) ?_ (m7 yw (by simp)) yw
  unfold du
  rw [jg]
  show toR (wz bu bw [some T.d,some (.rol (rs.map bc)),none,none,none] [])=_
  unfold wz
  refine Eq.trans (congrArg toR (jx (a06 (cu rfl) (eh _)))) ?_
  refine Eq.trans (congrArg toR (jx (jj _ _ _))) ?_
  have em:s2 jk (s2 xr (sC (.int 2)) (sA xx (ak (sV 2) gf))) (sC (.int 2)) [some T.d,some (.rol (rs.map bc)),some (.rol (hpD T)),some (.int 0),none] [] = .ok (bc (2*T.go.length+2)) [] :=
   (j8 (j8 (jj _ _ _) (a06 (cu rfl) (lnh _)) (a3y.trans (if_pos (.inl ⟨by decide,by decide⟩)))) (jj _ _ _) yr).trans (by congr 2)
  refine Eq.trans (congrArg toR (a6i (a93 (a:=1) (n:=2*T.go.length+2) (jj _ _ _) em (jb (by omega)) (jb (by omega))))) ?_
  rw [show 2*T.go.length+2 - 1=2*T.go.length+1 by omega]
  refine Eq.trans (congrArg (fun z=>toR (MI.thn z _)) e) ?_
  rw [yo]
  unfold RA
  by_cases c:Mx T rs (2*T.go.length+1)≤T.go.length
  ·rw [if_pos c]
   exact congrArg toR (a05 (SRC.asj (tof (j8 (cu rfl) (a06 (cu rfl) (lnh _)) (SRC.avc (by omega)))) (cu rfl)))
  ·rw [if_neg c]
   exact congrArg toR (a05 (SRC.ar8 (tof (j8 (cu rfl) (a06 (cu rfl) (lnh _)) (SRC.avd (by omega)))) (jj _ _ _)))
 ·rintro pre i post τ hp' al ⟨ls,t4,rfl,rfl,el⟩
  obtain ⟨ei,_⟩:=vp al
  subst ei
  have ln:∀ r∈ls,r<T.go.length:=fun r hr=>aaw h rn ((el r).mp hr)
  obtain ⟨ts,M,mt,et⟩:=a9d h ln
  have tl:=M.len
  have eL:=ak4 el mt
  let p1:Nat→Bool:=fun t=>decide (0≤kI T t)
  let p2:Nat→Bool:=fun t=>decide (kI T t<0) && hp T t
  have cf1:∀ τ:Sd,τ[0]? = some (some T.d)→τ[1]? = some (some (.rol (ts.map bc)))→sZ (my (sIt (sV 1)) t1 (lw bu bw) (ux bu bw) [0]) τ [] = .ok (.rol ((ts.filter p1).map bc)) []:=fun τ h0 h1=>by
   rw [← nu]
   refine xu (yu bc (fun t=>if p1 t=true then some (bc t) else none) ts (a7y (cu h1) rfl) (jb (by omega)) fun t ht=>?_) (by rw [nu];exact gq _) (by simp)
   rw [a6h,qz,a1i,h0]
   have q:lw bu bw [some (bc t),some T.d] [] = .ok (p1 t) []:=tof (j8 (j8 (j8 (cu rfl) (jj _ _ _) (a98 _)) (cu rfl) (a83 h (M.lt t ht) _)) (jj _ _ _) (avh _ _))
   show (lw bu bw [some (bc t),some T.d] []).bind _=_
   rw [q,bx]
   cases p1 t<;>rfl
  have cf2:∀ τ:Sd,τ[0]? = some (some T.d)→τ[1]? = some (some (.rol (ts.map bc)))→τ[2]? = some (some (.rol (hpD T)))→sZ (my (sIt (sV 1)) t1 (lz bu bw) (uy bu bw) [0,2]) τ [] = .ok (.rol ((ts.filter p2).map bc)) []:=fun τ h0 h1 h2=>by
   rw [← nu]
   refine xu (yu bc (fun t=>if p2 t=true then some (bc t) else none) ts (a7y (cu h1) rfl) (jb (by omega)) fun t ht=>?_) (by rw [nu];exact gq _) (by simp)
   rw [a6h,qz,qz,a1i,h0,h2]
   have q:lz bu bw [some (bc t),some T.d,some (.rol (hpD T))] [] = .ok (p2 t) []:=avf (tof (j8 (j8 (j8 (cu rfl) (jj _ _ _) (a98 _)) (cu rfl) (a83 h (M.lt t ht) _)) (jj _ _ _) (awr _ _))) fun _=>a7x (j8 (cu rfl) (cu rfl) (aqz (agc (M.lt t ht)))) (a0o _)
   show (lz bu bw [some (bc t),some T.d,some (.rol (hpD T))] []).bind _=_
   rw [q,bx]
   cases p2 t<;>rfl
  have zl:∀ τ:Sd,sZ (sA a8b gf) τ [] = .ok (.rol []) []:=fun τ=>xu (xs:=[]) rfl a2f (by simp)
  have fin:∀ due':D,jr 1 (sZ (my (sIt (sV 1)) t1 (lz bu bw) (uy bu bw) [0,2])) [some T.d,some (.rol (ts.map bc)),some (.rol (hpD T)),some due',some (.int ((1+pre.length:Nat)))] [] = .nx [some T.d,some (.rol ((ts.filter p2).map bc)),some (.rol (hpD T)),some due',some (.int ((1+pre.length:Nat)))] []:=fun due'=>anp (cf2 _ rfl rfl rfl)
  have q2:∀ x∈ts,p2 x=gd T x:=fun x hx=>by
   have:=aas h (M.lt x hx)
   show (decide (kI T x<0) && hp T x)=(decide (kI T x = -1) && hp T x)
   by_cases c:kI T x = -1
   ·rw [decide_eq_true c,decide_eq_true (by omega)]
   ·rw [decide_eq_false c,decide_eq_false (by omega)]
  have q1:∀ x∈ts,(p1 x=true↔kI T x ≠ -1):=fun x hx=>by
   have:=aas h (M.lt x hx)
   show decide (0≤kI T x)=true↔_
   rw [decide_eq_true_iff];omega
  have k1:=a5c eL q1
  have pl:(pre++[pre.length]).length=pre.length+1:=by simp
  have tst:∀ τ:Sd,τ[0]? = some (some T.d)→τ[1]? = some (some (.rol (ts.map bc)))→sT (s2 (ano true) (sZ (my (sIt (sV 1)) t1 (lw bu bw) (ux bu bw) [0])) (sZ (sA a8b gf))) τ [] = .ok (!(ts.filter p1).isEmpty) []:=fun τ h0 h1=>tof (j8 (cf1 τ h0 h1) (zl τ) (anc _ _))
  refine ⟨_,_,rfl,?_⟩
  unfold uz
  rw [pl]
  by_cases c:Kn T rs pre.length
  ·obtain ⟨x,hx,px⟩:=k1.mpr c
   rw [ane (List.mem_filter.mpr ⟨hx,px⟩)] at tst
   refine ⟨_,_,Eq.trans (jx (a1z (cu rfl) (cu rfl) (et _))) (Eq.trans (a2a (Eq.trans (ifT (tst _ rfl rfl)) (anp (cu rfl)))) (fin _)),ts.filter p2,some (.int ((1+pre.length:Nat))),?_,rfl,agd eL q2⟩
   rw [agb c,Nat.add_comm pre.length 1]
  ·have em:(ts.filter p1).isEmpty=true:=by
    rw [List.isEmpty_iff,List.filter_eq_nil_iff]
    exact fun x hx px=>c (k1.mp ⟨x,hx,px⟩)
   rw [em] at tst
   refine ⟨_,_,Eq.trans (jx (a1z (cu rfl) (cu rfl) (et _))) (Eq.trans (ifN (tst _ rfl rfl)) (fin _)),ts.filter p2,some (.int ((1+pre.length:Nat))),?_,rfl,agd eL q2⟩
   rw [Mx,if_neg c]
theorem aui (bs:List Bool) (h:Hd):anj [.rol (bs.map D.bl)] h = .ok (.bl (bs.any id)) h:=by
 unfold anj
 simp only [aha]
noncomputable def dq:SF:=ql uq 10
theorem a0s (h:T.Ok) {rs:List Nat} (rn:∀ r∈rs,r<T.go.length):Pu dq 3 [T.d, .tup (hpD T), .rol (rs.map bc)] (RA T rs):=by
 have n32:=h.n32
 have n1:=h.n1
 have turn:∀ (i:Nat) (ls:List Nat) (t9:Option D),(∀ x,x∈ls↔Lam T rs i x)→∃ ts:List Nat,(∀ x,x∈ts↔Lam T rs (i+1) x)∧∃ t9':Option D,
   nq [some T.d,some (.tup (hpD T)),some (.rol (rs.map bc)),some (.str (S T.tg)),some (.tup (T.go.map a4e)),some (.tup (T.ks.map D.int)),some (bc (Mx T rs i)),some (.rol (ls.map bc)),some (.int ((1+i:Nat))),t9] [] =
    (if ts.isEmpty then .rt (bc (Mx T rs (i+1))) [] else .nx [some T.d,some (.tup (hpD T)),some (.rol (rs.map bc)),some (.str (S T.tg)),some (.tup (T.go.map a4e)),some (.tup (T.ks.map D.int)),some (bc (Mx T rs (i+1))),some (.rol (ts.map bc)),some (.int ((1+i:Nat))),t9'] []):=fun i ls t9 el=>by
  have ln:∀ r∈ls,r<T.go.length:=fun r hr=>aaw h rn ((el r).mp hr)
  obtain ⟨us,M,_,mu,eu⟩:=aip (fi:=sIt (sV 7)) (fj:=sIt (s2 gIx (sV 2) (sV 0))) (ix:=[4]) (τ:=[some T.d,some (.tup (hpD T)),some (.rol (rs.map bc)),some (.str (S T.tg)),some (.tup (T.go.map a4e)),some (.tup (T.ks.map D.int)),some (bc (Mx T rs i)),some (.rol (ls.map bc)),some (.int ((1+i:Nat))),t9]) (h:=[]) bc ls (rw' T) (n:=T.go.length) (by omega) (a7y (cu rfl) rfl) (fun x hx=>a7y (j8 (cu rfl) (cu rfl) (ard h (ln x hx) _)) rfl) fun x hx=>(a84 h (ln x hx)).2.2
  have ul:=M.len
  have eL:=ak4 el mu
  have eu':=xu eu (gq _) (by simp)
  let p1:Nat→Bool:=fun t=>decide (kI T t ≠ -1)
  let p2:Nat→Bool:=fun t=>decide (kI T t = -1) && hp T t
  have k1:=a5c eL (p:=p1) fun x _=>decide_eq_true_iff
  have kg:∀ (τ:Sd) (a b t:Nat),τ[a]? = some (some (.tup (T.ks.map D.int)))→τ[b]? = some (some (bc t))→t<T.go.length→s2 gIx (sV a) (sV b) τ [] = .ok (.int (kI T t)) []:=fun τ a b t h0 h1 ht=>j8 (cu h0) (cu h1) (a83 h ht _)
  have an:∀ τ:Sd,τ[5]? = some (some (.tup (T.ks.map D.int)))→τ[9]? = some (some (.rol (us.map bc)))→a75 (sA anj (ak (sZ (jn (sIt (sV 9)) t1 ue [5])) gf)) τ [] = .ok (us.any p1) []:=fun τ h5 h9=>by
   have z:sZ (jn (sIt (sV 9)) t1 ue [5]) τ [] = .ok (.rol ((us.map p1).map D.bl)) []:=by
    rw [List.map_map]
    refine xu (qp bc (D.bl ∘ p1) us (a7y (cu h9) rfl) (jb (by omega)) fun t ht=>?_) (ik fun y _=>a7l _) (by simp)
    rw [v6,qz,a1i,h5]
    exact j8 (kg _ 1 0 t rfl rfl (M.lt t ht)) (anq (jj _ _ _) (acn _)) (avi _ _)
   refine a7x (a06 z (aui _ _)) ?_
   rw [List.any_map]
   rfl
  have cf:∀ τ:Sd,τ[1]? = some (some (.tup (hpD T)))→τ[5]? = some (some (.tup (T.ks.map D.int)))→τ[9]? = some (some (.rol (us.map bc)))→sZ (my (sIt (sV 9)) t1 ju uf [1,5]) τ [] = .ok (.rol ((us.filter p2).map bc)) []:=fun τ h1 h5 h9=>by
   rw [← nu]
   refine xu (yu bc (fun t=>if p2 t=true then some (bc t) else none) us (a7y (cu h9) rfl) (jb (by omega)) fun t ht=>?_) (by rw [nu];exact gq _) (by simp)
   rw [a6h,qz,qz,a1i,h1,h5]
   have q:ju [some (bc t),some (.tup (hpD T)),some (.tup (T.ks.map D.int))] [] = .ok (p2 t) []:=avf (tof (j8 (kg _ 2 0 t rfl rfl (M.lt t ht)) (anq (jj _ _ _) (acn _)) (aue _ _))) fun _=>a7x (j8 (cu rfl) (cu rfl) (ajt (agc (M.lt t ht)))) (a0o _)
   show (ju [some (bc t),some (.tup (hpD T)),some (.tup (T.ks.map D.int))] []).bind _=_
   rw [q,bx]
   cases p2 t<;>rfl
  refine ⟨us.filter p2,agd eL fun x _=>rfl,some (.rol (us.map bc)),?_⟩
  unfold nq
  have fin:∀ m:Nat,(j5 (jr 7 (sZ (my (sIt (sV 9)) t1 ju uf [1,5]))) (sIf (acq (a75 (sV 7))) (xn (sV 6)) sNx)) [some T.d,some (.tup (hpD T)),some (.rol (rs.map bc)),some (.str (S T.tg)),some (.tup (T.go.map a4e)),some (.tup (T.ks.map D.int)),some (bc m),some (.rol (ls.map bc)),some (.int ((1+i:Nat))),some (.rol (us.map bc))] [] =
    (if (us.filter p2).isEmpty then .rt (bc m) [] else .nx [some T.d,some (.tup (hpD T)),some (.rol (rs.map bc)),some (.str (S T.tg)),some (.tup (T.go.map a4e)),some (.tup (T.ks.map D.int)),some (bc m),some (.rol ((us.filter p2).map bc)),some (.int ((1+i:Nat))),some (.rol (us.map bc))] []):=fun m=>by
   refine Eq.trans (jx (cf _ rfl rfl rfl)) ?_
   have tr:tru (.rol ((us.filter p2).map bc)) [] = .ok (!(us.filter p2).isEmpty) []:=by rw [a3z];cases us.filter p2<;>rfl
   cases v:(us.filter p2).isEmpty with
   | true =>
    rw [v] at tr
    exact Eq.trans (ifT (amv (a7x (cu rfl) tr))) (a05 (cu rfl))
   | false =>
    rw [v] at tr
    exact Eq.trans (ifF (amv (a7x (cu rfl) tr))) rfl
  refine Eq.trans (jx eu') ?_
  by_cases c:Kn T rs i
  ·have q:us.any p1=true:=List.any_eq_true.mpr (k1.mpr c)
   have an':=an [some T.d,some (.tup (hpD T)),some (.rol (rs.map bc)),some (.str (S T.tg)),some (.tup (T.go.map a4e)),some (.tup (T.ks.map D.int)),some (bc (Mx T rs i)),some (.rol (ls.map bc)),some (.int ((1+i:Nat))),some (.rol (us.map bc))] rfl rfl
   rw [q] at an'
   refine Eq.trans (a2a (Eq.trans (ifT an') (anp (cu rfl)))) ?_
   rw [agb c,Nat.add_comm i 1]
   exact fin _
  ·have q:us.any p1=false:=by
    rw [List.any_eq_false]
    exact fun x hx px=>c (k1.mp ⟨x,hx,px⟩)
   have an':=an [some T.d,some (.tup (hpD T)),some (.rol (rs.map bc)),some (.str (S T.tg)),some (.tup (T.go.map a4e)),some (.tup (T.ks.map D.int)),some (bc (Mx T rs i)),some (.rol (ls.map bc)),some (.int ((1+i:Nat))),some (.rol (us.map bc))] rfl rfl
   rw [q] at an'
   refine Eq.trans (ifN an') ?_
   rw [Mx,if_neg c]
   exact fin _
 have lp:=a2i (g:=kN 8) (b:=nq) (fun i:Nat=>D.int ((1+i:Nat))) (fun pre τ hp'=>∃ (ls:List Nat) (t8 t9:Option D),τ=[some T.d,some (.tup (hpD T)),some (.rol (rs.map bc)),some (.str (S T.tg)),some (.tup (T.go.map a4e)),some (.tup (T.ks.map D.int)),some (bc (Mx T rs pre.length)),some (.rol (ls.map bc)),t8,t9]∧hp'=[]∧(∀ x,x∈ls↔Lam T rs pre.length x)∧(0<pre.length→∃ x,Lam T rs pre.length x))
  (fun d hp'=>d=RA T rs∧hp'=[]) (List.range (T.go.length+2 - 1)) [] [some T.d,some (.tup (hpD T)),some (.rol (rs.map bc)),some (.str (S T.tg)),some (.tup (T.go.map a4e)),some (.tup (T.ks.map D.int)),some (bc 0),some (.rol (rs.map bc)),none,none] [] ?_ ⟨rs,none,none,rfl,rfl,fun x=>Iff.rfl,fun z=>absurd z (by simp)⟩
 ·refine Pu.of rfl (arc Table.clo (u5 (a9b _)) (u6 (gq _))) (r:=.ok (RA T rs) []) ?_ (m7 yw (by simp)) yw
  unfold dq
  rw [jg]
  show toR (uq [some T.d,some (.tup (hpD T)),some (.rol (rs.map bc)),none,none,none,none,none,none,none] [])=_
  unfold uq
  refine Eq.trans (congrArg toR (a2a (aig (cu rfl) rfl))) ?_
  refine Eq.trans (congrArg toR (jx (jj _ _ _))) ?_
  refine Eq.trans (congrArg toR (jx (cu rfl))) ?_
  refine Eq.trans (congrArg toR (a6i (a93 (a:=1) (n:=T.go.length+2) (jj _ _ _) ((j8 (a06 (cu rfl) (avj _)) (jj _ _ _) yr).trans (by congr 2)) (jb (by omega)) (jb (by omega))))) ?_
  rcases lp with ⟨τ',h',e,ls,t8,t9,rfl,rfl,el,on⟩ | ⟨d,h',e,rfl,rfl⟩
  ·refine Eq.trans (congrArg (fun z=>toR (MI.thn z _)) e) ?_
   rw [yo]
   rw [List.nil_append,List.length_range,show T.go.length+2 - 1=T.go.length+1 by omega] at on
   rw [ars h rn (on (by omega))]
   exact congrArg toR (a05 (jj _ _ _))
  ·refine Eq.trans (congrArg (fun z=>toR (MI.thn z _)) e) ?_
   rfl
 ·rintro pre i post τ hp' al ⟨ls,t8,t9,rfl,rfl,el,on⟩
  rw [List.nil_append] at al
  obtain ⟨ei,hi⟩:=vp al
  subst ei
  obtain ⟨ts,et,t9',e⟩:=turn pre.length ls t9 el
  refine ⟨_,_,rfl,?_⟩
  have pl:(pre++[pre.length]).length=pre.length+1:=by simp
  cases v:ts.isEmpty with
  | true =>
   rw [v,if_pos rfl] at e
   refine .inr ⟨_,_,e,?_,rfl⟩
   rw [List.isEmpty_iff] at v
   exact (ak3 h rn (by omega) fun ⟨x,q⟩=>by have:=(et x).mpr q;rw [v] at this;simp at this).symm
  | false =>
   rw [v,if_neg (by simp)] at e
   refine .inl ⟨_,_,e,ts,_,t9',by rw [pl],rfl,by rw [pl];exact et,fun _=>?_⟩
   rw [pl]
   cases ts with
   | nil=>cases v
   | cons x l=>exact ⟨x,(et x).mp List.mem_cons_self⟩
end
end RCH
namespace RCH
open PySem PySem.Spec L2 MI AT HND EVX K22 K23 K21 K40
section
variable {T:Table}
noncomputable def dz:SF:=ql oh 12
noncomputable def dw:SF:=ql (m8 dz) 1
noncomputable def jd:SF:=ql (a1e dw) 1
theorem a0r (h:T.Ok):Pu jd 1 [T.d] (.tup (hpD T)):=K22.a0r h
noncomputable def ji:SF:=ql (a69 jd dq) 2
theorem anf (h:T.Ok) (hh:Hd):aev (.tup (T.ks.map D.int)) hh = .ok ⟨(List.range T.go.length).map fun r=>.tup [bc r, .int (kI T r)],fun _=>True⟩ hh:=by
 have kl:=h.kl
 show R.ok (⟨((List.range (T.ks.map D.int).length).zip (T.ks.map D.int)).map fun p=>.tup [.int (p.1:Nat),p.2],fun _=>True⟩:Itm) hh=_
 congr 2
 refine List.ext_getElem? fun i=>?_
 by_cases hi:i<T.go.length
 ·rw [List.getElem?_map,List.getElem?_map,List.getElem?_range hi,List.getElem?_zip_eq_some (z:=(i,D.int (kI T i))).mpr ⟨by rw [List.getElem?_range (by rw [List.length_map];omega)],?_⟩]
  ·rfl
  ·rw [List.getElem?_map,List.getElem?_eq_getElem (by omega)]
   unfold kI
   rw [List.getElem?_eq_getElem (by omega)]
   rfl
 ·rw [List.getElem?_eq_none (by simp;omega),List.getElem?_eq_none (by simp;omega)]
def kds (T:Table):List Nat:=(List.range T.go.length).filter fun r=>decide (kI T r ≠ -1)
theorem ak5:∀ r∈kds T,r<T.go.length:=fun r hr=>List.mem_range.mp (List.mem_filter.mp hr).1
theorem a89 (h:T.Ok) {c:ST} {fe:SE} {f:SE} {ix:List Nat} {τ:Sd} {hh:Hd} (p:Nat→Bool) (e:f τ hh = .ok (.tup (T.ks.map D.int)) hh) (ec:∀ r,r<T.go.length→c (some (bc r)::some (.int (kI T r))::frs' ix τ) hh = .ok (p r) hh)
  (ef:∀ r,r<T.go.length→fe (some (bc r)::some (.int (kI T r))::frs' ix τ) hh = .ok (bc r) hh):my (a7i f) (tN 2) c fe ix τ hh = .ok (.ref hh.length) (hh++[.lst (((List.range T.go.length).filter p).map bc)]):=by
 have n32:=h.n32
 rw [← nu]
 have it:a7i f τ hh = .ok ⟨(List.range T.go.length).map fun r=>.tup [bc r, .int (kI T r)],fun _=>True⟩ hh:=by unfold a7i;rw [e,bx];exact anf h hh
 refine yu (fun r=>.tup [bc r, .int (kI T r)]) (fun r=>if p r=true then some (bc r) else none) (List.range T.go.length) it (jb (by rw [List.length_range];omega)) fun r hr=>?_
 have hr:=List.mem_range.mp hr
 show (c (some (bc r)::some (.int (kI T r))::frs' ix τ) hh).bind _=_
 rw [ec r hr,bx]
 cases p r with
 | true =>
  show (fe (some (bc r)::some (.int (kI T r))::frs' ix τ) hh).bind _=_
  rw [ef r hr,bx];rfl
 | false=>rfl
theorem ais (h:T.Ok):Pu ji 1 [T.d] (RA T (kds T)):=by
 refine Pu.of rfl (arh Table.clo) (r:=.ok (RA T (kds T)) []) ?_ (m7 yw (by simp)) yw
 unfold ji
 rw [jg]
 show toR (a69 jd dq [some T.d,none] [])=_
 unfold a69
 refine Eq.trans (congrArg toR (jx (j8 (cu rfl) (jj _ _ _) (a98 _)))) ?_
 refine congrArg toR (a05 (ash (cu rfl) (a06 (cu rfl) (a0r h _)) (xu (a89 h (fun r=>decide (kI T r ≠ -1)) (cu rfl) (fun r _=>?_) fun r _=>cu rfl) (gq _) (by simp)) (a0s h ak5 _)))
 exact tof (j8 (cu rfl) (anq (jj _ _ _) (acn _)) (avi _ _))
noncomputable def dj:SF:=ql xf 2
theorem aaz (st:List Nat):Pu dj 2 [RA T st,RA T st] (.bl true):=by
 refine Pu.of rfl (ack yw yw) (r:=.ok (.bl true) []) ?_ (m7 (a7l _) (by simp)) (a7l _)
 unfold dj
 rw [jg]
 show toR (xf [some (RA T st),some (RA T st)] [])=_
 unfold xf
 have hd:RA T st = .non∨∃ k:Int,RA T st = .int k:=by unfold RA;split;exact .inr ⟨_,rfl⟩;exact .inl rfl
 rcases hd with e | ⟨k,e⟩
 ·rw [e]
  exact congrArg toR (amu (Eq.trans (ifT (tof (j8 (cu (i:=1) rfl) (jj _ _ _) (show gIs .non .non [] = .ok (.bl true) [] from rfl)))) (a05 (j8 (cu (i:=0) rfl) (jj _ _ _) (show gIs .non .non [] = .ok (.bl true) [] from rfl)))))
 ·rw [e]
  refine Eq.trans (congrArg toR (ifN (tof (j8 (cu rfl) (jj _ _ _) (show gIs (.int k) .non [] = .ok (.bl false) [] from rfl))))) ?_
  exact congrArg toR (a05 (aqw (a1z (cu rfl) (jj _ _ _) ((auf (show Pln (.int k) from trivial)).trans rfl)) (aqw (ar5 (a1z (cu rfl) (jj _ _ _) ((arf (show Pln (.int k) from trivial)).trans rfl))) (j8 (cu rfl) (cu rfl) (acl rfl)))))
theorem age {u:O} {M:Nat} (P:SRC.Src u M):∀ x∈[u],a1y 1 x:=fun x hx=>by rw [List.mem_singleton] at hx;subst hx;exact u9 (by omega) P.clo
end
end RCH
namespace K44
open PySem PySem.Spec L2 MI AT HND EVX K23 K21 RCH
open K22 hiding hp jd dz dw a0r
open K40
section
variable {T:Table}
def kof (T:Table) (q:Nat):List Nat:=(List.range T.go.length).filter fun r=>decide (kI T r=(q:Int))
theorem ab0 {q:Nat}:∀ r∈kof T q,r<T.go.length:=fun r hr=>List.mem_range.mp (List.mem_filter.mp hr).1
theorem ang (h:T.Ok) {x:Nat}:x∈kds T↔∃ q,q<6∧x∈kof T q:=by
 unfold kds kof
 constructor
 ·intro hx
  obtain ⟨a,b⟩:=List.mem_filter.mp hx
  have b:=of_decide_eq_true b
  have ha:=List.mem_range.mp a
  have k1:=aas h ha
  have k5:kI T x≤5:=by
   obtain ⟨k,e,_⟩:=ag3 h ha
   unfold kI;rw [e]
   exact (h.kk k (List.mem_of_getElem? e)).2
  refine ⟨(kI T x).toNat,by omega,List.mem_filter.mpr ⟨a,decide_eq_true (by omega)⟩⟩
 ·rintro ⟨q,hq,hx⟩
  obtain ⟨a,b⟩:=List.mem_filter.mp hx
  have b:=of_decide_eq_true b
  exact List.mem_filter.mpr ⟨a,decide_eq_true (by omega)⟩
theorem a1k (h:T.Ok):∀ {k x:Nat},Lam T (kds T) k x↔∃ q,q<6∧Lam T (kof T q) k x
 | 0,x=>ang h
 | k+1,x=>by
  constructor
  ·rintro ⟨⟨r,hr,hx⟩,g⟩
   obtain ⟨q,hq,hr⟩:=(a1k h).mp hr
   exact ⟨q,hq,⟨r,hr,hx⟩,g⟩
  ·rintro ⟨q,hq,⟨r,hr,hx⟩,g⟩
   exact ⟨⟨r,(a1k h).mpr ⟨q,hq,hr⟩,hx⟩,g⟩
theorem ak6 (h:T.Ok) {k:Nat}:Kn T (kds T) k↔∃ q,q<6∧Kn T (kof T q) k:=by
 constructor
 ·rintro ⟨x,⟨r,hr,hx⟩,g⟩
  obtain ⟨q,hq,hr⟩:=(a1k h).mp hr
  exact ⟨q,hq,x,⟨r,hr,hx⟩,g⟩
 ·rintro ⟨q,hq,x,⟨r,hr,hx⟩,g⟩
  exact ⟨x,⟨r,(a1k h).mpr ⟨q,hq,hr⟩,hx⟩,g⟩
theorem ak7 (h:T.Ok):∀ k,(∀ q,q<6→Mx T (kof T q) k≤Mx T (kds T) k)∧∃ q,q<6∧Mx T (kof T q) k=Mx T (kds T) k
 | 0=>⟨fun _ _=>Nat.le_refl _,0,by omega,rfl⟩
 | k+1=>by
  obtain ⟨a,q0,h0,b⟩:=ak7 h k
  by_cases c:Kn T (kds T) k
  ·obtain ⟨q,hq,e⟩:=(ak6 h).mp c
   rw [agb c]
   exact ⟨fun q _=>air _,q,hq,agb e⟩
  ·have n:∀ q,q<6→¬ Kn T (kof T q) k:=fun q hq e=>c ((ak6 h).mpr ⟨q,hq,e⟩)
   refine ⟨fun q hq=>?_,q0,h0,?_⟩
   ·rw [Mx,if_neg (n q hq),Mx,if_neg c];exact a q hq
   ·rw [Mx,if_neg (n q0 h0),Mx,if_neg c];exact b
noncomputable abbrev a6r (T:Table):List D:=(List.range 6).map fun q=>RA T (kof T q)
def toI:D→Int | .int k=>k | _=>0
def NI (d:D):Prop:=d = .non∨∃ k:Int,d = .int k
theorem auj (st:List Nat):NI (RA T st):=by unfold RA;split;exact .inr ⟨_,rfl⟩;exact .inl rfl
theorem ak8:∀ x∈a6r T,NI x:=fun x hx=>by obtain ⟨q,_,rfl⟩:=List.mem_map.mp hx;exact auj _
theorem nn (d:D):qw d=true↔d = .non:=by cases d<;>simp [qw]
theorem a6o (h:T.Ok):(a6r T).any qw=qw (RA T (kds T)):=by
 have dp:∀ {st:List Nat},(∀ x∈st,x<T.go.length)→(RA T st = .non↔∃ x,Lam T st (T.go.length+1) x):=fun hs=>by
  constructor
  ·intro e
   refine Classical.byContradiction fun z=>?_
   rw [ak3 h hs (Nat.le_refl _) z] at e
   cases e
  ·exact ars h hs
 rw [Bool.eq_iff_iff,nn,dp ak5,List.any_eq_true]
 constructor
 ·rintro ⟨d,hd,e⟩
  obtain ⟨q,hq,rfl⟩:=List.mem_map.mp hd
  rw [nn,dp ab0] at e
  obtain ⟨x,hx⟩:=e
  exact ⟨x,(a1k h).mpr ⟨q,List.mem_range.mp hq,hx⟩⟩
 ·rintro ⟨x,hx⟩
  obtain ⟨q,hq,hx⟩:=(a1k h).mp hx
  exact ⟨_,List.mem_map.mpr ⟨q,List.mem_range.mpr hq,rfl⟩,(nn _).mpr ((dp ab0).mpr ⟨x,hx⟩)⟩
theorem ints_of {xs:List D} (h:∀ x∈xs,NI x) (n:xs.any qw=false):xs=(xs.map toI).map D.int:=by
 rw [List.map_map]
 refine (List.map_id xs).symm.trans (List.map_congr_left fun x hx=>?_)
 rw [List.any_eq_false] at n
 rcases h x hx with rfl | ⟨k,rfl⟩
 ·exact absurd rfl (n _ hx)
 ·rfl
theorem ak9 {st:List Nat} (e:RA T st≠.non):RA T st=bc (Mx T st (2*T.go.length+1)):=by
 unfold RA at e ⊢
 split
 ·rfl
 ·rename_i c;rw [if_neg c] at e;exact absurd rfl e
theorem anh (h:T.Ok) (n:(a6r T).any qw=false):RA T (kds T) = .int (mxI ((a6r T).map toI)):=by
 have e1:RA T (kds T)≠.non:=fun z=>by
  have:=a6o h
  rw [n,z] at this
  cases this
 have e2:∀ q,q<6→RA T (kof T q)≠.non:=fun q hq z=>by
  rw [List.any_eq_false] at n
  exact n _ (List.mem_map.mpr ⟨q,List.mem_range.mpr hq,rfl⟩) ((nn _).mpr z)
 rw [ak9 e1]
 obtain ⟨a,q0,h0,b⟩:=ak7 h (2*T.go.length+1)
 have v:∀ q,q<6→toI (RA T (kof T q))=(Mx T (kof T q) (2*T.go.length+1):Nat):=fun q hq=>by rw [ak9 (e2 q hq)];rfl
 refine congrArg D.int (aj4 (l:=(a6r T).map toI) ?_ fun x hx=>?_)
 ·rw [List.map_map]
  exact List.mem_map.mpr ⟨q0,List.mem_range.mpr h0,(v q0 h0).trans (by rw [b])⟩
 ·rw [List.map_map] at hx
  obtain ⟨q,hq,rfl⟩:=List.mem_map.mp hx
  have hq:=List.mem_range.mp hq
  show toI (RA T (kof T q))≤_
  rw [v q hq]
  have:=a q hq
  omega
noncomputable def fu:SF:=ql (zj jd dq) 3
theorem a9e (h:T.Ok) (q:Nat):Pu fu 2 [T.d,bc q] (RA T (kof T q)):=by
 refine Pu.of rfl (ack Table.clo (j7 _)) (r:=.ok (RA T (kof T q)) []) ?_ (m7 yw (by simp)) yw
 unfold fu
 rw [jg]
 show toR (zj jd dq [some T.d,some (bc q),none] [])=_
 unfold zj
 refine Eq.trans (congrArg toR (jx (j8 (cu rfl) (jj _ _ _) (a98 _)))) ?_
 refine congrArg toR (a05 (ash (cu rfl) (a06 (cu rfl) (a0r h _)) (xu (a89 h (fun r=>decide (kI T r=(q:Int))) (cu rfl) (fun r _=>?_) fun r _=>cu rfl) (gq _) (by simp)) (a0s h ab0 _)))
 exact tof (j8 (cu rfl) (cu rfl) (aue _ _))
end
noncomputable def ait:SF:=ql (aib dj SRC.aa du SRC.bz SRC.di ji fu) 8
theorem art (ns:List Int):∃ h',K44.ait [.scr (ns.map D.int)] [] = .ok (.bl true) h':=by
 obtain ⟨o,P,e0⟩:=SRC.aft ns []
 obtain ⟨a,o1,e1,a0,a1,P1⟩:=SRC.v4 (m:=6) P (by omega) (by omega) (by omega)
 obtain ⟨T,o3,hT,e3,P3⟩:=SRC.ail (most:=16) P1 (by omega) (by omega) (by omega)
 obtain ⟨a,rfl⟩:=Int.eq_ofNat_of_zero_le a0
 have n32:=hT.n32
 have c1:o8 false 2 SRC.aa [.ref 0, .int 6] [o] = .ok (bc a) [o1]:=e1 0 _ rfl
 have c3:o8 false 2 SRC.di [.ref 0, .int 16] [o1] = .ok T.d [o3]:=e3 0 _ rfl
 let sc:D:=.scr (ns.map D.int)
 let W:D:=RA T (kds T)
 have lp:=n6 (g:=kN 6) (b:=a6c dj SRC.aa du SRC.bz SRC.di ji fu) bc (fun pre τ hp'=>∃ (t6 t7:Option D),τ=[some sc,some (.ref 0),some (bc a),some T.d,some (.rol (a6r T)),some W,t6,t7]∧hp'=[o3]) (List.range 6) [some sc,some (.ref 0),some (bc a),some T.d,some (.rol (a6r T)),some W,none,none] [o3] ?_ ⟨none,none,rfl,rfl⟩
 ·obtain ⟨τ',h',e,t6,t7,rfl,rfl⟩:=lp
  refine ⟨[o3],?_⟩
  unfold K44.ait
  rw [jg]
  show toR (aib dj SRC.aa du SRC.bz SRC.di ji fu [some sc,none,none,none,none,none,none,none] [])=_
  unfold aib
  refine Eq.trans (congrArg toR (jx (a06 (cu rfl) e0))) ?_
  refine Eq.trans (congrArg toR (jx (a1z (cu rfl) (jj _ _ _) c1))) ?_
  refine Eq.trans (congrArg toR (jx (a1z (cu rfl) (jj _ _ _) c3))) ?_
  have z4:sZ (jn (sRg vf (ak (sC (.int 6)) gf)) t1 (aao dj SRC.aa du SRC.bz SRC.di ji fu) [3]) [some sc,some (.ref 0),some (bc a),some T.d,none,none,none,none] [o3] = .ok (.rol (a6r T)) [o3]:=by
   refine xu (qp bc (fun q=>RA T (kof T q)) (List.range 6) (a1h (n:=6) (jj _ _ _) (jb (by omega))) (jb (by rw [List.length_range];omega)) fun q hq=>?_) (ik fun q _=>aez (Nat.zero_le _) yw) (age P3)
   rw [v6,qz,a1i]
   have zz:sZ (my (sRg vf (ak (sA xx (ak (s2 gIx (sV 1) (sC (.int 2))) gf)) gf)) t1 (a2j dj SRC.aa du SRC.bz SRC.di ji fu) (aan dj SRC.aa du SRC.bz SRC.di ji fu) [0,1]) [some (bc q),some T.d] [o3] = .ok (.rol ((kof T q).map bc)) [o3]:=by
    unfold kof
    rw [← nu]
    refine xu (yu bc (fun t=>if decide (kI T t=(q:Int))=true then some (bc t) else none) (List.range T.go.length) (a1h (n:=T.go.length) (a06 (j8 (cu rfl) (jj _ _ _) (a98 _)) (a1f.trans (by rw [List.length_map,hT.kl]))) (jb (by omega))) (jb (by rw [List.length_range];omega)) fun t ht=>?_) (by rw [nu];exact gq _) (age P3)
    have ht:=List.mem_range.mp ht
    rw [a6h,qz,qz,a1i]
    have qq:a2j dj SRC.aa du SRC.bz SRC.di ji fu [some (bc t),some (bc q),some T.d] [o3] = .ok (decide (kI T t=(q:Int))) [o3]:=tof (j8 (j8 (j8 (cu rfl) (jj _ _ _) (a98 _)) (cu rfl) (a83 hT ht _)) (cu rfl) (aue _ _))
    show (a2j dj SRC.aa du SRC.bz SRC.di ji fu [some (bc t),some (bc q),some T.d] [o3]).bind _=_
    rw [qq,bx]
    cases decide (kI T t=(q:Int))<;>rfl
   exact a1z (cu rfl) zz (a88 hT ab0 _)
  refine Eq.trans (congrArg toR (jx z4)) ?_
  have nt:gIn false .non (.rol (a6r T)) [o3] = .ok (.bl (qw W)) [o3]:=by
   have fl:vy .non=true∧(a6r T).all vy=true:=⟨rfl,by
    rw [List.all_eq_true]
    intro y hy
    rcases ak8 y hy with rfl | ⟨k,rfl⟩<;>rfl⟩
   have e:inD .non (a6r T)=qw W:=by
    rw [← a6o hT]
    unfold inD
    congr 1
    funext y
    cases y<;>rfl
   show (if vy .non=true∧(a6r T).all vy=true then R.ok (D.bl (if false=true then !inD .non (a6r T) else inD .non (a6r T))) [o3] else .no)=_
   rw [if_pos fl,if_neg (by simp),e]
  have w5:a9s (sT (s2 (gIn false) (sC .non) (sV 4))) (sC .non) (sA abt (ak (sV 4) gf)) [some sc,some (.ref 0),some (bc a),some T.d,some (.rol (a6r T)),none,none,none] [o3] = .ok W [o3]:=by
   cases b:qw W with
   | true =>
    rw [b] at nt
    rw [(nn _).mp b]
    exact SRC.asj (tof (j8 (jj _ _ _) (cu rfl) nt)) (jj _ _ _)
   | false =>
    rw [b] at nt
    have nb:(a6r T).any qw=false:=by rw [a6o hT];exact b
    refine SRC.ar8 (tof (j8 (jj _ _ _) (cu rfl) nt)) (a06 (cu rfl) ?_)
    rw [show W=_ from anh hT nb]
    conv=>lhs;rw [ints_of ak8 nb]
    exact aq5 (by simp)
  refine Eq.trans (congrArg toR (jx w5)) ?_
  refine Eq.trans (congrArg toR (a6i (a1h (n:=6) (jj _ _ _) (jb (by omega))))) ?_
  refine Eq.trans (congrArg (fun z=>toR (MI.thn z _)) e) ?_
  exact congrArg toR (a05 (jj _ _ _))
 ·rintro pre i post τ hp' al ⟨t6,t7,rfl,rfl⟩
  obtain ⟨ei,hi⟩:=vp al
  let q:Nat:=(i*5+a) % 6
  have hq:q<6:=Nat.mod_lt _ (by omega)
  have eq':((i:Int)*5+(a:Int)) % 6=((q:Nat):Int):=by show _=(((i*5+a) % 6:Nat):Int);omega
  have kd:s2 a6q (s2 jk (s2 xr (sV 6) (sC (.int 5))) (sV 2)) (sC (.int 6)) [some sc,some (.ref 0),some (bc a),some T.d,some (.rol (a6r T)),some W,some (bc i),t7] [o3] = .ok (bc q) [o3]:=by
   refine (j8 (j8 (j8 (cu rfl) (jj _ _ _) (a3y.trans (if_pos (.inr ⟨by decide,by decide⟩)))) (cu rfl) yr) (jj _ _ _) (aju (by decide))).trans ?_
   rw [eq']
  refine ⟨_,_,rfl,[some sc,some (.ref 0),some (bc a),some T.d,some (.rol (a6r T)),some W,some (bc i),some (bc q)],[o3],?_,_,_,rfl,rfl⟩
  unfold a6c
  refine Eq.trans (jx kd) ?_
  refine Eq.trans (ifN (avb (a7x (a1z (a1z (cu rfl) (cu rfl) (a9e hT q _)) (j8 (cu rfl) (cu rfl) (aqz (y:=RA T (kof T q)) (by rw [List.getElem?_map,List.getElem?_range hq];rfl))) (aaz _ _)) (a0o _)))) ?_
  exact Eq.trans (ifF (avb (a7x (a1z (a06 (cu rfl) (ais hT _)) (cu rfl) (aaz _ _)) (a0o _)))) rfl
end K44
namespace L2
open PySem PySem.Spec PySem.W PyProof.Rows
end L2
namespace K44
open PySem PySem.Spec L2 MI
def aiu (K:PySem.W.Frag):Sp:=fun vs H Q _=>∃ (a:Addr) (ns:List Int),vs=[.ref a]∧SqF K H a (ns.map V.int)∧ns.length≤63∧∀ H',Q (.bl true) H'
theorem yq {K:PySem.W.Frag} {ι:List Addr} {H:Hp}:∀ ns:List Int,Reps K ι H (ns.map V.int) (ns.map D.int)
 | []=>.nil
 | n::ns=>.cons (.int n) (yq ns)
theorem aru {K:PySem.W.Frag} (vs:List V) (H:Hp) (Q:VK) (E:XK) (h:aiu K vs H Q E):um K 1 K44.ait vs H Q E:=by
 obtain ⟨a,ns,rfl,hS,hl,q⟩:=h
 obtain ⟨h',e⟩:=K44.art ns
 refine ⟨rfl,[],[.scr (ns.map D.int)],[], .cons (.scr hS (yq ns)) .nil,⟨List.nodup_nil,rfl,fun i a o z=>by simp at z⟩,?_⟩
 rw [e]
 intro ι' H' b g r hr
 cases r
 exact q H'
theorem arv {K:PySem.W.Frag} {H:Hp} {a:Addr} {vs:List V} (hO:Only H) (hS:SqL K H a vs):SqF K H a vs:=by
 rcases hS with r | r
 ·rcases r with r | ⟨o,r⟩
  ·rcases hO a with z | ⟨o,xs,z⟩<;>rw [z] at r<;>cases r
  ·exact .inl ⟨o,r⟩
 ·exact .inr (.inr r)
abbrev fo (x:Str) (t:Stmt) (kV dc pm:Value) (an:Option Addr) (cd ct:Value):=PySem.W.fnOf x x (a0u t) (iz t) (au t) .none kV dc pm an cd ct
theorem arw {l:PySem.W.OpenLaw} {w:World} {K:PySem.W.Frag} {h:Heap} {mg:Str→Option Value} {fa f1 f2 f3 f4 f5 f6 f7 f8 f9 f10 f11 f12 f13 f14 f15 f16 f17:Addr} (X:K.In h) (G:h.Ns mainGlobals mg) (hfa:mg "law" = some (.ref fa))
  {od1 an1 od2 an2 od3 an3 od4 an4 od5 an5 od6 an6 od7 an7 od8 an8 od9 an9 od10 an10 od11 an11 od12 an12 od13 an13 od14 an14 od15 an15 od16 an16 od17 an17:Option Addr} {sl1 sl2 sl3 sl4 sl5 sl6 sl7 sl8 sl9 sl10 sl11 sl12 sl13 sl14 sl15 sl16 sl17:Array (Option Value)} {oc1 kV1 dc1 pm1 cd1 ct1 oc2 kV2 dc2 pm2 cd2 ct2 oc3 kV3 dc3 pm3 cd3 ct3 oc4 kV4 dc4 pm4 cd4 ct4 oc5 kV5 dc5 pm5 cd5 ct5 oc6 kV6 dc6 pm6 cd6 ct6 oc7 kV7 dc7 pm7 cd7 ct7 oc8 kV8 dc8 pm8 cd8 ct8 oc9 kV9 dc9 pm9 cd9 ct9 oc10 kV10 dc10 pm10 cd10 ct10 oc11 kV11 dc11 pm11 cd11 ct11 oc12 kV12 dc12 pm12 cd12 ct12 oc13 kV13 dc13 pm13 cd13 ct13 oc14 kV14 dc14 pm14 cd14 ct14 oc15 kV15 dc15 pm15 cd15 ct15 oc16 kV16 dc16 pm16 cd16 ct16 oc17 kV17 dc17 pm17 cd17 ct17:Value}
  (a1:PySem.W.nsIn K mainGlobals "hope_words" = some (some (.ref f1))) (l1:K.lookup f1=some ⟨oc1,od1, .func (fo "hope_words" (top 1) kV1 dc1 pm1 an1 cd1 ct1),sl1⟩) (c1:PySem.W.codeIn K cd1 "hope_words" = true) (k1:PySem.W.keepIn K (.ref f1)=true)
  (a2:PySem.W.nsIn K mainGlobals "hope_word" = some (some (.ref f2))) (l2:K.lookup f2=some ⟨oc2,od2, .func (fo "hope_word" (top 2) kV2 dc2 pm2 an2 cd2 ct2),sl2⟩) (c2:PySem.W.codeIn K cd2 "hope_word" = true) (k2:PySem.W.keepIn K (.ref f2)=true)
  (a3:PySem.W.nsIn K mainGlobals "hopes" = some (some (.ref f3))) (l3:K.lookup f3=some ⟨oc3,od3, .func (fo "hopes" (top 3) kV3 dc3 pm3 an3 cd3 ct3),sl3⟩) (c3:PySem.W.codeIn K cd3 "hopes" = true) (k3:PySem.W.keepIn K (.ref f3)=true)
  (a4:PySem.W.nsIn K mainGlobals "reach" = some (some (.ref f4))) (l4:K.lookup f4=some ⟨oc4,od4, .func (fo "reach" (top 5) kV4 dc4 pm4 an4 cd4 ct4),sl4⟩) (c4:PySem.W.codeIn K cd4 "reach" = true) (k4:PySem.W.keepIn K (.ref f4)=true)
  (a5:PySem.W.nsIn K mainGlobals "reach_of" = some (some (.ref f5))) (l5:K.lookup f5=some ⟨oc5,od5, .func (fo "reach_of" (top 6) kV5 dc5 pm5 an5 cd5 ct5),sl5⟩) (c5:PySem.W.codeIn K cd5 "reach_of" = true) (k5:PySem.W.keepIn K (.ref f5)=true)
  (a6:PySem.W.nsIn K mainGlobals "reach_from" = some (some (.ref f6))) (l6:K.lookup f6=some ⟨oc6,od6, .func (fo "reach_from" (top 7) kV6 dc6 pm6 an6 cd6 ct6),sl6⟩) (c6:PySem.W.codeIn K cd6 "reach_from" = true) (k6:PySem.W.keepIn K (.ref f6)=true)
  (a7:PySem.W.nsIn K mainGlobals "_law_source" = some (some (.ref f7))) (l7:K.lookup f7=some ⟨oc7,od7, .func (fo "_law_source" (top 9) kV7 dc7 pm7 an7 cd7 ct7),sl7⟩) (c7:PySem.W.codeIn K cd7 "_law_source" = true) (k7:PySem.W.keepIn K (.ref f7)=true)
  (a8:PySem.W.nsIn K mainGlobals "_law_draw" = some (some (.ref f8))) (l8:K.lookup f8=some ⟨oc8,od8, .func (fo "_law_draw" (top 10) kV8 dc8 pm8 an8 cd8 ct8),sl8⟩) (c8:PySem.W.codeIn K cd8 "_law_draw" = true) (k8:PySem.W.keepIn K (.ref f8)=true)
  (a9:PySem.W.nsIn K mainGlobals "_law_signs" = some (some (.ref f9))) (l9:K.lookup f9=some ⟨oc9,od9, .func (fo "_law_signs" (top 11) kV9 dc9 pm9 an9 cd9 ct9),sl9⟩) (c9:PySem.W.codeIn K cd9 "_law_signs" = true) (k9:PySem.W.keepIn K (.ref f9)=true)
  (a10:PySem.W.nsIn K mainGlobals "_law_tongue" = some (some (.ref f10))) (l10:K.lookup f10=some ⟨oc10,od10, .func (fo "_law_tongue" (top 12) kV10 dc10 pm10 an10 cd10 ct10),sl10⟩) (c10:PySem.W.codeIn K cd10 "_law_tongue" = true) (k10:PySem.W.keepIn K (.ref f10)=true)
  (a11:PySem.W.nsIn K mainGlobals "_law_rooms" = some (some (.ref f11))) (l11:K.lookup f11=some ⟨oc11,od11, .func (fo "_law_rooms" (top 13) kV11 dc11 pm11 an11 cd11 ct11),sl11⟩) (c11:PySem.W.codeIn K cd11 "_law_rooms" = true) (k11:PySem.W.keepIn K (.ref f11)=true)
  (a12:PySem.W.nsIn K mainGlobals "_law_table" = some (some (.ref f12))) (l12:K.lookup f12=some ⟨oc12,od12, .func (fo "_law_table" (top 14) kV12 dc12 pm12 an12 cd12 ct12),sl12⟩) (c12:PySem.W.codeIn K cd12 "_law_table" = true) (k12:PySem.W.keepIn K (.ref f12)=true)
  (a13:PySem.W.nsIn K mainGlobals "_law_hope" = some (some (.ref f13))) (l13:K.lookup f13=some ⟨oc13,od13, .func (fo "_law_hope" (top 15) kV13 dc13 pm13 an13 cd13 ct13),sl13⟩) (c13:PySem.W.codeIn K cd13 "_law_hope" = true) (k13:PySem.W.keepIn K (.ref f13)=true)
  (a14:PySem.W.nsIn K mainGlobals "_law_next" = some (some (.ref f14))) (l14:K.lookup f14=some ⟨oc14,od14, .func (fo "_law_next" (top 16) kV14 dc14 pm14 an14 cd14 ct14),sl14⟩) (c14:PySem.W.codeIn K cd14 "_law_next" = true) (k14:PySem.W.keepIn K (.ref f14)=true)
  (a15:PySem.W.nsIn K mainGlobals "_law_reach" = some (some (.ref f15))) (l15:K.lookup f15=some ⟨oc15,od15, .func (fo "_law_reach" (top 17) kV15 dc15 pm15 an15 cd15 ct15),sl15⟩) (c15:PySem.W.codeIn K cd15 "_law_reach" = true) (k15:PySem.W.keepIn K (.ref f15)=true)
  (a16:PySem.W.nsIn K mainGlobals "_law_alike" = some (some (.ref f16))) (l16:K.lookup f16=some ⟨oc16,od16, .func (fo "_law_alike" (top 18) kV16 dc16 pm16 an16 cd16 ct16),sl16⟩) (c16:PySem.W.codeIn K cd16 "_law_alike" = true) (k16:PySem.W.keepIn K (.ref f16)=true)
  (a17:PySem.W.nsIn K mainGlobals "law" = some (some (.ref f17))) (l17:K.lookup f17=some ⟨oc17,od17, .func (fo "law" (top 19) kV17 dc17 pm17 an17 cd17 ct17),sl17⟩) (c17:PySem.W.codeIn K cd17 "law" = true) (k17:PySem.W.keepIn K (.ref f17)=true)
  (z1:PySem.W.nsIn K mainGlobals "abs" = some none) (z2:PySem.W.nsIn K mainGlobals "any" = some none) (z3:PySem.W.nsIn K mainGlobals "bool" = some none) (z4:PySem.W.nsIn K mainGlobals "enumerate" = some none) (z5:PySem.W.nsIn K mainGlobals "int" = some none) (z6:PySem.W.nsIn K mainGlobals "isinstance" = some none) (z7:PySem.W.nsIn K mainGlobals "len" = some none) (z8:PySem.W.nsIn K mainGlobals "max" = some none) (z9:PySem.W.nsIn K mainGlobals "min" = some none) (z10:PySem.W.nsIn K mainGlobals "range" = some none) (z11:PySem.W.nsIn K mainGlobals "sorted" = some none) (z12:PySem.W.nsIn K mainGlobals "sum" = some none) (z13:PySem.W.nsIn K mainGlobals "tuple" = some none) (z14:PySem.W.nsIn K mainGlobals "zip" = some none)  :
  ∃ fd:FuncData,(∀ (s:Shared) (v:Value),BindsTo s fd ⟨[v],[]⟩ [("_law_script",v)])∧∀ base:Heap,K.In base→base.Ns mainGlobals mg→FnOk l.prog w K mg base CX0 5 fa fd ["_law_script"] (aiu K):=by
 have e:=hfa.symm.trans (PySem.W.mg_of X G a17)
 cases e
 have F1:=qi (st:=top 1) l1 c1 k1
 have b1:=F1.binds (ps:=["table"]) fun _ _ _ _ _ _ us hl=>match us,hl with | [_],_=>rfl
 have F2:=qi (st:=top 2) l2 c2 k2
 have b2:=F2.binds (ps:=["table", "start"]) fun _ _ _ _ _ _ us hl=>match us,hl with | [_,_],_=>rfl
 have F3:=qi (st:=top 3) l3 c3 k3
 have b3:=F3.binds (ps:=["table"]) fun _ _ _ _ _ _ us hl=>match us,hl with | [_],_=>rfl
 have F4:=qi (st:=top 5) l4 c4 k4
 have b4:=F4.binds (ps:=["table"]) fun _ _ _ _ _ _ us hl=>match us,hl with | [_],_=>rfl
 have F5:=qi (st:=top 6) l5 c5 k5
 have b5:=F5.binds (ps:=["table", "kind"]) fun _ _ _ _ _ _ us hl=>match us,hl with | [_,_],_=>rfl
 have F6:=qi (st:=top 7) l6 c6 k6
 have b6:=F6.binds (ps:=["table", "hope", "starts"]) fun _ _ _ _ _ _ us hl=>match us,hl with | [_,_,_],_=>rfl
 have F7:=qi (st:=top 9) l7 c7 k7
 have b7:=F7.binds (ps:=["_law_script"]) fun _ _ _ _ _ _ us hl=>match us,hl with | [_],_=>rfl
 have F8:=qi (st:=top 10) l8 c8 k8
 have b8:=F8.binds (ps:=["_law_left", "_law_many"]) fun _ _ _ _ _ _ us hl=>match us,hl with | [_,_],_=>rfl
 have F9:=qi (st:=top 11) l9 c9 k9
 have b9:=F9.binds (ps:=[]) fun _ _ _ _ _ _ us hl=>match us,hl with | [],_=>rfl
 have F10:=qi (st:=top 12) l10 c10 k10
 have b10:=F10.binds (ps:=["_law_left"]) fun _ _ _ _ _ _ us hl=>match us,hl with | [_],_=>rfl
 have F11:=qi (st:=top 13) l11 c11 k11
 have b11:=F11.binds (ps:=["_law_left", "_law_tongue_here", "_law_many"]) fun _ _ _ _ _ _ us hl=>match us,hl with | [_,_,_],_=>rfl
 have F12:=qi (st:=top 14) l12 c12 k12
 have b12:=F12.binds (ps:=["_law_left", "_law_most"]) fun _ _ _ _ _ _ us hl=>match us,hl with | [_,_],_=>rfl
 have F13:=qi (st:=top 15) l13 c13 k13
 have b13:=F13.binds (ps:=["_law_table_here"]) fun _ _ _ _ _ _ us hl=>match us,hl with | [_],_=>rfl
 have F14:=qi (st:=top 16) l14 c14 k14
 have b14:=F14.binds (ps:=["_law_table_here", "_law_rooms_here"]) fun _ _ _ _ _ _ us hl=>match us,hl with | [_,_],_=>rfl
 have F15:=qi (st:=top 17) l15 c15 k15
 have b15:=F15.binds (ps:=["_law_table_here", "_law_rooms_here"]) fun _ _ _ _ _ _ us hl=>match us,hl with | [_,_],_=>rfl
 have F16:=qi (st:=top 18) l16 c16 k16
 have b16:=F16.binds (ps:=["_law_found", "_law_due"]) fun _ _ _ _ _ _ us hl=>match us,hl with | [_,_],_=>rfl
 have F17:=qi (st:=top 19) l17 c17 k17
 have b17:=F17.binds (ps:=["_law_script"]) fun _ _ _ _ _ _ us hl=>match us,hl with | [_],_=>rfl
 have M:Nm mg:=⟨PySem.W.mg_none_of X G z1,PySem.W.mg_none_of X G z2,PySem.W.mg_none_of X G z3,PySem.W.mg_none_of X G z4,PySem.W.mg_none_of X G z5,PySem.W.mg_none_of X G z6,PySem.W.mg_none_of X G z7,PySem.W.mg_none_of X G z8,PySem.W.mg_none_of X G z9,PySem.W.mg_none_of X G z10,PySem.W.mg_none_of X G z11,PySem.W.mg_none_of X G z12,PySem.W.mg_none_of X G z13,PySem.W.mg_none_of X G z14⟩
 refine ⟨PySem.W.fnOf "law" "law" (a0u (top 19)) (iz (top 19)) (au (top 19)) .none kV17 dc17 pm17 an17 cd17 ct17,fun s v=>.of_eq rfl,fun base _ _=>?_⟩
 have D_1:Dn l.prog w K mg base 1 "hope_word" ["table", "start"] (um K 2 (RCH.dz)) _ _:=⟨qm F2 av2 (m_1 M),PySem.W.mg_of X G a2,k2,b2⟩
 have D_0:Dn l.prog w K mg base 2 "hope_words" ["table"] (um K 1 (RCH.dw)) _ _:=⟨qm F1 av1 (m_0 M D_1 (by decide)),PySem.W.mg_of X G a1,k1,b1⟩
 have D_2:Dn l.prog w K mg base 3 "hopes" ["table"] (um K 1 (RCH.jd)) _ _:=⟨qm F3 av3 (m_2 M D_0 (by decide)),PySem.W.mg_of X G a3,k3,b3⟩
 have D_5:Dn l.prog w K mg base 1 "reach_from" ["table", "hope", "starts"] (um K 3 (RCH.dq)) _ _:=⟨qm F6 av6 (m_5 M),PySem.W.mg_of X G a6,k6,b6⟩
 have D_3:Dn l.prog w K mg base 4 "reach" ["table"] (um K 1 (RCH.ji)) _ _:=⟨qm F4 av4 (m_3 M D_2 (by decide) D_5 (by decide)),PySem.W.mg_of X G a4,k4,b4⟩
 have D_4:Dn l.prog w K mg base 4 "reach_of" ["table", "kind"] (um K 2 (K44.fu)) _ _:=⟨qm F5 av5 (m_4 M D_2 (by decide) D_5 (by decide)),PySem.W.mg_of X G a5,k5,b5⟩
 have D_6:Dn l.prog w K mg base 1 "_law_source" ["_law_script"] (um K 1 (SRC.bz)) _ _:=⟨qm F7 av7 (m_6 M),PySem.W.mg_of X G a7,k7,b7⟩
 have D_7:Dn l.prog w K mg base 1 "_law_draw" ["_law_left", "_law_many"] (um K 2 (SRC.aa)) _ _:=⟨qm F8 av8 (m_7 M),PySem.W.mg_of X G a8,k8,b8⟩
 have D_8:Dn l.prog w K mg base 1 "_law_signs" [] (um K 0 (SRC.j4)) _ _:=⟨qm F9 av9 (m_8 ),PySem.W.mg_of X G a9,k9,b9⟩
 have D_9:Dn l.prog w K mg base 2 "_law_tongue" ["_law_left"] (um K 1 (SRC.cj)) _ _:=⟨qm F10 ava (m_9 M D_7 (by decide) D_8 (by decide)),PySem.W.mg_of X G a10,k10,b10⟩
 have D_10:Dn l.prog w K mg base 2 "_law_rooms" ["_law_left", "_law_tongue_here", "_law_many"] (um K 3 (SRC.dh)) _ _:=⟨qm F11 aqk (awd M D_7 (by decide)),PySem.W.mg_of X G a11,k11,b11⟩
 have D_11:Dn l.prog w K mg base 3 "_law_table" ["_law_left", "_law_most"] (um K 2 (SRC.di)) _ _:=⟨qm F12 aql (awe M D_7 (by decide) D_10 (by decide) D_9 (by decide)),PySem.W.mg_of X G a12,k12,b12⟩
 have D_12:Dn l.prog w K mg base 1 "_law_hope" ["_law_table_here"] (um K 1 (RCH.bu)) _ _:=⟨qm F13 aqm (awf M),PySem.W.mg_of X G a13,k13,b13⟩
 have D_13:Dn l.prog w K mg base 1 "_law_next" ["_law_table_here", "_law_rooms_here"] (um K 2 (RCH.bw)) _ _:=⟨qm F14 aqn (awg ),PySem.W.mg_of X G a14,k14,b14⟩
 have D_14:Dn l.prog w K mg base 2 "_law_reach" ["_law_table_here", "_law_rooms_here"] (um K 2 (RCH.du)) _ _:=⟨qm F15 aqo (awh M D_12 (by decide) D_13 (by decide)),PySem.W.mg_of X G a15,k15,b15⟩
 have D_15:Dn l.prog w K mg base 1 "_law_alike" ["_law_found", "_law_due"] (um K 2 (RCH.dj)) _ _:=⟨qm F16 aqp (awi M),PySem.W.mg_of X G a16,k16,b16⟩
 have D_16:Dn l.prog w K mg base 5 "law" ["_law_script"] (um K 1 (K44.ait)) _ _:=⟨qm F17 aqq (awj M D_15 (by decide) D_7 (by decide) D_14 (by decide) D_6 (by decide) D_11 (by decide) D_3 (by decide) D_4 (by decide)),PySem.W.mg_of X G a17,k17,b17⟩
 exact D_16.ok.imp aru
theorem walk {l:PySem.W.OpenLaw} {q:Program} {loose:List Str} {XP:(Str→Option Value)→Heap→Prop} {YP:World→Heap→Prop} {d:DefRec} {K:Params→PySem.W.Frag} (hn:l.most=some 63) (hdf:d.params.defaults=[])
  (hY:∀ (w:World) (h:Heap),YP w h→(K w.params).In h)
  (F:∀ (w:World) (mg:Str→Option Value) (fa:Addr) (h:Heap),(K w.params).In h→h.Ns mainGlobals mg→mg d.name=some (.ref fa) →
   ∃ fd:FuncData,(∀ (s:Shared) (u:Value),BindsTo s fd ⟨[u],[]⟩ [("_law_script",u)])∧∀ base:Heap,(K w.params).In base→base.Ns mainGlobals mg→FnOk l.prog w (K w.params) mg base CX0 5 fa fd ["_law_script"] (aiu (K w.params))) :
  PySem.W.WalkO q loose XP YP l.row.toRowW d [] (fun f vs=>PySem.call f vs) :=
 L2.akv (n:=63) (k:=5) (x := "_law_script") (CX:=fun _=>CX0) (sp:=fun w=>aiu (K w.params)) hn (by decide) hdf ⟨rfl,by decide,by decide,rfl⟩ hY F (fun _ _ a ns hl hO hS=>⟨a,ns,rfl,arv hO hS,hl,fun _=>rfl⟩) fun _ _ _ _ _ z=>z
end K44
open PySem PySem.W PyProof.Rows
theorem K44.said:PySem.Challenge.rw_nearreach_k44_reaches_of_kinds.wellSaid=true:=by kernel_rfl
noncomputable def K44.hq:Program:=view PySem.Challenge.pw_nearreach_k44_reaches_of_kinds [PySem.Challenge.pw_nearreach_k44_reaches_of_kinds.main.body.length - 1]
noncomputable def K44.hl:List Str:=PySem.Challenge.pw_nearreach_k44_reaches_of_kinds.boundNames
local macro_rules | `(tactic| o_head $H) => `(tactic| refine PySem.W.holds_open (q:=K44.hq) (loose:=K44.hl) (Xt:=fun _=>true) (XP:=fun _ _=>True) (Yf:=Hook.obs $H) (Ya:=Hook.val $H) (YP:=Hook.says $H) (N:=20000) ?hl (Hook.of $H) (Hook.keeps $H) (fun _ _=>trivial) (fun _ _ _ _ _=>trivial) (by rfl) (by rfl) (by rfl) (fun _ _=>recFacts_nil rfl) (by rfl) (by assumption) (by decide +kernel) ⟨rfl,rfl,rfl,rfl,rfl,by decide +kernel⟩ ?hw ?hc)
set_option maxRecDepth 100000 in
set_option maxHeartbeats 0 in
theorem PySem.Challenge.cw_nearreach_k44_reaches_of_kinds_holds : PySem.Challenge.rw_nearreach_k44_reaches_of_kinds.Holds := by
 w_on;refine holds_law K44.said fun said=>?_;k_head
 (case hw=>w_witness2)
 (case hl=>intro w;kernel_rfl)
 k_fill
 refine K44.walk (l:=PySem.Challenge.rw_nearreach_k44_reaches_of_kinds) rfl rfl (fun w h Y=>PySem.W.kIn_of Y) ?F
 case F =>
  intro w mg fa h KX G hmg
  refine' K44.arw KX G hmg ?a1 ?l1 ?c1 ?k1 ?a2 ?l2 ?c2 ?k2 ?a3 ?l3 ?c3 ?k3 ?a4 ?l4 ?c4 ?k4 ?a5 ?l5 ?c5 ?k5 ?a6 ?l6 ?c6 ?k6 ?a7 ?l7 ?c7 ?k7 ?a8 ?l8 ?c8 ?k8 ?a9 ?l9 ?c9 ?k9 ?a10 ?l10 ?c10 ?k10 ?a11 ?l11 ?c11 ?k11 ?a12 ?l12 ?c12 ?k12 ?a13 ?l13 ?c13 ?k13 ?a14 ?l14 ?c14 ?k14 ?a15 ?l15 ?c15 ?k15 ?a16 ?l16 ?c16 ?k16 ?a17 ?l17 ?c17 ?k17 ?z1 ?z2 ?z3 ?z4 ?z5 ?z6 ?z7 ?z8 ?z9 ?z10 ?z11 ?z12 ?z13 ?z14
  (case a1=>k_is);(case l1=>k_is);(case c1=>k_is);(case k1=>k_is)
  (case a2=>k_is);(case l2=>k_is);(case c2=>k_is);(case k2=>k_is)
  (case a3=>k_is);(case l3=>k_is);(case c3=>k_is);(case k3=>k_is)
  (case a4=>k_is);(case l4=>k_is);(case c4=>k_is);(case k4=>k_is)
  (case a5=>k_is);(case l5=>k_is);(case c5=>k_is);(case k5=>k_is)
  (case a6=>k_is);(case l6=>k_is);(case c6=>k_is);(case k6=>k_is)
  (case a7=>k_is);(case l7=>k_is);(case c7=>k_is);(case k7=>k_is)
  (case a8=>k_is);(case l8=>k_is);(case c8=>k_is);(case k8=>k_is)
  (case a9=>k_is);(case l9=>k_is);(case c9=>k_is);(case k9=>k_is)
  (case a10=>k_is);(case l10=>k_is);(case c10=>k_is);(case k10=>k_is)
  (case a11=>k_is);(case l11=>k_is);(case c11=>k_is);(case k11=>k_is)
  (case a12=>k_is);(case l12=>k_is);(case c12=>k_is);(case k12=>k_is)
  (case a13=>k_is);(case l13=>k_is);(case c13=>k_is);(case k13=>k_is)
  (case a14=>k_is);(case l14=>k_is);(case c14=>k_is);(case k14=>k_is)
  (case a15=>k_is);(case l15=>k_is);(case c15=>k_is);(case k15=>k_is)
  (case a16=>k_is);(case l16=>k_is);(case c16=>k_is);(case k16=>k_is)
  (case a17=>k_is);(case l17=>k_is);(case c17=>k_is);(case k17=>k_is)
  (case z1=>k_is)
  (case z2=>k_is)
  (case z3=>k_is)
  (case z4=>k_is)
  (case z5=>k_is)
  (case z6=>k_is)
  (case z7=>k_is)
  (case z8=>k_is)
  (case z9=>k_is)
  (case z10=>k_is)
  (case z11=>k_is)
  (case z12=>k_is)
  (case z13=>k_is)
  (case z14=>k_is)
