import PyProof.Rows.All
import Wide.All
import OpenK.AllK
import Wide.FinOn
import Lean
import PyProof.EqAt
import PyProof.EqKinds
import PyProof.TupleCall
import PyProof.ListStr
import PyProof.TupleOfStr
import PyProof.ConsumeWalk
import PyProof.SliceStr2
import PyProof.CompUse
import PyProof.Rows.SetFrom
import PyProof.SetRoads
import PyProof.StrLawsIn
import PyProof.Rows.StrIndexOr
import PyProof.Rows.StrJoin2
import PyProof.Rows.SumAny
import PyProof.WalkInts
import PyProof.SeqI3
import PyProof.Draws
import PyProof.ZipIter
import PyProof.EnumMake
import Wide.Txt2
import PyProof.Rows.SortWalk
import PyProof.ListRange
import PyProof.Rows.Range3
import KE.KStateDown
import PyProof.ReprRoads
import PyProof.CallFns
import PyProof.WalksMore
import KE.KTryDeep
import PyProof.ExcBaseAll.ValueError
import KE.KTryMore
import KE.KIsNot
import PyProof.ExcAttrAll.ValueError
import PyProof.NsDelKeeps
import PySem.Challenge.RW_nearreach_k69_moded_cuts
set_option Elab.async false
set_option linter.all false
set_option maxRecDepth 100000
namespace L2
open PySem PySem.Spec PyProof.Rows
abbrev Key:=Sum Int Str
def alq:Key→Value→Bool
 | .inl k,v=>Value.isInt k v
 | .inr x,v=>Value.isStrOf x v
def at8 (w:World):Key→Int
 | .inl k=>hashInt k
 | .inr x=>hashStr w x
theorem m8:∀ {k:Key} {v:Value},alq k v=true→(∃ i t,k=Sum.inl i∧v=Value.int i t)∨(∃ x t,k=Sum.inr x∧v=Value.str x t)
 | .inl i,v,h=>by
  obtain ⟨t,e⟩:=Value.isInt_shape (k:=i) (v:=v) h
  exact .inl ⟨i,t,rfl,e⟩
 | .inr x,v,h=>by
  obtain ⟨t,e⟩:=Value.isStrOf_shape (x:=x) (v:=v) h
  exact .inr ⟨x,t,rfl,e⟩
theorem alr (a b:Int):decide ((Sum.inl a:Key)=Sum.inl b)=(a == b):=by
 by_cases e:a=b
 ·subst e;simp
 ·have h:¬ (Sum.inl a:Key)=Sum.inl b:=fun q=>e (Sum.inl.inj q)
  rw [decide_eq_false h]
  exact (beq_eq_false_iff_ne.mpr e).symm
theorem als (a b:Str):decide ((Sum.inr a:Key)=Sum.inr b)=decide (a=b):=by
 by_cases e:a=b
 ·subst e;simp
 ·have h:¬ (Sum.inr a:Key)=Sum.inr b:=fun q=>e (Sum.inr.inj q)
  rw [decide_eq_false h,decide_eq_false e]
theorem alu (a:Int) (b:Str):decide ((Sum.inl a:Key)=Sum.inr b)=false:=decide_eq_false (fun q=>nomatch q)
theorem alv (a:Str) (b:Int):decide ((Sum.inr a:Key)=Sum.inl b)=false:=decide_eq_false (fun q=>nomatch q)
def a81 (prog:Program) (w:World):PySem.KeyKind prog w Key where
 is:=alq
 hash:=at8 w
 inj:=fun v a b ha hb=>by
  rcases m8 ha with ⟨i,t,rfl,rfl⟩ | ⟨x,t,rfl,rfl⟩
  ·rcases m8 hb with ⟨j,u,rfl,e⟩ | ⟨y,u,rfl,e⟩
   ·injection e with e1 _;rw [e1]
   ·exact nomatch e
  ·rcases m8 hb with ⟨j,u,rfl,e⟩ | ⟨y,u,rfl,e⟩
   ·exact nomatch e
   ·injection e with e1 _;rw [e1]
 byValue:=fun k v h=>by
  rcases m8 h with ⟨i,t,rfl,rfl⟩ | ⟨x,t,rfl,rfl⟩<;>rfl
 pyHash:=fun hv h=>by
  rcases m8 hv with ⟨i,t,rfl,rfl⟩ | ⟨x,t,rfl,rfl⟩
  ·exact wpAny_pyHash_int h
  ·exact wpAny_pyHash_str h
 eqBool:=fun hu hv h=>by
  rcases m8 hu with ⟨i,t,rfl,rfl⟩ | ⟨x,t,rfl,rfl⟩
  ·rcases m8 hv with ⟨j,u,rfl,rfl⟩ | ⟨y,u,rfl,rfl⟩
   ·rw [alr] at h;exact wpAny_eqBool_int h
   ·rw [alu] at h;exact SeqAt.EqAt.int_str i t y u _ _ _ _ h
  ·rcases m8 hv with ⟨j,u,rfl,rfl⟩ | ⟨y,u,rfl,rfl⟩
   ·rw [alv] at h;exact SeqAt.EqAt.str_int x t j u _ _ _ _ h
   ·rw [als] at h;exact wpAny_eqBool_str h
 «strs»:=fun k x t v h=>by
  rcases m8 h with ⟨i,u,rfl,e⟩ | ⟨y,u,rfl,e⟩
  ·exact nomatch e
  ·injection e with e1 _
   subst e1
   cases v<;>rfl
end L2
namespace L2
open PySem PySem.Spec PyProof.Rows
inductive V where
 | non | bl (b:Bool) | int (i:Int) | str (x:Str) | byt (b:Array UInt8) | flt (b:UInt64) | ref (a:Addr) | ty (n:String)
 deriving DecidableEq
def RelV:V→Value→Prop
 | .non,u=>u=Value.none
 | .bl b,u=>u=Value.bool b
 | .int i,u=>∃ t,u=Value.int i t
 | .str x,u=>∃ t,u=Value.str x t
 | .byt b,u=>∃ t,u=Value.bytes b t
 | .flt b,u=>∃ t,u=Value.float b t
 | .ref a,u=>u=Value.ref a
 | .ty n,u=>u=Value.type n
abbrev Vals:List V→List Value→Prop:=Paired RelV
theorem Vals.length {xs:List V} {us:List Value} (r:Vals xs us):xs.length=us.length:=Paired.length r
theorem Vals.get:∀ {xs:List V} {us:List Value} {i:Nat} {x:V},Vals xs us→xs[i]? = some x→∃ u,us[i]? = some u∧RelV x u
 | _,_,_,_, .nil,e=>by simp at e
 | _,_,0,_, .cons r _,e=>by simp at e;subst e;exact ⟨_,rfl,r⟩
 | _,_,i+1,x, .cons _ t,e=>by
  obtain ⟨u,h1,h2⟩:=Vals.get (i:=i) (x:=x) t (by simpa using e)
  exact ⟨u,by simpa using h1,h2⟩
theorem Vals.set {x:V} {u:Value} (r:RelV x u):∀ {xs:List V} {us:List Value} (i:Nat),Vals xs us→Vals (xs.set i x) (us.set i u)
 | _,_,_, .nil=>.nil
 | _,_,0, .cons _ t=>.cons r t
 | _,_,i+1, .cons q t=>.cons q (Vals.set r i t)
theorem Vals.append:∀ {xs ys:List V} {us ws:List Value},Vals xs us→Vals ys ws→Vals (xs++ys) (us++ws)
 | _,_,_,_, .nil,s=>s
 | _,_,_,_, .cons r t,s=>.cons r (Vals.append t s)
theorem Vals.take:∀ {xs:List V} {us:List Value} (n:Nat),Vals xs us→Vals (xs.take n) (us.take n)
 | _,_,0,_=>.nil
 | _,_,_+1, .nil=>.nil
 | _,_,n+1, .cons r t=>.cons r (Vals.take n t)
theorem Vals.drop:∀ {xs:List V} {us:List Value} (n:Nat),Vals xs us→Vals (xs.drop n) (us.drop n)
 | _,_,0,r=>r
 | _,_,_+1, .nil=>.nil
 | _,_,n+1, .cons _ t=>Vals.drop n t
def RelO:Option V→Option Value→Prop
 | some v,some u=>RelV v u
 | none,none=>True
 | _,_=>False
def KV {κ:Type}:List (κ × V)→List (κ × Value)→Prop:=Paired fun (p:κ × V) (q:κ × Value)=>p.1=q.1∧RelV p.2 q.2
def kV:Key→V
 | .inl i=>.int i
 | .inr x=>.str x
inductive HO where
 | lst (xs:List V)
 | tup (xs:List V)
 | dK (kvs:List (Key × V)) | dT (kvs:List (List Key × V))
 | set (S:Int→Bool) (n:Nat)
 | ins (C dx:Addr) (fs:List (Str × V))
 | own (x:Addr)
 | xd (fs:List (Str × V))
 | met (f x:Addr)
 | rng (lo hi:Int)
 | frz (o:Obj) (u:HO)
 | tbl (ps:Array Value)
 | ext (φ:Heap→Prop)
abbrev Hp:=Addr→Option HO
def upd (H:Hp) (a:Addr) (o:HO):Hp:=fun b=>if b=a then some o else H b
theorem o7 {H:Hp} {a:Addr} {o:HO}:upd H a o a=some o:=by unfold upd;rw [if_pos rfl]
theorem j9 {H:Hp} {a b:Addr} {o:HO} (h:b≠a):upd H a o b=H b:=by unfold upd;rw [if_neg h]
theorem j4 {H:Hp} {a b:Addr} {o:HO} (h:H a=some o) (h':H b=none):a≠b:=by
 intro e;subst e;rw [h] at h';cases h'
section
variable (P:Program) (w:World)
def ObjOk (H:Hp) (h:Heap) (a:Addr):HO→Prop
 | .lst xs=>xs.length≤sizeLine∧∃ (its:List Value) (n:Nat),Vals xs its∧h.get? a=some { cls:=.type "list",data:=.seq its.toArray n }
 | .tup xs=>xs.length≤sizeLine∧∃ its:List Value,Vals xs its∧IsTup h a its.toArray
 | .dK kvs=>kvs.length≤sizeLine∧(a == sysModules)=false∧∃ vs,KV kvs vs∧h.DictOf (a81 P w) a vs
 | .dT kvs=>kvs.length≤sizeLine∧(a == sysModules)=false∧∃ xs:List (List Key × Addr × Value),
   Paired (fun (p:List Key × V) (q:List Key × Addr × Value)=>p.1=q.1∧H q.2.1=some (.tup (p.1.map kV))∧RelV p.2 q.2.2) kvs xs ∧
   ∃ o es ep,h.get? a=some o∧o.ExactDict∧o.data = .dict es ep∧es.toList=xs.map (entryOfKey (tupleKind (a81 P w)))∧(xs.map (·.1)).Nodup
 | .set S n=>h.SetOf (intKind P w) a S n
 | .ins C dx fs=>H dx=some (.own a)∧fs.length≤1000∧dx≠a∧h.get? a=some (PySem.W.instObj C dx) ∧
   ∃ mA,h.Ns1 dx mA∧(∀ f,RelO (fs.lookup f) (mA f))∧PySem.Within mA (fs.map (·.1))
 | .own _=>∃ o,h.get? a=some o
 | .xd fs=>∃ mA,h.Ns1 a mA∧∀ f,RelO (fs.lookup f) (mA f)
 | .rng lo hi=>∃ t u v,h.get? a=some { cls:=.type "range",data:=.fields #[.int lo t, .int hi u, .int 1 v] }
 | .frz o u=>h.get? a=some o∧ObjOk H h a u
 | .tbl ps=>h.get? a=some { cls:=.none,data:=.fields ps }
 | .met f x=>h.get? a=some (PySem.W.methodObj (.ref f) (.ref x))
 | .ext φ=>φ h∧(∃ o,h.get? a=some o)∧∀ h1 h2:Heap,φ h1→(∀ o,h1.get? a=some o→h2.get? a=some o)→φ h2
def HOk (H:Hp) (h:Heap):Prop:=∀ a o,H a=some o→ObjOk P w H h a o
end
section
variable {P:Program} {w:World} {H H':Hp} {h h':Heap} {a:Addr} {o:HO}
theorem ObjOk.lt (x:ObjOk P w H h a o):a<h.objs.size:=by
 cases o with
 | lst xs=>obtain ⟨_,_,_,_,e⟩:=x;exact Heap.lt_size e
 | tup xs=>obtain ⟨_,_,_,p⟩:=x;exact p.lt
 | dK kvs=>obtain ⟨_,_,_,_,o,_,_,e,_⟩:=x;exact Heap.lt_size e
 | dT kvs=>obtain ⟨_,_,_,_,o,_,_,e,_⟩:=x;exact Heap.lt_size e
 | set S n=>obtain ⟨o,_,_,_,e,_⟩:=x;exact Heap.lt_size e
 | ins C dx fs=>obtain ⟨_,_,_,e,_⟩:=x;exact Heap.lt_size e
 | own y=>obtain ⟨_,e⟩:=x;exact Heap.lt_size e
 | xd fs=>obtain ⟨_,⟨_,_,_,e,_⟩,_⟩:=x;exact Heap.lt_size e
 | rng lo hi=>obtain ⟨_,_,_,e⟩:=x;exact Heap.lt_size e
 | frz ob u=>obtain ⟨e,_⟩:=x;exact Heap.lt_size e
 | tbl ps=>exact Heap.lt_size (show h.get? a=some _ from x)
 | met f y=>exact Heap.lt_size (show h.get? a=some _ from x)
 | ext φ=>obtain ⟨_,⟨_,e⟩,_⟩:=x;exact Heap.lt_size e
theorem Paired.mapP {α β:Type} {F G:α→β→Prop}:∀ {l₁:List α} {l₂:List β},Paired F l₁ l₂→(∀ a b,F a b→G a b)→Paired G l₁ l₂
 | _,_, .nil,_=>.nil
 | _,_, .cons r t,f=>.cons (f _ _ r) (Paired.mapP t f)
theorem ObjOk.stay (x:ObjOk P w H h a o) (k:∀ b u,(b=a∨H b=some (.own a))→h.get? b=some u→h'.get? b=some u)
  (ho:∀ b,H b=some (.own a)→H' b=some (.own a)) (ht:∀ b xs,H b=some (.tup xs)→H' b=some (.tup xs)):ObjOk P w H' h' a o:=by
 induction o with
 | lst xs=>obtain ⟨z,its,n,r,e⟩:=x;exact ⟨z,its,n,r,k _ _ (.inl rfl) e⟩
 | tup xs=>obtain ⟨z,its,r,ob,e,c⟩:=x;exact ⟨z,its,r,ob,k _ _ (.inl rfl) e,c⟩
 | dK kvs=>obtain ⟨z,y,vs,r,ob,es,ep,e,c⟩:=x;exact ⟨z,y,vs,r,ob,es,ep,k _ _ (.inl rfl) e,c⟩
 | dT kvs =>
  obtain ⟨z,y,xs,r,ob,es,ep,e,c⟩:=x
  exact ⟨z,y,xs,Paired.mapP r fun p q z=>⟨z.1,ht _ _ z.2.1,z.2.2⟩,ob,es,ep,k _ _ (.inl rfl) e,c⟩
 | set S n=>obtain ⟨ob,es,ep,t,e,c⟩:=x;exact ⟨ob,es,ep,t,k _ _ (.inl rfl) e,c⟩
 | ins C dx fs =>
  obtain ⟨d,z,ne,e,mA,⟨od,es,ep,e2,c⟩,r⟩:=x
  exact ⟨ho _ d,z,ne,k _ _ (.inl rfl) e,mA,⟨od,es,ep,k _ _ (.inr d) e2,c⟩,r⟩
 | own y=>obtain ⟨ob,e⟩:=x;exact ⟨ob,k _ _ (.inl rfl) e⟩
 | xd fs=>obtain ⟨mA,⟨od,es,ep,e,c⟩,r⟩:=x;exact ⟨mA,⟨od,es,ep,k _ _ (.inl rfl) e,c⟩,r⟩
 | rng lo hi=>obtain ⟨t,u,v,e⟩:=x;exact ⟨t,u,v,k _ _ (.inl rfl) e⟩
 | frz ob u ih=>obtain ⟨e,q⟩:=x;exact ⟨k _ _ (.inl rfl) e,ih q⟩
 | tbl ps =>
  have e:h.get? a=some { cls:=.none,data:=.fields ps }:=x
  show h'.get? a=some { cls:=.none,data:=.fields ps }
  exact k a _ (.inl rfl) e
 | met f y =>
  have e:h.get? a=some (PySem.W.methodObj (.ref f) (.ref y)):=x
  show h'.get? a=some (PySem.W.methodObj (.ref f) (.ref y))
  exact k a _ (.inl rfl) e
 | ext φ=>obtain ⟨p,⟨o,e⟩,st⟩:=x;exact ⟨st _ _ p fun o q=>k _ _ (.inl rfl) q,⟨o,k _ _ (.inl rfl) e⟩,st⟩
theorem HOk.lt (x:HOk P w H h) (e:H a=some o):a<h.objs.size:=(x a o e).lt
theorem HOk.fresh (x:HOk P w H h) (e:h.objs.size≤a):H a=none:=by
 cases q:H a with
 | none=>rfl
 | some u=>exact absurd (Nat.lt_of_lt_of_le (x.lt q) e) (Nat.lt_irrefl _)
theorem HOk.kept (x:HOk P w H h) (k:∀ b u,h.get? b=some u→h'.get? b=some u):HOk P w H h':=fun a o e =>
 (x a o e).stay (fun b u _ q=>k b u q) (fun _ q=>q) fun _ _ q=>q
theorem HOk.laid (x:HOk P w H h) (k:∀ b u,h.get? b=some u→h'.get? b=some u) (hp:h.objs.size≤a) (new:ObjOk P w (upd H a o) h' a o):HOk P w (upd H a o) h':=fun b u e=>by
 have hn:=x.fresh hp
 by_cases hb:b=a
 ·subst hb;rw [o7] at e;cases e;exact new
 ·rw [j9 hb] at e
  exact (x b u e).stay (fun c v _ q=>k c v q) (fun c q=>by rw [j9 (j4 q hn)];exact q) fun c xs q=>by rw [j9 (j4 q hn)];exact q
end
def Rd (H:Hp) (a:Addr) (u:HO):Prop:=H a=some u∨∃ o,H a=some (.frz o u)
theorem Rd.of {H:Hp} {a:Addr} {u:HO} (h:H a=some u):Rd H a u:=.inl h
theorem Rd.ok {P:Program} {w:World} {H:Hp} {h:Heap} {a:Addr} {u:HO} (r:Rd H a u) (x:HOk P w H h):ObjOk P w H h a u:=by
 rcases r with r | ⟨o,r⟩
 ·exact x a u r
 ·obtain ⟨_,q⟩:=x a _ r
  exact q
def Mut:Option HO→Prop
 | some (.lst _)=>True
 | some (.dK _)=>True
 | some (.dT _)=>True
 | some (.set _ _)=>True
 | some (.ins _ _ _)=>True
 | some (.ext _)=>True
 | _=>False
section
variable {P:Program} {w:World} {H:Hp} {h h':Heap} {x e:Addr} {o':HO}
theorem HOk.write (ok:HOk P w H h) (mu:Mut (H x)) (he:e=x∨H e=some (.own x)) (k:∀ b u,b≠e→h.get? b=some u→h'.get? b=some u) (heo:∃ u,h'.get? e=some u)
  (new:ObjOk P w (upd H x o') h' x o'):HOk P w (upd H x o') h':=fun b u q=>by
 have nown:∀ c y,H c=some (.own y)→c≠x:=fun c y r z=>by subst z;rw [r] at mu;exact mu
 have ntup:∀ c xs,H c=some (.tup xs)→c≠x:=fun c xs r z=>by subst z;rw [r] at mu;exact mu
 by_cases hb:b=x
 ·subst hb;rw [o7] at q;cases q;exact new
 ·rw [j9 hb] at q
  by_cases hbe:b=e
  ·have q':H b=some (.own x):=by
    rcases he with z | z
    ·exact absurd (hbe.trans z) hb
    ·rw [hbe];exact z
   rw [q] at q';cases q'
   obtain ⟨v,hv⟩:=heo
   exact ⟨v,by rw [hbe];exact hv⟩
  ·refine (ok b u q).stay (fun c v hc r=>k c v ?_ r) (fun c r=>by rw [j9 (nown c b r)];exact r) fun c xs r=>by rw [j9 (ntup c xs r)];exact r
   rcases hc with rfl | hc
   ·exact hbe
   ·rintro rfl
    rcases he with z | z
    ·exact nown c b hc z
    ·rw [hc] at z;cases z;exact hb rfl
end
structure Un (fs ex:List Addr) (H H':Hp) (h h':Heap):Prop where
 keep:∀ b o,h.get? b=some o→H b=none→b ∉ fs→b ∉ ex→h'.get? b=some o
 slot:∀ b o,h.get? b=some o→H b=none→b∈fs→b ∉ ex→∃ sl,h'.get? b=some { o with slots:=sl }
 free:∀ b o,h.get? b=some o→H b=none→b ∉ ex→H' b=none
 there:∀ b o,h.get? b=some o→b ∉ ex→∃ o',h'.get? b=some o'
 tups:∀ b xs,H b=some (.tup xs)→H' b=some (.tup xs)
 frzs:∀ b o u,H b=some (.frz o u)→H' b=some (.frz o u)
 tbls:∀ b ps,H b=some (.tbl ps)→∃ more,H' b=some (.tbl (ps++more))
section
variable {fs fs' ex ex':List Addr} {H H1 H2:Hp} {h h1 h2 h':Heap} {a x e:Addr} {o:HO}
theorem Un.any (u:Un fs ex H H1 h h1) {b:Addr} {ob:Obj} (q:h.get? b=some ob) (n:H b=none) (hx:b ∉ ex):∃ sl,h1.get? b=some { ob with slots:=sl }:=by
 by_cases hb:b∈fs
 ·exact u.slot b ob q n hb hx
 ·exact ⟨ob.slots,u.keep b ob q n hb hx⟩
theorem Un.kept (k:∀ b u,h.get? b=some u→h'.get? b=some u):Un fs ex H H h h' :=
 ⟨fun b ob q _ _ _=>k b ob q,fun b ob q _ _ _=>⟨ob.slots,k b ob q⟩,fun _ _ _ n _=>n,fun b ob q _=>⟨ob,k b ob q⟩,fun _ _ q=>q,fun _ _ _ q=>q,fun _ ps q=>⟨#[],by rw [q];simp⟩⟩
theorem Un.refl:Un fs ex H H h h:=Un.kept fun _ _ q=>q
theorem Un.laid (k:∀ b u,h.get? b=some u→h'.get? b=some u) (hp:h.objs.size≤a) (hn:H a=none):Un fs ex H (upd H a o) h h' where
 keep:=fun b u q _ _ _=>k b u q
 slot:=fun b u q _ _ _=>⟨u.slots,k b u q⟩
 free:=fun b u q n _=>by rw [j9 (Nat.ne_of_lt (Nat.lt_of_lt_of_le (Heap.lt_size q) hp))];exact n
 there:=fun b u q _=>⟨u,k b u q⟩
 tups:=fun b xs q=>by rw [j9 (j4 q hn)];exact q
 frzs:=fun b u xs q=>by rw [j9 (j4 q hn)];exact q
 tbls:=fun b ps q=>⟨#[],by rw [j9 (j4 q hn),q];simp⟩
theorem Un.write (mu:Mut (H x)) (he:e=x∨H e=some (.own x)) (k:∀ b u,b≠e→h.get? b=some u→h'.get? b=some u) (heo:∃ u,h'.get? e=some u):Un fs ex H (upd H x o) h h':=by
 have hx:∀ b,H b=none→b≠x:=fun b n z=>by subst z;rw [n] at mu;exact mu
 have hb:∀ b,H b=none→b≠e:=fun b n z=>by
  subst z
  rcases he with r | r
  ·exact hx b n r
  ·rw [n] at r;cases r
 have hm:∀ b u,H b=some u→¬ Mut (some u)→b≠x:=fun b u q nm z=>by subst z;rw [q] at mu;exact nm mu
 refine ⟨fun b u q n _ _=>k b u (hb b n) q,fun b u q n _ _=>⟨u.slots,k b u (hb b n) q⟩,fun b u q n _=>by rw [j9 (hx b n)];exact n,fun b u q _=>?_,
  fun b xs q=>by rw [j9 (hm b _ q fun z=>z)];exact q,fun b u xs q=>by rw [j9 (hm b _ q fun z=>z)];exact q,fun b ps q=>⟨#[],by rw [j9 (hm b _ q fun z=>z),q];simp⟩⟩
 by_cases hbe:b=e
 ·subst hbe;exact heo
 ·exact ⟨u,k b u hbe q⟩
end
def trk (h:Heap) (H:Hp):List Addr:=(List.range h.objs.size).filter fun a=>(H a).isSome
def aep (h:Heap) (H:Hp):Heap:=PySem.W.hideAll h (trk h H)
theorem ab7 (h:Heap) (H:Hp):(aep h H).objs.size=h.objs.size:=PySem.W.hideAll_size _ _
theorem aeq {h:Heap} {H:Hp} {b:Addr} {o:Obj} (e:h.get? b=some o) (n:H b=none):(aep h H).get? b=some o :=
 PySem.W.hideAll_get _ e fun hm=>by
  have q:(H b).isSome=true:=(List.mem_filter.mp hm).2
  rw [n] at q;simp at q
theorem aik {h:Heap} {H:Hp} {b:Addr} {o:Obj} (e:(aep h H).get? b=some o):h.get? b=some o∧H b=none:=by
 have e':h.get? b=some o:=PySem.W.of_hideAll (trk h H) e
 refine ⟨e',?_⟩
 cases q:H b with
 | none=>rfl
 | some x =>
  have hm:b∈trk h H:=List.mem_filter.mpr ⟨List.mem_range.mpr (Heap.lt_size e'),by simp [q]⟩
  have z:(aep h H).get? b=none:=PySem.W.hideAll_none (trk h H) hm
  rw [z] at e;cases e
def ail (g h:Heap) (L:Addr):List (Addr × Obj):=(List.range h.objs.size).filterMap fun a=>if a=L∨(g.get? a).isSome=true then none else (h.get? a).map fun o=>(a,o)
def rest (g h:Heap) (L d:Addr):List (Addr × Obj):=(ail g h L).filter fun p=>decide (p.1≠d)
end L2
namespace L2
open PySem PySem.Spec PyProof.Rows
structure Mod (K:PySem.W.Frag) (mg:Str→Option Value) (base:Heap):Prop where
 kin:K.In base
 glob:base.Ns mainGlobals mg
 blt:∃ mb,base.Ns builtinsNs mb∧∀ x:Str,x ≠ "__name__"→mb x=bootBuiltins x
 nolimit:base.NoLimit
structure Cx where
 prog:Program
 w:World
 K:PySem.W.Frag
 mg:Str→Option Value
 base:Heap
 A:Around
 N:List Str
 s₀:Shared
 H₀:Hp
 env:Env
 outer:List Env
 stack:List Env
 ex:List Addr
 fn:Str→Bool
 calm:Bool
 pn:List (Addr × Obj)
 xe:Value→Shared→Prop
def frs (l:List Env):List Addr:=l.filterMap (·.frame)
abbrev Cx.fs (X:Cx):List Addr:=frs X.outer
def Vis (sc:Scope) (x:Str):Prop:=sc.names.lookup x=some .local∨sc.names.lookup x=some .cell∨sc.names.lookup x=some .free
def Loc (sc:Scope) (x:Str):Prop:=sc.names.lookup x=some .local∨sc.names.lookup x=some .cell
def Look (env:Env) (h:Heap) (m:Str→Option Value) (x:Str) (u:Value):Prop :=
 (env.kindOf x=some .local∧m x=some u)∨((env.kindOf x=some .cell∨env.kindOf x=some .free)∧∃ c,env.cells.lookup x=some c∧h.IsCell c (some u))
structure Cx.Ok (X:Cx):Prop where
 mod:Mod X.K X.mg X.base
 kind:X.env.scope.kind = .function
 glob:X.env.globals=mainGlobals
 blt:X.env.builtins=builtinsNs
 above:X.s₀.heap.objs.size≤X.env.locals
 inj:∀ x y c,X.env.cells.lookup x=some c→X.env.cells.lookup y=some c→x=y
 has:∀ x,(X.env.kindOf x=some .cell∨X.env.kindOf x=some .free)→∃ c,X.env.cells.lookup x=some c
 cab:∀ x c,X.fn x=true→X.env.cells.lookup x=some c→X.s₀.heap.objs.size≤c
 hd:X.calm=true→X.A.handled=none
 frames:X.A.frames=some X.stack
 stk:X.stack=X.outer∨(X.stack=X.env::X.outer∧X.env.frame=some X.env.locals)
 exf:∀ b∈X.ex,b≠X.env.locals∧∀ x c,X.env.cells.lookup x=some c→c≠b
 bs:∀ b o,X.base.get? b=some o→X.s₀.heap.get? b=some o∧X.H₀ b=none
 bsz:X.base.objs.size≤X.s₀.heap.objs.size
 noex:∀ b o,X.base.get? b=some o→b ∉ X.ex
 exfs:∀ b∈X.ex,b ∉ X.fs
 funs:X.s₀.heap.FunFrames X.base X.outer
 frf:∀ b∈X.fs,X.H₀ b=none
structure Inv (X:Cx) (pins:List (Addr × Obj)) (σ:List (Option V)) (H:Hp) (s:Shared):Prop where
 ok:X.Ok
 os:s.os=X.s₀.os
 bare:AllBare s.gens
 base:Un X.fs X.ex X.H₀ H X.s₀.heap s.heap
 loc:∃ m,s.heap.Ns X.env.locals m∧∀ (i:Nat) (x:Str) (v:V),X.N[i]? = some x→σ[i]? = some (some v)→Vis X.env.scope x→∃ u,RelV v u∧Look X.env s.heap m x u
 cell:∀ x c,X.env.cells.lookup x=some c→∃ v,s.heap.IsCell c v
 free:H X.env.locals=none
 freeC:∀ x c,X.env.cells.lookup x=some c→H c=none
 pin:∀ p∈X.pn++pins,s.heap.get? p.1=some p.2∧H p.1=none∧p.1≠X.env.locals∧p.1 ∉ X.fs∧∀ v,p.2.data≠.cell v
 hok:HOk X.prog X.w H s.heap
 len:σ.length=X.N.length
section
variable {X:Cx} {pins:List (Addr × Obj)} {σ:List (Option V)} {H H':Hp} {s:Shared} {h':Heap}
theorem Cx.Ok.nofr (ok:X.Ok) {b:Addr} {o:Obj} (e:X.base.get? b=some o):b ∉ X.fs:=fun hb=>by
 have:=(ok.funs.mem hb).1
 rw [e] at this;cases this
theorem Inv.bs (I:Inv X pins σ H s):∀ b o,X.base.get? b=some o→s.heap.get? b=some o∧H b=none:=fun b o e =>
 ⟨I.base.keep b o (I.ok.bs b o e).1 (I.ok.bs b o e).2 (I.ok.nofr e) (I.ok.noex b o e),I.base.free b o (I.ok.bs b o e).1 (I.ok.bs b o e).2 (I.ok.noex b o e)⟩
theorem Inv.bk (I:Inv X pins σ H s):∀ b o,X.base.get? b=some o→s.heap.get? b=some o:=fun b o e=>(I.bs b o e).1
theorem Inv.mod (I:Inv X pins σ H s):Mod X.K X.mg X.base:=I.ok.mod
theorem Inv.kIn (I:Inv X pins σ H s):X.K.In s.heap:=I.ok.mod.kin.keeps I.bk
theorem Inv.fr (I:Inv X pins σ H s):∃ m,Fr X.base X.env.locals s.heap m :=
 let ⟨m,hn,_⟩:=I.loc
 ⟨m,hn,I.bk,Nat.le_trans I.ok.bsz I.ok.above⟩
theorem Inv.lt (I:Inv X pins σ H s):X.env.locals<s.heap.objs.size:=let ⟨_,hn,_⟩:=I.loc;hn.lt
theorem Inv.sz (I:Inv X pins σ H s):X.s₀.heap.objs.size≤s.heap.objs.size:=Nat.le_trans I.ok.above (Nat.le_of_lt I.lt)
theorem Inv.nofs (I:Inv X pins σ H s) {a:Addr} (h:s.heap.objs.size≤a):a ∉ X.fs:=fun hb=>by
 obtain ⟨_,o,ho,_⟩:=I.ok.funs.mem hb
 exact absurd (Nat.lt_of_lt_of_le (Heap.lt_size ho) (Nat.le_trans I.sz h)) (Nat.lt_irrefl _)
theorem Inv.cne (I:Inv X pins σ H s):∀ x c,X.env.cells.lookup x=some c→c≠X.env.locals:=fun x c e z=>by
 obtain ⟨v,o,ho,hd⟩:=I.cell x c e
 obtain ⟨m,⟨o',es,ep,ho',hd',_⟩,_⟩:=I.loc
 rw [z,ho'] at ho;cases ho;rw [hd'] at hd;cases hd
theorem Inv.funs (I:Inv X pins σ H s):s.heap.FunFrames X.base X.outer:=by
 have all:∀ (l:List Env),(∀ b∈frs l,b∈X.fs)→X.s₀.heap.FunFrames X.base l→s.heap.FunFrames X.base l:=by
  intro l
  induction l with
  | nil=>intro _ _;trivial
  | cons env r ih =>
   intro hs hl
   obtain ⟨hk,⟨L,o,hf,hn,ho,hd⟩,hr⟩:=hl
   have hL:L∈X.fs:=hs L (by unfold frs;rw [List.filterMap_cons,hf];exact List.mem_cons_self)
   obtain ⟨sl,e⟩:=I.base.slot L o ho (I.ok.frf L hL) hL fun z=>I.ok.exfs L z hL
   exact ⟨hk,⟨L,_,hf,hn,e,hd⟩,ih (fun b hb=>hs b (by unfold frs;rw [List.filterMap_cons,hf];exact List.mem_cons_of_mem _ hb)) hr⟩
 exact all X.outer (fun _ hb=>hb) I.ok.funs
theorem Inv.stack (I:Inv X pins σ H s):s.heap.FunFrames X.base X.stack:=by
 rcases I.ok.stk with e | ⟨e,hf⟩
 ·rw [e];exact I.funs
 ·rw [e]
  obtain ⟨m,hn,_⟩:=I.loc
  refine .cons (by rw [I.ok.kind];decide) hf hn ?_ I.funs
  exact Heap.get?_none_of_le (Nat.le_trans I.ok.bsz I.ok.above)
theorem Inv.stkSub (I:Inv X pins σ H s):∀ b∈frs X.stack,b∈X.env.locals::X.fs:=fun b hb=>by
 rcases I.ok.stk with e | ⟨e,hf⟩
 ·rw [e] at hb;exact List.mem_cons_of_mem _ hb
 ·rw [e] at hb
  unfold frs at hb
  rw [List.filterMap_cons,hf] at hb
  exact hb
theorem Inv.stkFree (I:Inv X pins σ H s):∀ b∈frs X.stack,H b=none:=fun b hb=>by
 rcases List.mem_cons.mp (I.stkSub b hb) with e | hb
 ·rw [e];exact I.free
 ·obtain ⟨_,o,ho,_⟩:=I.ok.funs.mem hb
  exact I.base.free b o ho (I.ok.frf b hb) fun z=>I.ok.exfs b z hb
theorem Inv.step {g':Array GenState} {t':Nat} {d':Drawn} {ch:List Addr} (I:Inv X pins σ H s)
  (hch:∀ b∈ch,(b∈X.ex∨X.s₀.heap.objs.size≤b)∧b≠X.env.locals∧(∀ x c,X.env.cells.lookup x=some c→c≠b)∧∀ p∈X.pn++pins,p.1≠b)
  (keep:∀ b o,b≠X.env.locals→b ∉ X.fs→b ∉ ch→s.heap.get? b=some o→H b=none→h'.get? b=some o)
  (slot:∀ b o,b≠X.env.locals→b∈X.fs→b ∉ ch→s.heap.get? b=some o→H b=none→∃ sl,h'.get? b=some { o with slots:=sl }) (free:∀ b o,b ∉ ch→s.heap.get? b=some o→H b=none→H' b=none)
  (there:∀ b o,b ∉ ch→s.heap.get? b=some o→∃ o',h'.get? b=some o')
  (tups:∀ b xs,H b=some (.tup xs)→H' b=some (.tup xs)) (frzs:∀ b o u,H b=some (.frz o u)→H' b=some (.frz o u)) (tbls:∀ b ps,H b=some (.tbl ps)→∃ more,H' b=some (.tbl (ps++more)))
  (ns:∀ m,s.heap.Ns X.env.locals m→h'.Ns X.env.locals m) (hok:HOk X.prog X.w H' h') (hg:AllBare g') :
  Inv X pins σ H' { s with heap:=h',gens:=g',drawn:=d',toks:=t' }:=by
 have neL:∀ b o,X.s₀.heap.get? b=some o→b≠X.env.locals:=fun b o e=>Nat.ne_of_lt (Nat.lt_of_lt_of_le (Heap.lt_size e) I.ok.above)
 have neC:∀ b o,X.s₀.heap.get? b=some o→b ∉ X.ex→b ∉ ch:=fun b o e hx hb=>by
  rcases (hch b hb).1 with z | z
  ·exact hx z
  ·exact absurd (Nat.lt_of_lt_of_le (Heap.lt_size e) z) (Nat.lt_irrefl _)
 have cellK:∀ x c,X.env.cells.lookup x=some c→∀ v,s.heap.IsCell c v→h'.IsCell c v:=fun x c e v ⟨o,ho,hd⟩=>by
  have nch:c ∉ ch:=fun z=>(hch c z).2.2.1 x c e rfl
  by_cases hc:c∈X.fs
  ·obtain ⟨sl,q⟩:=slot c o (I.cne x c e) hc nch ho (I.freeC x c e)
   exact ⟨_,q,hd⟩
  ·exact ⟨o,keep c o (I.cne x c e) hc nch ho (I.freeC x c e),hd⟩
 refine ⟨I.ok,I.os,hg,⟨fun b o e n hb hx=>?_,fun b o e n hb hx=>?_,fun b o e n hx=>?_,fun b o e hx=>?_,fun b xs e=>tups b xs (I.base.tups b xs e),fun b o xs e=>frzs b o xs (I.base.frzs b o xs e),fun b ps e=>?_⟩,?_,fun x c e=>?_,?_,fun x c e=>?_,fun p hp=>?_,hok,I.len⟩
 ·exact keep b o (neL b o e) hb (neC b o e hx) (I.base.keep b o e n hb hx) (I.base.free b o e n hx)
 ·obtain ⟨sl,e1⟩:=I.base.slot b o e n hb hx
  obtain ⟨sl',e2⟩:=slot b _ (neL b o e) hb (neC b o e hx) e1 (I.base.free b o e n hx)
  exact ⟨sl',e2⟩
 ·obtain ⟨o',e1⟩:=I.base.there b o e hx
  exact free b o' (neC b o e hx) e1 (I.base.free b o e n hx)
 ·obtain ⟨o',e1⟩:=I.base.there b o e hx
  exact there b o' (neC b o e hx) e1
 ·obtain ⟨m1,e1⟩:=I.base.tbls b ps e
  obtain ⟨m2,e2⟩:=tbls b _ e1
  exact ⟨m1++m2,by rw [e2,Array.append_assoc]⟩
 ·obtain ⟨m,hn,hl⟩:=I.loc
  refine ⟨m,ns m hn,fun i x v e1 e2 e3=>?_⟩
  obtain ⟨u,r,l⟩:=hl i x v e1 e2 e3
  refine ⟨u,r,?_⟩
  rcases l with l | ⟨k,c,e,z⟩
  ·exact .inl l
  ·exact .inr ⟨k,c,e,cellK x c e _ z⟩
 ·obtain ⟨v,z⟩:=I.cell x c e
  exact ⟨v,cellK x c e v z⟩
 ·obtain ⟨m,⟨o,_,_,ho,_⟩,_⟩:=I.loc
  exact free _ o (fun z=>(hch _ z).2.1 rfl) ho I.free
 ·obtain ⟨v,o,ho,hd⟩:=I.cell x c e
  exact free c o (fun z=>(hch c z).2.2.1 x c e rfl) ho (I.freeC x c e)
 ·obtain ⟨e,n,ne,nf,d⟩:=I.pin p hp
  have nch:p.1 ∉ ch:=fun z=>(hch p.1 z).2.2.2 p hp rfl
  exact ⟨keep p.1 p.2 ne nf nch e n,free p.1 p.2 nch e n,ne,nf,d⟩
theorem Inv.un {t':Nat} (I:Inv X pins σ H s) (u:Un X.fs [] H H' s.heap h') (hok:HOk X.prog X.w H' h'):Inv X pins σ H' { s with heap:=h',toks:=t' }:=by
 obtain ⟨m,⟨o,es,ep,ho,r⟩,_⟩:=id I.loc
 obtain ⟨sl,hL⟩:=u.any ho I.free (by simp)
 exact I.step (g':=s.gens) (d':=s.drawn) (ch:=[]) (fun _ z=>nomatch z) (fun b o _ hb _ e n=>u.keep b o e n hb (by simp)) (fun b o _ hb _ e n=>u.slot b o e n hb (by simp)) (fun b o _ e n=>u.free b o e n (by simp)) (fun b o _ e=>u.there b o e (by simp)) u.tups u.frzs u.tbls (fun m' hm=>by
  obtain ⟨o',es',ep',ho',r'⟩:=hm
  rw [ho] at ho';cases ho'
  exact ⟨_,es',ep',hL,r'⟩) hok I.bare
theorem Inv.call {g':Array GenState} {t':Nat} {d':Drawn} {ch:List Addr} (I:Inv X pins σ H s) (u:Un (frs X.stack) ch H H' s.heap h') (hok:HOk X.prog X.w H' h') (hg:AllBare g')
  (hch:∀ b∈ch,(b∈X.ex∨X.s₀.heap.objs.size≤b)∧b≠X.env.locals∧(∀ x c,X.env.cells.lookup x=some c→c≠b)∧∀ p∈X.pn++pins,p.1≠b) :
  Inv X pins σ H' { s with heap:=h',gens:=g',drawn:=d',toks:=t' }:=by
 obtain ⟨m,⟨o,es,ep,ho,r⟩,_⟩:=id I.loc
 obtain ⟨sl,hL⟩:=u.any ho I.free fun z=>(hch _ z).2.1 rfl
 exact I.step (ch:=ch) hch (fun b o hL hb hc e n=>u.keep b o e n (fun z=>(List.mem_cons.mp (I.stkSub b z)).elim hL hb) hc) (fun b o _ _ hc e n=>u.any e n hc) (fun b o hc e n=>u.free b o e n hc) (fun b o hc e=>u.there b o e hc) u.tups u.frzs u.tbls (fun m' hm=>by
  obtain ⟨o',es',ep',ho',r'⟩:=hm
  rw [ho] at ho';cases ho'
  exact ⟨_,es',ep',hL,r'⟩) hok hg
theorem Inv.turned {t':Nat} {it:Addr} (I:Inv X pins σ H s) (k:∀ b o,b≠it→s.heap.get? b=some o→h'.get? b=some o) (hn:H it=none) (hL:it≠X.env.locals)
  (h1:it∈X.ex∨X.s₀.heap.objs.size≤it) (h2:∀ x c,X.env.cells.lookup x=some c→c≠it) (h3:∀ p∈X.pn++pins,p.1≠it):Inv X pins σ H { s with heap:=h',toks:=t' }:=by
 have nit:∀ b u,H b=some u→b≠it:=fun b u e z=>by rw [z,hn] at e;cases e
 refine I.step (g':=s.gens) (d':=s.drawn) (ch:=[it]) (fun b hb=>?_) (fun b o _ _ hc e _=>k b o (fun z=>hc (by simp [z])) e) (fun b o _ _ hc e _=>⟨o.slots,k b o (fun z=>hc (by simp [z])) e⟩) (fun _ _ _ _ n=>n)
  (fun b o hc e=>⟨o,k b o (fun z=>hc (by simp [z])) e⟩) (fun _ _ e=>e) (fun _ _ _ e=>e) (fun b ps e=>⟨#[],by rw [e];simp⟩) (fun m hm=>?_) (fun b u e=>?_) I.bare
 ·have e:b=it:=by simpa using hb
  subst e
  exact ⟨h1,hL,h2,h3⟩
 ·obtain ⟨o,es,ep,ho,r⟩:=hm
  exact ⟨o,es,ep,k _ o (Ne.symm hL) ho,r⟩
 ·refine (I.hok b u e).stay (fun c v hc q=>k c v ?_ q) (fun _ q=>q) fun _ _ q=>q
  rcases hc with z | z
  ·rw [z];exact nit b u e
  ·exact nit c _ z
theorem Inv.tok (I:Inv X pins σ H s) (t:Nat):Inv X pins σ H { s with toks:=t }:=I.un (h':=s.heap) (t':=t) Un.refl I.hok
theorem Inv.kept {t':Nat} (I:Inv X pins σ H s) (k:∀ b u,s.heap.get? b=some u→h'.get? b=some u):Inv X pins σ H { s with heap:=h',toks:=t' }:=I.un (Un.kept k) (I.hok.kept k)
theorem Inv.laid {a:Addr} {o:HO} {t':Nat} (I:Inv X pins σ H s) (k:∀ b u,s.heap.get? b=some u→h'.get? b=some u) (hp:s.heap.objs.size≤a) (new:ObjOk X.prog X.w (upd H a o) h' a o) :
  Inv X pins σ (upd H a o) { s with heap:=h',toks:=t' }:=I.un (Un.laid k hp (I.hok.fresh hp)) (I.hok.laid k hp new)
theorem Inv.write {x e:Addr} {o:HO} {t':Nat} (I:Inv X pins σ H s) (mu:Mut (H x)) (he:e=x∨H e=some (.own x)) (k:∀ b u,b≠e→s.heap.get? b=some u→h'.get? b=some u) (heo:∃ u,h'.get? e=some u)
  (new:ObjOk X.prog X.w (upd H x o) h' x o):Inv X pins σ (upd H x o) { s with heap:=h',toks:=t' }:=I.un (Un.write mu he k heo) (I.hok.write mu he k heo new)
theorem Inv.weak {σ':List (Option V)} (I:Inv X pins σ H s) (hl:σ'.length=σ.length) (w:∀ (i:Nat) v,σ'[i]? = some (some v)→σ[i]? = some (some v)):Inv X pins σ' H s :=
 ⟨I.ok,I.os,I.bare,I.base,let ⟨m,hn,hl'⟩:=I.loc; ⟨m,hn,fun i x v e1 e2 e3=>hl' i x v e1 (w i v e2) e3⟩,I.cell,I.free,I.freeC,I.pin,I.hok,hl.trans I.len⟩
theorem Inv.pins_of {pins':List (Addr × Obj)} (I:Inv X pins σ H s) (h:∀ p∈pins',s.heap.get? p.1=some p.2∧H p.1=none∧p.1≠X.env.locals∧p.1 ∉ X.fs∧∀ v,p.2.data≠.cell v):Inv X pins' σ H s :=
 ⟨I.ok,I.os,I.bare,I.base,I.loc,I.cell,I.free,I.freeC,fun p hp=>(List.mem_append.mp hp).elim (fun z=>I.pin p (List.mem_append_left _ z)) (h p),I.hok,I.len⟩
theorem a5f {N:List Str} (hN:N.Nodup) {i j:Nat} {x:Str} (a:N[i]? = some x) (b:N[j]? = some x):i=j:=by
 obtain ⟨h1,e1⟩:=List.getElem?_eq_some_iff.mp a
 obtain ⟨h2,e2⟩:=List.getElem?_eq_some_iff.mp b
 exact (List.getElem_inj hN).mp (e1.trans e2.symm)
theorem a6u {M:Model} {A:Around} {E:Value→Shared→Prop} {i:Nat} {x:Str} {v:V} {u:Value} {Q:Unit→Shared→Prop} (I:Inv X pins σ H s) (hN:X.N.Nodup) (hi:X.N[i]? = some x) (hx:Loc X.env.scope x) (r:RelV v u)
  (h:∀ s',Inv X pins (σ.set i (some v)) H s'→(∃ a,Heap.SameBut a s.heap s'.heap∧(a=X.env.locals∨X.env.cells.lookup x=some a))→Q () s') (hf:X.fn x=true∨X.env.scope.names.lookup x=some .local:=by first | exact .inl rfl | exact .inr rfl | assumption):wpAny M A (storeName X.env x u) Q E s:=by
 obtain ⟨m,hn,hl⟩:=id I.loc
 have hcls:(X.env.scope.kind == .class || (X.env.scope.kind == .module && X.env.locals != X.env.globals))=false:=by rw [I.ok.kind];rfl
 have hiσ:i<σ.length:=by rw [I.len];exact (List.getElem?_eq_some_iff.mp hi).1
 have cne:=I.cne
 have tracked:∀ {a:Addr} {h':Heap},(∃ o,s.heap.get? a=some o∧H a=none)→Heap.SameBut a s.heap h'→HOk X.prog X.w H h':=fun {a h'} ha hs b ob e=>by
  obtain ⟨_,_,hfree⟩:=ha
  refine (I.hok b ob e).stay (fun c w' hc q=>(hs.2 c ?_).trans q) (fun _ q=>q) fun _ _ q=>q
  rintro rfl
  rcases hc with rfl | hc
  ·rw [hfree] at e;cases e
  ·rw [hfree] at hc;cases hc
 rcases hx with hk | hk
 ·refine wpAny_storeName_local hk hn (fun h' hn' hs=>?_) hcls
  obtain ⟨oL,_,_,hoL,_⟩:=id hn
  refine h _ ⟨I.ok,I.os,I.bare,⟨fun b o e n hb hx=>?_,fun b o e n hb hx=>?_,I.base.free,fun b o e hx=>?_,I.base.tups,I.base.frzs,I.base.tbls⟩,⟨_,hn',fun j y v' e1 e2 e3=>?_⟩,fun y c e=>?_,I.free,I.freeC,fun p hp=>?_,tracked ⟨oL,hoL,I.free⟩ hs,by simpa using I.len⟩ ⟨_,hs, .inl rfl⟩
  ·exact (hs.2 b (Nat.ne_of_lt (Nat.lt_of_lt_of_le (Heap.lt_size e) I.ok.above))).trans (I.base.keep b o e n hb hx)
  ·obtain ⟨sl,e1⟩:=I.base.slot b o e n hb hx
   exact ⟨sl,(hs.2 b (Nat.ne_of_lt (Nat.lt_of_lt_of_le (Heap.lt_size e) I.ok.above))).trans e1⟩
  ·obtain ⟨o',e1⟩:=I.base.there b o e hx
   exact ⟨o',(hs.2 b (Nat.ne_of_lt (Nat.lt_of_lt_of_le (Heap.lt_size e) I.ok.above))).trans e1⟩
  ·by_cases hj:j=i
   ·subst hj
    rw [hi] at e1;cases e1
    rw [List.getElem?_set_self hiσ] at e2
    cases e2
    exact ⟨u,r, .inl ⟨hk,by simp⟩⟩
   ·rw [List.getElem?_set_ne (Ne.symm hj)] at e2
    obtain ⟨u',r',q⟩:=hl j y v' e1 e2 e3
    refine ⟨u',r',?_⟩
    rcases q with ⟨k,e⟩ | ⟨k,c,e,z⟩
    ·refine .inl ⟨k,?_⟩
     have:y≠x:=fun e=>hj (a5f hN e1 (e ▸ hi))
     simp [this,e]
    ·exact .inr ⟨k,c,e,z.sameBut hs (cne y c e)⟩
  ·obtain ⟨w',z⟩:=I.cell y c e
   exact ⟨w',z.sameBut hs (cne y c e)⟩
  ·obtain ⟨e,n,ne,nf,d⟩:=I.pin p hp
   exact ⟨(hs.2 p.1 ne).trans e,n,ne,nf,d⟩
 ·have hfn:X.fn x=true:=by
   rcases hf with z | z
   ·exact z
   ·rw [z] at hk;cases hk
  obtain ⟨c,hc⟩:=I.ok.has x (.inl hk)
  obtain ⟨w',z⟩:=I.cell x c hc
  refine wpAny_storeName_cell I.ok.kind hk hc z (fun h' hc' hs=>?_)
  obtain ⟨oc,hoc,hocd⟩:=id z
  refine h { s with heap:=h' } ⟨I.ok,I.os,I.bare,⟨fun b o e n hb hx=>?_,fun b o e n hb hx=>?_,I.base.free,fun b o e hx=>?_,I.base.tups,I.base.frzs,I.base.tbls⟩,⟨m,hn.sameBut hs (Ne.symm (cne x c hc)),fun j y v' e1 e2 e3=>?_⟩,fun y c' e=>?_,I.free,I.freeC,fun p hp=>?_,tracked ⟨oc,hoc,I.freeC x c hc⟩ hs,by simpa using I.len⟩ ⟨c,hs, .inr hc⟩
  ·exact (hs.2 b (Nat.ne_of_lt (Nat.lt_of_lt_of_le (Heap.lt_size e) (I.ok.cab x c hfn hc)))).trans (I.base.keep b o e n hb hx)
  ·obtain ⟨sl,e1⟩:=I.base.slot b o e n hb hx
   exact ⟨sl,(hs.2 b (Nat.ne_of_lt (Nat.lt_of_lt_of_le (Heap.lt_size e) (I.ok.cab x c hfn hc)))).trans e1⟩
  ·obtain ⟨o',e1⟩:=I.base.there b o e hx
   exact ⟨o',(hs.2 b (Nat.ne_of_lt (Nat.lt_of_lt_of_le (Heap.lt_size e) (I.ok.cab x c hfn hc)))).trans e1⟩
  ·by_cases hj:j=i
   ·subst hj
    rw [hi] at e1;cases e1
    rw [List.getElem?_set_self hiσ] at e2
    cases e2
    exact ⟨u,r, .inr ⟨.inl hk,c,hc,hc'⟩⟩
   ·rw [List.getElem?_set_ne (Ne.symm hj)] at e2
    obtain ⟨u',r',q⟩:=hl j y v' e1 e2 e3
    refine ⟨u',r',?_⟩
    rcases q with q | ⟨k,c',e,z'⟩
    ·exact .inl q
    ·refine .inr ⟨k,c',e,z'.sameBut hs ?_⟩
     rintro rfl
     exact hj (a5f hN e1 (I.ok.inj _ _ _ e hc ▸ hi))
  ·by_cases hcc:c'=c
   ·subst hcc;exact ⟨_,hc'⟩
   ·obtain ⟨w2,z2⟩:=I.cell y c' e
    exact ⟨w2,z2.sameBut hs hcc⟩
  ·obtain ⟨e,n,ne,nf,d⟩:=I.pin p hp
   refine ⟨(hs.2 p.1 ?_).trans e,n,ne,nf,d⟩
   intro q
   rw [q,hoc] at e
   have q':oc=p.2:=Option.some.inj e
   exact d w' (by rw [← q'];exact hocd)
theorem a5g {M:Model} {A:Around} {E:Value→Shared→Prop} {i:Nat} {x:Str} {v:V} {u:Value} {Q:Unit→Shared→Prop} (I:Inv X pins σ H s) (hN:X.N.Nodup) (hi:X.N[i]? = some x) (hx:Loc X.env.scope x) (r:RelV v u)
  (h:∀ s',Inv X pins (σ.set i (some v)) H s'→Q () s') (hf:X.fn x=true∨X.env.scope.names.lookup x=some .local:=by first | exact .inl rfl | exact .inr rfl | assumption):wpAny M A (storeName X.env x u) Q E s :=
 a6u I hN hi hx r (fun s' I' _=>h s' I') hf
theorem Inv.call' {s':Shared} {ch:List Addr} (I:Inv X pins σ H s) (ho:s'.os=s.os) (u:Un (frs X.stack) ch H H' s.heap s'.heap) (hok:HOk X.prog X.w H' s'.heap) (hg:AllBare s'.gens)
  (hch:∀ b∈ch,(b∈X.ex∨X.s₀.heap.objs.size≤b)∧b≠X.env.locals∧(∀ x c,X.env.cells.lookup x=some c→c≠b)∧∀ p∈X.pn++pins,p.1≠b):Inv X pins σ H' s':=by
 obtain ⟨h',g',d',t',o'⟩:=s'
 have e:o'=s.os:=ho
 subst e
 exact I.call (g':=g') (t':=t') (d':=d') u hok hg hch
end
abbrev XK:=Value→Option Addr→Hp→Prop
abbrev St:=List (Option V)
abbrev VK:=V→Hp→Prop
abbrev TE:=St→Hp→VK→Prop
abbrev TT:=St→Hp→(Bool→Hp→Prop)→Prop
abbrev TA:=St→Hp→(List V→Hp→Prop)→Prop
structure Ends where
 nx:St→Hp→Prop
 rt:VK
 bk:St→Hp→Prop:=fun _ _=>False
 ct:St→Hp→Prop:=fun _ _=>False
abbrev TS:=Ends→St→Hp→Prop
def EP (X:Cx) (pins:List (Addr × Obj)) (σ:St) (Q:VK) (u:Value) (s':Shared):Prop:=∃ v H',Inv X pins σ H' s'∧RelV v u∧Q v H'
def TP (X:Cx) (pins:List (Addr × Obj)) (σ:St) (Q:Bool→Hp→Prop) (b:Bool) (s':Shared):Prop:=∃ H',Inv X pins σ H' s'∧Q b H'
def AP (X:Cx) (pins:List (Addr × Obj)) (σ:St) (Q:List V→Hp→Prop) (us:List Value) (s':Shared):Prop:=∃ vs H',Inv X pins σ H' s'∧Vals vs us∧Q vs H'
def SP (X:Cx) (pins:List (Addr × Obj)) (D:Ends) (f:Flow) (s':Shared):Prop :=
 match f with
 | .next=>∃ σ' H',Inv X pins σ' H' s'∧D.nx σ' H'
 | .brk=>∃ σ' H',Inv X pins σ' H' s'∧D.bk σ' H'
 | .cont=>∃ σ' H',Inv X pins σ' H' s'∧D.ct σ' H'
 | .ret u=>∃ v σ' H',Inv X pins σ' H' s'∧RelV v u∧D.rt v H'
def PE (X:Cx) (e:Expr) (t:TE):Prop :=
 ∀ (pins:List (Addr × Obj)) (s:Shared) (σ:St) (H:Hp) (Q:VK),Inv X pins σ H s→t σ H Q→wpAny (model X.prog X.w) X.A (eval e X.env) (EP X pins σ Q) X.xe s
def PT (X:Cx) (e:Expr) (t:TT):Prop :=
 ∀ (pins:List (Addr × Obj)) (s:Shared) (σ:St) (H:Hp) (Q:Bool→Hp→Prop),Inv X pins σ H s→t σ H Q→wpAny (model X.prog X.w) X.A (isTrue e X.env (eval e X.env)) (TP X pins σ Q) X.xe s
def PW (X:Cx) (e:Expr) (t:TT):Prop :=
 ∀ (whole:Sem Value) (pins:List (Addr × Obj)) (s:Shared) (σ:St) (H:Hp) (Q:Bool→Hp→Prop),Inv X pins σ H s→t σ H Q→wpAny (model X.prog X.w) X.A (isTrue e X.env whole) (TP X pins σ Q) X.xe s
theorem PW.pt {X:Cx} {e:Expr} {t:TT} (h:PW X e t):PT X e t:=h _
def PA (X:Cx) (es:List Expr) (t:TA):Prop :=
 ∀ (pos:Pos) (pins:List (Addr × Obj)) (s:Shared) (σ:St) (H:Hp) (Q:List V→Hp→Prop),Inv X pins σ H s→t σ H Q→wpAny (model X.prog X.w) X.A (spliced (backTo pos (starEach es X.env))) (AP X pins σ Q) X.xe s
def PS (X:Cx) (st:Stmt) (t:TS):Prop :=
 ∀ (pins:List (Addr × Obj)) (s:Shared) (σ:St) (H:Hp) (D:Ends),Inv X pins σ H s→t D σ H→wpAny (model X.prog X.w) X.A (exec st X.env) (SP X pins D) X.xe s
def PSs (X:Cx) (st:List Stmt) (t:TS):Prop :=
 ∀ (pins:List (Addr × Obj)) (s:Shared) (σ:St) (H:Hp) (D:Ends),Inv X pins σ H s→t D σ H→wpAny (model X.prog X.w) X.A (execs st X.env) (SP X pins D) X.xe s
theorem thn {α:Type} {t:Sem α} {Q Q':α→Shared→Prop} {M:Model} {A:Around} {E:Value→Shared→Prop} {s:Shared} (h:wpAny M A t Q E s) (hQ:∀ a s,Q a s→Q' a s):wpAny M A t Q' E s:=wpAny_mono h hQ fun _ _ x=>x
end L2
namespace L2
open PySem PySem.Spec PyProof.Rows
section
variable {X:Cx}
theorem bin {a b:Expr} {ta tb:TE} (ha:PE X a ta) (hb:PE X b tb) {pins:List (Addr × Obj)} {s:Shared} {σ:St} {H:Hp} {R:V→V→Hp→Prop} (I:Inv X pins σ H s) (h:ta σ H fun x H1=>tb σ H1 fun y H2=>R x y H2)
  {α:Type} {Q:α→Shared→Prop} {f:Value→Value→Sem α}
  (hf:∀ v u s2 x y H2,Inv X pins σ H2 s2→RelV x v→RelV y u→R x y H2→wpAny (model X.prog X.w) X.A (f v u) Q X.xe s2) :
  wpAny (model X.prog X.w) X.A (eval a X.env) (fun v s₁=>wpAny (model X.prog X.w) X.A (eval b X.env) (fun u s₂=>wpAny (model X.prog X.w) X.A (f v u) Q X.xe s₂) X.xe s₁) X.xe s:=by
 refine thn (ha pins s σ H _ I h) fun v s1 ⟨x,H1,I1,r1,q1⟩=>?_
 refine thn (hb pins s1 σ H1 _ I1 q1) fun u s2 ⟨y,H2,I2,r2,q2⟩=>?_
 exact hf v u s2 x y H2 I2 r1 r2 q2
def at9 (i:Nat):TE:=fun σ H Q=>∃ v,σ[i]? = some (some v)∧Q v H
def tC (v:V):TE:=fun _ H Q=>Q v H
theorem ab8 {i:Nat} {x:Str} {pos:Pos} (hN:X.N[i]? = some x) (hv:Vis X.env.scope x) (hd:(x == ("__debug__" : Str))=false:=by decide) (hcd:(x == ("__classdict__" : Str))=false:=by decide):PE X (.Name x pos) (at9 i):=by
 intro pins s σ H Q I h
 obtain ⟨v,e,h⟩:=h
 obtain ⟨m,hn,hl⟩:=I.loc
 obtain ⟨u,r,l⟩:=hl i x v hN e hv
 have fin:EP X pins σ Q u s:=⟨v,H,I,r,h⟩
 rcases l with ⟨hk,hm⟩ | ⟨hk,c,hc,hcell⟩
 ·exact wpAny_Name (wpAny_loadName_local I.ok.kind hk hn hm fin) hd
 ·rcases hk with hk | hk
  ·exact wpAny_Name (wpAny_loadName_cell I.ok.kind hk hc hcell fin) hd
  ·exact wpAny_Name (wpAny_loadName_free I.ok.kind hk hc hcell fin hcd) hd
theorem alw {i j pos}:PE X (.Constant (.int i) j pos) (tC (.int i)):=fun _ _ _ H _ I h=>wpAny_Constant_int ⟨.int i,H,I.tok _,⟨_,rfl⟩,h⟩
theorem aq3 {b j pos}:PE X (.Constant (.bool b) j pos) (tC (.bl b)):=fun _ _ _ H _ I h=>Constant_bool ⟨.bl b,H,I,rfl,h⟩
theorem alx {j pos}:PE X (.Constant .none j pos) (tC .non):=fun _ _ _ H _ I h=>Constant_none ⟨.non,H,I,rfl,h⟩
theorem aly {x j pos}:PE X (.Constant (.str x) j pos) (tC (.str x)):=fun _ _ _ H _ I h=>Calls.Constant_str ⟨.str x,H,I.tok _,⟨_,rfl⟩,h⟩
def Gl (X:Cx) (x:Str):Prop:=X.env.kindOf x=some .globalImplicit
theorem a1h {E:Value→Shared→Prop} {pins:List (Addr × Obj)} {s:Shared} {σ:St} {H:Hp} {x:Str} {u:Value} {pos:Pos} {Q:Value→Shared→Prop} (I:Inv X pins σ H s) (hg:Gl X x) (hm:X.mg x=some u) (h:Q u s)
  (hd:(x == ("__debug__" : Str))=false:=by decide):wpAny (model X.prog X.w) X.A (eval (.Name x pos) X.env) Q E s :=
 Calls.Name_function_global I.ok.kind hg (Calls.loadGlobal_global (by rw [I.ok.glob];exact I.mod.glob.keeps I.bk) hm h) hd
theorem a3f {E:Value→Shared→Prop} {pins:List (Addr × Obj)} {s:Shared} {σ:St} {H:Hp} {x:Str} {u:Value} {pos:Pos} {Q:Value→Shared→Prop} (I:Inv X pins σ H s) (hg:Gl X x) (hm:X.mg x=none) (hv:bootBuiltins x=some u) (h:Q u s)
  (hn:x ≠ "__name__":=by decide) (hd:(x == ("__debug__" : Str))=false:=by decide):wpAny (model X.prog X.w) X.A (eval (.Name x pos) X.env) Q E s:=by
 obtain ⟨mb,h1,h2⟩:=I.mod.blt
 exact Calls.Name_function_global I.ok.kind hg (Calls.loadGlobal_builtin (by rw [I.ok.glob];exact I.mod.glob.keeps I.bk) hm (by rw [I.ok.blt];exact h1.keeps I.bk) ((h2 x hn).trans hv) h) hd
theorem ym {x:Str} {v:V} {u:Value} {pos:Pos} (hg:Gl X x) (hm:X.mg x=some u) (r:RelV v u) (hd:(x == ("__debug__" : Str))=false:=by decide):PE X (.Name x pos) (tC v) :=
 fun _ _ _ H _ I h=>a1h I hg hm ⟨v,H,I,r,h⟩ hd
theorem ab9 {x:Str} {v:V} {u:Value} {pos:Pos} (hg:Gl X x) (hm:X.mg x=none) (hv:bootBuiltins x=some u) (r:RelV v u) (hn:x ≠ "__name__":=by decide) (hd:(x == ("__debug__" : Str))=false:=by decide):PE X (.Name x pos) (tC v) :=
 fun _ _ _ H _ I h=>a3f I hg hm hv ⟨v,H,I,r,h⟩ hn hd
variable {a b:Expr} {ta tb:TE} {pos:Pos}
variable {tA tB':TT} {rest:List Expr}
def ata (t u:TT):TT:=fun σ H Q=>t σ H fun c H1=>if c=true then u σ H1 Q else Q false H1
def tOr (t u:TT):TT:=fun σ H Q=>t σ H fun c H1=>if c=true then Q true H1 else u σ H1 Q
def atb (t:TT):TT:=fun σ H Q=>t σ H fun c H1=>Q (!c) H1
theorem aim (ha:PT X a tA):PW X (.BoolOp .And [a] pos) tA:=by
 intro wh pins s σ H Q I h
 refine isTrue_and (thn (ha pins s σ H Q I h) fun c s1 e=>?_)
 cases c with
 | true=>exact isTrue_and_nil e
 | false=>exact e
theorem alz (ha:PT X a tA):PW X (.BoolOp .Or [a] pos) tA:=by
 intro wh pins s σ H Q I h
 refine isTrue_or (thn (ha pins s σ H Q I h) fun c s1 e=>?_)
 cases c with
 | false=>exact isTrue_or_nil e
 | true=>exact e
theorem am0 (ha:PT X a tA) (hb:PW X (.BoolOp .And (b::rest) pos) tB'):PW X (.BoolOp .And (a::b::rest) pos) (ata tA tB'):=by
 intro wh pins s σ H Q I h
 refine isTrue_and (thn (ha pins s σ H _ I h) fun c s1 ⟨H1,I1,q1⟩=>?_)
 cases c with
 | true=>exact hb wh pins s1 σ H1 Q I1 q1
 | false=>exact ⟨H1,I1,q1⟩
theorem aq4 (ha:PT X a tA) (hb:PW X (.BoolOp .Or (b::rest) pos) tB'):PW X (.BoolOp .Or (a::b::rest) pos) (tOr tA tB'):=by
 intro wh pins s σ H Q I h
 refine isTrue_or (thn (ha pins s σ H _ I h) fun c s1 ⟨H1,I1,q1⟩=>?_)
 cases c with
 | true=>exact ⟨H1,I1,q1⟩
 | false=>exact hb wh pins s1 σ H1 Q I1 q1
theorem am1 (ha:PT X a tA):PT X (.UnaryOp .Not a pos) (atb tA):=by
 intro pins s σ H Q I h
 exact isTrue_not (ha pins s σ H (fun c H1=>Q (!c) H1) I h)
def aq5 (ta tb:TE):TE:=fun σ H Q=>ta σ H fun x H1=>∃ c,x = .bl c∧if c=true then tb σ H1 Q else Q (.bl false) H1
def aq6 (ta:TE):TE:=fun σ H Q=>ta σ H fun x H1=>∃ c,x = .bl c∧Q (.bl (!c)) H1
theorem am2 {op} {t:TE} (h:PE X a t):PE X (.BoolOp op [a] pos) t:=fun pins s σ H Q I hw=>BoolOp_one (h pins s σ H Q I hw)
theorem am3 (ha:PE X a ta) (hb:PE X (.BoolOp .And (b::rest) pos) tb):PE X (.BoolOp .And (a::b::rest) pos) (aq5 ta tb):=by
 intro pins s σ H Q I h
 refine BoolOp_and (thn (ha pins s σ H _ I h) fun v s1 ⟨x,H1,I1,r1,q1⟩=>?_)
 obtain ⟨c,rfl,q1⟩:=q1
 cases r1
 refine wpAny_truthy_bool ?_
 cases c with
 | true=>exact hb pins s1 σ H1 Q I1 q1
 | false=>exact ⟨.bl false,H1,I1,rfl,q1⟩
theorem am4 (ha:PE X a ta):PE X (.UnaryOp .Not a pos) (aq6 ta):=by
 intro pins s σ H Q I h
 refine UnaryOp_ (thn (ha pins s σ H _ I h) fun v s1 ⟨x,H1,I1,r1,q1⟩=>?_)
 obtain ⟨c,rfl,q1⟩:=q1
 cases r1
 exact not_of (wpAny_truthy_bool ⟨.bl (!c),H1,I1,rfl,q1⟩)
def tIf (t:TT) (ta tb:TE):TE:=fun σ H Q=>t σ H fun c H1=>if c=true then ta σ H1 Q else tb σ H1 Q
theorem aer {c:Expr} (hc:PT X c tA) (ha:PE X a ta) (hb:PE X b tb):PE X (.IfExp c a b pos) (tIf tA ta tb):=by
 intro pins s σ H Q I h
 refine wpAny_IfExp (thn (hc pins s σ H _ I h) fun d s1 ⟨H1,I1,q1⟩=>?_)
 cases d with
 | true=>exact ha pins s1 σ H1 Q I1 q1
 | false=>exact hb pins s1 σ H1 Q I1 q1
end
end L2
namespace L2
open PySem PySem.Spec PyProof.Rows
def SqL (K:PySem.W.Frag) (H:Hp) (a:Addr) (xs:List V):Prop :=
 Rd H a (.lst xs) ∨
  ∃ (o:Obj) (its:Array Value) (n:Nat),K.lookup a=some o∧o.cls = .type "list"∧o.dict=none∧o.data = .seq its n∧its.size≤sizeLine∧Vals xs its.toList
def SqT (K:PySem.W.Frag) (H:Hp) (a:Addr) (xs:List V):Prop :=
 Rd H a (.tup xs) ∨
  ∃ (o:Obj) (its:Array Value) (n:Nat),K.lookup a=some o∧o.cls = .type "tuple"∧o.data = .seq its n∧its.size≤sizeLine∧Vals xs its.toList
def atc:Value→Option V
 | .none=>some .non
 | .bool b=>some (.bl b)
 | .int i _=>some (.int i)
 | .str x _=>some (.str x)
 | .bytes b _=>some (.byt b)
 | .float b _=>some (.flt b)
 | .ref a=>some (.ref a)
 | .type n=>some (.ty n)
 | _=>none
theorem RelV.abs {x:V} {u:Value} (r:RelV x u):atc u=some x:=by
 cases x with
 | non=>cases r;rfl
 | bl _=>cases r;rfl
 | int _=>obtain ⟨t,rfl⟩:=r;rfl
 | str _=>obtain ⟨t,rfl⟩:=r;rfl
 | byt _=>obtain ⟨t,rfl⟩:=r;rfl
 | flt _=>obtain ⟨t,rfl⟩:=r;rfl
 | ref _=>cases r;rfl
 | ty _=>cases r;rfl
theorem RelV.inj {x y:V} {u:Value} (r:RelV x u) (q:RelV y u):x=y:=Option.some.inj (r.abs.symm.trans q.abs)
theorem Vals.inj:∀ {xs ys:List V} {us:List Value},Vals xs us→Vals ys us→xs=ys
 | _,_,_, .nil, .nil=>rfl
 | _,_,_, .cons r t, .cons r' t'=>by rw [r.inj r',Vals.inj t t']
section
variable {X:Cx} {pins:List (Addr × Obj)} {σ:St} {H:Hp} {s:Shared} {a:Addr} {xs ys:List V}
theorem SqL.of {K:PySem.W.Frag} (h:H a=some (.lst xs)):SqL K H a xs:=.inl (.inl h)
theorem SqT.of {K:PySem.W.Frag} (h:H a=some (.tup xs)):SqT K H a xs:=.inl (.inl h)
theorem Inv.list (I:Inv X pins σ H s) (h:SqL X.K H a xs):∃ its:List Value,Vals xs its∧PlainL s.heap a its.toArray∧xs.length≤sizeLine:=by
 rcases h with h | ⟨o,its,n,hk,hc,hd,hs,hz,r⟩
 ·obtain ⟨z,its,n,r,e⟩:=h.ok I.hok
  exact ⟨its,r,⟨_,n,e,rfl,rfl,rfl⟩,z⟩
 ·refine ⟨its.toList,r,⟨o,n,I.kIn a o hk,hc,hd,by simpa using hs⟩,?_⟩
  have e:=r.length
  simp only [Array.length_toList] at e
  omega
theorem Inv.tuple (I:Inv X pins σ H s) (h:SqT X.K H a xs):∃ its:List Value,Vals xs its∧IsTup s.heap a its.toArray∧xs.length≤sizeLine:=by
 rcases h with h | ⟨o,its,n,hk,hc,hs,hz,r⟩
 ·obtain ⟨z,its,r,p⟩:=h.ok I.hok
  exact ⟨its,r,p,z⟩
 ·refine ⟨its.toList,r,⟨o,I.kIn a o hk,hc,n,by simpa using hs⟩,?_⟩
  have e:=r.length
  simp only [Array.length_toList] at e
  omega
theorem Inv.list_inj (I:Inv X pins σ H s) (h:SqL X.K H a xs) (h':SqL X.K H a ys):xs=ys:=by
 obtain ⟨its,r,⟨o,n,e,_,_,d⟩,_⟩:=I.list h
 obtain ⟨its',r',⟨o',n',e',_,_,d'⟩,_⟩:=I.list h'
 rw [e] at e';cases e'
 rw [d] at d'
 injection d' with d1 _
 have:its=its':=by simpa using congrArg Array.toList d1
 subst this
 exact r.inj r'
theorem Inv.tuple_inj (I:Inv X pins σ H s) (h:SqT X.K H a xs) (h':SqT X.K H a ys):xs=ys:=by
 obtain ⟨its,r,⟨o,e,_,n,d⟩,_⟩:=I.tuple h
 obtain ⟨its',r',⟨o',e',_,n',d'⟩,_⟩:=I.tuple h'
 rw [e] at e';cases e'
 rw [d] at d'
 injection d' with d1 _
 have:its=its':=by simpa using congrArg Array.toList d1
 subst this
 exact r.inj r'
end
abbrev Cx.wish (X:Cx) (E:Value→Shared→Prop):Cx:={ X with xe:=E }
abbrev Cx.nox (X:Cx):Cx:=X.wish fun _ _=>False
theorem Cx.Ok.wish {X:Cx} (ok:X.Ok) (E:Value→Shared→Prop):(X.wish E).Ok :=
 ⟨ok.mod,ok.kind,ok.glob,ok.blt,ok.above,ok.inj,ok.has,ok.cab,ok.hd,ok.frames,ok.stk,ok.exf,ok.bs,ok.bsz,ok.noex,ok.exfs,ok.funs,ok.frf⟩
theorem Cx.Ok.unwish {X:Cx} {E:Value→Shared→Prop} (ok:(X.wish E).Ok):X.Ok :=
 ⟨ok.mod,ok.kind,ok.glob,ok.blt,ok.above,ok.inj,ok.has,ok.cab,ok.hd,ok.frames,ok.stk,ok.exf,ok.bs,ok.bsz,ok.noex,ok.exfs,ok.funs,ok.frf⟩
section
variable {X:Cx} {pins:List (Addr × Obj)} {σ:St} {H:Hp} {s:Shared} {E:Value→Shared→Prop}
theorem Inv.wish (I:Inv X pins σ H s) (E:Value→Shared→Prop):Inv (X.wish E) pins σ H s:=⟨I.ok.wish E,I.os,I.bare,I.base,I.loc,I.cell,I.free,I.freeC,I.pin,I.hok,I.len⟩
theorem Inv.unwish (I:Inv (X.wish E) pins σ H s):Inv X pins σ H s:=⟨I.ok.unwish,I.os,I.bare,I.base,I.loc,I.cell,I.free,I.freeC,I.pin,I.hok,I.len⟩
theorem SP.unwish {D:Ends} {f:Flow} {s':Shared} (h:SP (X.wish E) pins D f s'):SP X pins D f s':=by
 cases f with
 | next=>obtain ⟨σ',H',I,q⟩:=h;exact ⟨σ',H',I.unwish,q⟩
 | brk=>obtain ⟨σ',H',I,q⟩:=h;exact ⟨σ',H',I.unwish,q⟩
 | cont=>obtain ⟨σ',H',I,q⟩:=h;exact ⟨σ',H',I.unwish,q⟩
 | ret u=>obtain ⟨v,σ',H',I,r,q⟩:=h;exact ⟨v,σ',H',I.unwish,r,q⟩
theorem PSs.nox {st:List Stmt} {t:TS} (h:PSs X.nox st t):PSs X st t:=fun pins s σ H D I hw =>
 wpAny_mono (h pins s σ H D (I.wish _) hw) (fun _ _ q=>q.unwish) fun _ _ z=>False.elim z
end
section
variable {X:Cx} {st:Stmt} {rest:List Stmt} {t u:TS} {e:Expr} {te:TE} {pos:Pos}
def aq7:TS:=fun D σ H=>D.nx σ H
def atd (t u:TS):TS:=fun D σ H=>t { D with nx:=u D } σ H
theorem ain:PSs X [] aq7:=fun _ _ σ H _ I h=>wpAny_execs_nil ⟨σ,H,I,h⟩
theorem aes (h1:PS X st t) (h2:PSs X rest u):PSs X (st::rest) (atd t u):=by
 intro pins s σ H D I h
 refine wpAny_execs_cons (thn (h1 pins s σ H { D with nx:=u D } I h) fun f s1 q=>?_)
 cases f with
 | next =>
  obtain ⟨σ',H',I',q⟩:=q
  exact h2 pins s1 σ' H' D I' q
 | ret v=>exact q
 | brk=>exact q
 | cont=>exact q
theorem aio (h1:PS X st t):PSs X [st] t:=by
 intro pins s σ H D I h
 refine wpAny_execs_cons (thn (h1 pins s σ H D I h) fun f s1 q=>?_)
 cases f with
 | next=>exact wpAny_execs_nil q
 | ret v=>exact q
 | brk=>exact q
 | cont=>exact q
theorem Inv.quiet {pins:List (Addr × Obj)} {σ:St} {H:Hp} {s:Shared} (I:Inv X pins σ H s):interactive X.env=false:=by simp [interactive,I.ok.kind]
def aq8 (te:TE):TS:=fun D σ H=>te σ H fun _ H1=>D.nx σ H1
theorem aip (he:PE X e te) (hs:swapsWith e none pos.line X.env=pure false:=by rfl):PS X (.Expr e pos) (aq8 te):=by
 intro pins s σ H D I h
 exact wpAny_Expr_any (thn (he pins s σ H _ I h) fun v s1 ⟨x,H1,I1,r1,q1⟩=>⟨σ,H1,I1,q1⟩) I.quiet hs
def ate (te:TE):TS:=fun D σ H=>te σ H D.rt
theorem am5 (he:PE X e te):PS X (.Return (some e) pos) (ate te):=by
 intro pins s σ H D I h
 exact wpAny_Return_some (thn (he pins s σ H _ I h) fun v s1 ⟨x,H1,I1,r1,q1⟩=>⟨x,σ,H1,I1,r1,q1⟩)
def atf (c:TT) (t u:TS):TS:=fun D σ H=>c σ H fun b H1=>if b=true then t D σ H1 else u D σ H1
theorem aq9 {c:Expr} {a b:List Stmt} {tc:TT} (hc:PT X c tc) (ha:PSs X a t) (hb:PSs X b u):PS X (.If c a b pos) (atf tc t u):=by
 intro pins s σ H D I h
 refine wpAny_If (thn (hc pins s σ H _ I h) fun d s1 ⟨H1,I1,q1⟩=>?_)
 cases d with
 | true=>exact ha pins s1 σ H1 D I1 q1
 | false=>exact hb pins s1 σ H1 D I1 q1
end
abbrev TG:=V→St→Hp→(St→Hp→Prop)→Prop
abbrev TGs:=List V→St→Hp→(St→Hp→Prop)→Prop
def PG (X:Cx) (target:Expr) (t:TG):Prop :=
 ∀ (pins:List (Addr × Obj)) (s:Shared) (σ:St) (H:Hp) (v:V) (u:Value) (Q:St→Hp→Prop),Inv X pins σ H s→RelV v u→t v σ H Q →
  wpAny (model X.prog X.w) X.A (assign target X.env u) (fun _ s'=>∃ σ' H',Inv X pins σ' H' s'∧Q σ' H') X.xe s
def PGs (X:Cx) (ts:List Expr) (t:TGs):Prop :=
 ∀ (pins:List (Addr × Obj)) (s:Shared) (σ:St) (H:Hp) (vs:List V) (us:List Value) (Q:St→Hp→Prop),Inv X pins σ H s→Vals vs us→t vs σ H Q →
  wpAny (model X.prog X.w) X.A (assignInOrder ((assignEach ts X.env).map (·.2)) us) (fun _ s'=>∃ σ' H',Inv X pins σ' H' s'∧Q σ' H') X.xe s
abbrev aqa:=V→V→V→Hp→(Hp→Prop)→Prop
def aru (X:Cx) (t:aqa):Prop :=
 ∀ (pins:List (Addr × Obj)) (s:Shared) (σ:St) (H:Hp) (o i v:V) (ov iv u:Value) (Q:Hp→Prop),Inv X pins σ H s→RelV o ov→RelV i iv→RelV v u→t o i v H Q →
  wpAny (model X.prog X.w) X.A (setItem ov iv u) (fun _ s'=>∃ H',Inv X pins σ H' s'∧Q H') X.xe s
section
variable {X:Cx} {pos:Pos}
def a5h (i:Nat):TG:=fun v σ H Q=>Q (σ.set i (some v)) H
theorem wg {i:Nat} {x:Str} (hN:X.N.Nodup) (hi:X.N[i]? = some x) (hx:Loc X.env.scope x) (hf:X.fn x=true∨X.env.scope.names.lookup x=some .local:=by first | exact .inl rfl | exact .inr rfl | assumption):PG X (.Name x pos) (a5h i):=by
 intro pins s σ H v u Q I r h
 exact wpAny_assign_Name (a5g I hN hi hx r (fun s' I'=>⟨_,H,I',h⟩) hf)
def arv:TGs:=fun vs σ H Q=>vs=[]∧Q σ H
def aba (t:TG) (u:TGs):TGs:=fun vs σ H Q=>∃ v r,vs=v::r∧t v σ H fun σ' H'=>u r σ' H' Q
theorem abb:PGs X [] arv:=by
 intro pins s σ H vs us Q I r h
 obtain ⟨e,h⟩:=h
 subst e
 cases r
 exact assignInOrder_nil ⟨σ,H,I,h⟩
theorem a2v {e:Expr} {es:List Expr} {t:TG} {u:TGs} (h1:PG X e t) (h2:PGs X es u)
  (hs:(assignEach (e::es) X.env).map (·.2)=assign e X.env::(assignEach es X.env).map (·.2):=by rfl):PGs X (e::es) (aba t u):=by
 intro pins s σ H vs us Q I r h
 obtain ⟨v,vr,e1,h⟩:=h
 subst e1
 cases r with
 | cons r rr =>
  rw [hs]
  refine assignInOrder_cons (thn (h1 pins s σ H _ _ _ I r h) fun _ s1 ⟨σ1,H1,I1,q1⟩=>?_)
  exact h2 pins s1 σ1 H1 _ _ Q I1 rr q1
def sr (K:PySem.W.Frag) (n:Nat) (t:TGs):TG:=fun v σ H Q=>∃ a xs,v = .ref a∧SqT K H a xs∧xs.length=n∧t xs σ H Q
theorem ahb {es:List Expr} {k:Nat} {t:TGs} {n:Nat} (hc:X.calm=true) (h:PGs X es t)
  (hn:(assignEach es X.env).length=n:=by rfl) (hst:(assignEach es X.env).findIdx? (·.1)=none:=by rfl):PG X (.Tuple es k pos) (sr X.K n t):=by
 intro pins s σ H v u Q I r hw
 obtain ⟨a,xs,e1,hq,hl,hw⟩:=hw
 subst e1
 cases r
 obtain ⟨its,rv,ht,hz⟩:=I.tuple hq
 refine assign_Tuple_tuple (I.ok.hd hc) ht (by simp [hn,← hl,rv.length]) hst fun h' hx=>?_
 have I1:Inv X pins σ H { s with heap:=h' }:=I.kept (t':=s.toks) fun b o e=>hx b o (Nat.ne_of_lt (Heap.lt_size e)) e
 exact h pins _ σ H xs _ Q I1 (by simpa using rv) hw
def a8t (to ti:TE) (t:aqa):TG:=fun v σ H Q=>to σ H fun o H1=>ti σ H1 fun i H2=>t o i v H2 fun H3=>Q σ H3
theorem am6 {o i:Expr} {to ti:TE} {t:aqa} (ho:PE X o to) (hi:PE X i ti) (hs:aru X t)
  (ha:∀ v,assign (.Subscript o i pos) X.env v=(do
   let ov ← holding [v] (eval o X.env)
   let iv ← holding [v,ov] (eval i X.env)
   standAt pos
   holding [v,ov,iv] (setItem ov iv v)
   release [v,ov,iv] []):=by intro _;rfl):PG X (.Subscript o i pos) (a8t to ti t):=by
 intro pins s σ H v u Q I r h
 rw [ha]
 refine wpAny_bind (wpAny_holding (thn (ho pins s σ H _ I h) fun ov s1 ⟨x,H1,I1,r1,q1⟩=>?_))
 refine wpAny_bind (wpAny_holding (thn (hi pins s1 σ H1 _ I1 q1) fun iv s2 ⟨y,H2,I2,r2,q2⟩=>?_))
 refine wpAny_bind (wpAny_standAt (wpAny_bind (wpAny_holding (thn (hs pins s2 σ H2 x y v ov iv u _ I2 r1 r2 r q2) fun _ s3 ⟨H3,I3,q3⟩=>?_))))
 exact wpAny_release ⟨σ,H3,I3,q3⟩
def apx (te:TE) (g:TG):TS:=fun D σ H=>te σ H fun x H1=>g x σ H1 D.nx
theorem ahc {tg e:Expr} {te:TE} {g:TG} (he:PE X e te) (hg:PG X tg g) (hs:swapsWithSole [tg] e pos.line X.env=pure false:=by rfl) (hw:swappedStores [tg] e X.env=pure none:=by rfl)
  (h1:(assignEach [tg] X.env).map (·.2)=[assign tg X.env]:=by rfl):PS X (.Assign [tg] e pos) (apx te g):=by
 intro pins s σ H D I h
 refine wpAny_Assign_stores (thn (he pins s σ H _ I h) fun v s1 ⟨x,H1,I1,r1,q1⟩=>?_) hs hw
 rw [h1]
 exact thn (hg pins s1 σ H1 x v _ I1 r1 q1) fun _ s2 q=>q
theorem am7 {i:Nat} {x:Str} {e:Expr} {te:TE} {pos':Pos} (hN:X.N.Nodup) (hi:X.N[i]? = some x) (hx:Loc X.env.scope x) (he:PE X e te) (hs:swapsWith e (some (.Name x pos')) pos.line X.env=pure false:=by rfl) (hf:X.fn x=true∨X.env.scope.names.lookup x=some .local:=by first | exact .inl rfl | exact .inr rfl | assumption) :
  PS X (.Assign [.Name x pos'] e pos) (apx te (a5h i)):=by
 intro pins s σ H D I h
 refine wpAny_Assign_Name (thn (he pins s σ H _ I h) fun v s1 ⟨y,H1,I1,r1,q1⟩=>?_) hs
 exact a5g I1 hN hi hx r1 (fun s2 I2=>⟨_,H1,I2,q1⟩) hf
end
section
variable {X:Cx} {pos:Pos}
def am8 (c:TT) (tb:TS):TS:=fun D σ H=>∃ W:Nat→St→Hp→Prop,(∃ m,W m σ H)∧∀ m σ H,W m σ H →
 c σ H fun b H1=>if b=true then ∃ N:St→Hp→Prop,(∀ σ' H',N σ' H'→∃ m',m'<m∧W m' σ' H')∧tb { D with nx:=N,ct:=N,bk:=D.nx } σ H1 else D.nx σ H1
theorem aet {c:Expr} {body:List Stmt} {tc:TT} {tb:TS} (hp:PassesOwn (model X.prog X.w) X.A X.env X.xe) (hc:PT X c tc) (hb:PSs X body tb):PS X (.While c body [] pos) (am8 tc tb):=by
 intro pins s σ H D I h
 obtain ⟨W,⟨m0,w0⟩,turn⟩:=h
 refine wpAny_While (codeAny_whileLoop (fun n s'=>∃ σ' H',Inv X pins σ' H' s'∧W n σ' H') ?_ m0 ⟨σ,H,I,w0⟩)
 rintro n s1 ⟨σ1,H1,I1,w1⟩
 refine wpAny_passesOwn hp (thn (hc pins s1 σ1 H1 _ I1 (turn n σ1 H1 w1)) fun b s2 ⟨H2,I2,q2⟩=>?_)
 cases b with
 | true =>
  obtain ⟨N,hN,q2⟩:=q2
  rw [if_pos rfl]
  refine wpAny_passesOwn hp (thn (hb pins s2 σ1 H2 _ I2 q2) fun f s3 q3=>?_)
  cases f with
  | next =>
   obtain ⟨σ3,H3,I3,n3⟩:=q3
   obtain ⟨m',hm,w3⟩:=hN σ3 H3 n3
   exact ⟨m',hm,σ3,H3,I3,w3⟩
  | cont =>
   obtain ⟨σ3,H3,I3,n3⟩:=q3
   obtain ⟨m',hm,w3⟩:=hN σ3 H3 n3
   exact ⟨m',hm,σ3,H3,I3,w3⟩
  | brk=>exact q3
  | ret v=>exact q3
 | false =>
  rw [if_neg Bool.false_ne_true]
  exact wpAny_execs_nil ⟨σ1,H2,I2,q2⟩
end
structure It where
 go:Nat→Hp→Prop
 yld:Nat→Hp→V→Hp→Prop
 stop:Nat→Hp→Prop
def a80 (X:Cx) (pins:List (Addr × Obj)) (H:Hp) (b:Addr):Prop :=
 H b=none∧b≠X.env.locals∧b ∉ X.fs∧(b∈X.ex∨X.s₀.heap.objs.size≤b)∧(∀ x c,X.env.cells.lookup x=some c→c≠b)∧∀ p∈X.pn++pins,p.1≠b
theorem Inv.fpOk {X:Cx} {pins:List (Addr × Obj)} {σ:St} {H H':Hp} {s:Shared} {b:Addr} (I:Inv X pins σ H s) (hb:s.heap.objs.size≤b) (hn:H' b=none):a80 X pins H' b:=by
 refine ⟨hn,Nat.ne_of_gt (Nat.lt_of_lt_of_le I.lt hb),I.nofs hb, .inr (Nat.le_trans I.sz hb),fun x c e z=>?_,fun p hp z=>?_⟩
 ·obtain ⟨v,q⟩:=I.cell x c e
  exact absurd (Nat.lt_of_lt_of_le q.lt (by rw [z];exact hb)) (Nat.lt_irrefl _)
 ·exact absurd (Nat.lt_of_lt_of_le (Heap.lt_size (I.pin p hp).1) (by rw [z];exact hb)) (Nat.lt_irrefl _)
structure Turn (P:Program) (w:World) (K:PySem.W.Frag) (tg:Expr) (J:It) (fp:List Addr) (it:Addr) (tn:Nat→Heap→Prop):Prop where
 mem:it∈fp
 obj:∀ i h,tn i h→∀ b∈fp,∃ o,h.get? b=some o∧∀ v,o.data≠.cell v
 keep:∀ i h h',tn i h→(∀ b∈fp,∀ o,h.get? b=some o→h'.get? b=some o)→tn i h'
 item:∀ (X:Cx),X.prog=P→X.w=w→X.K=K→X.calm=true→∀ (i:Nat) (pins:List (Addr × Obj)) (s:Shared) (σ:St) (H:Hp) (E:Value→Shared→Prop),Inv X pins σ H s→(∀ b∈fp,a80 X pins H b)→tn i s.heap→J.go i H →
  wpAny (model P w) X.A (pyNext (.ref it)) (fun r s1=>∃ u,r=some u ∧
   wpAny (model P w) X.A (letOwnedTupleGo tg (.ref it) u) (fun _ s2=>∃ x H',Inv X pins σ H' s2∧RelV x u∧J.yld i H x H'∧tn (i+1) s2.heap∧∀ b∈fp,H' b=none) E s1) E s
 done:∀ (X:Cx),X.prog=P→X.w=w→X.K=K→X.calm=true→∀ (i:Nat) (pins:List (Addr × Obj)) (s:Shared) (σ:St) (H:Hp) (E:Value→Shared→Prop),Inv X pins σ H s→(∀ b∈fp,a80 X pins H b)→tn i s.heap→J.stop i H →
  wpAny (model P w) X.A (pyNext (.ref it)) (fun r s1=>r=none∧Inv X pins σ H s1) E s
 self:∀ (A:Around) (i:Nat) (s:Shared) (Q:Value→Shared→Prop) (E:Value→Shared→Prop),tn i s.heap→Q (.ref it) s→wpAny (model P w) A (pyIter (.ref it)) Q E s
abbrev TI:=St→Hp→(It→Hp→Prop)→Prop
def PIE (X:Cx) (pins:List (Addr × Obj)) (σ:St) (tg:Expr) (R:It→Hp→Prop) (itv:Value) (s2:Shared):Prop :=
 ∃ (it:Addr) (fp:List Addr) (tn:Nat→Heap→Prop) (J:It) (H':Hp),itv = .ref it∧Inv X pins σ H' s2∧Turn X.prog X.w X.K tg J fp it tn∧tn 0 s2.heap∧(∀ b∈fp,a80 X pins H' b)∧R J H'
def PI (X:Cx) (tg iter:Expr) (wi:TI):Prop :=
 ∀ (pins:List (Addr × Obj)) (s:Shared) (σ:St) (H:Hp) (R:It→Hp→Prop),Inv X pins σ H s→wi σ H R →
  wpAny (model X.prog X.w) X.A (eval iter X.env) (fun v s1=>wpAny (model X.prog X.w) X.A (pyIter v) (PIE X pins σ tg R) X.xe s1) X.xe s
theorem aeu {M:Model} {A:Around} {E:Value→Shared→Prop} {s:Shared} {tg:Expr} {it:Addr} {u:Value} {o:Obj} {n:String} {vs:Array Value} {Q:Unit→Shared→Prop} (ho:s.heap.get? it=some o) (hc:o.cls = .type n) (hd:o.data = .fields vs)
  (hn:["enumerate", "zip", "dict_itemiterator", "dict_reverseitemiterator", "odict_iterator", "itertools.zip_longest", "itertools.pairwise"].contains n=false) (hQ:Q () s):wpAny M A (letOwnedTupleGo tg (.ref it) u) Q E s:=by
 unfold letOwnedTupleGo
 cases tg<;>first
  | exact wpAny_pure hQ
  | (cases u<;>first
    | exact wpAny_pure hQ
    | (refine wpAny_bind (wpAny_load ho ?_)
       rw [hc,hd]
       show wpAny M A (if (["enumerate", "zip", "dict_itemiterator", "dict_reverseitemiterator", "odict_iterator", "itertools.zip_longest", "itertools.pairwise"].contains n && vs[0]? == some (rawInt _))=true then _ else _) Q E s
       rw [if_neg (by intro h;rw [hn,Bool.false_and] at h;cases h)]
       exact wpAny_pure hQ))
def Itl (K:PySem.W.Frag) (a:Addr):It :=
 ⟨fun i H=>∃ xs x,SqL K H a xs∧xs[i]? = some x,fun i H x H'=>H'=H∧∀ xs,SqL K H a xs→xs[i]? = some x,fun i H=>∃ xs,SqL K H a xs∧xs.length≤i⟩
def Itt (K:PySem.W.Frag) (a:Addr):It :=
 ⟨fun i H=>∃ xs x,SqT K H a xs∧xs[i]? = some x,fun i H x H'=>H'=H∧∀ xs,SqT K H a xs→xs[i]? = some x,fun i H=>∃ xs,SqT K H a xs∧xs.length≤i⟩
def Itr (lo:Int) (n:Nat):It:=⟨fun i _=>i<n,fun i H x H'=>H'=H∧x = .int (lo+i),fun i _=>n≤i⟩
theorem abd {P:Program} {w:World} {K:PySem.W.Frag} {tg:Expr} (a it:Addr):Turn P w K tg (Itl K a) [it] it (fun i h=>h.IsListIter it a i) where
 mem:=by simp
 obj:=fun i h st b hb=>by
  have e:b=it:=by simpa using hb
  subst e
  obtain ⟨o,e,c,d⟩:=st
  exact ⟨o,e,fun v z=>by rw [d] at z;cases z⟩
 keep:=fun i h h' st k=>st.at fun o e=>k it (by simp) o e
 item:=by
  intro X hP hw hK hc i pins s σ H E I hf st hg
  subst hP hw hK
  obtain ⟨xs,x,hq,hx⟩:=hg
  obtain ⟨its,rv,p,hz⟩:=I.list hq
  obtain ⟨u,hu,ru⟩:=rv.get hx
  obtain ⟨f0,f1,f2,f3,f4,f5⟩:=hf it (by simp)
  refine wpAny_pyNext_list_item st p.isList (x:=u) (by simpa using hu) fun h' st' sb=>?_
  have I1:Inv X pins σ H { s with heap:=h' }:=I.turned (t':=s.toks) (fun b o hb e=>(sb.2 b hb).trans e) f0 f1 f3 f4 f5
  obtain ⟨o,e,c,d⟩:=id st'
  exact ⟨u,rfl,aeu (s:={ s with heap:=h' }) e c d (by decide) ⟨x,H,I1,ru,⟨rfl,fun ys hy=>by rw [I.list_inj hy hq];exact hx⟩,st',fun b hb=>(hf b hb).1⟩⟩
 done:=by
  intro X hP hw hK hc i pins s σ H E I hf st hg
  subst hP hw hK
  obtain ⟨xs,hq,hx⟩:=hg
  obtain ⟨its,rv,p,hz⟩:=I.list hq
  obtain ⟨f0,f1,f2,f3,f4,f5⟩:=hf it (by simp)
  have hl:=rv.length
  exact wpAny_pyNext_list_end (I.ok.hd hc) st p.isList (by simp;omega) fun h' eb=>⟨rfl,I.turned (t':=s.toks) (fun b o hb e=>eb b o hb e) f0 f1 f3 f4 f5⟩
 self:=fun _ _ _ _ _ st h=>wpAny_pyIter_listiter st h
theorem a9y {P:Program} {w:World} {K:PySem.W.Frag} {tg:Expr} (a it:Addr):Turn P w K tg (Itt K a) [it] it (fun i h=>h.IsTupleIter it a i) where
 mem:=by simp
 obj:=fun i h st b hb=>by
  have e:b=it:=by simpa using hb
  subst e
  obtain ⟨o,e,c,d⟩:=st
  exact ⟨o,e,fun v z=>by rw [d] at z;cases z⟩
 keep:=fun i h h' st k=>st.at fun o e=>k it (by simp) o e
 item:=by
  intro X hP hw hK hc i pins s σ H E I hf st hg
  subst hP hw hK
  obtain ⟨xs,x,hq,hx⟩:=hg
  obtain ⟨its,rv,p,hz⟩:=I.tuple hq
  obtain ⟨u,hu,ru⟩:=rv.get hx
  obtain ⟨f0,f1,f2,f3,f4,f5⟩:=hf it (by simp)
  refine wpAny_pyNext_tuple_item st (show s.heap.IsTuple a its.toArray from p) (x:=u) (by simpa using hu) fun h' st' sb=>?_
  have I1:Inv X pins σ H { s with heap:=h' }:=I.turned (t':=s.toks) (fun b o hb e=>(sb.2 b hb).trans e) f0 f1 f3 f4 f5
  obtain ⟨o,e,c,d⟩:=id st'
  exact ⟨u,rfl,aeu (s:={ s with heap:=h' }) e c d (by decide) ⟨x,H,I1,ru,⟨rfl,fun ys hy=>by rw [I.tuple_inj hy hq];exact hx⟩,st',fun b hb=>(hf b hb).1⟩⟩
 done:=by
  intro X hP hw hK hc i pins s σ H E I hf st hg
  subst hP hw hK
  obtain ⟨xs,hq,hx⟩:=hg
  obtain ⟨its,rv,p,hz⟩:=I.tuple hq
  obtain ⟨f0,f1,f2,f3,f4,f5⟩:=hf it (by simp)
  have hl:=rv.length
  exact wpAny_pyNext_tuple_end (I.ok.hd hc) st (show s.heap.IsTuple a its.toArray from p) (by simp;omega) fun h' eb=>⟨rfl,I.turned (t':=s.toks) (fun b o hb e=>eb b o hb e) f0 f1 f3 f4 f5⟩
 self:=fun _ _ _ _ _ st h=>wpAny_pyIter_tupleiter st h
theorem a9z {P:Program} {w:World} {K:PySem.W.Frag} {tg:Expr} (it:Addr) (lo:Int) (n:Nat):Turn P w K tg (Itr lo n) [it] it (fun i h=>IsRangeIter h it (lo+(i:Nat)*1) ((n:Int) - (i:Nat)) 1) where
 mem:=by simp
 obj:=fun i h st b hb=>by
  have e:b=it:=by simpa using hb
  subst e
  exact ⟨_,st,fun v z=>by
   have z':Data.fields _=Data.cell v:=z
   cases z'⟩
 keep:=fun i h h' st k=>k it (by simp) _ st
 item:=by
  intro X hP hw hK hc i pins s σ H E I hf st hg
  subst hP hw hK
  obtain ⟨f0,f1,f2,f3,f4,f5⟩:=hf it (by simp)
  have W:=Walks.range (prog:=X.prog) (w:=X.w) (I.ok.hd hc) it lo 1 n
  refine W.item i s _ _ hg st fun v h' tk hv st' kk=>?_
  obtain ⟨t,rfl⟩:=hv
  have I1:Inv X pins σ H { s with heap:=h',toks:=tk }:=I.turned (fun b o hb e=>kk b o (by simpa using hb) e) f0 f1 f3 f4 f5
  refine ⟨_,rfl,aeu (s:={ s with heap:=h',toks:=tk }) (n := "range_iterator") st' rfl rfl (by decide) ⟨.int (lo+i),H,I1,⟨t,?_⟩,⟨rfl,rfl⟩,st',fun b hb=>(hf b hb).1⟩⟩
  rw [Int.mul_one]
 done:=by
  intro X hP hw hK hc i pins s σ H E I hf st hg
  subst hP hw hK
  obtain ⟨f0,f1,f2,f3,f4,f5⟩:=hf it (by simp)
  exact wpAny_pyNext_range_end (I.ok.hd hc) st (by have:n≤i:=hg;omega) fun h' eb=>⟨rfl,I.turned (t':=s.toks) (fun b o hb e=>eb b o hb e) f0 f1 f3 f4 f5⟩
 self:=fun _ _ _ _ _ st h=>wpAny_pyIter_rangeiter st h
end L2
namespace L2
open PySem PySem.Spec PyProof.Rows
section
variable {X:Cx} {tg:Expr}
def aqb (K:PySem.W.Frag) (tl:TE):TI:=fun σ H R=>tl σ H fun x H1=>∃ a,x = .ref a∧(∃ xs,SqL K H1 a xs)∧R (Itl K a) H1
def atg (K:PySem.W.Frag) (tl:TE):TI:=fun σ H R=>tl σ H fun x H1=>∃ a,x = .ref a∧(∃ xs,SqT K H1 a xs)∧R (Itt K a) H1
theorem abe {l:Expr} {tl:TE} (hl:PE X l tl):PI X tg l (aqb X.K tl):=by
 intro pins s σ H R I h
 refine thn (hl pins s σ H _ I h) fun v s1 ⟨x,H1,I1,r1,q1⟩=>?_
 obtain ⟨a,e,⟨xs,hq⟩,q⟩:=q1
 subst e
 cases r1
 obtain ⟨its,rv,p,hz⟩:=I1.list hq
 refine wpAny_pyIter_list p.isList ?_
 refine ⟨s1.heap.objs.size,[s1.heap.objs.size],_,_,H1,rfl,I1.kept (t':=s1.toks) fun b o e=>Heap.get?_push_of_some _ e,abd a _,⟨_,Heap.get?_push_size _ rfl,rfl,rfl⟩,fun b hb=>?_,q⟩
 have e:b=s1.heap.objs.size:=by simpa using hb
 subst e
 exact I1.fpOk (Nat.le_refl _) (I1.hok.fresh (Nat.le_refl _))
theorem am9 {l:Expr} {tl:TE} (hl:PE X l tl):PI X tg l (atg X.K tl):=by
 intro pins s σ H R I h
 refine thn (hl pins s σ H _ I h) fun v s1 ⟨x,H1,I1,r1,q1⟩=>?_
 obtain ⟨a,e,⟨xs,hq⟩,q⟩:=q1
 subst e
 cases r1
 obtain ⟨its,rv,p,hz⟩:=I1.tuple hq
 refine wpAny_pyIter_tuple (show s1.heap.IsTuple a its.toArray from p) ?_
 refine ⟨s1.heap.objs.size,[s1.heap.objs.size],_,_,H1,rfl,I1.kept (t':=s1.toks) fun b o e=>Heap.get?_push_of_some _ e,a9y a _,⟨_,Heap.get?_push_size _ rfl,rfl,rfl⟩,fun b hb=>?_,q⟩
 have e:b=s1.heap.objs.size:=by simpa using hb
 subst e
 exact I1.fpOk (Nat.le_refl _) (I1.hok.fresh (Nat.le_refl _))
theorem a8u {pins:List (Addr × Obj)} {σ:St} {H:Hp} {s:Shared} {R:It→Hp→Prop} {E:Value→Shared→Prop} {lo hi:Int} {t u v:Tok} {tk:Nat} (I:Inv X pins σ H s) (h1 : -(2 ^ 62)≤lo) (h2:lo<2 ^ 62) (h3 : -(2 ^ 62)≤hi) (h4:hi<2 ^ 62)
  (q:R (Itr lo (hi - lo).toNat) H):wpAny (model X.prog X.w) X.A (pyIter (.ref s.heap.objs.size)) (PIE X pins σ tg R) E { s with heap:=s.heap.push { cls:=.type "range",data:=.fields #[.int lo t, .int hi u, .int 1 v] },toks:=tk }:=by
 refine wpAny_pyIter_range (IsRange.new ..) (small_one h1 h2 h3 h4) ?_
 have I1:Inv X pins σ H { s with heap:=s.heap.push { cls:=.type "range",data:=.fields #[.int lo t, .int hi u, .int 1 v] },toks:=tk }:=I.kept fun b o e=>Heap.get?_push_of_some _ e
 refine ⟨(s.heap.push { cls:=.type "range",data:=.fields #[.int lo t, .int hi u, .int 1 v] }).objs.size,[(s.heap.push { cls:=.type "range",data:=.fields #[.int lo t, .int hi u, .int 1 v] }).objs.size],_,_,H,rfl,
  I1.kept (t':=tk) fun b o e=>Heap.get?_push_of_some _ e,a9z _ lo (hi - lo).toNat,?_,fun b hb=>?_,q⟩
 ·have e1:lo+((0:Nat):Int)*1=lo:=by simp
  have e2:(((hi - lo).toNat:Nat):Int) - ((0:Nat):Int)=Builtin.Range.rangeSize lo hi 1:=by rw [rangeSize_one];split<;>omega
  show IsRangeIter _ _ (lo+((0:Nat):Int)*1) ((((hi - lo).toNat:Nat):Int) - ((0:Nat):Int)) 1
  rw [e1,e2]
  exact Heap.get?_push_size _ rfl
 ·have e:b=(s.heap.push { cls:=.type "range",data:=.fields #[.int lo t, .int hi u, .int 1 v] }).objs.size:=by simpa using hb
  subst e
  exact I1.fpOk (Nat.le_refl _) (I1.hok.fresh (Nat.le_refl _))
def aqc (ta:TA):TI:=fun σ H R=>ta σ H fun vs H1=>∃ j:Int,vs=[.int j] ∧ -(2 ^ 62)≤j∧j<2 ^ 62∧R (Itr 0 j.toNat) H1
def aqd (ta:TA):TI:=fun σ H R=>ta σ H fun vs H1=>∃ i j:Int,vs=[.int i, .int j]∧(-(2 ^ 62)≤i∧i<2 ^ 62 ∧ -(2 ^ 62)≤j∧j<2 ^ 62)∧R (Itr i (j - i).toNat) H1
theorem abf {a:Expr} {ta:TA} {p pos:Pos} (hg:Gl X "range") (hm:X.mg "range" = none) (ha:PA X [a] ta) (hs:starEach [a] X.env=[(false,eval a X.env)]:=by rfl):PI X tg (.Call (.Name "range" p) [a] [] pos) (aqc ta):=by
 intro pins s σ H R I h
 refine Call_ (a3f I hg hm boot_range (PyProof.Rows.callWith_type1 (thn (ha pos pins s σ H _ I h) fun us s1 ⟨vs,H1,I1,r1,q1⟩=>?_) hs rfl))
 obtain ⟨j,e,q1,q2,q⟩:=q1
 subst e
 cases r1 with
 | cons r rr =>
  cases rr
  obtain ⟨t,rfl⟩:=r
  exact call_range_1 (a8u I1 (by omega) (by omega) q1 q2 (by simpa using q))
theorem abg {a b:Expr} {ta:TA} {p pos:Pos} (hg:Gl X "range") (hm:X.mg "range" = none) (ha:PA X [a,b] ta) (hs:starEach [a,b] X.env=[(false,eval a X.env),(false,eval b X.env)]:=by rfl) (hs2:starEach [b] X.env=[(false,eval b X.env)]:=by rfl) :
  PI X tg (.Call (.Name "range" p) [a,b] [] pos) (aqd ta):=by
 intro pins s σ H R I h
 refine Call_ (a3f I hg hm boot_range (PyProof.Rows.callWith_type1 (thn (ha pos pins s σ H _ I h) fun us s1 ⟨vs,H1,I1,r1,q1⟩=>?_) (by rw [hs,hs2]) (by rw [hs2];rfl)))
 obtain ⟨i,j,e,⟨q1,q2,q3,q4⟩,q⟩:=q1
 subst e
 cases r1 with
 | cons r rr =>
  cases rr with
  | cons r' rr =>
   cases rr
   obtain ⟨t,rfl⟩:=r
   obtain ⟨t',rfl⟩:=r'
   exact call_range_2 (a8u I1 q1 q2 q3 q4 q)
def ath (wi:TI) (g:TG) (tb:TS):TS:=fun D σ H=>wi σ H fun J H1=>∃ W:Nat→Nat→St→Hp→Prop,(∃ m,W 0 m σ H1)∧∀ i m σ H,W i m σ H →
 (J.stop i H∧D.nx σ H)∨(J.go i H∧∃ N:St→Hp→Prop,(∀ σ' H',N σ' H'→∃ m',m'<m∧W (i+1) m' σ' H')∧∀ x H',J.yld i H x H'→g x σ H' fun σ2 H2=>tb { D with nx:=N,ct:=N,bk:=D.nx } σ2 H2)
def a4n (fp:List Addr) (h:Heap):List (Addr × Obj):=fp.filterMap fun b=>(h.get? b).map fun o=>(b,o)
theorem qu {fp:List Addr} {h:Heap} {b:Addr} {o:Obj} (hb:b∈fp) (e:h.get? b=some o):(b,o)∈a4n fp h:=List.mem_filterMap.mpr ⟨b,hb,by rw [e];rfl⟩
theorem abh {fp:List Addr} {h:Heap} {p:Addr × Obj} (hp:p∈a4n fp h):p.1∈fp∧h.get? p.1=some p.2:=by
 obtain ⟨b,hb,e⟩:=List.mem_filterMap.mp hp
 cases q:h.get? b with
 | none=>rw [q] at e;cases e
 | some o =>
  rw [q] at e
  have e':(b,o)=p:=Option.some.inj e
  subst e'
  exact ⟨hb,q⟩
theorem Inv.pinned {pins:List (Addr × Obj)} {σ:St} {H:Hp} {s:Shared} {fp:List Addr} (I:Inv X pins σ H s) (hf:∀ b∈fp,a80 X pins H b) (ho:∀ b∈fp,∃ o,s.heap.get? b=some o∧∀ v,o.data≠.cell v):Inv X (pins++a4n fp s.heap) σ H s :=
 I.pins_of fun p hp=>(List.mem_append.mp hp).elim (fun z=>I.pin p (List.mem_append_right _ z)) fun z=>by
  obtain ⟨hb,e⟩:=abh z
  obtain ⟨f0,f1,f2,_⟩:=hf p.1 hb
  obtain ⟨o,e',d⟩:=ho p.1 hb
  rw [e] at e';cases e'
  exact ⟨e,f0,f1,f2,d⟩
theorem Inv.unpinned {pins pl:List (Addr × Obj)} {σ:St} {H:Hp} {s:Shared} (I:Inv X (pins++pl) σ H s):Inv X pins σ H s:=I.pins_of fun p hp=>I.pin p (List.mem_append_right _ (List.mem_append_left _ hp))
theorem ama {iter:Expr} {body:List Stmt} {wi:TI} {g:TG} {tb:TS} {pos:Pos} (hp:PassesOwn (model X.prog X.w) X.A X.env X.xe) (hc:X.calm=true) (hi:PI X tg iter wi) (hg:PG X tg g) (hb:PSs X body tb)
  (hs:∀ x,foldedSetIterable iter X.env x=pure x:=by intro _;rfl):PS X (.For tg iter body [] pos) (ath wi g tb):=by
 intro pins s σ H D I h
 refine wpAny_For (thn (hi pins s σ H _ I h) fun v s1 h1=>thn h1 fun itv s2 h2=>?_) hs
 obtain ⟨it,fp,tn,J,H2,e,I2,T,st2,f2,W,⟨m0,w0⟩,turn⟩:=h2
 subst e
 have stat:∀ {H':Hp},(∀ b∈fp,H' b=none)→∀ b∈fp,a80 X pins H' b:=fun hn b hb=>⟨hn b hb,(f2 b hb).2⟩
 refine codeAny_forLoop_any (fun n s'=>∃ i σ' H',Inv X pins σ' H' s'∧tn i s'.heap∧(∀ b∈fp,H' b=none)∧W i n σ' H') ?_ m0 ⟨0,σ,H2,I2,st2,fun b hb=>(f2 b hb).1,w0⟩
 rintro n s3 ⟨i,σ3,H3,I3,st3,fr3,w3⟩
 rcases turn i n σ3 H3 w3 with ⟨stop,qn⟩ | ⟨go,N,hN,step⟩
 ·refine wpAny_passesOwn hp (thn (T.done X rfl rfl rfl hc i pins s3 σ3 H3 X.xe I3 (stat fr3) st3 stop) fun r s4 ⟨hr,I4⟩=>?_)
  subst hr
  exact wpAny_execs_nil ⟨σ3,H3,I4,qn⟩
 ·refine wpAny_passesOwn hp (thn (T.item X rfl rfl rfl hc i pins s3 σ3 H3 X.xe I3 (stat fr3) st3 go) fun r s4 ⟨u,hr,h4⟩=>?_)
  subst hr
  refine wpAny_passesOwn hp (thn h4 fun _ s5 ⟨x,H5,I5,r5,y5,st5,fr5⟩=>?_)
  have I5':=I5.pinned (stat fr5) (T.obj _ _ st5)
  refine wpAny_passesOwn hp (thn (hg _ s5 σ3 H5 x u _ I5' r5 (step x H5 y5)) fun _ s6 ⟨σ6,H6,I6,q6⟩=>?_)
  refine wpAny_passesOwn hp (thn (hb _ s6 σ6 H6 _ I6 q6) fun f s7 q7=>?_)
  have again:∀ {σ7:St} {H7:Hp},Inv X (pins++a4n fp s5.heap) σ7 H7 s7→N σ7 H7→∃ m,m<n∧∃ i σ' H',Inv X pins σ' H' s7∧tn i s7.heap∧(∀ b∈fp,H' b=none)∧W i m σ' H':=fun {σ7 H7} I7 n7=>by
   obtain ⟨m',hm,w7⟩:=hN σ7 H7 n7
   refine ⟨m',hm,i+1,σ7,H7,I7.unpinned,T.keep _ _ _ st5 fun b hb o e=>(I7.pin (b,o) (List.mem_append_right _ (List.mem_append_right _ (qu hb e)))).1,fun b hb=>?_,w7⟩
   obtain ⟨o,e,d⟩:=T.obj _ _ st5 b hb
   exact (I7.pin (b,o) (List.mem_append_right _ (List.mem_append_right _ (qu hb e)))).2.1
  cases f with
  | next=>obtain ⟨σ7,H7,I7,n7⟩:=q7;exact again I7 n7
  | cont=>obtain ⟨σ7,H7,I7,n7⟩:=q7;exact again I7 n7
  | brk=>obtain ⟨σ7,H7,I7,q7⟩:=q7;exact ⟨σ7,H7,I7.unpinned,q7⟩
  | ret v=>obtain ⟨x7,σ7,H7,I7,r7,q7⟩:=q7;exact ⟨x7,σ7,H7,I7.unpinned,r7,q7⟩
end
end L2
namespace L2
open PySem PySem.Spec PyProof.Rows
abbrev R2:=V→V→Hp→VK→Prop
def OpR (X:Cx) (f:Value→Value→Sem Value) (r:R2):Prop :=
 ∀ (pins:List (Addr × Obj)) (s:Shared) (σ:St) (H:Hp) (x y:V) (v u:Value) (Q:VK),Inv X pins σ H s→RelV x v→RelV y u→r x y H Q →
  wpAny (model X.prog X.w) X.A (f v u) (EP X pins σ Q) X.xe s
def UnR (X:Cx) (f:Value→Sem Value) (r:V→Hp→VK→Prop):Prop :=
 ∀ (pins:List (Addr × Obj)) (s:Shared) (σ:St) (H:Hp) (x:V) (v:Value) (Q:VK),Inv X pins σ H s→RelV x v→r x H Q →
  wpAny (model X.prog X.w) X.A (f v) (EP X pins σ Q) X.xe s
def CallR (X:Cx) (f:Value) (r:List V→Hp→VK→Prop):Prop :=
 ∀ (pins:List (Addr × Obj)) (s:Shared) (σ:St) (H:Hp) (xs:List V) (us:List Value) (Q:VK),Inv X pins σ H s→Vals xs us→r xs H Q →
  wpAny (model X.prog X.w) X.A (call f us) (EP X pins σ Q) X.xe s
def ati (X:Cx) (r:V→Hp→(Bool→Hp→Prop)→Prop):Prop :=
 ∀ (pins:List (Addr × Obj)) (s:Shared) (σ:St) (H:Hp) (x:V) (v:Value) (Q:Bool→Hp→Prop),Inv X pins σ H s→RelV x v→r x H Q →
  wpAny (model X.prog X.w) X.A (truthy v) (TP X pins σ Q) X.xe s
def tOp (r:R2) (ta tb:TE):TE:=fun σ H Q=>ta σ H fun x H1=>tb σ H1 fun y H2=>r x y H2 Q
def tUn (r:V→Hp→VK→Prop) (ta:TE):TE:=fun σ H Q=>ta σ H fun x H1=>r x H1 Q
def rI (C:Int→Int→Prop) (g:Int→Int→V):R2:=fun x y H Q=>∃ i j,x = .int i∧y = .int j∧C i j∧Q (g i j) H
def rI0 (g:Int→Int→V):R2:=fun x y H Q=>∃ i j,x = .int i∧y = .int j∧Q (g i j) H
def rU (g:Int→V):V→Hp→VK→Prop:=fun x H Q=>∃ i,x = .int i∧Q (g i) H
section
variable {X:Cx} {a b c:Expr} {ta tb tc:TE} {pos:Pos}
theorem aqe (ha:PE X a ta) (hb:PE X b tb) {pins:List (Addr × Obj)} {s:Shared} {σ:St} {H:Hp} {R:V→V→Hp→Prop} (I:Inv X pins σ H s)
  (h:ta σ H fun x H1=>tb σ H1 fun y H2=>R x y H2) {Q:Value→Shared→Prop} {f:Value→Value→Sem Value}
  (hf:∀ v u s2 x y H2,Inv X pins σ H2 s2→RelV x v→RelV y u→R x y H2→wpAny (model X.prog X.w) X.A (f v u) Q X.xe s2) :
  wpAny (model X.prog X.w) X.A (eval a X.env) (fun v s₁=>wpAny (model X.prog X.w) X.A (eval b X.env) (fun u s₂=>wpAny (model X.prog X.w) X.A (f v u) Q X.xe s₂) X.xe s₁) X.xe s:=by
 refine thn (ha pins s σ H _ I h) fun v s1 ⟨x,H1,I1,r1,q1⟩=>?_
 refine thn (hb pins s1 σ H1 _ I1 q1) fun u s2 ⟨y,H2,I2,r2,q2⟩=>?_
 exact hf v u s2 x y H2 I2 r1 r2 q2
theorem aqf {op:Operator} {r:R2} (ho:OpR X (binaryOp op) r) (ha:PE X a ta) (hb:PE X b tb):PE X (.BinOp a op b pos) (tOp r ta tb):=by
 intro pins s σ H Q I h
 exact wpAny_BinOp (aqe ha hb I h fun v u s2 x y H2 I2 rx ry q=>ho pins s2 σ H2 x y v u Q I2 rx ry q)
theorem aqg {op:UnaryOp} {r:V→Hp→VK→Prop} (ho:UnR X (unaryOp op) r) (ha:PE X a ta):PE X (.UnaryOp op a pos) (tUn r ta):=by
 intro pins s σ H Q I h
 exact UnaryOp_ (thn (ha pins s σ H _ I h) fun v s1 ⟨x,H1,I1,r1,q1⟩=>ho pins s1 σ H1 x v Q I1 r1 q1)
theorem opI {f:Value→Value→Sem Value} {C:Int→Int→Prop} {g:Int→Int→Int}
  (rule:∀ (i j:Int) (t u:Tok) (s:Shared) (Q:Value→Shared→Prop) (E:Value→Shared→Prop),C i j→Q (.int (g i j) s.toks) { s with toks:=s.toks+1 }→wpAny (model X.prog X.w) X.A (f (.int i t) (.int j u)) Q E s) :
  OpR X f (rI C fun i j=>.int (g i j)):=by
 intro pins s σ H x y v u Q I rx ry h
 obtain ⟨i,j,rfl,rfl,hc,q⟩:=h
 obtain ⟨t,rfl⟩:=rx
 obtain ⟨t',rfl⟩:=ry
 exact rule i j t t' s _ _ hc ⟨.int (g i j),H,I.tok _,⟨_,rfl⟩,q⟩
theorem arw {f:Value→Value→Sem Value} {g:Int→Int→Int}
  (rule:∀ (i j:Int) (t u:Tok) (s:Shared) (Q:Value→Shared→Prop) (E:Value→Shared→Prop),Q (.int (g i j) s.toks) { s with toks:=s.toks+1 }→wpAny (model X.prog X.w) X.A (f (.int i t) (.int j u)) Q E s) :
  OpR X f (rI0 fun i j=>.int (g i j)):=by
 intro pins s σ H x y v u Q I rx ry h
 obtain ⟨i,j,rfl,rfl,q⟩:=h
 obtain ⟨t,rfl⟩:=rx
 obtain ⟨t',rfl⟩:=ry
 exact rule i j t t' s _ _ ⟨.int (g i j),H,I.tok _,⟨_,rfl⟩,q⟩
theorem aqh {f:Value→Value→Sem Value} {g:Int→Int→Bool}
  (rule:∀ (i j:Int) (t u:Tok) (s:Shared) (Q:Value→Shared→Prop) (E:Value→Shared→Prop),Q (.bool (g i j)) s→wpAny (model X.prog X.w) X.A (f (.int i t) (.int j u)) Q E s) :
  OpR X f (rI0 fun i j=>.bl (g i j)):=by
 intro pins s σ H x y v u Q I rx ry h
 obtain ⟨i,j,rfl,rfl,q⟩:=h
 obtain ⟨t,rfl⟩:=rx
 obtain ⟨t',rfl⟩:=ry
 exact rule i j t t' s _ _ ⟨.bl (g i j),H,I,rfl,q⟩
def arx (i j:Int):Prop:=0<j∧j<1073741824
def arz (i j:Int):Prop:=0≤j∧j≤1000000∧i.natAbs<2 ^ 64
def CMul (i j:Int):Prop:=(-(2 ^ 64)<i∧i<2 ^ 64)∨(-(2 ^ 64)<j∧j<2 ^ 64)
theorem CMul.ok {i j:Int} (h:CMul i j):IntMulOk i j:=by
 rcases h with ⟨h1,h2⟩ | ⟨h1,h2⟩
 ·exact .of_left (intBits_le_64 h1 h2)
 ·exact .of_right (intBits_le_64 h1 h2)
theorem amb:OpR X (binaryOp .Add) (rI0 fun i j=>.int (i+j)):=arw fun _ _ _ _ _ _ _ q=>add_int q
theorem amc:OpR X (binaryOp .Sub) (rI0 fun i j=>.int (i - j)):=arw fun _ _ _ _ _ _ _ q=>sub_int q
theorem amd:OpR X (binaryOp .Mult) (rI CMul fun i j=>.int (i*j)):=opI fun _ _ _ _ _ _ _ hc q=>mul_int q hc.ok
theorem aiq:OpR X (binaryOp .FloorDiv) (rI arx fun i j=>.int (i / j)):=opI fun i j _ _ _ _ _ hc q=>by
 have h1:(0:Int)<j:=hc.1
 have h2:j<1073741824:=hc.2
 exact floordiv_int (by omega) (by rw [Int.fdiv_eq_ediv_of_nonneg i (by omega)];exact q) (.inl (PyProof.noPylong_small (by omega)))
theorem ame:OpR X (binaryOp .Mod) (rI (fun _ j=>0<j) fun i j=>.int (i % j)):=opI fun i j _ _ _ _ _ hc q=>by
 have h1:(0:Int)<j:=hc
 exact mod_int' (by omega) (by rw [Int.fmod_eq_emod_of_nonneg i (by omega)];exact q)
theorem amf:OpR X (binaryOp .Pow) (rI arz fun i j=>.int (i ^ j.toNat)):=opI fun _ _ _ _ _ _ _ hc q=>pow_int_small hc.1 hc.2.1 hc.2.2 q
theorem unI {f:Value→Sem Value} {g:Int→Int}
  (rule:∀ (i:Int) (t:Tok) (s:Shared) (Q:Value→Shared→Prop) (E:Value→Shared→Prop),Q (.int (g i) s.toks) { s with toks:=s.toks+1 }→wpAny (model X.prog X.w) X.A (f (.int i t)) Q E s) :
  UnR X f (rU fun i=>.int (g i)):=by
 intro pins s σ H x v Q I rx h
 obtain ⟨i,rfl,q⟩:=h
 obtain ⟨t,rfl⟩:=rx
 exact rule i t s _ _ ⟨.int (g i),H,I.tok _,⟨_,rfl⟩,q⟩
theorem amg:UnR X (unaryOp .USub) (rU fun i=>.int (-i)):=unI fun _ _ _ _ _ q=>neg_int q
end
section
variable {X:Cx} {a b c:Expr} {ta tb tc:TE} {pos:Pos}
theorem a3g {pins:List (Addr × Obj)} {σ:St} {H:Hp} {s:Shared} {Q:VK} {k k':Bool} (I:Inv X pins σ H s) (q:Q (.bl k) H) (e:k=k'):EP X pins σ Q (.bool k') s:=by
 subst e
 exact ⟨.bl k,H,I,rfl,q⟩
theorem aev:OpR X (compareOp .Lt) (rI0 fun i j=>.bl (decide (i<j))):=aqh fun _ _ _ _ _ _ _ q=>lt_int q
theorem aew:OpR X (compareOp .Gt) (rI0 fun i j=>.bl (decide (j<i))):=aqh fun _ _ _ _ _ _ _ q=>gt_int q
theorem amh:OpR X (compareOp .GtE) (rI0 fun i j=>.bl (decide (j≤i))):=aqh fun _ _ _ _ _ _ _ q=>ge_int q
theorem a0r:OpR X (compareOp .Lt) (fun x y H Q=>∃ i j,x = .str i∧y = .str j∧Q (.bl (decide (i.cps.toList<j.cps.toList))) H):=by
 intro pins s σ H x y v u Q I rx ry h
 obtain ⟨i,j,rfl,rfl,q⟩:=h
 obtain ⟨t,rfl⟩:=rx
 obtain ⟨t',rfl⟩:=ry
 exact lt_str (a3g I q rfl)
theorem abi:OpR X (compareOp .In) (fun x y H Q=>∃ i j,x = .str i∧y = .str j∧Q (.bl (!(Builtin.Str.occurrences j i 0 j.length 1).isEmpty)) H):=by
 intro pins s σ H x y v u Q I rx ry h
 obtain ⟨i,j,rfl,rfl,q⟩:=h
 obtain ⟨t,rfl⟩:=rx
 obtain ⟨t',rfl⟩:=ry
 exact in_str (a3g I q rfl)
theorem abj:OpR X (compareOp .Is) (fun x y H Q=>y = .non∧Q (.bl (decide (x = .non))) H):=by
 intro pins s σ H x y v u Q I rx ry h
 obtain ⟨rfl,q⟩:=h
 cases ry
 refine is_none_gen (a3g I q ?_)
 cases x<;>first
  | (cases rx;rfl)
  | (obtain ⟨t,rfl⟩:=rx;rfl)
theorem ais:OpR X (compareOp .IsNot) (fun x y H Q=>y = .non∧Q (.bl (!decide (x = .non))) H):=by
 intro pins s σ H x y v u Q I rx ry h
 obtain ⟨rfl,q⟩:=h
 cases ry
 refine isnot_none_gen (a3g I q ?_)
 cases x<;>first
  | (cases rx;rfl)
  | (obtain ⟨t,rfl⟩:=rx;rfl)
theorem a6v:OpR X (compareOp .NotIn) (fun x y H Q=>∃ i j,x = .str i∧y = .str j∧Q (.bl (!(!(Builtin.Str.occurrences j i 0 j.length 1).isEmpty))) H):=by
 intro pins s σ H x y v u Q I rx ry h
 obtain ⟨i,j,rfl,rfl,q⟩:=h
 obtain ⟨t,rfl⟩:=rx
 obtain ⟨t',rfl⟩:=ry
 exact notIn_str (a3g I q rfl)
theorem OpR.or {f:Value→Value→Sem Value} {r r':R2} (h:OpR X f r) (h':OpR X f r'):OpR X f (fun x y H Q=>r x y H Q∨r' x y H Q):=by
 intro pins s σ H x y v u Q I rx ry q
 rcases q with q | q
 ·exact h pins s σ H x y v u Q I rx ry q
 ·exact h' pins s σ H x y v u Q I rx ry q
theorem kh (b:Expr) {op:CmpOp} (h:op≠.In:=by decide) (h2:op≠.NotIn:=by decide):behindInMarks op b=false:=by
 have e1:(op == CmpOp.In)=false:=by cases op<;>first | rfl | exact absurd rfl h
 have e2:(op == CmpOp.NotIn)=false:=by cases op<;>first | rfl | exact absurd rfl h2
 cases b<;>simp [behindInMarks,e1,e2]
theorem ait {op:CmpOp} {r:R2} (ho:OpR X (compareOp op) r) (ha:PE X a ta) (hb:PE X b tb) (hm:behindInMarks op b=false):PE X (.Compare a [op] [b] pos) (tOp r ta tb):=by
 intro pins s σ H Q I h
 exact wpAny_Compare1 (aqe ha hb I h fun v u s2 x y H2 I2 rx ry q=>ho pins s2 σ H2 x y v u Q I2 rx ry q) hm
def ami (t:TE):TT:=fun σ H Q=>t σ H fun x H'=>∃ k,x = .bl k∧Q k H'
theorem aiu {op:CmpOp} {r:R2} (ho:OpR X (compareOp op) r) (ha:PE X a ta) (hb:PE X b tb) (hm:behindInMarks op b=false):PT X (.Compare a [op] [b] pos) (ami (tOp r ta tb)):=by
 intro pins s σ H Q I h
 refine wpAny_isTrue_Compare1 (thn (ha pins s σ H _ I h) fun v s1 ⟨x,H1,I1,r1,q1⟩=>thn (hb pins s1 σ H1 _ I1 q1) fun u s2 ⟨y,H2,I2,r2,q2⟩ =>
  thn (ho pins s2 σ H2 x y v u _ I2 r1 r2 q2) fun c s3 ⟨z,H3,I3,r3,k,e,q3⟩=>?_) hm
 subst e
 cases r3
 exact wpAny_truthy_bool ⟨H3,I3,q3⟩
def aqi (K:PySem.W.Frag) (x:V) (H:Hp) (k:Bool):Prop :=
 match x with
 | .non=>k=false
 | .bl b=>k=b
 | .int i=>k=(i != 0)
 | .str y=>y.length≤sizeLine∧k=((y.length:Int) != 0)
 | .byt y=>y.size≤sizeLine∧k=((y.size:Int) != 0)
 | .ref p=>(∃ xs,SqL K H p xs∧k = !xs.isEmpty)∨(∃ xs,SqT K H p xs∧k = !xs.isEmpty)∨∃ kvs,H p=some (.dK kvs)∧k = !kvs.isEmpty
 | _=>False
theorem aa0 {κ:Type} {kvs:List (κ × V)} {vs:List (κ × Value)} (r:KV kvs vs):(!vs.isEmpty) = !kvs.isEmpty:=by
 cases r<;>rfl
theorem a4o {xs:List V} {its:List Value} (r:Vals xs its):(!its.toArray.isEmpty) = !xs.isEmpty:=by
 cases r<;>simp
theorem a3h:(sizeLine:Nat)<2 ^ 63:=by rw [sizeLine_eq];decide
theorem amj:ati X (fun x H Q=>∃ k,aqi X.K x H k∧Q k H):=by
 intro pins s σ H x v Q I rx h
 obtain ⟨k,e,q⟩:=h
 have hl:=a3h
 have hs:sizeLine=16777216:=sizeLine_eq
 cases x with
 | non =>
  cases rx
  have e':k=false:=e
  subst e'
  exact truthy_none ⟨H,I,q⟩
 | bl b =>
  cases rx
  have e':k=b:=e
  subst e'
  exact wpAny_truthy_bool ⟨H,I,q⟩
 | int i =>
  obtain ⟨t,rfl⟩:=rx
  have e':k=(i != 0):=e
  subst e'
  exact PySem.P.truthy_int ⟨H,I,q⟩
 | str y =>
  obtain ⟨t,rfl⟩:=rx
  obtain ⟨hy,e'⟩:y.length≤sizeLine∧k=((y.length:Int) != 0):=e
  subst e'
  exact PySem.P.truthy_str (by omega) ⟨H,I.tok _,q⟩
 | byt y =>
  obtain ⟨t,rfl⟩:=rx
  obtain ⟨hy,e'⟩:y.size≤sizeLine∧k=((y.size:Int) != 0):=e
  subst e'
  exact PySem.W.truthy_bytes (by omega) ⟨H,I.tok _,q⟩
 | ref p =>
  cases rx
  have e':(∃ xs,SqL X.K H p xs∧k = !xs.isEmpty)∨(∃ xs,SqT X.K H p xs∧k = !xs.isEmpty)∨∃ kvs,H p=some (.dK kvs)∧k = !kvs.isEmpty:=e
  rcases e' with ⟨xs,hx,e'⟩ | ⟨xs,hx,e'⟩ | ⟨kvs,hx,e'⟩
  ·subst e'
   obtain ⟨its,r,pl,hz⟩:=I.list hx
   have hlen:=r.length
   exact wpAny_truthy_list pl.isList (by simp only [List.size_toArray];omega) ⟨H,I.tok _,by rw [a4o r];exact q⟩
  ·subst e'
   obtain ⟨its,r,pl,hz⟩:=I.tuple hx
   have hlen:=r.length
   exact truthy_tuple pl (by simp only [List.size_toArray];omega) ⟨H,I.tok _,by rw [a4o r];exact q⟩
  ·subst e'
   obtain ⟨hz,hS,vs,r,m⟩:kvs.length≤sizeLine∧(p == sysModules)=false∧∃ vs,KV kvs vs∧s.heap.DictOf (a81 X.prog X.w) p vs:=I.hok p _ hx
   have hlen:kvs.length=vs.length:=Paired.length r
   exact wpAny_truthy_dict hS m (by omega) ⟨H,I.tok _,by rw [aa0 r];exact q⟩
 | _=>exact (show False from e).elim
theorem aex (ha:PE X a ta) (he:∀ whole,isTrue a X.env whole=(do let v ← whole;standAt a.pos;holding [v] (truthy v))) :
  PT X a (fun σ H Q=>ta σ H fun x H'=>∃ k,aqi X.K x H' k∧Q k H'):=by
 intro pins s σ H Q I h
 exact isTrue_plain (thn (ha pins s σ H _ I h) fun v s1 ⟨x,H1,I1,r1,q1⟩=>amj pins s1 σ H1 x v Q I1 r1 q1) (he _)
theorem aa1:OpR X (binaryOp .Add) (fun x y H Q=>∃ i j,x = .str i∧y = .str j∧i.length+j.length≤sizeLine∧Q (.str (i++j)) H):=by
 intro pins s σ H x y v u Q I rx ry h
 obtain ⟨i,j,rfl,rfl,hz,q⟩:=h
 obtain ⟨t,rfl⟩:=rx
 obtain ⟨t',rfl⟩:=ry
 exact add_str (fun t' tk=>⟨.str (i++j),H,I.tok _,⟨_,rfl⟩,q⟩) hz
theorem vals1 {x:V} {us:List Value} (r:Vals [x] us):∃ u,us=[u]∧RelV x u:=by
 cases r with
 | cons r1 r2=>cases r2;exact ⟨_,rfl,r1⟩
theorem vals2 {x y:V} {us:List Value} (r:Vals [x,y] us):∃ u w',us=[u,w']∧RelV x u∧RelV y w':=by
 cases r with
 | cons r1 r2 =>
  cases r2 with
  | cons r3 r4=>cases r4;exact ⟨_,_,rfl,r1,r3⟩
theorem a8v:CallR X (.builtin "abs") (fun xs H Q=>∃ i,xs=[.int i]∧Q (.int (if i<0 then -i else i)) H):=by
 intro pins s σ H xs us Q I r h
 obtain ⟨i,rfl,q⟩:=h
 obtain ⟨u,rfl,t,rfl⟩:=vals1 r
 exact call_abs_int fun u tk=>⟨.int (if i<0 then -i else i),H,I.tok _,⟨_,rfl⟩,q⟩
theorem abk (hc:X.calm=true):CallR X (.builtin "min") (fun xs H Q=>∃ i j,xs=[.int i, .int j]∧Q (.int (if j<i then j else i)) H):=by
 intro pins s σ H xs us Q I r h
 obtain ⟨i,j,rfl,q⟩:=h
 obtain ⟨u,w',rfl,⟨t,rfl⟩,⟨t',rfl⟩⟩:=vals2 r
 refine min_two_ints (I.ok.hd hc) fun h' tk k=>⟨_,H,I.kept k,?_,q⟩
 by_cases hj:j<i
 ·rw [if_pos hj,if_pos hj];exact ⟨_,rfl⟩
 ·rw [if_neg hj,if_neg hj];exact ⟨_,rfl⟩
theorem abl:CallR X (.type "int") (fun xs H Q=>(∃ i,xs=[.int i]∧Q (.int i) H)∨∃ k,xs=[.bl k]∧Q (.int (if k then 1 else 0)) H):=by
 intro pins s σ H xs us Q I r h
 rcases h with ⟨i,rfl,q⟩ | ⟨k,rfl,q⟩
 ·obtain ⟨u,rfl,t,rfl⟩:=vals1 r
  exact call_int_int ⟨.int i,H,I,⟨_,rfl⟩,q⟩
 ·obtain ⟨u,rfl,r1⟩:=vals1 r
  cases r1
  exact call_int_bool ⟨.int (if k then 1 else 0),H,I.tok _,⟨_,rfl⟩,q⟩
end
end L2
namespace L2
open PySem PySem.Spec PyProof.Rows
structure ObjM (h:Heap) (x dx C:Addr) (mA:Str→Option Value):Prop where
 obj:h.get? x=some (PySem.W.instObj C dx)
 ns:h.Ns1 dx mA
 ne:dx≠x
theorem abm {h:Heap} {dx:Addr} {mA:Str→Option Value} (n:h.Ns1 dx mA):∃ od,h.get? dx=some od∧∀ name,PySem.W.lookIn name od=some (mA name):=by
 obtain ⟨o,es,ep,ho,hd,hk,_,hm⟩:=n
 refine ⟨o,ho,fun name=>?_⟩
 have e:=hm name
 unfold nsFind findBy at e
 rw [← Array.find?_toList] at e
 unfold PySem.W.lookIn
 rw [hd]
 dsimp only
 split
 ·rename_i y q
  rw [q] at e
  exact congrArg some e
 ·rename_i q
  rw [q] at e
  have a:es.toList.any (·.refKey)=false:=by
   rw [List.any_eq_false]
   intro y hy
   obtain ⟨z,t,hkey⟩:=hk y (Array.mem_toList_iff.mp hy)
   simp [DictEntry.refKey,hkey]
  have a':¬ es.toList.any (·.refKey)=true:=by rw [a];exact Bool.false_ne_true
  rw [if_neg a']
  exact congrArg some e
theorem ObjM.look {h:Heap} {x dx C:Addr} {mA:Str→Option Value} (I:ObjM h x dx C mA):∃ od,PySem.W.InstAt h x (PySem.W.instObj C dx) C (some od)∧∀ name,PySem.W.lookIn name od=some (mA name) :=
 let ⟨od,ho,hl⟩:=abm I.ns
 ⟨od,⟨I.obj,rfl,rfl,ho⟩,hl⟩
section
variable {P:Program} {w:World} {H H':Hp} {h h':Heap} {a C dx:Addr} {fs fs':List (Str × V)}
theorem aiv (hok:HOk P w H h) (e:H a=some (.ins C dx fs)):∃ mA,ObjM h a dx C mA∧(∀ f,RelO (fs.lookup f) (mA f))∧PySem.Within mA (fs.map (·.1))∧fs.length≤1000∧H dx=some (.own a):=by
 obtain ⟨d,z,ne,ob,mA,n,r,q⟩:=(show ObjOk P w H h a (.ins C dx fs) from hok a _ e)
 exact ⟨mA,⟨ob,n,ne⟩,r,q,z,d⟩
end
structure Cls (K:PySem.W.Frag) (C:Addr):Prop where
 pg:PySem.W.plainGet K C Str.empty=true
 hd:PySem.W.hasDictIn K C=true
 po:PySem.W.plainOver K C=true
 sa:PySem.W.findIn K (.ref C) "__setattr__" = some (some (.builtin "object.__setattr__"))
theorem Cls.get {K:PySem.W.Frag} {C:Addr} (c:Cls K C) (f:Str):PySem.W.plainGet K C f=true:=c.pg
section
variable {X:Cx} {pins:List (Addr × Obj)} {σ:St} {H:Hp} {s:Shared} {A:Around} {E:Value→Shared→Prop} {Q:Value→Shared→Prop} {c:Value} {b:Bool}
inductive TyOf (K:PySem.W.Frag) (H:Hp):V→Value→Prop where
 | non:TyOf K H .non (.type "NoneType")
 | bl (x:Bool):TyOf K H (.bl x) (.type "bool")
 | int (i:Int):TyOf K H (.int i) (.type "int")
 | str (x:Str):TyOf K H (.str x) (.type "str")
 | flt (x:UInt64):TyOf K H (.flt x) (.type "float")
 | lst {a:Addr} {xs:List V} (e:H a=some (.lst xs)):TyOf K H (.ref a) (.type "list")
 | frz {a:Addr} {o:Obj} {xs:List V} (e:H a=some (.frz o (.lst xs))):TyOf K H (.ref a) (.type "list")
 | tup {a:Addr} {xs:List V} (e:H a=some (.tup xs)):TyOf K H (.ref a) (.type "tuple")
 | dK {a:Addr} {kvs:List (Key × V)} (e:H a=some (.dK kvs)):TyOf K H (.ref a) (.type "dict")
 | dT {a:Addr} {kvs:List (List Key × V)} (e:H a=some (.dT kvs)):TyOf K H (.ref a) (.type "dict")
 | ins {a C dx:Addr} {fs:List (Str × V)} (e:H a=some (.ins C dx fs)) (cl:Cls K C) (ha:PySem.W.findIn K (.ref C) "__class__" = some (some (.builtin "object.__class__")))
   (hn:PySem.W.specialIn K (.builtin "object.__class__") "__get__" = some (some (.builtin "getset_descriptor.__get__"))) (htk:PySem.W.takesIn K (.builtin "object.__class__")=some true)
   (hm:PySem.W.mroIn K C (.type "object")=some true):TyOf K H (.ref a) (.ref C)
theorem abn {x:V} {u t:Value} (I:Inv X pins σ H s) (rx:RelV x u) (ty:TyOf X.K H x t) (e:PySem.W.kitOne X.K t c=some b) (h:∀ tk,Q (.bool b) { s with toks:=tk }) :
  wpAny (model X.prog X.w) A (call (.builtin "isinstance") [u,c]) Q E s:=by
 cases ty with
 | non=>cases (show u=Value.none from rx);exact PySem.W.kia_one PySem.W.kitx_none I.kIn True.intro e (fun z=>nomatch z) h
 | bl y=>cases (show u=Value.bool y from rx);exact PySem.W.kia_one PySem.W.kitx_bool I.kIn True.intro e (fun z=>nomatch z) h
 | int i=>obtain ⟨t,q⟩:=(show ∃ t,u=Value.int i t from rx);cases q;exact PySem.W.kia_one PySem.W.kitx_int I.kIn True.intro e (fun z=>nomatch z) h
 | str y=>obtain ⟨t,q⟩:=(show ∃ t,u=Value.str y t from rx);cases q;exact PySem.W.kia_one PySem.W.kitx_str I.kIn True.intro e (fun z=>nomatch z) h
 | flt y=>obtain ⟨t,q⟩:=(show ∃ t,u=Value.float y t from rx);cases q;exact PySem.W.kia_one PySem.W.kitx_float I.kIn True.intro e (fun z=>nomatch z) h
 | @lst a xs ea =>
  cases (show u=Value.ref a from rx)
  obtain ⟨_,_,n,_,h1⟩:=(show ObjOk X.prog X.w H s.heap a (.lst xs) from I.hok a _ ea)
  exact PySem.W.kia_one PySem.W.kitx_list I.kIn ⟨_,h1,rfl⟩ e (fun z=>nomatch z) h
 | @frz a ob xs ea =>
  cases (show u=Value.ref a from rx)
  obtain ⟨_,_,_,n,_,h1⟩:=(show ObjOk X.prog X.w H s.heap a (.frz ob (.lst xs)) from I.hok a _ ea)
  exact PySem.W.kia_one PySem.W.kitx_list I.kIn ⟨_,h1,rfl⟩ e (fun z=>nomatch z) h
 | @tup a xs ea =>
  cases (show u=Value.ref a from rx)
  obtain ⟨_,_,_,p⟩:=(show ObjOk X.prog X.w H s.heap a (.tup xs) from I.hok a _ ea)
  obtain ⟨o,h1,h2,_⟩:=p
  exact PySem.W.kia_one PySem.W.kitx_tuple I.kIn ⟨o,h1,h2⟩ e (fun z=>nomatch z) h
 | @dK a kvs ea =>
  cases (show u=Value.ref a from rx)
  obtain ⟨_,_,vs,_,p⟩:=(show ObjOk X.prog X.w H s.heap a (.dK kvs) from I.hok a _ ea)
  obtain ⟨o,es,ep,h1,h2,_⟩:=p
  exact PySem.W.kia_one PySem.W.kitx_dict I.kIn ⟨o,h1,h2.1⟩ e (fun z=>nomatch z) h
 | @dT a kvs ea =>
  cases (show u=Value.ref a from rx)
  obtain ⟨_,_,xs,_,o,es,ep,h1,h2,_⟩:=(show ObjOk X.prog X.w H s.heap a (.dT kvs) from I.hok a _ ea)
  exact PySem.W.kia_one PySem.W.kitx_dict I.kIn ⟨o,h1,h2.1⟩ e (fun z=>nomatch z) h
 | @ins a C dx fs ea cl ha hn htk hm =>
  cases (show u=Value.ref a from rx)
  obtain ⟨mA,O,_⟩:=aiv I.hok ea
  obtain ⟨od,J,_⟩:=O.look
  exact PySem.W.kia_one (PySem.W.kitx_own (cl.get _) cl.hd ha hn htk hm) I.kIn J e (fun z=>nomatch z) h
end
end L2
namespace L2
open PySem PySem.Spec PyProof.Rows
structure Room (k:Nat) (A:Around):Prop where
 hd:A.handled=none
 dp:A.depth+3*k+5<recursionLimit
 un:A.units+16*k+200<cLine
 gd:A.guards=some []
theorem Room.mono {j k:Nat} {A:Around} (r:Room k A) (h:j≤k):Room j A:=⟨r.hd,by have:=r.dp;omega,by have:=r.un;omega,r.gd⟩
theorem Room.deeper {k:Nat} {A:Around} (r:Room (k+1) A) (env:Env):Room k (A.deeper env) :=
 ⟨r.hd,by have:=r.dp;show A.depth+1+3*k+5<_;omega,by have:=r.un;show A.units+3+16*k+200<_;omega,r.gd⟩
theorem Room.depth {k:Nat} {A:Around} (r:Room k A):A.depth<recursionLimit:=by have:=r.dp;omega
theorem Room.units {k:Nat} {A:Around} (r:Room k A):A.units+64<cLine:=by have:=r.un;omega
def aqj:TA:=fun _ H Q=>Q [] H
def amk (ta:TE) (tr:TA):TA:=fun σ H Q=>ta σ H fun x H1=>tr σ H1 fun xs H2=>Q (x::xs) H2
section
variable {X:Cx} {e:Expr} {es:List Expr} {te:TE} {t:TA} {pos:Pos}
theorem a4p:PA X [] aqj:=fun _ _ _ _ H Q I h=>Calls.spliced_nil ⟨[],H,I, .nil,h⟩
theorem p8 (ha:PE X e te) (hr:PA X es t) (hs:starEach (e::es) X.env=(false,eval e X.env)::starEach es X.env:=by rfl):PA X (e::es) (amk te t):=by
 intro pos pins s σ H Q I h
 rw [hs]
 show wpAny _ _ (spliced ((false,eval e X.env)::backTo pos (starEach es X.env))) _ _ s
 refine Calls.spliced_cons (thn (ha pins s σ H _ I h) fun u s1 ⟨x,H1,I1,r1,q1⟩=>?_)
 exact thn (hr pos pins s1 σ H1 _ I1 q1) fun us s2 ⟨xs,H2,I2,r2,q2⟩=>⟨x::xs,H2,I2, .cons r1 r2,q2⟩
def atj (t:TA):TE:=fun σ H Q=>t σ H fun xs H1=>xs.length≤sizeLine∧∀ p,H1 p=none→Q (.ref p) (upd H1 p (.tup xs))
def atk (t:TA):TE:=fun σ H Q=>t σ H fun xs H1=>xs.length≤sizeLine∧∀ p,H1 p=none→Q (.ref p) (upd H1 p (.lst xs))
theorem ahd {x1} (h:PA X es t):PE X (.Tuple es x1 pos) (atj t):=by
 intro pins s σ H Q I hq
 refine wpAny_Tuple_spliced (thn (h pos pins s σ H _ I hq) fun us s1 ⟨xs,H1,I1,r,z,q⟩=>⟨by rw [← r.length];exact z,?_⟩)
 have hf:H1 s1.heap.objs.size=none:=I1.hok.fresh (Nat.le_refl _)
 refine ⟨.ref s1.heap.objs.size,upd H1 s1.heap.objs.size (.tup xs),I1.laid (t':=s1.toks) (fun b u e=>Heap.get?_push_of_some _ e) (Nat.le_refl _) ?_,rfl,q _ hf⟩
 exact ⟨z,us,r,⟨_,Heap.get?_push_size _ rfl,rfl,_,rfl⟩⟩
theorem aml (h:PA X es t):PE X (.List es pos) (atk t):=by
 intro pins s σ H Q I hq
 refine wpAny_List_spliced (thn (h pos pins s σ H _ I hq) fun us s1 ⟨xs,H1,I1,r,z,q⟩=>⟨by rw [← r.length];exact z,?_⟩)
 have hf:H1 s1.heap.objs.size=none:=I1.hok.fresh (Nat.le_refl _)
 refine ⟨.ref s1.heap.objs.size,upd H1 s1.heap.objs.size (.lst xs),I1.laid (t':=s1.toks) (fun b u e=>Heap.get?_push_of_some _ e) (Nat.le_refl _) ?_,rfl,q _ hf⟩
 exact ⟨z,us,0,r,Heap.get?_push_size _ rfl⟩
end
abbrev Sp:=List V→Hp→VK→XK→Prop
abbrev CXT:=List Env→Hp→Shared→XK→Value→Shared→Prop
structure Env0 (P:Program) (w:World) (K:PySem.W.Frag) (mg:Str→Option Value) (base:Heap) (A:Around) (outer:List Env) (s:Shared) (H:Hp):Prop where
 frames:A.frames=some outer
 mod:Mod K mg base
 bs:∀ b o,base.get? b=some o→s.heap.get? b=some o∧H b=none
 bsz:base.objs.size≤s.heap.objs.size
 funs:s.heap.FunFrames base outer
 frf:∀ b∈frs outer,H b=none
 hok:HOk P w H s.heap
 bare:AllBare s.gens
def CE (outer:List Env) (P:Program) (w:World) (H:Hp) (s:Shared) (Q:VK) (u:Value) (s':Shared):Prop :=
 ∃ v H',s'.os=s.os∧AllBare s'.gens∧Un (frs outer) [] H H' s.heap s'.heap∧HOk P w H' s'.heap∧RelV v u∧Q v H'
def CR (CX:CXT) (outer:List Env) (P:Program) (w:World) (H:Hp) (s:Shared) (Q:VK) (E:XK) (r:Result) (s':Shared):Prop :=
 match r with
 | .ok (.ret u)=>CE outer P w H s Q u s'
 | .ok _=>False
 | .error e=>CX outer H s E e s'
structure FnOk (P:Program) (w:World) (K:PySem.W.Frag) (mg:Str→Option Value) (base:Heap) (CX:CXT) (k:Nat) (f:Addr) (fd:FuncData) (ps:List Str) (sp:Sp):Prop where
 len:∀ vs H Q E,sp vs H Q E→vs.length=ps.length
 run:∀ (A:Around) (outer:List Env) (s:Shared) (H:Hp) (args:Args) (us:List Value) (vs:List V) (Q:VK) (E:XK),Room k A→Env0 P w K mg base A outer s H→BindsTo s fd args (ps.zip us)→Vals vs us→sp vs H Q E →
  codeAny (model P w) A (.call (.ref f) args) (CR CX outer P w H s Q E) s
theorem FnOk.imp {P:Program} {w:World} {K:PySem.W.Frag} {mg:Str→Option Value} {base:Heap} {CX:CXT} {k:Nat} {f:Addr} {fd:FuncData} {ps:List Str} {sp sp':Sp} (F:FnOk P w K mg base CX k f fd ps sp)
  (h:∀ vs H Q E,sp' vs H Q E→sp vs H Q E):FnOk P w K mg base CX k f fd ps sp' :=
 ⟨fun vs H Q E q=>F.len vs H Q E (h _ _ _ _ q),fun A outer s H args us vs Q E hr he hb hv hs=>F.run A outer s H args us vs Q E hr he hb hv (h _ _ _ _ hs)⟩
section
variable {X:Cx} {pins:List (Addr × Obj)} {σ:St} {H:Hp} {s s':Shared}
theorem Inv.env0 (I:Inv X pins σ H s):Env0 X.prog X.w X.K X.mg X.base X.A X.stack s H :=
 ⟨I.ok.frames,I.ok.mod,I.bs,Nat.le_trans I.ok.bsz I.sz,I.stack,I.stkFree,I.hok,I.bare⟩
theorem Inv.after {Q:VK} {u:Value} (I:Inv X pins σ H s) (h:CE X.stack X.prog X.w H s Q u s'):EP X pins σ Q u s':=by
 obtain ⟨v,H',os,bare,un,hok,r,q⟩:=h
 obtain ⟨hh,g,d,t,os'⟩:=s'
 obtain rfl:os'=s.os:=os
 exact ⟨v,H',I.call (h':=hh) (g':=g) (d':=d) (t':=t) (ch:=[]) un hok bare (fun b z=>absurd z (by simp)),r,q⟩
end
def amm (sp:Sp) (dvs:List V) (E:XK) (t:TA):TE:=fun σ H Q=>t σ H fun vs H1=>sp (vs++dvs) H1 Q E
def Binds (K:PySem.W.Frag) (fd:FuncData) (ps:List Str) (ds:List Value):Prop :=
 ∀ (s:Shared) (us:List Value),K.In s.heap→(us++ds).length=ps.length→BindsTo s fd ⟨us,[]⟩ (ps.zip (us++ds))
theorem Binds.all {K:PySem.W.Frag} {fd:FuncData} {ps:List Str} (h:∀ us:List Value,us.length=ps.length→bindArgs fd ⟨us,[]⟩=pure (ps.zip us)):Binds K fd ps []:=fun s us _ hl=>by
 rw [List.append_nil] at hl ⊢
 exact .of_eq (h us hl)
def a3i (CX:CXT) (X:Cx) (E:XK):Prop:=∀ (pins:List (Addr × Obj)) (σ:St) (H:Hp) (s:Shared) (e:Value) (s':Shared),Inv X pins σ H s→CX X.stack H s E e s'→X.xe e s'
section
variable {X:Cx} {CX:CXT} {k:Nat} {f C:Addr} {fd:FuncData} {ps:List Str} {sp:Sp} {dvs:List V} {ds:List Value} {E:XK} {x m:Str} {p pos apos:Pos} {e o:Expr} {es:List Expr} {ta:TE} {t:TA}
theorem ahe {pins:List (Addr × Obj)} {σ:St} {H:Hp} {s:Shared} {Q:VK} {us:List Value} {vs:List V} (F:FnOk X.prog X.w X.K X.mg X.base CX k f fd ps sp) (hr:Room k X.A) (hb:Binds X.K fd ps ds) (hd:Vals dvs ds) (hx:a3i CX X E)
  (I:Inv X pins σ H s) (r:Vals vs us) (h:sp (vs++dvs) H Q E):wpAny (model X.prog X.w) X.A (call (.ref f) us) (EP X pins σ Q) X.xe s:=by
 have r2:Vals (vs++dvs) (us++ds):=r.append hd
 have hl:(us++ds).length=ps.length:=by rw [← r2.length];exact F.len _ _ _ _ h
 refine wpAny_call (codeAny_mono (F.run X.A X.stack s H ⟨us,[]⟩ (us++ds) (vs++dvs) Q E hr I.env0 (hb s us I.kIn hl) r2 h) fun r s' hq=>?_)
 cases r with
 | error e=>exact hx pins σ H s e s' I hq
 | ok fl =>
  cases fl with
  | ret u=>exact I.after hq
  | next=>exact False.elim hq
  | brk=>exact False.elim hq
  | cont=>exact False.elim hq
theorem a1i (F:FnOk X.prog X.w X.K X.mg X.base CX k f fd ps sp) (hr:Room k X.A) (hg:Gl X x) (hm:X.mg x=some (.ref f)) (hk:PySem.W.keepIn X.K (.ref f)=true) (hb:Binds X.K fd ps ds) (hd:Vals dvs ds) (hx:a3i CX X E)
  (ha:PA X (e::es) t) (hdb:(x == ("__debug__" : Str))=false:=by decide) (he:starEach (e::es) X.env=(false,eval e X.env)::starEach es X.env:=by rfl) (hpl:(backTo pos (starEach es X.env)).any (·.1)=false:=by rfl) :
  PE X (.Call (.Name x p) (e::es) [] pos) (amm sp dvs E t):=by
 intro pins s σ H Q I h
 refine wpAny_Call_Name_kw (a1h I hg hm ?_ hdb)
 refine PySem.W.callWith_K (h₀:=X.base) I.ok.mod.kin hk (thn (ha pos pins s σ H _ I h) fun us s1 ⟨vs,H1,I1,r,q⟩=>⟨I1.kIn,?_⟩) he hpl
 exact ahe F hr hb hd hx I1 r q
theorem aey (F:FnOk X.prog X.w X.K X.mg X.base CX k f fd ps sp) (hr:Room k X.A) (hg:Gl X x) (hm:X.mg x=some (.ref f)) (hk:PySem.W.keepIn X.K (.ref f)=true) (hb:Binds X.K fd ps ds) (hd:Vals dvs ds) (hx:a3i CX X E)
  (hdb:(x == ("__debug__" : Str))=false:=by decide):PE X (.Call (.Name x p) [] [] pos) (amm sp dvs E aqj):=by
 intro pins s σ H Q I h
 refine wpAny_Call_Name_kw (a1h I hg hm ?_ hdb)
 exact PySem.W.callWith_K0 I.kIn hk (ahe (us:=[]) F hr hb hd hx I .nil h)
end
def PK (X:Cx) (kws:List Keyword) (t:TA):Prop :=
 ∀ (pos:Pos) (pins:List (Addr × Obj)) (s:Shared) (σ:St) (H:Hp) (Q:List V→Hp→Prop),Inv X pins σ H s→t σ H Q→wpAny (model X.prog X.w) X.A (evalAll ((backToKw pos (keywordEach kws X.env)).map (·.2))) (AP X pins σ Q) X.xe s
section
variable {X:Cx} {CX:CXT} {k:Nat} {f C:Addr} {fd:FuncData} {ps ks:List Str} {sp:Sp} {E:XK} {x m:Str} {p pos apos kpos:Pos} {e o:Expr} {es:List Expr} {kws:List Keyword} {te ta:TE} {t tk:TA} {nm:Option Str}
theorem amn:PK X [] aqj:=fun _ _ _ _ H Q I h=>wpAny_evalAll_nil ⟨[],H,I, .nil,h⟩
theorem aiw (ha:PE X e te) (hr:PK X kws t):PK X (⟨nm,e,kpos⟩::kws) (amk te t):=by
 intro pos pins s σ H Q I h
 show wpAny _ _ (evalAll ((do let v ← eval e X.env;standAt pos;pure v)::(backToKw pos (keywordEach kws X.env)).map (·.2))) _ _ s
 refine wpAny_evalAll_cons (wpAny_bind (thn (ha pins s σ H _ I h) fun u s1 ⟨x,H1,I1,r1,q1⟩=>wpAny_bind (wpAny_standAt (wpAny_pure ?_))))
 exact thn (hr pos pins s1 σ H1 _ I1 q1) fun us s2 ⟨xs,H2,I2,r2,q2⟩=>⟨x::xs,H2,I2, .cons r1 r2,q2⟩
variable {g:List Value→List Value→List Value} {gV:List V→List V→List V}
end
structure FnScope (N P:List Str) (sc:Scope):Prop where
 kind:sc.kind = .function
 co:sc.isCoroutine=false
 gen:sc.isGenerator=false
 nd:N.Nodup
 pre:N.take P.length=P
 par:∀ x∈P,sc.names.lookup x=some .local∨sc.names.lookup x=some .cell
 nofree:∀ y∈sc.names,y.2≠.free
theorem a6w {kindOf:Str→Option NameKind} {x:Str}:∀ {binds:List (Str × Value)} {m:Str→Option Value},(∀ v,(x,v) ∉ binds)→bindL kindOf binds m x=m x
 | [],_,_=>rfl
 | (n,v)::r,m,h=>by
  unfold bindL
  rw [a6w fun w hw=>h w (List.mem_cons_of_mem _ hw)]
  split
  ·have:x≠n:=by rintro rfl;exact h v List.mem_cons_self
   simp [this]
  ·rfl
theorem a6x {kindOf:Str→Option NameKind} {x:Str}:∀ {binds:List (Str × Value)} {m:Str→Option Value},(∀ v,(x,v) ∉ binds)→bindC kindOf binds m x=m x
 | [],_,_=>rfl
 | (n,v)::r,m,h=>by
  unfold bindC
  rw [a6x fun w hw=>h w (List.mem_cons_of_mem _ hw)]
  split
  ·rfl
  ·have:x≠n:=by rintro rfl;exact h v List.mem_cons_self
   simp [this]
theorem a6y {kindOf:Str→Option NameKind} {x:Str} {v:Value}:∀ {P:List Str} {vs:List Value} {i:Nat} {m:Str→Option Value},P.Nodup→P[i]? = some x→vs[i]? = some v→kindOf x=some .local →
  bindL kindOf (P.zip vs) m x=some v
 | [],_,_,_,_,h,_,_=>by simp at h
 | _::_,[],_,_,_,_,h,_=>by simp at h
 | p::P,w::vs,0,m,nd,h1,h2,hk=>by
  simp at h1 h2;subst h1;subst h2
  show bindL kindOf ((p,w)::P.zip vs) m p=_
  unfold bindL
  rw [a6w fun v hv=>(List.nodup_cons.mp nd).1 (List.of_mem_zip hv).1,if_pos hk]
  simp
 | p::P,w::vs,i+1,m,nd,h1,h2,hk=>by
  show bindL kindOf ((p,w)::P.zip vs) m x=_
  unfold bindL
  exact a6y (i:=i) (List.nodup_cons.mp nd).2 (by simpa using h1) (by simpa using h2) hk
theorem a6z {kindOf:Str→Option NameKind} {x:Str} {v:Value}:∀ {P:List Str} {vs:List Value} {i:Nat} {m:Str→Option Value},P.Nodup→P[i]? = some x→vs[i]? = some v→kindOf x≠some .local →
  bindC kindOf (P.zip vs) m x=some v
 | [],_,_,_,_,h,_,_=>by simp at h
 | _::_,[],_,_,_,_,h,_=>by simp at h
 | p::P,w::vs,0,m,nd,h1,h2,hk=>by
  simp at h1 h2;subst h1;subst h2
  show bindC kindOf ((p,w)::P.zip vs) m p=_
  unfold bindC
  rw [a6x fun v hv=>(List.nodup_cons.mp nd).1 (List.of_mem_zip hv).1,if_neg hk]
  simp
 | p::P,w::vs,i+1,m,nd,h1,h2,hk=>by
  show bindC kindOf ((p,w)::P.zip vs) m x=_
  unfold bindC
  exact a6z (i:=i) (List.nodup_cons.mp nd).2 (by simpa using h1) (by simpa using h2) hk
def start (N:List Str) (vs:List V):St:=vs.map some++List.replicate (N.length - vs.length) none
def a0q (CX:CXT) (P:Program) (w:World) (K:PySem.W.Frag) (mg:Str→Option Value) (base:Heap) (N:List Str) (qual:Str) (scope:Scope) (f:Addr) (cd:Value) (A:Around) (outer:List Env) (s:Shared) (H:Hp) (E:XK):Cx where
 prog:=P
 w:=w
 K:=K
 mg:=mg
 base:=base
 A:=A.deeper (envOfC qual scope s.heap.objs.size f cd)
 N:=N
 s₀:=s
 H₀:=H
 env:=envOfC qual scope s.heap.objs.size f cd
 outer:=outer
 stack:=envOfC qual scope s.heap.objs.size f cd::outer
 ex:=[]
 calm:=true
 fn:=fun _=>true
 pn:=[]
 xe:=fun e s'=>wpAny (model P w) (A.deeper (envOfC qual scope s.heap.objs.size f cd)) (leaving (envOfC qual scope s.heap.objs.size f cd) e) (fun _ s''=>CX outer H s E e s'') (fun e' s''=>CX outer H s E e' s'') s'
theorem a8w {sc:Scope} {n:Nat} {x:Str} (h:sc.names.lookup x=some .cell):∃ c,(cellsFrom n sc.names []).lookup x=some c:=by
 have q:=PySem.W.cellsFrom_some sc.names n [] (.inl h)
 exact Option.isSome_iff_exists.mp q
theorem abo {CX:CXT} {P:Program} {w:World} {K:PySem.W.Frag} {mg:Str→Option Value} {base:Heap} {N ps:List Str} {qual:Str} {scope:Scope} {f:Addr} {cd:Value} {A:Around} {outer:List Env} {s s1:Shared} {H:Hp} {E:XK} {us:List Value} {vs:List V}
  (S:FnScope N ps scope) (hd:A.handled=none) (e0:Env0 P w K mg base A outer s H) (hl:vs.length=ps.length) (r:Vals vs us)
  (x:InCallC s s.heap.objs.size (bindL (envOfC qual scope s.heap.objs.size f cd).kindOf (ps.zip us) fun _=>none) (cellsFrom (s.heap.objs.size+1) scope.names []) (bindC (envOfC qual scope s.heap.objs.size f cd).kindOf (ps.zip us) fun _=>none) s1) :
  Inv (a0q CX P w K mg base N qual scope f cd A outer s H E) [] (start N vs) H s1:=by
 have hpl:ps.length≤N.length:=by have:=congrArg List.length S.pre;rw [List.length_take] at this;omega
 obtain ⟨h1,tk,rfl,hk⟩:=x.done
 have noA:∀ b:Addr,b ∉ (a0q CX P w K mg base N qual scope f cd A outer s H E).ex:=fun b z=>absurd (show b∈([]:List Addr) from z) (by simp)
 refine ⟨⟨e0.mod,S.kind,rfl,rfl,Nat.le_refl _,fun y z c h1 h2=>?_,fun y hy=>?_,fun y c _ h=>?_,fun _=>hd,Around.frames_deeper e0.frames, .inr ⟨rfl,rfl⟩,fun b z=>absurd z (noA b),e0.bs,e0.bsz,fun b _ _=>noA b,fun b z=>absurd z (noA b),e0.funs,e0.frf⟩,
  rfl,e0.bare,Un.kept hk,⟨_,x.toInCall.ns,fun i y v h1 h2 h3=>?_⟩,fun y c h=>⟨_,x.cell y c h⟩,e0.hok.fresh (Nat.le_refl _),fun y c h=>?_,fun p hp=>absurd (show p∈([]:List (Addr × Obj)) from hp) (by simp),e0.hok.kept hk,?_⟩
 ·exact name_of_addr x.apart (PySem.mem_of_lookup h1) (PySem.mem_of_lookup h2)
 ·have hy:scope.names.lookup y=some .cell∨scope.names.lookup y=some .free:=hy
  rcases hy with hy | hy
  ·exact a8w hy
  ·exact absurd rfl (S.nofree _ (PySem.mem_of_lookup hy))
 ·exact Nat.le_of_lt (x.above y c (PySem.mem_of_lookup h))
 ·have hi:i<vs.length:=by
   unfold start at h2
   by_cases hi:i<vs.length
   ·exact hi
   ·rw [List.getElem?_append_right (by simpa using hi)] at h2
    rw [List.getElem?_replicate] at h2
    split at h2<;>cases h2
  have ha:vs[i]? = some v:=by
   unfold start at h2
   rw [List.getElem?_append_left (by simpa using hi),List.getElem?_map] at h2
   cases e:vs[i]? with
   | none=>rw [e] at h2;cases h2
   | some a=>rw [e] at h2;cases h2;rfl
  obtain ⟨u,hu,rv⟩:=r.get ha
  have hp:ps[i]? = some y:=by
   rw [← S.pre,List.getElem?_take_of_lt (by omega)];exact h1
  have ndP:ps.Nodup:=by rw [← S.pre];exact S.nd.sublist (List.take_sublist _ _)
  refine ⟨u,rv,?_⟩
  rcases S.par y (List.mem_of_getElem? hp) with k | k
  ·exact .inl ⟨k,a6y ndP hp hu k⟩
  ·obtain ⟨c,e⟩:=a8w (n:=s.heap.objs.size+1) k
   refine .inr ⟨.inl k,c,e,?_⟩
   have q:=x.cell y c e
   rw [a6z ndP hp hu (by show scope.names.lookup y≠_;rw [k];decide)] at q
   exact q
 ·exact e0.hok.fresh (Nat.le_of_lt (x.above y c (PySem.mem_of_lookup h)))
 ·unfold start
  show _=N.length
  rw [List.length_append,List.length_map,List.length_replicate]
  omega
theorem amo {CX:CXT} {P:Program} {w:World} {K:PySem.W.Frag} {mg:Str→Option Value} {base:Heap} {k:Nat} {f:Addr} {name qual:Str} {params:Arguments} {body:List Stmt} {scope:Scope} {dV kV doc pm cdv ct oc:Value} {an od:Option Addr}
  {osl:Array (Option Value)} {N ps:List Str} {sp:Sp} (lk:K.lookup f=some ⟨oc,od, .func (PySem.W.fnOf name qual params body scope dV kV doc pm an cdv ct),osl⟩) (hcd:PySem.W.codeIn K cdv qual=true) (S:FnScope N ps scope)
  (len:∀ vs H Q E,sp vs H Q E→vs.length=ps.length)
  (hbody:∀ (A:Around) (outer:List Env) (s:Shared) (H:Hp) (vs:List V) (Q:VK) (E:XK),Room k (A.deeper (envOfC qual scope s.heap.objs.size f cdv))→sp vs H Q E →
   ∃ t,PSs (a0q CX P w K mg base N qual scope f cdv A outer s H E) body t∧t { nx:=fun _ H'=>Q .non H',rt:=Q } (start N vs) H) :
  FnOk P w K mg base CX (k+1) f (PySem.W.fnOf name qual params body scope dV kV doc pm an cdv ct) ps sp:=by
 refine ⟨len,fun A outer s H args us vs Q E hr e0 hb r hsp=>?_⟩
 have hl:=len _ _ _ _ hsp
 have KX:K.In s.heap:=e0.mod.kin.keeps fun b o e=>(e0.bs b o e).1
 have lim:s.heap.NoLimit:=e0.mod.nolimit.keeps fun b o e=>(e0.bs b o e).1
 have hkind:∀ y∈ps.zip us,scope.names.lookup y.1=some .local∨(scope.names.lookup y.1=some .cell∧((cellsFrom (s.heap.objs.size+1) scope.names []).lookup y.1).isSome=true):=fun ⟨n,v⟩ hy=>by
  rcases S.par n (List.of_mem_zip hy).1 with q | q
  ·exact .inl q
  ·exact .inr ⟨q,PySem.W.cellsFrom_some _ _ _ (.inl q)⟩
 refine codeAny_call_function hr.depth (KX _ _ lk) rfl S.co S.gen rfl (PySem.W.codeRec_of KX hcd) (hb _ _ _ _ ?_)
 refine wpAny_newFunctionEnv_cells S.kind hkind fun env he s1 x=>?_
 subst he
 refine ⟨lim.keeps x.toInCall.keep,codeAny_func ?_⟩
 obtain ⟨t,ht,hq⟩:=hbody A outer s H vs Q E (hr.deeper _) hsp
 have I:Inv (a0q CX P w K mg base N qual scope f cdv A outer s H E) [] (start N vs) H s1:=abo S hr.hd e0 hl r x
 refine wpAny_mono (ht [] s1 (start N vs) H _ I hq) (fun fl s' hs=>?_) fun e s' hs=>hs
 have fin:∀ {σ':St} {H':Hp} {v:V} {u:Value},Inv (a0q CX P w K mg base N qual scope f cdv A outer s H E) [] σ' H' s'→RelV v u→Q v H'→CE outer P w H s Q u s' :=
  fun {σ' H' v u} J rv q=>⟨v,H',J.os,J.bare,J.base,J.hok,rv,q⟩
 cases fl with
 | ret u =>
  obtain ⟨v,σ',H',J,rv,q⟩:=hs
  exact fin J rv q
 | next =>
  obtain ⟨σ',H',J,q⟩:=hs
  exact fin (v:=V.non) (u:=Value.none) J rfl q
 | brk =>
  obtain ⟨_,_,_,q⟩:=hs
  exact False.elim q
 | cont =>
  obtain ⟨_,_,_,q⟩:=hs
  exact False.elim q
end L2
namespace L2
open PySem PySem.Spec PyProof.Rows
section
variable {X:Cx} {x:Str} {p pos:Pos} {e:Expr} {es:List Expr} {t:TA} {id T:String} {r:List V→Hp→VK→Prop}
def tCB (r:List V→Hp→VK→Prop) (t:TA):TE:=fun σ H Q=>t σ H fun vs H1=>r vs H1 Q
theorem a5i (hc:CallR X (.builtin id) r) (hg:Gl X x) (hm:X.mg x=none) (hv:bootBuiltins x=some (.builtin id)) (ha:PA X (e::es) t) (hn:x ≠ "__name__":=by decide) (hdb:(x == ("__debug__" : Str))=false:=by decide)
  (he:starEach (e::es) X.env=(false,eval e X.env)::starEach es X.env:=by rfl) (hpl:(backTo pos (starEach es X.env)).any (·.1)=false:=by rfl):PE X (.Call (.Name x p) (e::es) [] pos) (tCB r t):=by
 intro pins s σ H Q I h
 refine wpAny_Call_Name_kw (a3f I hg hm hv ?_ hn hdb)
 exact PyProof.Rows.callWith_builtin1 (thn (ha pos pins s σ H _ I h) fun us s1 ⟨vs,H1,I1,r1,q1⟩=>hc pins s1 σ H1 vs us Q I1 r1 q1) he hpl
theorem abp (hc:CallR X (.type T) r) (hg:Gl X x) (hm:X.mg x=none) (hv:bootBuiltins x=some (.type T)) (ha:PA X (e::es) t) (hn:x ≠ "__name__":=by decide) (hdb:(x == ("__debug__" : Str))=false:=by decide)
  (he:starEach (e::es) X.env=(false,eval e X.env)::starEach es X.env:=by rfl) (hpl:(backTo pos (starEach es X.env)).any (·.1)=false:=by rfl):PE X (.Call (.Name x p) (e::es) [] pos) (tCB r t):=by
 intro pins s σ H Q I h
 refine wpAny_Call_Name_kw (a3f I hg hm hv ?_ hn hdb)
 exact PyProof.Rows.callWith_type1 (thn (ha pos pins s σ H _ I h) fun us s1 ⟨vs,H1,I1,r1,q1⟩=>hc pins s1 σ H1 vs us Q I1 r1 q1) he hpl
end
end L2
namespace HT
open PySem PyProof.Rows
section
variable {prog:Program} {w:World} {A:Around} {E:Value→Shared→Prop} {s:Shared}
theorem aix {t b:Addr} {vs ws:List Value} {Q:Value→Shared→Prop} (ht:IsTup s.heap t vs.toArray) (hb:IsTup s.heap b ws.toArray) (hv:vs≠[])
  (h1:ws=[]→Q (.ref t) s) (h2:ws≠[]→Q (.ref s.heap.objs.size) { s with heap:=s.heap.push { cls:=.type "tuple",data:=.seq (vs++ws).toArray } })
  (hsz:vs.length+ws.length≤sizeLine):wpAny (model prog w) A (binaryOp .Add (.ref t) (.ref b)) Q E s:=by
 obtain ⟨⟨cls,dd,data,sl⟩,ho,hc,n,hd⟩:=id ht
 obtain ⟨⟨cls2,dd2,data2,sl2⟩,ho2,hc2,n2,hd2⟩:=id hb
 simp only at hc hd hc2 hd2
 subst hc hd hc2 hd2
 have e:vs.toArray++ws.toArray=(vs++ws).toArray:=by simp
 by_cases hw:ws=[]
 ·exact concat_meets ⟨_,ho,rfl⟩ ⟨_,ho2,rfl⟩ noFill_tuple_add seq_tuple_add PySem.F.slot_tuple_add PySem.F.entry_tuple_add (PySem.F.args_tuple_add_2 _ _)
   (tuple_addW1 t b vs.toArray ws.toArray n n2 dd dd2 sl sl2 (by simpa using hv) (by simp [hw])) ⟨ho,ho2,h1 hw⟩
 ·refine concat_meets ⟨_,ho,rfl⟩ ⟨_,ho2,rfl⟩ noFill_tuple_add seq_tuple_add PySem.F.slot_tuple_add PySem.F.entry_tuple_add (PySem.F.args_tuple_add_2 _ _)
   (tuple_addW2 t b vs.toArray ws.toArray n n2 dd dd2 sl sl2 (by simpa using hv) (by simpa using hw) (by rw [List.size_toArray,List.size_toArray];exact hsz)) ⟨ho,ho2,?_⟩
  rw [e]
  exact h2 hw
def sIx (n d:Nat):Option Int→Nat
 | none=>d
 | some v=>if v<0 then (v+(n:Int)).toNat else min v.toNat n
theorem a5j (n d:Nat):sIx n d none=d:=rfl
theorem a5k (n d k:Nat):sIx n d (some (k:Int))=min k n:=by
 show (if (k:Int)<0 then ((k:Int)+(n:Int)).toNat else min (k:Int).toNat n)=min k n
 rw [if_neg (by omega),Int.toNat_natCast]
theorem abq (n d:Nat) (hd:d≤n) (o:Option Int):sIx n d o≤n:=by
 cases o with
 | none=>exact hd
 | some v =>
  show (if v<0 then (v+(n:Int)).toNat else min v.toNat n)≤n
  by_cases hv:v<0
  ·rw [if_pos hv];omega
  ·rw [if_neg hv];exact Nat.min_le_right _ _
theorem abr (v:Int) (n d:Nat):(if v<0 then max (v+(n:Int)) 0 else min v (n:Int))=((sIx n d (some v):Nat):Int):=by
 show (if v<0 then max (v+(n:Int)) 0 else min v (n:Int))=(((if v<0 then (v+(n:Int)).toNat else min v.toNat n):Nat):Int)
 by_cases hv:v<0
 ·simp only [if_pos hv];omega
 ·simp only [if_neg hv];omega
theorem aa2 (lo hi:Option Int) (n:Nat):Builtin.Slice.sliceAdjust lo hi 1 (n:Int)=(((sIx n 0 lo:Nat):Int),((sIx n n hi:Nat):Int)):=by
 have h1:¬ ((1:Int)<0):=by omega
 unfold Builtin.Slice.sliceAdjust
 simp only [h1,if_false]
 refine Prod.ext ?_ ?_
 ·cases lo with
  | none=>rfl
  | some v=>exact abr v n 0
 ·cases hi with
  | none=>rfl
  | some v=>exact abr v n n
theorem aa3 (i j:Nat):Builtin.Slice.slicePlaces (i:Int) (j:Int) 1=j - i:=by
 unfold Builtin.Slice.slicePlaces
 have h1:(1:Int) > 0:=by omega
 simp only [h1,if_true,Int.ediv_one]
 split<;>omega
theorem a4q {v:Value} {o:Option Int} {Q:Option Int→Shared→Prop} (p:IsPart v o) (h:Q o s):wpAny (model prog w) A (Builtin.Slice.slicePartIndex v) Q E s:=by
 cases p with
 | none=>exact slicePart_none h
 | int i t=>exact slicePart_int h
theorem zc {sl:Addr} {vl vu:Value} {lo hi:Option Int} {n:Nat} {Q:Int × Int × Nat→Shared→Prop} (hs:s.heap.IsSliceOf sl vl vu .none) (pl:IsPart vl lo) (pu:IsPart vu hi)
  (h:Q (((sIx n 0 lo:Nat):Int),1,sIx n n hi - sIx n 0 lo) s):wpAny (model prog w) A (Builtin.Slice.sliceApplied (.ref sl) (pure (n:Int))) Q E s:=by
 obtain ⟨os,hos,hcs,hds⟩:=id hs
 unfold Builtin.Slice.sliceApplied Builtin.Slice.sliceFields
 refine wpAny_bind (wpAny_bind (wpAny_field hos hds (x:=vl) rfl (wpAny_bind (wpAny_field hos hds (x:=vu) rfl (wpAny_bind (wpAny_field hos hds (x:=.none) rfl (wpAny_pure ?_)))))))
 refine wpAny_bind (slicePart_none ?_)
 show wpAny _ _ (if ((1:Int) == 0)=true then _ else _) _ _ s
 rw [if_neg (by decide)]
 refine wpAny_bind (a4q pl (wpAny_bind (a4q pu (wpAny_bind (wpAny_pure ?_)))))
 show wpAny _ _ (match Builtin.Slice.sliceAdjust lo hi 1 (n:Int) with | (lo,hi)=>pure (lo,(1:Int),Builtin.Slice.slicePlaces lo hi 1)) _ _ s
 rw [aa2 lo hi n]
 show wpAny _ _ (pure (((sIx n 0 lo:Nat):Int),(1:Int),Builtin.Slice.slicePlaces ((sIx n 0 lo:Nat):Int) ((sIx n n hi:Nat):Int) 1)) _ _ s
 rw [aa3]
 exact wpAny_pure h
theorem aez (xs:Array Value) (i k:Nat):((List.range k).filterMap fun (m:Nat)=>xs[((i:Int)+(m:Int)*1).toNat]?).toArray=((xs.toList.drop i).take k).toArray:=by
 have e:(fun (m:Nat)=>xs[((i:Int)+(m:Int)*1).toNat]?)=fun m=>xs[i+m]?:=by
  funext m
  have:((i:Int)+(m:Int)*1).toNat=i+m:=by omega
  rw [this]
 rw [e]
 have:=pick_run xs i k
 rw [List.filterMap_map] at this
 have e2:((fun x=>xs[x]?) ∘ fun x=>i+x)=fun m=>xs[i+m]?:=rfl
 rw [e2] at this
 rw [this]
theorem a1j {t sl:Addr} {items:Array Value} {vl vu:Value} {lo hi:Option Int} {Q:Value→Shared→Prop} (ht:IsTup s.heap t items) (hs:s.heap.IsSliceOf sl vl vu .none) (pl:IsPart vl lo) (pu:IsPart vu hi)
  (hw:¬ (sIx items.size 0 lo=0∧sIx items.size items.size hi=items.size))
  (h:Q (.ref s.heap.objs.size) { s with heap:=s.heap.push { cls:=.type "tuple",data:=.seq ((items.toList.drop (sIx items.size 0 lo)).take (sIx items.size items.size hi - sIx items.size 0 lo)).toArray } })
  (hsz:items.size≤sizeLine):wpAny (model prog w) A (getItem (.ref t) (.ref sl)) Q E s:=by
 have htake:sizeOk (.seq ((items.toList.drop (sIx items.size 0 lo)).take (sIx items.size items.size hi - sIx items.size 0 lo)).toArray):=by
  show ((items.toList.drop (sIx items.size 0 lo)).take (sIx items.size items.size hi - sIx items.size 0 lo)).toArray.size≤sizeLine
  rw [List.size_toArray,List.length_take,List.length_drop,Array.length_toList]
  omega
 have hj:sIx items.size items.size hi≤items.size:=abq _ _ (Nat.le_refl _) hi
 obtain ⟨os,hos,hcs,hds⟩:=id hs
 have hTs:s.TypeIs (.ref sl) "slice":=⟨os,hos,hcs⟩
 unfold getItem
 try with_reducible refine wpAny_holding ?_
 first | refine wpAny_bind (wpAny_pure ?_) | skip
 refine wpAny_bind (wpAny_sequenceKey ht.typeIs (by decide) ?_)
 refine wpAny_bind (wpAny_callSpecial?_slot (name:=Str.ofString "__getitem__") ht.typeIs PyProof.Rows.slot_tuple_getitem
  (wpAny_call_entry PyProof.Rows.slot_tuple_getitem ht.typeIs entry_tuple_getitem ?_ (args_tuple_getitem _ _)))
 show wpAny _ _ (Builtin.Tuple.tupleItemsOf (.ref t)>>=_) _ _ s
 refine wpAny_bind (tupleItemsOf_ ht ?_)
 refine wpAny_bind (wpAny_typeOf hTs ?_)
 rw [if_pos (by decide)]
 refine wpAny_bind (zc hs pl pu ?_)
 have hno:¬ ((((sIx items.size 0 lo:Nat):Int) == 0 && (1:Int) == 1 && (sIx items.size items.size hi - sIx items.size 0 lo) == items.size)=true):=by
  intro q
  rw [Bool.and_eq_true,Bool.and_eq_true] at q
  have q1:((sIx items.size 0 lo:Nat):Int)=0:=eq_of_beq q.1.1
  have q2:sIx items.size items.size hi - sIx items.size 0 lo=items.size:=eq_of_beq q.2
  exact hw ⟨by omega,by omega⟩
 show wpAny _ _ (if (((sIx items.size 0 lo:Nat):Int) == 0 && (1:Int) == 1 && (sIx items.size items.size hi - sIx items.size 0 lo) == items.size)=true then _ else _) _ _ s
 rw [if_neg hno,aez]
 first
  | exact wpAny_bind (m:=Builtin.Tuple.tupleExact _) (wpAny_newObj_type (wpAny_pure ⟨_,rfl,wpAny_pure h⟩) htake)
  | exact wpAny_bind (m:=Builtin.Tuple.tupleExact _) (wpAny_newObj_type (wpAny_bind (wpAny_pure (wpAny_pure ⟨_,rfl,wpAny_pure h⟩))) htake)
  | exact wpAny_bind (wpAny_bind (m:=Builtin.Tuple.tupleExact _) (wpAny_newObj_type (wpAny_pure (wpAny_pure ⟨_,rfl,wpAny_pure h⟩)) htake))
  | exact wpAny_bind (wpAny_bind (m:=Builtin.Tuple.tupleExact _) (wpAny_newObj_type (wpAny_pure ⟨_,rfl,wpAny_pure h⟩) htake))
end
end HT
namespace L2
open PySem PySem.Spec PyProof.Rows
abbrev TO:=St→Hp→(Option Int→Hp→Prop)→Prop
def PO (X:Cx) (e:Option Expr) (t:TO):Prop :=
 ∀ (pins:List (Addr × Obj)) (s:Shared) (σ:St) (H:Hp) (Q:Option Int→Hp→Prop),Inv X pins σ H s→t σ H Q →
  wpAny (model X.prog X.w) X.A (evalPart e X.env) (fun u s'=>∃ o H',Inv X pins σ H' s'∧IsPart u o∧Q o H') X.xe s
def aiy:TO:=fun _ H Q=>Q none H
def aqk (t:TE):TO:=fun σ H Q=>t σ H fun x H1=>∃ i,x = .int i∧Q (some i) H1
theorem intsAre_of {ns:List Int}:∀ {us:List Value},Vals (ns.map V.int) us→IntsAre us ns:=by
 induction ns with
 | nil=>intro us r;rw [List.map_nil] at r;cases r;exact .nil
 | cons n ns ih =>
  intro us r
  rw [List.map_cons] at r
  cases r with
  | cons r1 r2 =>
   obtain ⟨t,e⟩:=r1
   subst e
   exact .cons n t (ih r2)
section
variable {X:Cx} {e:Expr} {te:TE} {lo hi:Option Expr} {tl th:TO} {pos p2:Pos}
theorem aiz:PO X none aiy:=by
 intro pins s σ H Q I h
 rw [evalPart_none]
 exact wpAny_pure ⟨none,H,I, .none,h⟩
theorem aj0 (h:PE X e te):PO X (some e) (aqk te):=by
 intro pins s σ H Q I hw
 rw [evalPart_some]
 refine thn (h pins s σ H _ I hw) fun u s1 ⟨x,H1,I1,r1,q1⟩=>?_
 obtain ⟨i,rfl,q⟩:=q1
 obtain ⟨t,rfl⟩:=r1
 exact ⟨some i,H1,I1, .int i t,q⟩
def SlR (X:Cx) (r:V→Option Int→Option Int→Hp→VK→Prop):Prop :=
 ∀ (pins:List (Addr × Obj)) (s:Shared) (σ:St) (H:Hp) (x:V) (v vl vu:Value) (lo hi:Option Int) (sl:Addr) (Q:VK),Inv X pins σ H s→RelV x v→s.heap.IsSliceOf sl vl vu .none→IsPart vl lo→IsPart vu hi→r x lo hi H Q →
  ∃ T id,typeLookup (.type T) "__getitem__" = pure (some (.builtin id))∧s.TypeIs v T∧wpAny (model X.prog X.w) X.A (getItem v (.ref sl)) (EP X pins σ Q) X.xe s
theorem SlR.or {r r':V→Option Int→Option Int→Hp→VK→Prop} (h:SlR X r) (h':SlR X r'):SlR X (fun x lo hi H Q=>r x lo hi H Q∨r' x lo hi H Q):=by
 intro pins s σ H x v vl vu lo hi sl Q I rx hs pl pu q
 rcases q with q | q
 ·exact h pins s σ H x v vl vu lo hi sl Q I rx hs pl pu q
 ·exact h' pins s σ H x v vl vu lo hi sl Q I rx hs pl pu q
def tSl (r:V→Option Int→Option Int→Hp→VK→Prop) (te:TE) (tl th:TO):TE:=fun σ H Q=>te σ H fun x H1=>tl σ H1 fun l H2=>th σ H2 fun u H3=>r x l u H3 Q
theorem af0 {r:V→Option Int→Option Int→Hp→VK→Prop} (hr:SlR X r) (he:PE X e te) (hl:PO X lo tl) (hu:PO X hi th):PE X (.Subscript e (.Slice lo hi none p2) pos) (tSl r te tl th):=by
 intro pins s σ H Q I h
 refine Subscript_ (thn (he pins s σ H _ I h) fun v s1 ⟨x,H1,I1,r1,q1⟩=>?_)
 refine wpAny_Slice (thn (hl pins s1 σ H1 _ I1 q1) fun vl s2 ⟨l,H2,I2,pl,q2⟩=>thn (hu pins s2 σ H2 _ I2 q2) fun vu s3 ⟨u,H3,I3,pu,q3⟩=>?_)
 rw [evalPart_none]
 refine wpAny_pure ?_
 have I4:Inv X pins σ H3 { s3 with heap:=s3.heap.push { cls:=.type "slice",data:=.fields #[vl,vu, .none] } }:=I3.kept (t':=s3.toks) fun b ob q=>Heap.get?_push_of_some _ q
 obtain ⟨T,id,hT,ht,hg⟩:=hr pins { s3 with heap:=s3.heap.push { cls:=.type "slice",data:=.fields #[vl,vu, .none] } } σ H3 x v vl vu l u s3.heap.objs.size Q I4 r1 (Heap.IsSliceOf.new ..) pl pu q3
 show wpAny (model X.prog X.w) X.A (subscriptTail e (.Slice lo hi none p2) v (.ref s3.heap.objs.size)) (EP X pins σ Q) X.xe { s3 with heap:=s3.heap.push { cls:=.type "slice",data:=.fields #[vl,vu, .none] } }
 exact tail_any (ops:=[.ref s3.heap.objs.size,v]) ht hT hg (by with_unfolding_all rfl)
def ahf (xs:List V) (lo hi:Option Int):List V:=(xs.drop (HT.sIx xs.length 0 lo)).take (HT.sIx xs.length xs.length hi - HT.sIx xs.length 0 lo)
theorem a3j (xs:List V) (lo hi:Option Int):(ahf xs lo hi).length≤xs.length:=by
 unfold ahf
 rw [List.length_take,List.length_drop]
 omega
def aql (K:PySem.W.Frag):V→Option Int→Option Int→Hp→VK→Prop:=fun x lo hi H Q=>∃ a xs,x = .ref a∧SqT K H a xs ∧
 ¬ (HT.sIx xs.length 0 lo=0∧HT.sIx xs.length xs.length hi=xs.length)∧∀ p,H p=none→Q (.ref p) (upd H p (.tup (ahf xs lo hi)))
theorem amq:SlR X (aql X.K):=by
 intro pins s σ H x v vl vu lo hi sl Q I rx hs pl pu h
 obtain ⟨a,xs,rfl,hx,hw,q⟩:=h
 cases rx
 obtain ⟨its,r,ht,hz⟩:=I.tuple hx
 have hlen:its.toArray.size=xs.length:=by rw [List.size_toArray];exact r.length.symm
 refine ⟨"tuple",_,PyProof.Rows.slot_tuple_getitem.lookup,ht.typeIs,?_⟩
 refine HT.a1j ht hs pl pu (by rw [hlen];exact hw) ?_ (by rw [hlen];exact hz)
 rw [hlen]
 refine ⟨.ref s.heap.objs.size,_,I.laid (t':=s.toks) (o:=.tup (ahf xs lo hi)) (fun b ob q=>Heap.get?_push_of_some _ q) (Nat.le_refl _) ?_,rfl,q _ (I.hok.fresh (Nat.le_refl _))⟩
 exact ⟨Nat.le_trans (a3j xs lo hi) hz,_,(r.drop (HT.sIx xs.length 0 lo)).take (HT.sIx xs.length xs.length hi - HT.sIx xs.length 0 lo),IsTup.new _ _⟩
def amr (K:PySem.W.Frag):R2:=fun x y H Q=>∃ a b xs ys,x = .ref a∧y = .ref b∧SqT K H a xs∧SqT K H b ys∧xs≠[]∧xs.length+ys.length≤sizeLine ∧
 (ys=[]→Q (.ref a) H)∧(ys≠[]→∀ p,H p=none→Q (.ref p) (upd H p (.tup (xs++ys))))
theorem Vals.nil_iff {xs:List V} {us:List Value} (r:Vals xs us):us=[]↔xs=[]:=by
 cases r with
 | nil=>simp
 | cons _ _=>simp
theorem aj1:OpR X (binaryOp .Add) (amr X.K):=by
 intro pins s σ H x y v u Q I rx ry h
 obtain ⟨a,b,xs,ys,rfl,rfl,ha,hb,hx,hz,q1,q2⟩:=h
 cases rx
 cases ry
 obtain ⟨its,r1,p1,_⟩:=I.tuple ha
 obtain ⟨its2,r2,p2,_⟩:=I.tuple hb
 refine HT.aix p1 p2 (fun z=>hx (r1.nil_iff.mp z)) (fun z=>⟨.ref a,H,I,rfl,q1 (r2.nil_iff.mp z)⟩) (fun z=>?_) (by rw [← r1.length,← r2.length];exact hz)
 refine ⟨.ref s.heap.objs.size,_,I.laid (t':=s.toks) (o:=.tup (xs++ys)) (fun b ob q=>Heap.get?_push_of_some _ q) (Nat.le_refl _) ?_,rfl,q2 (fun w=>z (r2.nil_iff.mpr w)) _ (I.hok.fresh (Nat.le_refl _))⟩
 exact ⟨by rw [List.length_append];exact hz,_,r1.append r2,IsTup.new _ _⟩
end
end L2
namespace L2
open PySem PySem.Spec PyProof.Rows
def ixN (n:Nat) (i:Int):Option Nat:=if 0≤i then (if i<n then some i.toNat else none) else if -(n:Int)≤i then some (i+n).toNat else none
def atI {α:Type} (xs:List α) (i:Int):Option α:=(ixN xs.length i).bind fun j=>xs[j]?
theorem a82 {n:Nat} {i:Int} {j:Nat} (h:ixN n i=some j):seqIndex? i n=some j∧j<n ∧ -(n:Int)≤i∧i<n:=by
 unfold ixN at h
 by_cases h0:0≤i
 ·rw [if_pos h0] at h
  by_cases h1:i<n
  ·rw [if_pos h1] at h
   have e:i.toNat=j:=Option.some.inj h
   exact ⟨by rw [seqIndex_of h0 h1,e],by omega,by omega,h1⟩
  ·rw [if_neg h1] at h;cases h
 ·rw [if_neg h0] at h
  by_cases h1 : -(n:Int)≤i
  ·rw [if_pos h1] at h
   have e:(i+n).toNat=j:=Option.some.inj h
   exact ⟨by rw [seqIndex_neg (by omega) h1,e],by omega,h1,by omega⟩
  ·rw [if_neg h1] at h;cases h
theorem a83 {α:Type} {xs:List α} {i:Int} {v:α} (h:atI xs i=some v):∃ j,seqIndex? i xs.length=some j∧xs[j]? = some v∧j<xs.length ∧ -(xs.length:Int)≤i∧i<xs.length:=by
 unfold atI at h
 cases e:ixN xs.length i with
 | none=>rw [e] at h;cases h
 | some j =>
  rw [e] at h
  obtain ⟨h1,h2,h3,h4⟩:=a82 e
  exact ⟨j,h1,h,h2,h3,h4⟩
theorem u9 {α:Type} {xs:List α} {j:Nat} {v:α} (h:xs[j]? = some v):atI xs (j:Int)=some v:=by
 have hj:j<xs.length:=(List.getElem?_eq_some_iff.mp h).1
 have e:ixN xs.length (j:Int)=some j:=by
  unfold ixN
  rw [if_pos (by omega),if_pos (by omega)];simp
 unfold atI;rw [e];exact h
def a84 (b:Expr):Prop:=∀ o i,subscripted b false o i=operate [o,i] (getItem o i)
def IxR (X:Cx) (r:R2):Prop :=
 ∀ (value slice:Expr) (pins:List (Addr × Obj)) (s:Shared) (σ:St) (H:Hp) (x y:V) (v u:Value) (Q:VK),Inv X pins σ H s→RelV x v→RelV y u→r x y H Q →
  subscripted slice false v u=operate [v,u] (getItem v u)→wpAny (model X.prog X.w) X.A (subscriptTail value slice v u) (EP X pins σ Q) X.xe s
def MtR (X:Cx) (id:String) (r:V→List V→Hp→VK→Prop):Prop :=
 ∀ (pins:List (Addr × Obj)) (s:Shared) (σ:St) (H:Hp) (x:V) (xs:List V) (v:Value) (us:List Value) (Q:VK),Inv X pins σ H s→RelV x v→Vals xs us→r x xs H Q →
  wpAny (model X.prog X.w) X.A (call (.builtin id) (v::us)) (EP X pins σ Q) X.xe s
section
variable {X:Cx} {a b:Expr} {ta tb:TE} {pos:Pos}
theorem IxR.or {r r':R2} (h:IxR X r) (h':IxR X r'):IxR X (fun x y H Q=>r x y H Q∨r' x y H Q):=by
 intro value slice pins s σ H x y v u Q I rx ry q hs
 rcases q with q | q
 ·exact h value slice pins s σ H x y v u Q I rx ry q hs
 ·exact h' value slice pins s σ H x y v u Q I rx ry q hs
theorem aqm {r:R2} (hr:IxR X r) (ha:PE X a ta) (hb:PE X b tb) (hs:a84 b):PE X (.Subscript a b pos) (tOp r ta tb):=by
 intro pins s σ H Q I h
 exact Subscript_ (aqe ha hb I h fun v u s2 x y H2 I2 rx ry q=>hr a b pins s2 σ H2 x y v u Q I2 rx ry q (hs _ _))
def as3 (K:PySem.W.Frag):R2:=fun x y H Q=>∃ p xs i v,x = .ref p∧y = .int i∧SqL K H p xs∧atI xs i=some v∧Q v H
def as4 (K:PySem.W.Frag):R2:=fun x y H Q=>∃ p xs i v,x = .ref p∧y = .int i∧SqT K H p xs∧atI xs i=some v∧Q v H
def as5:R2:=fun x y H Q=>∃ z i c,x = .str z∧y = .int i∧z.length≤sizeLine∧atI z.cps.toList i=some c∧Q (.str ⟨#[c]⟩) H
theorem aj2:IxR X (as3 X.K):=by
 intro value slice pins s σ H x y v u Q I rx ry h hs
 obtain ⟨p,xs,i,z,rfl,rfl,hq,he,q⟩:=h
 cases rx
 obtain ⟨t,rfl⟩:=ry
 obtain ⟨its,r,pl,hz⟩:=I.list hq
 obtain ⟨j,h1,h2,h3,h4,h5⟩:=a83 he
 obtain ⟨w,ew,rw'⟩:=r.get h2
 have hl:=r.length
 have hn:=a3h
 have fin:EP X pins σ Q w s:=⟨z,H,I,rw',q⟩
 by_cases h0:0≤i
 ·have hj:i.toNat=j:=by
   rw [seqIndex_of h0 h5] at h1
   exact Option.some.inj h1
  exact item_listR pl.isList h0 (by omega) (by rw [hj];simpa using ew) fin hs
 ·have hj:(i+(its.toArray.size:Int)).toNat=j:=by
   rw [seqIndex_neg (by omega) h4] at h1
   rw [List.size_toArray,← hl]
   exact Option.some.inj h1
  exact subscriptTail_builtinR (x:=w) pl.isList.typeIs slot_list_getitem.lookup
   (wpAny_getItem_list_neg (Q:=fun r s'=>r=w∧EP X pins σ Q r s') pl.isList (by omega) (by rw [List.size_toArray]<;>omega) (by omega) (by rw [hj];simpa using ew) ⟨rfl,fin⟩) hs
theorem a0b:IxR X (as4 X.K):=by
 intro value slice pins s σ H x y v u Q I rx ry h hs
 obtain ⟨p,xs,i,z,rfl,rfl,hq,he,q⟩:=h
 cases rx
 obtain ⟨t,rfl⟩:=ry
 obtain ⟨its,r,pl,hz⟩:=I.tuple hq
 obtain ⟨j,h1,h2,h3,h4,h5⟩:=a83 he
 obtain ⟨w,ew,rw'⟩:=r.get h2
 have hl:=r.length
 have hn:=a3h
 have fin:EP X pins σ Q w s:=⟨z,H,I,rw',q⟩
 exact subscriptTail_builtinR (x:=w) pl.typeIs slot_tuple_getitem.lookup
  (getItem_tuple (j:=j) (Q:=fun r s'=>r=w∧EP X pins σ Q r s') pl (by omega) (by omega) (by rw [List.size_toArray,← hl];exact h1) (by simpa using ew) ⟨rfl,fin⟩) hs
theorem ams:IxR X as5:=by
 intro value slice pins s σ H x y v u Q I rx ry h hs
 obtain ⟨z,i,c,rfl,rfl,hz,he,q⟩:=h
 obtain ⟨t,rfl⟩:=rx
 obtain ⟨t',rfl⟩:=ry
 obtain ⟨j,h1,h2,h3,h4,h5⟩:=a83 he
 have hl:z.cps.toList.length=z.length:=by simp [Str.length]
 rw [hl] at h1 h4 h5
 have hn:=a3h
 exact tail_any (typeIs_str s z t) slot_str_getitem.lookup (getItem_str (c:=c) (by
  have e1:decide (i < -(2 ^ 63:Int))=false:=decide_eq_false (by omega)
  have e2:decide (i≥2 ^ 63)=false:=decide_eq_false (by omega)
  rw [e1,e2,Bool.or_false]) (by rw [h1];simpa using h2) ⟨.str ⟨#[c]⟩,H,I.tok _,⟨_,rfl⟩,q⟩) hs
def rIx (K:PySem.W.Frag):R2:=fun x y H Q=>as3 K x y H Q∨as4 K x y H Q∨as5 x y H Q
theorem amt:IxR X (rIx X.K):=aj2.or (a0b.or ams)
theorem aa4 (its:List Value) (n j:Nat) (u:Value):Obj.mapSeq (·.setIfInBounds j u) { cls:=.type "list",data:=.seq its.toArray n }={ cls:=.type "list",data:=.seq (its.set j u).toArray n }:=by
 simp [Obj.mapSeq]
theorem Inv.lst {pins:List (Addr × Obj)} {σ:St} {H:Hp} {s:Shared} {p:Addr} {xs:List V} (I:Inv X pins σ H s) (h:H p=some (.lst xs)) :
  ∃ (its:List Value) (n:Nat),Vals xs its∧s.heap.get? p=some { cls:=.type "list",data:=.seq its.toArray n }∧xs.length≤sizeLine:=by
 obtain ⟨z,its,n,r,e⟩:=I.hok p _ h
 exact ⟨its,n,r,e,z⟩
theorem Inv.lstUpd {pins:List (Addr × Obj)} {σ:St} {H:Hp} {s:Shared} {p:Addr} {xs ys:List V} {its its':List Value} {n n':Nat} {f:Obj→Obj} (I:Inv X pins σ H s) (h:H p=some (.lst xs))
  (ho:s.heap.get? p=some { cls:=.type "list",data:=.seq its.toArray n }) (hf:f { cls:=.type "list",data:=.seq its.toArray n }={ cls:=.type "list",data:=.seq its'.toArray n' }) (r:Vals ys its') (hz:ys.length≤sizeLine) (t:Nat) :
  Inv X pins σ (upd H p (.lst ys)) { s with heap:=s.heap.update p f,toks:=t }:=by
 have e:(s.heap.update p f).get? p=some { cls:=.type "list",data:=.seq its'.toArray n' }:=by
  rw [Heap.get?_update_self f ho (by rw [hf]<;>rfl),hf]
 refine I.write (x:=p) (e:=p) (by rw [h];trivial) (.inl rfl) (fun b u hb q=>(Heap.get?_update_other _ _ (Ne.symm hb)).trans q) ⟨_,e⟩ ?_
 exact ⟨hz,its',n',r,e⟩
def amu:V→V→V→Hp→(Hp→Prop)→Prop:=fun o i v H Q=>∃ p xs k j,o = .ref p∧i = .int k∧H p=some (.lst xs)∧ixN xs.length k=some j∧Q (upd H p (.lst (xs.set j v)))
theorem set_list:aru X amu:=by
 intro pins s σ H o i v ov iv u Q I ro ri rv h
 obtain ⟨p,xs,k,j,rfl,rfl,hp,hj,q⟩:=h
 cases ro
 obtain ⟨t,rfl⟩:=ri
 obtain ⟨its,n,r,ho,hz⟩:=I.lst hp
 obtain ⟨h1,h2,h3,h4⟩:=a82 hj
 have hl:=r.length
 have hn:=a3h
 have I':Inv X pins σ (upd H p (.lst (xs.set j v))) { s with heap:=s.heap.update p (Obj.mapSeq (·.setIfInBounds j u)) } :=
  I.lstUpd hp ho (aa4 its n j u) (r.set rv j) (by rw [List.length_set];exact hz) s.toks
 by_cases h0:0≤k
 ·have hk:k.toNat=j:=by
   rw [seqIndex_of h0 h4] at h1
   exact Option.some.inj h1
  exact PySem.W.ki_setAt ho h0 (by omega) (by rw [List.size_toArray,← hl];exact h4) (by rw [hk];exact ⟨_,I',q⟩)
 ·have hk:(k+(its.toArray.size:Int)).toNat=j:=by
   rw [seqIndex_neg (by omega) h3] at h1
   rw [List.size_toArray,← hl]
   exact Option.some.inj h1
  exact PySem.W.ki_setBack ho (by omega) (by rw [List.size_toArray,← hl];exact h3) (by omega) (by rw [hk];exact ⟨_,I',q⟩)
theorem a70 (lo hi:Option Int) (n:Nat):(sliceBounds lo hi none n).1=((HT.sIx n 0 lo:Nat):Int)∧(sliceBounds lo hi none n).2.1=((HT.sIx n n hi:Nat):Int)∧(sliceBounds lo hi none n).2.2=1:=by
 refine ⟨?_,?_,rfl⟩
 ·cases lo with
  | none=>simp [sliceBounds,HT.sIx]
  | some i =>
   simp only [sliceBounds,HT.sIx,Option.getD_none,show (1:Int) > 0 by decide,if_true]
   by_cases h:i<0
   ·simp only [h,if_true]<;>omega
   ·simp only [h,if_false]<;>omega
 ·cases hi with
  | none=>simp [sliceBounds,HT.sIx]
  | some i =>
   simp only [sliceBounds,HT.sIx,Option.getD_none,show (1:Int) > 0 by decide,if_true]
   by_cases h:i<0
   ·simp only [h,if_true]<;>omega
   ·simp only [h,if_false]<;>omega
theorem a5l (its:List Value) (lo hi:Option Int):slicePick its.toArray lo hi none=((its.drop (HT.sIx its.length 0 lo)).take (HT.sIx its.length its.length hi - HT.sIx its.length 0 lo)).toArray:=by
 obtain ⟨h1,h2,h3⟩:=a70 lo hi its.toArray.size
 unfold slicePick
 rw [h1,h2,h3]
 simp only [sliceRange_one,pick_run,List.size_toArray]<;>rfl
def aqn (K:PySem.W.Frag):V→Option Int→Option Int→Hp→VK→Prop:=fun x lo hi H Q=>∃ a xs,x = .ref a∧SqL K H a xs∧∀ p,H p=none→Q (.ref p) (upd H p (.lst (ahf xs lo hi)))
theorem aj3:SlR X (aqn X.K):=by
 intro pins s σ H x v vl vu lo hi sl Q I rx hs pl pu h
 obtain ⟨a,xs,rfl,hx,q⟩:=h
 cases rx
 obtain ⟨its,r,ht,hz⟩:=I.list hx
 have hlen:=r.length
 refine ⟨"list",_,slot_list_getitem.lookup,ht.isList.typeIs,?_⟩
 refine wpAny_getItem_list_slice ht.isList hs pl pu .none (by simp) ?_ (by rw [List.size_toArray]<;>omega)
 rw [a5l,← hlen]
 refine ⟨.ref s.heap.objs.size,_,I.laid (t':=s.toks) (o:=.lst (ahf xs lo hi)) (fun b ob q=>Heap.get?_push_of_some _ q) (Nat.le_refl _) ?_,rfl,q _ (I.hok.fresh (Nat.le_refl _))⟩
 exact ⟨Nat.le_trans (a3j xs lo hi) hz,_,0,(r.drop (HT.sIx xs.length 0 lo)).take (HT.sIx xs.length xs.length hi - HT.sIx xs.length 0 lo),Heap.get?_push_size _ rfl⟩
def a0i:V→Bool
 | .non=>true
 | .bl _=>true
 | .int _=>true
 | .str _=>true
 | _=>false
def eqV:V→V→Bool
 | .non, .non=>true
 | .bl a, .bl b=>a == b
 | .bl a, .int b=>(if a then 1 else 0) == b
 | .int a, .bl b=>a == (if b then 1 else 0)
 | .int a, .int b=>a == b
 | .str a, .str b=>a == b
 | _,_=>false
theorem abt {A:Around} {s:Shared} {y x:V} {u v:Value} (ry:RelV y u) (rx:RelV x v) (fy:a0i y=true) (fx:a0i x=true):SeqAt.EqAt A s u v (eqV y x):=by
 cases y with
 | non =>
  cases ry
  cases x with
  | non=>cases rx;exact SeqAt.EqAt.same _
  | bl b=>cases rx;exact SeqAt.EqAt.none_bool b
  | int b=>obtain ⟨t,rfl⟩:=rx;exact SeqAt.EqAt.none_int b t
  | str b=>obtain ⟨t,rfl⟩:=rx;exact SeqAt.EqAt.none_str b t
  | _=>exact absurd (show false=true from fx) Bool.false_ne_true
 | bl a =>
  cases ry
  cases x with
  | non=>cases rx;exact SeqAt.EqAt.bool_none a
  | bl b=>cases rx;exact SeqAt.EqAt.bool_bool a b
  | int b=>obtain ⟨t,rfl⟩:=rx;exact SeqAt.EqAt.bool_int a b t
  | str b=>obtain ⟨t,rfl⟩:=rx;exact SeqAt.EqAt.bool_str a b t
  | _=>exact absurd (show false=true from fx) Bool.false_ne_true
 | int a =>
  obtain ⟨t',rfl⟩:=ry
  cases x with
  | non=>cases rx;exact SeqAt.EqAt.int_none a t'
  | bl b=>cases rx;exact SeqAt.EqAt.int_bool a t' b
  | int b=>obtain ⟨t,rfl⟩:=rx;exact SeqAt.EqAt.int_int a t' b t
  | str b=>obtain ⟨t,rfl⟩:=rx;exact SeqAt.EqAt.int_str a t' b t
  | _=>exact absurd (show false=true from fx) Bool.false_ne_true
 | str a =>
  obtain ⟨t',rfl⟩:=ry
  cases x with
  | non=>cases rx;exact SeqAt.EqAt.str_none a t'
  | bl b=>cases rx;exact SeqAt.EqAt.str_bool a t' b
  | int b=>obtain ⟨t,rfl⟩:=rx;exact SeqAt.EqAt.str_int a t' b t
  | str b=>obtain ⟨t,rfl⟩:=rx;exact SeqAt.EqAt.str_str a t' b t
  | _=>exact absurd (show false=true from fx) Bool.false_ne_true
 | _=>exact absurd (show false=true from fy) Bool.false_ne_true
def eqU (x:V) (u:Value):Bool:=match u with
 | .none=>eqV .non x
 | .bool b=>eqV (.bl b) x
 | .int i _=>eqV (.int i) x
 | .str z _=>eqV (.str z) x
 | _=>false
theorem ahg {x y:V} {u:Value} (r:RelV y u) (f:a0i y=true):eqU x u=eqV y x:=by
 cases y with
 | non=>cases r;rfl
 | bl b=>cases r;rfl
 | int i=>obtain ⟨t,rfl⟩:=r;rfl
 | str z=>obtain ⟨t,rfl⟩:=r;rfl
 | _=>exact absurd (show false=true from f) Bool.false_ne_true
theorem a3k {x:V}:∀ {xs:List V} {us:List Value},Vals xs us→xs.all a0i=true→us.any (eqU x)=xs.any fun y=>eqV y x
 | _,_, .nil,_=>rfl
 | y::xs,u::us, .cons r t,f=>by
  rw [List.all_cons,Bool.and_eq_true] at f
  rw [List.any_cons,List.any_cons,ahg r f.1,a3k t f.2]
theorem a0s {A:Around} {s:Shared} {x:V} {v:Value} (rx:RelV x v) (fx:a0i x=true):∀ {xs:List V} {us:List Value},Vals xs us→xs.all a0i=true→∀ u∈us,SeqAt.EqAt A s u v (eqU x u)
 | _,_, .nil,_=>fun u hu=>by cases hu
 | y::xs,u::us, .cons r t,f=>fun u' hu=>by
  rw [List.all_cons,Bool.and_eq_true] at f
  rcases List.mem_cons.mp hu with rfl | hu
  ·rw [ahg r f.1];exact abt r rx f.1 fx
  ·exact a0s rx fx t f.2 u' hu
def inV (x:V) (xs:List V):Bool:=xs.any fun y=>eqV y x
def rIn (K:PySem.W.Frag) (neg:Bool):R2:=fun x y H Q=>∃ p xs,y = .ref p∧(SqL K H p xs∨SqT K H p xs)∧a0i x=true∧xs.all a0i=true∧Q (.bl (if neg then !inV x xs else inV x xs)) H
theorem abu:OpR X (compareOp .In) (rIn X.K false):=by
 intro pins s σ H x y v u Q I rx ry h
 obtain ⟨p,xs,rfl,hq,fx,fs,q⟩:=h
 cases ry
 rcases hq with hq | hq
 ·obtain ⟨its,r,pl,hz⟩:=I.list hq
  refine SeqAt.in_listAt (eqU x) pl.isList (fun w hw=>a0s rx fx r fs w (by simpa using hw)) ⟨.bl _,H,I,rfl,?_⟩
  rw [show its.toArray.any (eqU x)=its.any (eqU x) by simp,a3k r fs]
  exact q
 ·obtain ⟨its,r,pl,hz⟩:=I.tuple hq
  refine SeqAt.in_tupleAt (eqU x) pl (fun w hw=>a0s rx fx r fs w (by simpa using hw)) ⟨.bl _,H,I,rfl,?_⟩
  rw [show its.toArray.any (eqU x)=its.any (eqU x) by simp,a3k r fs]
  exact q
theorem a2e:OpR X (compareOp .NotIn) (rIn X.K true):=by
 intro pins s σ H x y v u Q I rx ry h
 obtain ⟨p,xs,rfl,hq,fx,fs,q⟩:=h
 cases ry
 rcases hq with hq | hq
 ·obtain ⟨its,r,pl,hz⟩:=I.list hq
  refine SeqAt.notIn_listAt (eqU x) pl.isList (fun w hw=>a0s rx fx r fs w (by simpa using hw)) ⟨.bl _,H,I,rfl,?_⟩
  rw [show its.toArray.any (eqU x)=its.any (eqU x) by simp,a3k r fs]
  exact q
 ·obtain ⟨its,r,pl,hz⟩:=I.tuple hq
  refine SeqAt.notIn_tupleAt (eqU x) pl (fun w hw=>a0s rx fx r fs w (by simpa using hw)) ⟨.bl _,H,I,rfl,?_⟩
  rw [show its.toArray.any (eqU x)=its.any (eqU x) by simp,a3k r fs]
  exact q
theorem gj:CallR X (.builtin "len") (fun xs H Q=>∃ p ys,xs=[.ref p]∧(SqL X.K H p ys∨SqT X.K H p ys)∧Q (.int ys.length) H):=by
 intro pins s σ H xs us Q I r h
 obtain ⟨p,ys,rfl,hq,q⟩:=h
 obtain ⟨u,rfl,rx⟩:=vals1 r
 cases rx
 have hn:=a3h
 rcases hq with hq | hq
 ·obtain ⟨its,r',pl,hz⟩:=I.list hq
  have hlen:=r'.length
  exact Calls.call_len_list pl.isList (by simp only [List.size_toArray]<;>omega) ⟨.int ys.length,H,I.tok _,⟨s.toks+1,by rw [List.size_toArray,hlen]⟩,q⟩
 ·obtain ⟨its,r',pl,hz⟩:=I.tuple hq
  have hlen:=r'.length
  exact len_tuple pl (by simp only [List.size_toArray]<;>omega) ⟨.int ys.length,H,I.tok _,⟨s.toks+1,by rw [List.size_toArray,hlen]⟩,q⟩
theorem gk:CallR X (.builtin "len") (fun xs H Q=>∃ z,xs=[.str z]∧z.length≤sizeLine∧Q (.int z.length) H):=by
 intro pins s σ H xs us Q I r h
 obtain ⟨z,rfl,hz,q⟩:=h
 obtain ⟨u,rfl,t,rfl⟩:=vals1 r
 have hn:=a3h
 exact len_str (by omega) ⟨.int z.length,H,I.tok _,⟨_,rfl⟩,q⟩
theorem CallR.or {f:Value} {r r':List V→Hp→VK→Prop} (h:CallR X f r) (h':CallR X f r'):CallR X f (fun xs H Q=>r xs H Q∨r' xs H Q):=by
 intro pins s σ H xs us Q I rs q
 rcases q with q | q
 ·exact h pins s σ H xs us Q I rs q
 ·exact h' pins s σ H xs us Q I rs q
theorem kj:CallR X (.type "tuple") (fun xs H Q=>∃ p ys,xs=[.ref p]∧((SqL X.K H p ys∧∀ l,H l=none→Q (.ref l) (upd H l (.tup ys)))∨(SqT X.K H p ys∧Q (.ref p) H))):=by
 intro pins s σ H xs us Q I r h
 obtain ⟨p,ys,rfl,h⟩:=h
 obtain ⟨u,rfl,rx⟩:=vals1 r
 cases rx
 rcases h with ⟨hq,q⟩ | ⟨hq,q⟩
 ·obtain ⟨its,r',pl,hz⟩:=I.list hq
  have hlen:=r'.length
  refine call_tuple_list pl.isList (fun h' kp=>?_) (by simp only [List.size_toArray]<;>omega)
  have I1:Inv X pins σ H { s with heap:=h' }:=I.kept (t':=s.toks) kp
  have I2:Inv X pins σ (upd H h'.objs.size (.tup ys)) { s with heap:=h'.push { cls:=.type "tuple",data:=.seq its.toArray } } :=
   I1.laid (t':=s.toks) (fun b o e=>Heap.get?_push_of_some _ e) (Nat.le_refl _) (show ObjOk X.prog X.w _ _ _ (.tup ys) from ⟨hz,its,r',IsTup.new _ _⟩)
  exact ⟨.ref h'.objs.size,_,I2,rfl,q _ (I1.hok.fresh (Nat.le_refl _))⟩
 ·obtain ⟨its,r',pl,hz⟩:=I.tuple hq
  exact call_tuple_same pl ⟨.ref p,H,I,rfl,q⟩
def tyV (K:PySem.W.Frag) (T:String) (x:V) (H:Hp):Prop:=match x with
 | .str _=>T = "str"
 | .int _=>T = "int"
 | .ref p=>(T = "list"∧∃ xs,SqL K H p xs)∨(T = "tuple"∧∃ o,K.lookup p=some o∧o.cls = .type "tuple"∧o.dict=none) ∨
   (T = "dict"∧((∃ kvs,H p=some (.dK kvs))∨∃ kvs,H p=some (.dT kvs)))∨(T = "set"∧∃ S n,H p=some (.set S n))
 | _=>False
theorem ahh {pins:List (Addr × Obj)} {σ:St} {H:Hp} {s:Shared} {T:String} {x:V} {v:Value} (I:Inv X pins σ H s) (r:RelV x v) (ty:tyV X.K T x H) :
  s.TypeIs v T∧∀ a,v = .ref a→∃ ob,s.heap.get? a=some ob∧ob.dict=none:=by
 cases x with
 | str z =>
  obtain ⟨t,rfl⟩:=r
  cases (show T = "str" from ty)
  exact ⟨typeIs_str s z t,fun _ e=>nomatch e⟩
 | int i =>
  obtain ⟨t,rfl⟩:=r
  cases (show T = "int" from ty)
  exact ⟨typeIs_int s i t,fun _ e=>nomatch e⟩
 | ref p =>
  cases r
  rcases ty with ⟨rfl,xs,hq⟩ | ⟨rfl,o,hk,hc,hd⟩ | ⟨rfl,hk⟩ | ⟨rfl,S,n,hk⟩
  ·obtain ⟨its,_,pl,_⟩:=I.list hq
   refine ⟨pl.isList.typeIs,fun a e=>?_⟩
   cases e
   obtain ⟨o,n,e,c,hd,_⟩:=pl
   exact ⟨o,e,hd⟩
  ·refine ⟨⟨o,I.kIn p o hk,hc⟩,fun a e=>?_⟩
   cases e
   exact ⟨o,I.kIn _ o hk,hd⟩
  ·have z:∃ o,s.heap.get? p=some o∧o.ExactDict:=by
    rcases hk with ⟨kvs,hk⟩ | ⟨kvs,hk⟩
    ·obtain ⟨_,_,_,_,o,_,_,e,ex,_⟩:=I.hok p _ hk
     exact ⟨o,e,ex⟩
    ·obtain ⟨_,_,_,_,o,_,_,e,ex,_⟩:=I.hok p _ hk
     exact ⟨o,e,ex⟩
   obtain ⟨o,e,ex⟩:=z
   refine ⟨⟨o,e,ex.1⟩,fun a e2=>?_⟩
   cases e2
   exact ⟨o,e,ex.2.1⟩
  ·obtain ⟨o,_,_,_,e,ex,_⟩:=I.hok p _ hk
   refine ⟨⟨o,e,ex.1⟩,fun a e2=>?_⟩
   cases e2
   exact ⟨o,e,ex.2.1⟩
 | _=>exact False.elim ty
def tBM (K:PySem.W.Frag) (T:String) (r:V→List V→Hp→VK→Prop) (to:TE) (t:TA):TE:=fun σ H Q=>to σ H fun x H1=>tyV K T x H1∧t σ H1 fun xs H2=>r x xs H2 Q
variable {o e:Expr} {es:List Expr} {to:TE} {t:TA} {name:Str} {apos cpos:Pos} {T id:String} {r:V→List V→Hp→VK→Prop}
theorem aqo (pa:PlainAttrs T) (slot:Slot T name id) (hty:typeOf (.builtin id)=pure (.type "method_descriptor")) (hm:MtR X id r) (ho:PE X o to) (ha:PA X (e::es) t)
  (hbase:attributeBase o name X.env (eval o X.env)=eval o X.env:=by rfl)
  (hfew:((backTo cpos (starEach (e::es) X.env)).all (fun x => !x.1) && (backToKw cpos (keywordEach [] X.env)).all (fun x=>x.1.isSome)
   && decide ((e::es).length+([]:List Keyword).length+(if ([]:List Keyword).isEmpty then 0 else 1)<30))=true:=by rfl)
  (hline:(apos.endLine == cpos.line)=true:=by rfl) (hs:starEach (e::es) X.env=(false,eval e X.env)::starEach es X.env:=by rfl) (hplain:(backTo cpos (starEach es X.env)).any (·.1)=false:=by rfl) :
  PE X (.Call (.Attribute o name apos) (e::es) [] cpos) (tBM X.K T r to t):=by
 intro pins s σ H Q I h
 refine wpAny_Call_method_late hbase hfew hline rfl (thn (ho pins s σ H _ I h) fun v s1 ⟨x,H1,I1,r1,ty,q1⟩=>?_)
 obtain ⟨h1,h2⟩:=ahh I1 r1 ty
 refine ⟨T,id,pa,slot,hty,h1,h2,?_⟩
 have hA:=ha cpos pins s1 σ H1 _ I1 q1
 rw [hs] at hA ⊢
 refine Calls.callWith_builtin (by show (false || (backTo cpos (starEach es X.env)).any (·.1))=false;rw [hplain]<;>rfl) (Calls.evalArgs_plain ?_)
 exact thn hA fun us s2 ⟨vs,H2,I2,r2,q2⟩=>hm pins s2 σ H2 x vs v us Q I2 r1 r2 q2
end
end L2
namespace L2
open PySem PySem.Spec PyProof.Rows
def MtM (X:Cx) (id:String) (r:V→List V→Hp→VK→Prop):Prop :=
 ∀ (pins:List (Addr × Obj)) (s:Shared) (σ:St) (H:Hp) (x:V) (xs:List V) (v:Value) (us:List Value) (Q:VK),Inv X pins σ H s→RelV x v→Vals xs us→r x xs H Q →
  wpAny (model X.prog X.w) X.A (call (.builtin id) (v::us)) (EP X pins σ Q) X.xe s
theorem Vals.one:∀ {x:V} {us:List Value},Vals [x] us→∃ u,us=[u]∧RelV x u
 | _,_, .cons r .nil=>⟨_,rfl,r⟩
theorem Vals.eraseIdx:∀ {xs:List V} {us:List Value} (i:Nat),Vals xs us→Vals (xs.eraseIdx i) (us.eraseIdx i)
 | _,_,_, .nil=>.nil
 | _,_,0, .cons _ t=>t
 | _,_,i+1, .cons r t=>.cons r (Vals.eraseIdx i t)
theorem Vals.rep {xs:List V} {us:List Value} (h:Vals xs us):∀ k:Nat,Vals (List.replicate k xs).flatten (List.replicate k us).flatten
 | 0=>.nil
 | k+1=>by
  rw [List.replicate_succ,List.replicate_succ,List.flatten_cons,List.flatten_cons]
  exact Vals.append h (Vals.rep h k)
theorem a71 {α:Type}:∀ (l:List α) (i:Nat),(l.eraseIdx i).length≤l.length
 | [],_=>Nat.le_refl _
 | _::_,0=>Nat.le_succ _
 | _::r,i+1=>Nat.succ_le_succ (a71 r i)
theorem foldl_rep (its:List Value):∀ (k:Nat) (acc:List Value),
  List.foldl (fun x1 x2=>x1++x2) acc.toArray (List.replicate k its.toArray)=(acc++(List.replicate k its).flatten).toArray
 | 0,acc=>by simp
 | k+1,acc=>by
  have e:acc.toArray++its.toArray=(acc++its).toArray:=by simp
  have e2:(acc++its)++(List.replicate k its).flatten=acc++(List.replicate (k+1) its).flatten:=by
   rw [List.replicate_succ,List.flatten_cons,List.append_assoc]
  rw [← e2,← foldl_rep its k (acc++its),← e,List.replicate_succ,List.foldl_cons]
section
variable {X:Cx} {pins:List (Addr × Obj)} {σ:St} {H:Hp} {s:Shared} {l b:Addr} {xs ys zs:List V}
theorem Inv.lset {its its':List Value} {n:Nat} {f:Array Value→Array Value} {t':Nat} (I:Inv X pins σ H s) (hH:H l=some (.lst xs))
  (e:s.heap.get? l=some { cls:=.type "list",data:=.seq its.toArray n }) (hf:f its.toArray=its'.toArray) (hv:Vals ys its') (hz:ys.length≤sizeLine) :
  Inv X pins σ (upd H l (.lst ys)) { s with heap:=s.heap.update l (Obj.mapSeq f),toks:=t' }:=by
 have q:=PySem.IsL.update e f
 rw [hf] at q
 refine I.write (x:=l) (e:=l) (by rw [hH];exact trivial) (.inl rfl) (fun b' u hb hu=>(Heap.get?_update_other s.heap (Obj.mapSeq f) (Ne.symm hb)).trans hu) ⟨_,q⟩ ?_
 exact ⟨hz,its',_,hv,q⟩
theorem Inv.lnew {its:List Value} {t':Nat} (I:Inv X pins σ H s) (hv:Vals ys its) (hz:ys.length≤sizeLine) :
  Inv X pins σ (upd H s.heap.objs.size (.lst ys)) { s with heap:=s.heap.push { cls:=.type "list",data:=.seq its.toArray },toks:=t' } :=
 I.laid (fun _ _ q=>Heap.get?_push_of_some _ q) (Nat.le_refl _) ⟨hz,its,0,hv,Heap.get?_push_size _ rfl⟩
theorem Inv.fresh (I:Inv X pins σ H s):H s.heap.objs.size=none:=I.hok.fresh (Nat.le_refl _)
theorem Inv.lstM (I:Inv X pins σ H s) (hH:H l=some (.lst xs)):xs.length≤sizeLine∧∃ (its:List Value) (n:Nat),Vals xs its∧xs.length=its.length∧s.heap.get? l=some { cls:=.type "list",data:=.seq its.toArray n }:=by
 obtain ⟨z,its,n,r,e⟩:=I.hok l _ hH
 exact ⟨z,its,n,r,r.length,e⟩
theorem af1 {n:Nat} (h:n≤sizeLine):Builtin.List.listTooLong n=false:=by
 unfold Builtin.List.listTooLong
 exact decide_eq_false (by omega)
end
section
variable {X:Cx}
def abv:V→List V→Hp→VK→Prop:=fun x vs H Q=>∃ l xs y,x = .ref l∧vs=[y]∧H l=some (.lst xs)∧xs.length<sizeLine∧Q .non (upd H l (.lst (xs++[y])))
theorem ph:MtM X "list.append" abv:=by
 intro pins s σ H x vs v us Q I rx rv h
 obtain ⟨l,xs,y,rfl,rfl,hH,hz,q⟩:=h
 cases rx
 obtain ⟨u,rfl,ru⟩:=rv.one
 obtain ⟨z,its,n,r,hl,e⟩:=I.lstM hH
 refine call_meets F.slot_list_append ⟨_,e,rfl⟩ F.entry_list_append (F.args_list_append_2 _ _) (PySem.list_append l its.toArray n u (by rw [List.size_toArray];omega)) ⟨e,?_⟩
 refine ⟨.non,_,I.lset (its':=its++[u]) hH e (by simp) (r.append (.cons ru .nil)) ?_,rfl,q⟩
 rw [List.length_append,List.length_singleton]
 omega
def ahi:V→List V→Hp→VK→Prop:=fun x vs H Q=>∃ l xs i k y,x = .ref l∧vs=[.int i]∧H l=some (.lst xs) ∧ -(2 ^ 63)≤i∧i<2 ^ 63∧seqIndex? i xs.length=some k∧xs[k]? = some y∧Q y (upd H l (.lst (xs.eraseIdx k)))
theorem af2:MtM X "list.pop" ahi:=by
 intro pins s σ H x vs v us Q I rx rv h
 obtain ⟨l,xs,i,k,y,rfl,rfl,hH,h1,h2,hk,hy,q⟩:=h
 cases rx
 obtain ⟨u,rfl,ru⟩:=rv.one
 obtain ⟨t,rfl⟩:=ru
 obtain ⟨z,its,n,r,hl,e⟩:=I.lstM hH
 obtain ⟨w,hw,rw'⟩:=r.get hy
 refine call_meets F.slot_list_pop ⟨_,e,rfl⟩ F.entry_list_pop (F.args_list_pop_2 _ _)
  (MeetsSeq.list_pop_at l its.toArray n i t k w (fitsIndex_both h1 h2) (by rw [List.size_toArray,← hl];exact hk) (by rw [← Array.getElem?_toList];exact hw) (by rw [List.size_toArray];omega)) ⟨e,?_⟩
 refine ⟨y,_,I.lset (its':=its.eraseIdx k) hH e ?_ (r.eraseIdx k) ?_,rw',q⟩
 ·show its.toArray.eraseIdxIfInBounds k=(its.eraseIdx k).toArray
  rw [List.eraseIdxIfInBounds_toArray]
 ·have:=a71 xs k
  omega
theorem len_rep {α:Type} (xs:List α) (k:Nat):(List.replicate k xs).flatten.length=k*xs.length:=by
 induction k with
 | zero=>simp
 | succ k ih=>rw [List.replicate_succ,List.flatten_cons,List.length_append,ih,Nat.succ_mul,Nat.add_comm]
end
end L2
namespace Att
open PySem PySem.W PySem.Calls PyProof.Rows
theorem a3l {P:Params} {h:Heap}:∀ (ns:List Int) (vs:List Value),WellAll P h vs (ns.map WData.int)→IntsAre vs ns:=by
 intro ns
 induction ns with
 | nil =>
  intro vs w
  rw [List.map_nil] at w
  cases w
  exact .nil
 | cons n ns ih =>
  intro vs w
  rw [List.map_cons] at w
  cases w with
  | cons a b =>
   cases a
   exact .cons _ _ (ih _ b)
theorem abw {l:OpenLaw} {n:Nat} (hn:l.most=some n) {P:Params} {h:Heap} {args:List WData} {vals:List Value}
  (hpre:l.row.toRowW.claim.pre args=true) (hwl:WellAll P h vals args) :
  ∃ a vs ns,vals=[Value.ref a]∧args=[WData.list (ns.map WData.int)]∧h.get? a=some { cls:=.type "list",data:=.seq vs.toArray }∧IntsAre vs ns∧ns.length≤n:=by
 have hsh:WShape.hasAll [] args [.list .int]=true:=(pre_splitW hpre).1
 have hc:l.pre.holds [] { args:=args }=true:=(pre_splitW hpre).2
 obtain ⟨d,r,rfl,h1,h2⟩:=hasAllW_cons hsh
 obtain rfl:=hasAllW_nil h2
 obtain ⟨xs,rfl,h3⟩:=hasW_list h1
 obtain ⟨ns,rfl⟩:=items_int h3
 have hlen:ns.length≤n:=by
  unfold OpenLaw.pre at hc
  have h4:(WTm.not (.lt (.lit (.int (n:Int))) (.len (.arg 0)))).holds [] { args:=[.list (ns.map .int)] }=true:=by
   have h4:=(holds_andW hc).1
   rw [hn] at h4
   exact h4
  have h5:=condW_of h4 (w_not (w_lt w_lit (w_len_list (w_arg rfl))))
  rw [List.length_map] at h5
  refine Nat.le_of_not_lt fun q=>?_
  have q':(n:Int)<((ns.length:Nat):Int):=by omega
  first
   | (rw [decide_eq_true q'] at h5;exact absurd h5 (by decide))
   | (simp at h5;omega)
 cases hwl with
 | cons w1 w2 =>
  cases w2
  cases w1 with
  | list ho hall=>exact ⟨_,_,ns,rfl,rfl,ho,a3l ns _ hall,hlen⟩
theorem abx (l:OpenLaw) (args:List WData):l.row.toRowW.claim.post args (.bool true) args=true :=
 postW_of (r:=l.row.toRowW) (X:=(true == true))
  (show WShape.has [] (.bool true) .bool=true by first | rfl | decide | simp [WShape.has,WShape.arms,WShape.armsAll])
  (show (WTm.eq .res (.lit (.bool true))).value [] { args:=args,res:=some (.bool true),after:=args }=some (.bool (true == true)) from w_eq_bool (w_res rfl) w_lit) rfl
theorem a85 {l:OpenLaw} {n:Nat} {q:Program} {loose:List Str} {XP:(Str→Option Value)→Heap→Prop} {YP:World→Heap→Prop} {d:DefRec}
  (hn:l.most=some n) (hdf:d.params.defaults=[])
  (call:∀ (w:World) (s₀ s₁:Shared) (mg mb:Str→Option Value) (fa:Addr) (o:Obj) (pm cd doc:Value) (a:Addr) (vs:List Value) (ns:List Int),
   Ground q loose [] XP w s₀ mg mb s₁.heap→YP w s₁.heap →
   s₁.heap.get? fa=some o→o.data = .func (docDef d.name d.params d.body d.scope pm cd doc)→s₁.heap.CodeRec cd d.name→mg d.name=some (.ref fa) →
   s₁.heap.get? a=some { cls:=.type "list",data:=.seq vs.toArray }→IntsAre vs ns→ns.length≤n→s₁.gens = #[] →
   codeAny (model l.prog w) callerA (.call (.ref fa) ⟨[.ref a],[]⟩) (fun r s'=>r = .ok (.ret (.bool true))∧OldK s₁.heap s'.heap∧s'.os=s₁.os∧AllBare s'.gens) s₁) :
  WalkO q loose XP YP l.row.toRowW d [] (fun f vs=>PySem.call f vs):=by
 intro w s₀ s₁ mg mb G Y fa o pm cd doc dV kV ho hd hcd hD hmg hg args vals as hpre hlay hrd hwl hlo
 obtain rfl:dV = .none:=Dflts.none hD hdf
 obtain rfl:kV = .none:=Dflts.noKw hD
 obtain ⟨a,vs,ns,rfl,rfl,hobj,hints,hlen⟩:=abw hn hpre hwl
 refine enter_call (codeAny_mono (call w s₀ s₁ mg mb fa o pm cd doc a vs ns G Y ho (fd_plain hd) hcd hmg hobj hints hlen hg) fun r s' hq=>?_)
 obtain ⟨rfl,h2,h3,h4⟩:=hq
 exact ⟨.inl ⟨.bool true, .bool true,[],rfl,fun _=>rfl, .bool true,abx l _,fun _=>⟨List.Pairwise.nil,fun _ hm=>(nomatch hm)⟩⟩,h2,h3,h4⟩
end Att
namespace L2
open PySem PySem.Spec PyProof.Rows
theorem a72:∀ {vs:List Value} {ns:List Int},IntsAre vs ns→Vals (ns.map V.int) vs
 | _,_, .nil=>.nil
 | _,_, .cons n t h=>.cons ⟨t,rfl⟩ (a72 h)
def Only (H:Hp):Prop:=∀ b,H b=none∨∃ o xs,H b=some (.frz o (.lst xs))
theorem af3 {P:Program} {w:World} {K:PySem.W.Frag} {mg mb:Str→Option Value} {CX:CXT} {k:Nat} {fa a:Addr} {fd:FuncData} {x:Str} {sp:Sp} {s₁:Shared} {vs:List Value} {ns:List Int}
  (KX:K.In s₁.heap) (hns:s₁.heap.Ns mainGlobals mg) (hb:s₁.heap.Ns builtinsNs mb) (hbb:∀ x:Str,x ≠ "__name__"→mb x=bootBuiltins x) (hlim:s₁.heap.NoLimit) (hg:s₁.gens = #[])
  (ha:s₁.heap.get? a=some { cls:=.type "list",data:=.seq vs.toArray }) (hi:IntsAre vs ns) (hl:ns.length≤sizeLine) (hr:Room k callerA)
  (F:∀ base:Heap,K.In base→base.Ns mainGlobals mg→FnOk P w K mg base CX k fa fd [x] sp) (hbind:∀ (s:Shared) (u:Value),BindsTo s fd ⟨[u],[]⟩ [(x,u)])
  (hsp:∀ H:Hp,Only H→SqL K H a (ns.map V.int)→sp [.ref a] H (fun v _=>v = .bl true) fun _ _ _=>False)
  (hCX:∀ H e s',CX [] H s₁ (fun _ _ _=>False) e s'→False) :
  codeAny (model P w) callerA (.call (.ref fa) ⟨[.ref a],[]⟩) (fun r s'=>r = .ok (.ret (.bool true))∧OldK s₁.heap s'.heap∧s'.os=s₁.os∧AllBare s'.gens) s₁:=by
 have rv:=a72 hi
 have lenV:=hi.length
 have core:∀ H:Hp,Only H→SqL K H a (ns.map V.int)→HOk P w H s₁.heap→(∀ b,H b≠none→b=a)→(H a≠none→K.lookup a=none) →
   codeAny (model P w) callerA (.call (.ref fa) ⟨[.ref a],[]⟩) (fun r s'=>r = .ok (.ret (.bool true))∧OldK s₁.heap s'.heap∧s'.os=s₁.os∧AllBare s'.gens) s₁:=by
  intro H hO hS hok hA hK
  have base_of:∀ {b:Addr} {o:Obj},s₁.heap.get? b=some o→H b=none→(aep s₁.heap H).get? b=some o:=fun e n=>aeq e n
  have noA:∀ {b:Addr} {o:Obj} {es:Array DictEntry} {ep:Nat},s₁.heap.get? b=some o→o.data = .dict es ep→H b=none:=fun {b o es ep} e d=>by
   cases q:H b with
   | none=>rfl
   | some u =>
    have e':b=a:=hA b (by rw [q];simp)
    subst e'
    rw [ha] at e;cases e
    have d':Data.seq vs.toArray _=Data.dict es ep:=d
    cases d'
  have nsK:∀ {b:Addr} {m:Str→Option Value},s₁.heap.Ns b m→(aep s₁.heap H).Ns b m:=fun {b m} ⟨o,es,ep,e,d,r⟩=>⟨o,es,ep,base_of e (noA e d),d,r⟩
  have hKb:K.In (aep s₁.heap H):=fun b o e=>base_of (KX b o e) (by
   cases q:H b with
   | none=>rfl
   | some u =>
    have e':b=a:=hA b (by rw [q];simp)
    subst e'
    rw [hK (by rw [q];simp)] at e;cases e)
  have hM:Mod K mg (aep s₁.heap H):=⟨hKb,nsK hns,⟨mb,nsK hb,hbb⟩,let ⟨mc,h1,h2⟩:=hlim; ⟨mc,nsK h1,h2⟩⟩
  have e0:Env0 P w K mg (aep s₁.heap H) callerA [] s₁ H:=⟨rfl,hM,fun b o e=>aik e,Nat.le_of_eq (ab7 _ _),trivial,fun b hb=>absurd (show b∈([]:List Addr) from hb) (by simp),hok, .of_eq hg⟩
  refine codeAny_mono ((F _ hKb (nsK hns)).run callerA [] s₁ H ⟨[.ref a],[]⟩ [.ref a] [.ref a] _ _ hr e0 (hbind s₁ (.ref a)) (.cons rfl .nil) (hsp H hO hS)) fun r s' h=>?_
  cases r with
  | error e=>exact (hCX H e s' h).elim
  | ok fl =>
   cases fl with
   | next=>exact False.elim h
   | brk=>exact False.elim h
   | cont=>exact False.elim h
   | ret u =>
    obtain ⟨v,H',os,bare,un,hok',r',q⟩:=h
    have q':v = .bl true:=q
    subst q'
    obtain rfl:u=Value.bool true:=r'
    refine ⟨rfl,OldK.of_keep fun b o e=>?_,os,bare⟩
    cases q:H b with
    | none=>exact un.keep b o e q (by intro z;exact absurd (show b∈([]:List Addr) from z) (by simp)) (by simp)
    | some u =>
     rcases hO b with z | ⟨ob,xs,z⟩
     ·rw [q] at z;cases z
     ·have z2:=un.frzs b ob _ z
      obtain ⟨e1,_⟩:=hok b _ z
      obtain ⟨e2,_⟩:=hok' b _ z2
      rw [e] at e1;cases e1
      exact e2
 cases hk:K.lookup a with
 | some o =>
  have e:=KX a o hk
  rw [ha] at e
  cases e
  refine core (fun _=>none) (fun _=>.inl rfl) (.inr ⟨_,vs.toArray,_,hk,rfl,rfl,rfl,by rw [List.size_toArray,lenV];exact hl,by simpa using rv⟩) (fun b u z=>by have z':(none:Option HO)=some u:=z;cases z') (fun b z=>absurd rfl z) fun z=>absurd rfl z
 | none =>
  refine core (fun b=>if b=a then some (.frz { cls:=.type "list",data:=.seq vs.toArray } (.lst (ns.map V.int))) else none) (fun b=>?_) (.inl (.inr ⟨{ cls:=.type "list",data:=.seq vs.toArray },if_pos rfl⟩)) (fun b u z=>?_) (fun b z=>?_) fun _=>hk
  ·by_cases hb:b=a
   ·exact .inr ⟨_,_,if_pos hb⟩
   ·exact .inl (if_neg hb)
  ·by_cases hb:b=a
   ·have z':=(if_pos hb).symm.trans z
    cases z'
    subst hb
    exact ⟨ha,by rw [List.length_map];exact hl,vs,_,rv,ha⟩
   ·have z':=(if_neg hb).symm.trans z
    cases z'
  ·by_cases hb:b=a
   ·exact hb
   ·exact absurd (if_neg hb) z
end L2
namespace L2
open PySem PySem.Spec PyProof.Rows
theorem aj4 {l:PySem.W.OpenLaw} {n k:Nat} {q:Program} {loose:List Str} {XP:(Str→Option Value)→Heap→Prop} {YP:World→Heap→Prop} {d:DefRec} {K:Params→PySem.W.Frag} {CX:World→CXT} {sp:World→Sp} {x:Str}
  (hn:l.most=some n) (hn2:n≤sizeLine) (hdf:d.params.defaults=[]) (hr:Room k callerA)
  (hY:∀ (w:World) (h:Heap),YP w h→(K w.params).In h)
  (F:∀ (w:World) (mg:Str→Option Value) (fa:Addr) (h:Heap),(K w.params).In h→h.Ns mainGlobals mg→mg d.name=some (.ref fa) →
   ∃ fd:FuncData,(∀ (s:Shared) (u:Value),BindsTo s fd ⟨[u],[]⟩ [(x,u)]) ∧
    ∀ base:Heap,(K w.params).In base→base.Ns mainGlobals mg→FnOk l.prog w (K w.params) mg base (CX w) k fa fd [x] (sp w))
  (hsp:∀ (w:World) (H:Hp) (a:Addr) (ns:List Int),ns.length≤n→Only H→SqL (K w.params) H a (ns.map V.int)→sp w [.ref a] H (fun v _=>v = .bl true) fun _ _ _=>False)
  (hCX:∀ (w:World) (H:Hp) (s:Shared) (e:Value) (s':Shared),CX w [] H s (fun _ _ _=>False) e s'→False) :
  PySem.W.WalkO q loose XP YP l.row.toRowW d [] (fun f vs=>PySem.call f vs):=by
 refine Att.a85 hn hdf fun w s₀ s₁ mg mb fa o pm cd doc a vs ns G Y ho hd hcd hmg hobj hints hlen hg=>?_
 have KX:=hY w _ Y
 obtain ⟨fd,hb,hF⟩:=F w mg fa _ KX G.T.g hmg
 exact af3 KX G.T.g G.T.b G.T.builtins G.T.nolimit hg hobj hints (Nat.le_trans hlen hn2) hr hF hb (fun H hO hS=>hsp w H a ns hlen hO hS) fun H e s'=>hCX w H s₁ e s'
end L2
namespace L2
open PySem PySem.Spec PyProof.Rows
def a1k (s:Stmt):Arguments:=match s with
 | .FunctionDef _ a _ _ _ _ _ _ _ _=>a
 | _=>{ posonlyargs:=[],args:=[],vararg:=none,kwonlyargs:=[],kw_defaults:=[],kwarg:=none,defaults:=[] }
def iz (s:Stmt):List Stmt:=match s with
 | .FunctionDef _ _ b _ _ _ _ _ _ _=>b
 | _=>[]
def au (s:Stmt):Scope:=match s with
 | .FunctionDef _ _ _ _ _ _ sc _ _ _=>sc
 | _=>{ kind:=.function,names:=[],isGenerator:=false,isCoroutine:=false }
abbrev CX0:CXT:=fun _ _ _ _ _ _=>False
abbrev E0:XK:=fun _ _ _=>False
theorem af4 {X:Cx}:a3i CX0 X E0:=fun _ _ _ _ _ _ _ h=>h.elim
structure Fun (K:PySem.W.Frag) (x qual:Str) (st:Stmt) (f:Addr) (fd:FuncData):Prop where
 ex:∃ (oc:Value) (od:Option Addr) (kV doc pm:Value) (an:Option Addr) (cdv ct:Value) (osl:Array (Option Value)),
  fd=PySem.W.fnOf x qual (a1k st) (iz st) (au st) .none kV doc pm an cdv ct∧K.lookup f=some ⟨oc,od, .func fd,osl⟩∧PySem.W.codeIn K cdv qual=true
 kp:PySem.W.keepIn K (.ref f)=true
section
variable {P:Program} {w:World} {K:PySem.W.Frag} {mg:Str→Option Value} {base:Heap}
theorem Fun.ok {x qual:Str} {st:Stmt} {f:Addr} {fd:FuncData} {N ps:List Str} {k:Nat} {sp:Sp} (F:Fun K x qual st f fd) (S:FnScope N ps (au st)) (len:∀ vs H Q E,sp vs H Q E→vs.length=ps.length)
  (hbody:∀ (cdv:Value) (A:Around) (outer:List Env) (s:Shared) (H:Hp) (vs:List V) (Q:VK) (E:XK),Room k (A.deeper (envOfC qual (au st) s.heap.objs.size f cdv))→sp vs H Q E →
   ∃ t,PSs (a0q CX0 P w K mg base N qual (au st) f cdv A outer s H E).nox (iz st) t∧t { nx:=fun _ H'=>Q .non H',rt:=Q } (start N vs) H):FnOk P w K mg base CX0 (k+1) f fd ps sp:=by
 obtain ⟨oc,od,kV,doc,pm,an,cdv,ct,osl,rfl,lk,hcd⟩:=F.ex
 refine amo lk hcd S len fun A outer s H vs Q E hr hsp=>?_
 obtain ⟨t,h,q⟩:=hbody cdv A outer s H vs Q E hr hsp
 exact ⟨t,h.nox,q⟩
theorem Fun.binds {x qual:Str} {st:Stmt} {f:Addr} {fd:FuncData} {ps:List Str} (F:Fun K x qual st f fd)
  (h:∀ (kV doc pm:Value) (an:Option Addr) (cdv ct:Value) (us:List Value),us.length=ps.length→bindArgs (PySem.W.fnOf x qual (a1k st) (iz st) (au st) .none kV doc pm an cdv ct) ⟨us,[]⟩=pure (ps.zip us)):Binds K fd ps []:=by
 obtain ⟨oc,od,kV,doc,pm,an,cdv,ct,osl,rfl,lk,hcd⟩:=F.ex
 exact .all (h kV doc pm an cdv ct)
theorem nj {x qual:Str} {st:Stmt} {f:Addr} {oc:Value} {od an:Option Addr} {osl:Array (Option Value)} {kV doc pm cdv ct:Value} (l:K.lookup f=some ⟨oc,od, .func (PySem.W.fnOf x qual (a1k st) (iz st) (au st) .none kV doc pm an cdv ct),osl⟩)
  (c:PySem.W.codeIn K cdv qual=true) (k:PySem.W.keepIn K (.ref f)=true):Fun K x qual st f (PySem.W.fnOf x qual (a1k st) (iz st) (au st) .none kV doc pm an cdv ct):=⟨⟨oc,od,kV,doc,pm,an,cdv,ct,osl,rfl,l,c⟩,k⟩
end
end L2
namespace L2
open PySem PySem.Spec PyProof.Rows
section
variable {κ:Type} [DecidableEq κ]
def apy (kvs:List (κ × V)) (k:κ):Option V:=(kvs.find? fun kv=>decide (kv.1=k)).map (·.2)
def putK (kvs:List (κ × V)) (k:κ) (v:V):List (κ × V) :=
 if (kvs.any fun kv=>decide (kv.1=k))=true then kvs.map (fun kv=>if kv.1=k then (kv.1,v) else kv) else kvs++[(k,v)]
theorem RelO.getD {o:Option V} {u:Option Value} {d:V} {d':Value} (r:RelO o u) (rd:RelV d d'):RelV (o.getD d) (u.getD d'):=by
 cases o with
 | none=>cases u with
  | none=>exact rd
  | some _=>exact (show False from r).elim
 | some _=>cases u with
  | none=>exact (show False from r).elim
  | some _=>exact r
end
abbrev KT (H:Hp):List (List Key × V)→List (List Key × Addr × Value)→Prop:=Paired fun p q=>p.1=q.1∧H q.2.1=some (.tup (p.1.map kV))∧RelV p.2 q.2.2
theorem KT.keeps {H H':Hp} {kvs:List (List Key × V)} {xs:List (List Key × Addr × Value)} (r:KT H kvs xs) (ht:∀ b ys,H b=some (.tup ys)→H' b=some (.tup ys)):KT H' kvs xs :=
 Paired.mapP r fun _ _ z=>⟨z.1,ht _ _ z.2.1,z.2.2⟩
def DGet (H:Hp) (a:Addr) (y:V) (r:Option V):Prop :=
 (∃ kvs k,Rd H a (.dK kvs)∧y=kV k∧r=apy kvs k)∨∃ kvs k b,Rd H a (.dT kvs)∧y = .ref b∧H b=some (.tup (k.map kV))∧r=apy kvs k
def DPut (H:Hp) (a:Addr) (y v:V) (H':Hp):Prop :=
 (∃ kvs k,H a=some (.dK kvs)∧y=kV k∧kvs.length<sizeLine∧H'=upd H a (.dK (putK kvs k v))) ∨
 ∃ kvs k b,H a=some (.dT kvs)∧y = .ref b∧H b=some (.tup (k.map kV))∧kvs.length<sizeLine∧H'=upd H a (.dT (putK kvs k v))
theorem DGet.k {H:Hp} {a:Addr} {kvs:List (Key × V)} {k:Key} (e:H a=some (.dK kvs)):DGet H a (kV k) (apy kvs k):=.inl ⟨kvs,k, .inl e,rfl,rfl⟩
theorem DGet.t {H:Hp} {a b:Addr} {kvs:List (List Key × V)} {k:List Key} (e:H a=some (.dT kvs)) (eb:H b=some (.tup (k.map kV))):DGet H a (.ref b) (apy kvs k):=.inr ⟨kvs,k,b, .inl e,rfl,eb,rfl⟩
theorem DPut.k {H:Hp} {a:Addr} {kvs:List (Key × V)} {k:Key} {v:V} (e:H a=some (.dK kvs)) (hl:kvs.length<sizeLine):DPut H a (kV k) v (upd H a (.dK (putK kvs k v))):=.inl ⟨kvs,k,e,rfl,hl,rfl⟩
theorem DPut.t {H:Hp} {a b:Addr} {kvs:List (List Key × V)} {k:List Key} {v:V} (e:H a=some (.dT kvs)) (eb:H b=some (.tup (k.map kV))) (hl:kvs.length<sizeLine) :
  DPut H a (.ref b) v (upd H a (.dT (putK kvs k v))):=.inr ⟨kvs,k,b,e,rfl,eb,hl,rfl⟩
end L2
set_option maxHeartbeats 4000000
namespace L2
open PySem PySem.Spec PyProof.Rows
section
variable {X:Cx}
theorem a5m:OpR X (compareOp .Is) (fun x y H Q=>∃ i j,x = .bl i∧y = .bl j∧Q (.bl (i == j)) H):=by
 intro pins s σ H x y v u Q I rx ry h
 obtain ⟨i,j,rfl,rfl,q⟩:=h
 cases rx
 cases ry
 exact is_bool (a3g I q rfl)
theorem a86:OpR X (compareOp .IsNot) (fun x y H Q=>∃ i j,x = .bl i∧y = .bl j∧Q (.bl (i != j)) H):=by
 intro pins s σ H x y v u Q I rx ry h
 obtain ⟨i,j,rfl,rfl,q⟩:=h
 cases rx
 cases ry
 exact isnot_bool (a3g I q rfl)
def a2f {α:Type} (xs:List α) (lo hi:Option Int):List α:=(xs.drop (HT.sIx xs.length 0 lo)).take (HT.sIx xs.length xs.length hi - HT.sIx xs.length 0 lo)
def aqp:V→Option Int→Option Int→Hp→VK→Prop:=fun x lo hi H Q=>∃ z,x = .str z∧z.length≤sizeLine∧Q (.str ⟨(a2f z.cps.toList lo hi).toArray⟩) H
theorem amv (lo hi:Option Int) (n:Nat):Builtin.Str.strSliceIndices lo hi 1 n=(List.range (HT.sIx n n hi - HT.sIx n 0 lo)).map fun k=>HT.sIx n 0 lo+k:=by
 have e1:Builtin.Str.strSliceIndices lo hi 1 n=sliceRange ((HT.sIx n 0 lo:Nat):Int) ((HT.sIx n n hi:Nat):Int) 1:=by
  unfold Builtin.Str.strSliceIndices
  dsimp only
  congr 1
  ·cases lo with
   | none=>simp [HT.sIx]
   | some i=>simp only [HT.sIx,show (1:Int) > 0 by decide,if_true];split<;>omega
  ·cases hi with
   | none=>simp [HT.sIx]
   | some i=>simp only [HT.sIx,show (1:Int) > 0 by decide,if_true];split<;>omega
 rw [e1]
 exact sliceRange_one _ _
theorem amw {α:Type} (xs:List α) (a:Nat):∀ k,a+k≤xs.length→((List.range k).map fun j=>a+j).filterMap (xs[·]?)=(xs.drop a).take k
 | 0,_=>by simp
 | k+1,h=>by
  rw [List.range_succ,List.map_append,List.filterMap_append,amw xs a k (by omega)]
  have hk:a+k<xs.length:=by omega
  rw [List.take_succ]
  congr 1
  simp [List.getElem?_drop,hk]
theorem amx:SlR X aqp:=by
 intro pins s σ H x v vl vu lo hi sl Q I rx hs pl pu h
 obtain ⟨z,rfl,hz,q⟩:=h
 obtain ⟨t,rfl⟩:=rx
 refine ⟨"str",_,PyProof.Rows.slot_str_getitem.lookup,typeIs_str s z t,?_⟩
 have hl:z.cps.toList.length=z.length:=by simp [Str.length]
 have fin:∀ (l u:Option (Int × Tok)),vl=partValue l→vu=partValue u→l.map (·.1)=lo→u.map (·.1)=hi→wpAny (model X.prog X.w) X.A (getItem (.str z t) (.ref sl)) (EP X pins σ Q) X.xe s:=by
  intro l u e1 e2 e3 e4
  subst e1 e2
  refine wpAny_getItem_str_slice (l:=l) (u:=u) (st:=none) hs rfl ?_
  have hp:slicePicked z l u none=(List.range (HT.sIx z.length z.length hi - HT.sIx z.length 0 lo)).map fun k=>HT.sIx z.length 0 lo+k:=by
   unfold slicePicked
   rw [e3,e4]
   exact amv lo hi z.length
  have hb1:HT.sIx z.length z.length hi≤z.length:=HT.abq _ _ (Nat.le_refl _) _
  have hb2:HT.sIx z.length 0 lo≤z.length:=HT.abq _ _ (Nat.zero_le _) _
  unfold sliceMade
  split
  ·rename_i c
   simp only [Bool.and_eq_true,beq_iff_eq] at c
   obtain ⟨_,c⟩:=c
   rw [hp,List.length_map,List.length_range] at c
   have e:(⟨(a2f z.cps.toList lo hi).toArray⟩:Str)=z:=by
    unfold a2f
    rw [hl]
    have z1:HT.sIx z.length 0 lo=0:=by omega
    have z2:HT.sIx z.length z.length hi=z.length:=by omega
    rw [z1,z2,List.drop_zero,Nat.sub_zero,List.take_of_length_le (by omega)]
   rw [e] at q
   exact ⟨.str z,H,I,⟨_,rfl⟩,q⟩
  ·have e:(⟨(a2f z.cps.toList lo hi).toArray⟩:Str)=⟨((slicePicked z l u none).filterMap (z.cps[·]?)).toArray⟩:=by
    rw [hp]
    unfold a2f
    rw [hl]
    by_cases hc:HT.sIx z.length 0 lo≤HT.sIx z.length z.length hi
    ·rw [← amw z.cps.toList _ _ (by omega)]
     simp only [Array.getElem?_toList]
    ·rw [show HT.sIx z.length z.length hi - HT.sIx z.length 0 lo=0 by omega]
     simp
   rw [e] at q
   refine ⟨?_, .str _,H,I.tok _,⟨_,rfl⟩,q⟩
   rw [← e]
   show (a2f z.cps.toList lo hi).toArray.size≤sizeLine
   rw [List.size_toArray]
   unfold a2f
   rw [List.length_take,List.length_drop,hl]
   omega
 cases pl with
 | none=>cases pu with
  | none=>exact fin none none rfl rfl rfl rfl
  | int j t'=>exact fin none (some (j,t')) rfl rfl rfl rfl
 | int i t'=>cases pu with
  | none=>exact fin (some (i,t')) none rfl rfl rfl rfl
  | int j t''=>exact fin (some (i,t')) (some (j,t'')) rfl rfl rfl rfl
theorem m9:CallR X (.builtin "isinstance") (fun xs H Q=>∃ x T t b,xs=[x, .ty T]∧TyOf X.K H x t∧PySem.W.kitOne X.K t (.type T)=some b∧Q (.bl b) H):=by
 intro pins s σ H xs us Q I r h
 obtain ⟨x,T,t,b,rfl,ty,e,q⟩:=h
 obtain ⟨u,w',rfl,rx,rt⟩:=vals2 r
 cases rt
 exact abn I rx ty e fun tk=>⟨.bl b,H,I.tok tk,rfl,q⟩
theorem a73 (bs:List Bool):((List.range bs.length).all fun i=>(bs[i]?).getD true)=bs.all id:=by
 have e:(List.range bs.length).map (fun i=>(bs[i]?).getD true)=bs:=by
  apply List.ext_getElem (by simp)
  intro i h1 h2
  simp [h2]
 have f:((List.range bs.length).map fun i=>(bs[i]?).getD true).all id=bs.all id:=by rw [e]
 rw [← f,List.all_map]
 rfl
theorem a87 (hc:X.calm=true):CallR X (.builtin "all") (fun xs H Q=>∃ (p:Addr) (bs:List Bool),xs=[.ref p]∧SqL X.K H p (bs.map V.bl)∧Q (.bl (bs.all id)) H):=by
 intro pins s σ H xs us Q I r h
 obtain ⟨p,bs,rfl,hq,q⟩:=h
 obtain ⟨u,rfl,rx⟩:=vals1 r
 cases rx
 obtain ⟨its,r',pl,hz⟩:=I.list hq
 have hl:=r'.length
 rw [List.length_map] at hl
 have hlt:p<s.heap.objs.size:=by obtain ⟨_,e,_⟩:=pl.isList;exact Heap.lt_size e
 refine call_all_walk (wpAny_pyIter_list pl.isList ?_)
 refine ⟨s.heap.objs.size,[s.heap.objs.size,p],[s.heap.objs.size],its.toArray.size,_,_,fun i=>(bs[i]?).getD true,rfl,Walks.list (A:=X.A.in1) (I.ok.hd hc) _ p (Nat.ne_of_lt hlt) its.toArray,
  ⟨⟨_,Heap.get?_push_size _ rfl,rfl,rfl⟩,pl.isList.push _⟩,fun i v s' Q' E' hP hQ=>?_,fun h' tk hk=>?_⟩
 ·have hP':its[i]? = some v:=by simpa using hP
  have hi:i<bs.length:=by
   have:=(List.getElem?_eq_some_iff.mp hP').1
   omega
  obtain ⟨u,e,ru⟩:=r'.get (i:=i) (x:=.bl bs[i]) (by simp [hi])
  rw [hP'] at e
  cases e
  cases ru
  simp only [List.getElem?_eq_getElem hi,Option.getD_some] at hQ
  exact wpAny_truthy_bool hQ
 ·have e:((List.range its.toArray.size).all fun i=>(bs[i]?).getD true)=bs.all id:=by
   rw [List.size_toArray,← hl];exact a73 bs
  rw [e]
  exact ⟨.bl _,H,I.kept fun b x e=>hk b x (fun hm=>by rw [List.mem_singleton.mp hm] at e;exact Nat.lt_irrefl _ (Heap.lt_size e)) (Heap.get?_push_of_some _ e),rfl,q⟩
def zf (x:Str):List V:=x.cps.toList.map fun c=>V.str ⟨#[c]⟩
theorem aa5 {x:Str} {acc:Array Value} (h:ItemsOf (SignAt x) acc x.cps.size):Vals (zf x) acc.toList:=by
 obtain ⟨hs,ha⟩:=h
 have key:∀ (cs:List Nat) (us:List Value),us.length=cs.length→(∀ (j:Nat) (v:Value),us[j]? = some v→∃ c u,cs[j]? = some c∧v = .str ⟨#[c]⟩ u)→Vals (cs.map fun c=>V.str ⟨#[c]⟩) us:=by
  intro cs
  induction cs with
  | nil=>intro us hl _;cases us with | nil=>exact .nil | cons _ _=>simp at hl
  | cons c cs ih =>
   intro us hl hp
   cases us with
   | nil=>simp at hl
   | cons u us =>
    refine .cons ?_ (ih us (by simpa using hl) fun j v e=>hp (j+1) v (by simpa using e))
    obtain ⟨c',t,e1,e2⟩:=hp 0 u rfl
    simp at e1
    subst e1
    exact ⟨t,e2⟩
 refine key _ _ (by simp [hs]) fun j v e=>?_
 obtain ⟨c,u,e1,e2⟩:=ha j v (by simpa using e)
 exact ⟨c,u,by simpa using e1,e2⟩
theorem m7 (hc:X.calm=true):CallR X (.type "tuple") (fun xs H Q=>∃ z,xs=[.str z]∧z.length≤sizeLine∧∀ l,H l=none→Q (.ref l) (upd H l (.tup (zf z)))):=by
 intro pins s σ H xs us Q I r h
 obtain ⟨z,rfl,hz,q⟩:=h
 obtain ⟨u,rfl,t,rfl⟩:=vals1 r
 refine PySem.call_tuple_str (I.ok.hd hc) z t (fun h' tk acc kp hi=>?_) (by simpa [Str.length] using hz)
 have I1:Inv X pins σ H { s with heap:=h',toks:=tk }:=I.kept kp
 have I2:Inv X pins σ (upd H h'.objs.size (.tup (zf z))) { s with heap:=h'.push { cls:=.type "tuple",data:=.seq acc },toks:=tk } :=
  I1.laid (t':=tk) (fun b o e=>Heap.get?_push_of_some _ e) (Nat.le_refl _) (show ObjOk X.prog X.w _ _ _ (.tup (zf z)) from ⟨by simpa [zf,Str.length] using hz,acc.toList,aa5 hi,by simpa using IsTup.new h' acc⟩)
 exact ⟨.ref h'.objs.size,_,I2,rfl,q _ (I1.hok.fresh (Nat.le_refl _))⟩
end
def Its (x:Str):It:=⟨fun i _=>i<x.cps.size,fun i H v H'=>H'=H∧∃ c,x.cps.toList[i]? = some c∧v = .str ⟨#[c]⟩,fun i _=>i=x.cps.size⟩
theorem a8x {P:Program} {w:World} {K:PySem.W.Frag} {tg:Expr} (it:Addr) (x:Str) (t:Tok) (ty:String)
  (hty:["enumerate", "zip", "dict_itemiterator", "dict_reverseitemiterator", "odict_iterator", "itertools.zip_longest", "itertools.pairwise"].contains ty=false)
  (W:∀ A':Around,A'.handled=none→Walks P w A' it [it] [it] x.cps.size (SignAt x) (fun i h=>h.IsStrIter it ty x t i))
  (slf:∀ (A:Around) (i:Nat) (s:Shared) (Q:Value→Shared→Prop) (E:Value→Shared→Prop),s.heap.IsStrIter it ty x t i→Q (.ref it) s→wpAny (model P w) A (pyIter (.ref it)) Q E s) :
  Turn P w K tg (Its x) [it] it (fun i h=>h.IsStrIter it ty x t i) where
 mem:=by simp
 obj:=fun i h st b hb=>by
  have e:b=it:=by simpa using hb
  subst e
  obtain ⟨o,e,c,d⟩:=st
  exact ⟨o,e,fun v z=>by rw [d] at z;cases z⟩
 keep:=fun i h h' st k=>by
  obtain ⟨o,e,c,d⟩:=st
  exact ⟨o,k it (by simp) o e,c,d⟩
 item:=by
  intro X hP hw hK hc i pins s σ H E I hf st hg
  subst hP hw hK
  obtain ⟨f0,f1,f2,f3,f4,f5⟩:=hf it (by simp)
  refine (W X.A (I.ok.hd hc)).item i s _ _ hg st fun v h' tk hv st' kk=>?_
  obtain ⟨c,u,hx,rfl⟩:=hv
  have I1:Inv X pins σ H { s with heap:=h',toks:=tk }:=I.turned (fun b o hb e=>kk b o (by simpa using hb) e) f0 f1 f3 f4 f5
  obtain ⟨o,e,oc,d⟩:=id st'
  exact ⟨_,rfl,aeu (s:={ s with heap:=h',toks:=tk }) e oc d hty ⟨.str ⟨#[c]⟩,H,I1,⟨_,rfl⟩,⟨rfl,c,by simpa using hx,rfl⟩,st',fun b hb=>(hf b hb).1⟩⟩
 done:=by
  intro X hP hw hK hc i pins s σ H E I hf st hg
  subst hP hw hK
  obtain ⟨f0,f1,f2,f3,f4,f5⟩:=hf it (by simp)
  have hg':i=x.cps.size:=hg
  subst hg'
  exact (W X.A (I.ok.hd hc)).done s _ _ st fun h' tk eb=>⟨rfl,I.turned (fun b o hb e=>eb b o (by simpa using hb) e) f0 f1 f3 f4 f5⟩
 self:=slf
section
variable {X:Cx} {tg:Expr}
def atl (tl:TE):TI:=fun σ H R=>tl σ H fun x H1=>∃ z,x = .str z∧R (Its z) H1
theorem ahj {l:Expr} {tl:TE} (hl:PE X l tl):PI X tg l (atl tl):=by
 intro pins s σ H R I h
 refine thn (hl pins s σ H _ I h) fun v s1 ⟨x,H1,I1,r1,q1⟩=>?_
 obtain ⟨z,e,q⟩:=q1
 subst e
 obtain ⟨t,rfl⟩:=r1
 have fp:∀ b∈[s1.heap.objs.size],a80 X pins H1 b:=fun b hb=>by
  have e:b=s1.heap.objs.size:=by simpa using hb
  subst e
  exact I1.fpOk (Nat.le_refl _) (I1.hok.fresh (Nat.le_refl _))
 cases ha:z.cps.all (· < 128)
 ·exact wpAny_pyIter_wide ha ⟨s1.heap.objs.size,[s1.heap.objs.size],_,_,H1,rfl,I1.kept (t':=s1.toks) fun b o e=>Heap.get?_push_of_some _ e,
   a8x _ z t "str_iterator" (by decide) (fun A' hA=>Walks.strWide hA _ z t) (fun _ _ _ _ _ st h=>wpAny_pyIter_striter_wide st h),⟨_,Heap.get?_push_size _ rfl,rfl,rfl⟩,fp,q⟩
 ·exact wpAny_pyIter_ascii ha ⟨s1.heap.objs.size,[s1.heap.objs.size],_,_,H1,rfl,I1.kept (t':=s1.toks) fun b o e=>Heap.get?_push_of_some _ e,
   a8x _ z t "str_ascii_iterator" (by decide) (fun A' hA=>Walks.strAscii hA _ z t) (fun _ _ _ _ _ st h=>wpAny_pyIter_striter_ascii st h),⟨_,Heap.get?_push_size _ rfl,rfl,rfl⟩,fp,q⟩
end
end L2
namespace L2
open PySem PySem.Spec PyProof.Rows
def cxC (X:Cx) (N:List Str) (scope:Scope) (cl:List (Str × Addr)) (C:Addr) (fp:List Addr) (s:Shared) (H:Hp):Cx where
 prog:=X.prog
 w:=X.w
 K:=X.K
 mg:=X.mg
 base:=X.base
 A:=X.A
 N:=N
 s₀:=s
 H₀:=H
 env:=compEnvC scope cl C X.env
 outer:=X.stack
 stack:=X.stack
 ex:=fp
 fn:=fun _=>false
 calm:=X.calm
 pn:=[]
 xe:=fun _ _=>False
structure CSc (X:Cx) (scope:Scope) (cl:List (Str × Addr)) (ts fr:List Str) (ix:List Nat):Prop where
 clos:closureFor scope X.env=pure cl
 kind:scope.kind = .function
 nocell:∀ y∈scope.names,y.2≠.cell
 names:∀ y∈scope.names,y.2 = .local→scope.names.lookup y.1=some .local
 sub:∀ y c,cl.lookup y=some c→X.env.cells.lookup y=some c
 has:∀ y,((relabel scope X.env).names.lookup y=some .cell∨(relabel scope X.env).names.lookup y=some .free)→∃ c,cl.lookup y=some c
 nofn:∀ y∈ts,(relabel scope X.env).names.lookup y=some .local
 len:ix.length=fr.length
 vis:∀ (j:Nat) (y:Str),fr[j]? = some y→∃ i:Nat,ix[j]? = some i∧X.N[i]? = some y∧(X.env.kindOf y=some .cell∨X.env.kindOf y=some .free)∧((relabel scope X.env).names.lookup y=some .cell∨(relabel scope X.env).names.lookup y=some .free)
def Ext (a b:St):Prop:=b.length=a.length∧∀ (i:Nat) v,a[i]? = some (some v)→b[i]? = some (some v)
def qw (nt:Nat) (ix:List Nat) (σ:St):St:=List.replicate nt none++ix.map fun i=>(σ[i]?).join
def amy (J:It) (s0:St) (g:TG) (te:TE) (Q:VK) (H1:Hp):Prop:=∃ W:Nat→Nat→List V→Hp→Prop,(∃ m,W 0 m [] H1)∧∀ i m ys H,W i m ys H →
 (J.stop i H∧∀ p,H p=none→Q (.ref p) (upd H p (.lst ys))) ∨
 (J.go i H∧ys.length<sizeLine∧∀ x H',J.yld i H x H'→g x s0 H' fun σ2 H2=>Ext s0 σ2∧te σ2 H2 fun y H3=>∃ m',m'<m∧W (i+1) m' (ys++[y]) H3)
def af5 (wi:TI) (s0:St→St) (g:TG) (te:TE):TE:=fun σ H Q=>wi σ H fun J H1=>amy J (s0 σ) g te Q H1
theorem aby {prog:Program} {w:World} {A:Around} {R:Result→Shared→Prop} {s:Shared} {elt target iter:Expr} {scope:Scope} {pos:Pos} {it acc:Value} {env:Env} (J:Nat→Shared→Prop)
  (step:∀ m z,J m z→wpAny (model prog w) A (pyNext it) (fun got z1=>match got with
   | none=>R (.ok .next) z1
   | some v=>wpAny (model prog w) A (letOwnedTupleGo target it v) (fun _ z2=>wpAny (model prog w) A (assign target env v) (fun _ z3=>wpAny (model prog w) A (eval elt env) (fun x z4 =>
     wpAny (model prog w) A (call (.builtin "list.append") [acc,x]) (fun _ z5=>∃ m',m'<m∧J m' z5) (fun _ _=>False) z4)
     (fun _ _=>False) z3) (fun _ _=>False) z2) (fun _ _=>False) z1) (fun _ _=>False) z)
  (m:Nat) (j0:J m s):codeAny (model prog w) A (.compLoop (.ListComp elt [⟨target,iter,[],0⟩] scope pos) 0 it acc env) R s:=by
 refine codeAny_loop rfl J (fun m z hj=>(wpAny_noted ?_:wpAny _ _ ((compTurn (.ListComp elt [⟨target,iter,[],0⟩] scope pos) 0 it acc env).onRaise _) _ _ z)) m j0
 rw [compTurn_list1]
 refine wpAny_bind (wpAny_standAt (wpAny_bind (wpAny_mono (step m z hj) (fun got z1 h1=>?_) fun _ _ no=>no.elim)))
 match got,h1 with
 | none,h1=>exact wpAny_pure h1
 | some v,h1 =>
  refine wpAny_bind (wpAny_mono h1 (fun _ z2 h2=>wpAny_bind (wpAny_mono h2 (fun _ z3 h3=>?_) fun _ _ no=>no.elim)) fun _ _ no=>no.elim)
  refine wpAny_bind (wpAny_bind (wpAny_mono h3 (fun x z4 h4=>?_) fun _ _ no=>no.elim))
  exact wpAny_bind (wpAny_mono h4 (fun _ z5 h5=>wpAny_pure (wpAny_pure ⟨rfl,h5⟩)) fun _ _ no=>no.elim)
section
variable {X:Cx}
theorem a74 {pins:List (Addr × Obj)} {σ:St} {H:Hp} {s:Shared} {scope:Scope} {cl:List (Str × Addr)} {ts fr:List Str} {ix:List Nat} {C:Addr} {fp:List Addr} (S:CSc X scope cl ts fr ix) (I:Inv X pins σ H s)
  (hf:∀ b∈fp,a80 X pins H b) (hb:∀ b∈fp,b<s.heap.objs.size) (hC:s.heap.objs.size≤C):(cxC X (ts++fr) scope cl C fp s H).Ok where
 mod:=I.ok.mod
 kind:=S.kind
 glob:=I.ok.glob
 blt:=I.ok.blt
 above:=hC
 inj:=fun x y c h1 h2=>I.ok.inj x y c (S.sub x c h1) (S.sub y c h2)
 has:=S.has
 cab:=fun _ _ z=>nomatch z
 hd:=I.ok.hd
 frames:=I.ok.frames
 stk:=.inl rfl
 exf:=fun b hb'=>⟨Nat.ne_of_lt (Nat.lt_of_lt_of_le (hb b hb') hC),fun x c e=>(hf b hb').2.2.2.2.1 x c (S.sub x c e)⟩
 bs:=fun b o e=>I.bs b o e
 bsz:=Nat.le_trans I.ok.bsz I.sz
 noex:=fun b o e hb'=>by
  rcases (hf b hb').2.2.2.1 with z | z
  ·exact I.ok.noex b o e z
  ·exact absurd (Nat.lt_of_lt_of_le (Heap.lt_size e) (Nat.le_trans I.ok.bsz z)) (Nat.lt_irrefl _)
 exfs:=fun b hb' z=>by
  rcases List.mem_cons.mp (I.stkSub b z) with e | e
  ·exact (hf b hb').2.1 e
  ·exact (hf b hb').2.2.1 e
 funs:=I.stack
 frf:=fun b hb'=>I.stkFree b hb'
theorem aa6 {nt:Nat} {ix:List Nat} {σ:St}:(qw nt ix σ).length=nt+ix.length:=by
 unfold qw;rw [List.length_append,List.length_replicate,List.length_map]
theorem abz {pins:List (Addr × Obj)} {σ:St} {H:Hp} {s s4:Shared} {scope:Scope} {cl:List (Str × Addr)} {ts fr:List Str} {ix:List Nat} {C:Addr} {fp:List Addr} {m:Str→Option Value} (S:CSc X scope cl ts fr ix) (I:Inv X pins σ H s)
  (hf:∀ b∈fp,a80 X pins H b) (hb:∀ b∈fp,b<s.heap.objs.size) (hC:s.heap.objs.size≤C)
  (k:∀ b o,s.heap.get? b=some o→s4.heap.get? b=some o) (hn:s4.heap.Ns C m) (ho:s4.os=s.os) (hg:s4.gens=s.gens) :
  Inv (cxC X (ts++fr) scope cl C fp s H) [] (qw ts.length ix σ) H s4 where
 ok:=a74 S I hf hb hC
 os:=ho
 bare:=by rw [hg];exact I.bare
 base:=Un.kept k
 loc:=by
  refine ⟨m,hn,fun i x v e1 e2 e3=>?_⟩
  have e1:(ts++fr)[i]? = some x:=e1
  by_cases hi:i<ts.length
  ·unfold qw at e2
   rw [List.getElem?_append_left (by simpa using hi),List.getElem?_replicate,if_pos hi] at e2
   cases e2
  ·rw [List.getElem?_append_right (by omega)] at e1
   unfold qw at e2
   rw [List.getElem?_append_right (by simpa using hi),List.length_replicate,List.getElem?_map] at e2
   obtain ⟨j,h1,h2,h3,h4⟩:=S.vis _ x e1
   rw [h1] at e2
   have e2':(σ[j]?).join=some v:=Option.some.inj e2
   have e5:σ[j]? = some (some v):=by
    cases q:σ[j]? with
    | none=>rw [q] at e2';cases e2'
    | some o=>rw [q] at e2';simp at e2';rw [e2']
   obtain ⟨m0,_,hl⟩:=I.loc
   have vis:Vis X.env.scope x:=h3.elim (fun z=>.inr (.inl z)) fun z=>.inr (.inr z)
   obtain ⟨u,ru,l⟩:=hl j x v h2 e5 vis
   refine ⟨u,ru,?_⟩
   rcases l with ⟨z,_⟩ | ⟨_,c,hc,hcell⟩
   ·rcases h3 with h3 | h3<;>rw [h3] at z<;>cases z
   ·obtain ⟨c',hc'⟩:=S.has x h4
    have e6:c'=c:=Option.some.inj ((S.sub x c' hc').symm.trans hc)
    subst e6
    obtain ⟨o,ho,hd⟩:=hcell
    exact .inr ⟨h4,c',hc',o,k _ _ ho,hd⟩
 cell:=fun x c e=>by
  obtain ⟨v,o,ho,hd⟩:=I.cell x c (S.sub x c e)
  exact ⟨v,o,k _ _ ho,hd⟩
 free:=I.hok.fresh hC
 freeC:=fun x c e=>I.freeC x c (S.sub x c e)
 pin:=fun p hp=>absurd (show p∈([]:List (Addr × Obj)) from hp) (by simp)
 hok:=I.hok.kept k
 len:=by
  rw [aa6]
  show _=(ts++fr).length
  rw [List.length_append,S.len]
theorem Inv.unpinned' {pins:List (Addr × Obj)} {σ:St} {H:Hp} {s:Shared} (I:Inv X pins σ H s):Inv X [] σ H s:=I.pins_of fun _ hp=>nomatch hp
theorem comp_back {pins:List (Addr × Obj)} {σ σ':St} {H H':Hp} {s s':Shared} {scope:Scope} {cl:List (Str × Addr)} {N:List Str} {C acc:Addr} {fp:List Addr} {h':Heap} {ys:List V} {its:List Value} {n:Nat} (I:Inv X pins σ H s)
  (hf:∀ b∈fp,a80 X pins H b) (hC:s.heap.objs.size≤C) (hacc:s.heap.objs.size≤acc) (hCa:C≠acc)
  (J:Inv (cxC X N scope cl C fp s H) [] σ' H' s') (hn:H' acc=none) (ha:s'.heap.get? acc=some { cls:=.type "list",data:=.seq its.toArray n }) (rv:Vals ys its) (hz:ys.length≤sizeLine) (sb:Heap.SameBut C s'.heap h') :
  Inv X pins σ (upd H' acc (.lst ys)) { s' with heap:=h' }:=by
 have k:∀ b o,b≠C→s'.heap.get? b=some o→h'.get? b=some o:=fun b o hb e=>sb.extBut b o hb e
 have old:∀ b o,s.heap.get? b=some o→b≠C∧b≠acc:=fun b o e=>⟨Nat.ne_of_lt (Nat.lt_of_lt_of_le (Heap.lt_size e) hC),Nat.ne_of_lt (Nat.lt_of_lt_of_le (Heap.lt_size e) hacc)⟩
 have u0:Un (frs X.stack) fp H H' s.heap s'.heap:=J.base
 have fC:H' C=none:=J.free
 have u:Un (frs X.stack) fp H (upd H' acc (.lst ys)) s.heap h':=by
  refine ⟨fun b o e n' hb hx=>k b o (old b o e).1 (u0.keep b o e n' hb hx),fun b o e n' hb hx=>?_,fun b o e n' hx=>?_,fun b o e hx=>?_,fun b xs e=>?_,fun b o v e=>?_,fun b ps e=>?_⟩
  ·obtain ⟨sl,e1⟩:=u0.slot b o e n' hb hx
   exact ⟨sl,k b _ (old b o e).1 e1⟩
  ·rw [j9 (old b o e).2];exact u0.free b o e n' hx
  ·obtain ⟨o',e1⟩:=u0.there b o e hx
   exact ⟨o',k b _ (old b o e).1 e1⟩
  ·rw [j9 (j4 (u0.tups b xs e) hn)];exact u0.tups b xs e
  ·rw [j9 (j4 (u0.frzs b o v e) hn)];exact u0.frzs b o v e
  ·obtain ⟨more,e1⟩:=u0.tbls b ps e
   exact ⟨more,by rw [j9 (j4 e1 hn)];exact e1⟩
 have hok:HOk X.prog X.w (upd H' acc (.lst ys)) h':=fun b o e=>by
  by_cases hb:b=acc
  ·subst hb;rw [o7] at e;cases e
   exact ⟨hz,its,n,rv,k _ _ (Ne.symm hCa) ha⟩
  ·rw [j9 hb] at e
   refine (J.hok b o e).stay (fun c v hc q=>k c v ?_ q) (fun c q=>by rw [j9 (j4 q hn)];exact q) fun c xs q=>by rw [j9 (j4 q hn)];exact q
   rcases hc with z | z
   ·rw [z];exact j4 e fC
   ·exact j4 z fC
 have J':=I.call (g':=s'.gens) (t':=s'.toks) (d':=s'.drawn) (ch:=fp) u hok J.bare fun b hb=>⟨(hf b hb).2.2.2.1,(hf b hb).2.1,(hf b hb).2.2.2.2.1,(hf b hb).2.2.2.2.2⟩
 have eo:s'.os=s.os:=J.os
 obtain ⟨hp,g,d,t,o⟩:=s'
 have eo':o=s.os:=eo
 subst eo'
 exact J'
def a5n (X:Cx) (pins:List (Addr × Obj)) (σ:St) (use:Option (Value→Sem Unit)) (Q:VK) (Qf:Value→Shared→Prop):Prop :=
 ∀ (acc C:Addr) (s6:Shared) (H6:Hp) (m6:Str→Option Value),s6.heap.Ns C m6→a80 X pins H6 C→(∀ h',Heap.SameBut C s6.heap h'→Inv X pins σ H6 { s6 with heap:=h' })→Q (.ref acc) H6 →
  compPost (model X.prog X.w) X.A X.xe use Qf (.ref acc) C (.ok .next) s6
theorem af6 {pins:List (Addr × Obj)} {σ:St} {Q:VK}:a5n X pins σ none Q (EP X pins σ Q):=fun acc C s6 H6 m6 hn _ k q=>⟨m6,hn,fun h' sb=>⟨.ref acc,H6,k h' sb,rfl,q⟩⟩
theorem a8y {pins:List (Addr × Obj)} {σ:St} {D:Ends} {i:Nat} {x:Str} {pos':Pos} (hN:X.N.Nodup) (hi:X.N[i]? = some x) (hx:Loc X.env.scope x) (hf:X.fn x=true∨X.env.scope.names.lookup x=some .local) :
  a5n X pins σ (some (assign (.Name x pos') X.env)) (fun v H1=>a5h i v σ H1 D.nx) (fun _ s'=>SP X pins D .next s'):=by
 intro acc C s6 H6 m6 hn fp k q
 obtain ⟨f1,f2,f3,f4,f5,f6⟩:=fp
 have I6:Inv X pins σ H6 s6:=k s6.heap (Heap.SameBut.refl _ _)
 refine wpAny_assign_Name (a6u (v:=.ref acc) I6 hN hi hx rfl (fun s' I' ⟨a,sb,ha⟩=>⟨m6,hn.sameBut sb ?_,fun h' sb'=>⟨_,H6,I'.turned (t':=s'.toks) (it:=C) (fun b o hb e=>sb'.extBut b o hb e) f1 f2 f4 f5 f6,q⟩⟩) hf)
 rcases ha with ha | ha
 ·rw [ha];exact f2
 ·exact fun z=>f5 x a ha z.symm
theorem a75 {elt tg iter:Expr} {scope:Scope} {pos ppos:Pos} {cl:List (Str × Addr)} {ts fr:List Str} {ix:List Nat} {wi:TI} {g:TG} {te:TE} (hc:X.calm=true) (S:CSc X scope cl ts fr ix) (hi:PI X tg iter wi)
  (hg:∀ C fp s H,PG (cxC X (ts++fr) scope cl C fp s H) tg g) (he:∀ C fp s H,PE (cxC X (ts++fr) scope cl C fp s H) elt te) (hs:∀ x,foldedSetIterable iter X.env x=pure x)
  (use:Option (Value→Sem Unit)) {pins:List (Addr × Obj)} {s:Shared} {σ:St} {H:Hp} {Q:VK} {Qf:Value→Shared→Prop} (I:Inv X pins σ H s) (h:af5 wi (qw ts.length ix) g te σ H Q) (fin:a5n X pins σ use Q Qf) :
  wpAny (model X.prog X.w) X.A (comprehension (.ListComp elt [⟨tg,iter,[],0⟩] scope pos) scope X.env ppos (newList []) false (eval iter X.env) use) Qf X.xe s:=by
 refine wpAny_comprehension_free (use:=use) rfl hs S.clos S.kind S.names (thn (hi pins s σ H _ I h) fun v s1 h1=>thn h1 fun itv s2 h2=>?_)
 obtain ⟨it,fp,tn,J,H2,e,I2,T,st2,f2,W,⟨m0,w0⟩,turn⟩:=h2
 subst e
 have hob:∀ b∈fp,b<s2.heap.objs.size:=fun b hb=>let ⟨o,e,_⟩:=T.obj _ _ st2 b hb;Heap.lt_size e
 refine wpAny_newObj_type (wpAny_newFunctionEnv S.nocell (by intro y hy;simp at hy) (fun h4 hns4 hsb4=>?_) S.kind)
 dsimp only at hns4 hsb4 ⊢
 generalize hH2:s2.heap.push { cls:=.type "list",dict:=none,data:=.seq ([]:List Value).toArray }=G at hns4 hsb4 ⊢
 have hCs:G.objs.size=s2.heap.objs.size+1:=by rw [← hH2,Heap.size_push]
 have hCle:s2.heap.objs.size≤G.objs.size:=by omega
 have hne:G.objs.size≠s2.heap.objs.size:=by omega
 have old:∀ b o,s2.heap.get? b=some o→h4.get? b=some o:=fun b o e=>by
  have hlt:=Heap.lt_size e
  exact hsb4.extBut b o (Nat.ne_of_lt (Nat.lt_of_lt_of_le hlt hCle)) (Heap.get?_push_of_some _ (hH2 ▸ Heap.get?_push_of_some _ e))
 have hacc:h4.get? s2.heap.objs.size=some { cls:=.type "list",data:=.seq ([]:List Value).toArray 0 } :=
  hsb4.extBut _ _ (Ne.symm hne) (Heap.get?_push_of_some _ (hH2 ▸ Heap.get?_push_size _ rfl))
 have K0:Inv (cxC X (ts++fr) scope cl G.objs.size fp s2 H2) [] (qw ts.length ix σ) H2 { s2 with heap:=h4,toks:=s2.toks+([]:List (Str × Value)).length } :=
  abz S I2 f2 hob hCle old hns4 rfl rfl
 have st4:tn 0 h4:=T.keep _ _ _ st2 fun b _ o e=>old b o e
 have accF:s2.heap.objs.size ∉ fp:=fun z=>Nat.lt_irrefl _ (hob _ z)
 have stat:∀ {H':Hp},(∀ b∈fp,H' b=none)→∀ b∈fp,a80 (cxC X (ts++fr) scope cl G.objs.size fp s2 H2) [] H' b:=fun hn b hb =>
  ⟨hn b hb,fun z=>by have h1:=hob b hb;have z':b=G.objs.size:=z;exact Nat.ne_of_lt (Nat.lt_of_lt_of_le h1 hCle) z',fun z=>(a74 S I2 f2 hob hCle).exfs b hb z, .inl hb,fun x c e=>(f2 b hb).2.2.2.2.1 x c (S.sub x c e),fun p hp=>absurd (show p∈([]:List (Addr × Obj)) from hp) (by simp)⟩
 have statA:∀ {H':Hp},H' s2.heap.objs.size=none→a80 (cxC X (ts++fr) scope cl G.objs.size fp s2 H2) [] H' s2.heap.objs.size:=fun hn =>
  ⟨hn,fun z=>hne (show G.objs.size=s2.heap.objs.size from z.symm),fun z=>by
   obtain ⟨_,o,ho,_⟩:=(a74 S I2 f2 hob hCle).funs.mem z
   exact Nat.lt_irrefl _ (Heap.lt_size ho), .inr (Nat.le_refl _),fun x c e z=>by
   obtain ⟨v,o,ho,_⟩:=I2.cell x c (S.sub x c e)
   rw [z] at ho
   exact Nat.lt_irrefl _ (Heap.lt_size ho),fun p hp=>absurd (show p∈([]:List (Addr × Obj)) from hp) (by simp)⟩
 have loop:∀ s4:Shared,s4={ s2 with heap:=h4,toks:=s2.toks+([]:List (Str × Value)).length } →
   codeAny (model X.prog X.w) X.A (.compLoop (.ListComp elt [⟨tg,iter,[],0⟩] scope pos) 0 (.ref it) (.ref s2.heap.objs.size) (compEnvC scope cl G.objs.size X.env))
    (compPost (model X.prog X.w) X.A X.xe use Qf (.ref s2.heap.objs.size) G.objs.size) s4:=by
  rintro s4 rfl
  refine aby (fun n s'=>∃ i σ' H' ys its k,Inv (cxC X (ts++fr) scope cl G.objs.size fp s2 H2) [] σ' H' s'∧Ext (qw ts.length ix σ) σ'∧tn i s'.heap∧(∀ b∈fp,H' b=none)∧H' s2.heap.objs.size=none ∧
   s'.heap.get? s2.heap.objs.size=some { cls:=.type "list",data:=.seq its.toArray k }∧Vals ys its∧ys.length≤sizeLine∧W i n ys H') ?_ m0
   ⟨0,_,H2,[],[],0,K0,⟨rfl,fun _ _ z=>z⟩,st4,fun b hb=>(f2 b hb).1,I2.hok.fresh (Nat.le_refl _),hacc, .nil,Nat.zero_le _,w0⟩
  rintro n s5 ⟨i,σ5,H5,ys,its,k5,I5,x5,st5,fr5,fa5,ac5,rv5,hz5,w5⟩
  have I5':Inv (cxC X (ts++fr) scope cl G.objs.size fp s2 H2) [] (qw ts.length ix σ) H5 s5:=I5.weak x5.1.symm x5.2
  rcases turn i n ys H5 w5 with ⟨stop,qn⟩ | ⟨go,hlt,step⟩
  ·refine thn (T.done (cxC X (ts++fr) scope cl G.objs.size fp s2 H2) rfl rfl rfl hc i [(s2.heap.objs.size,{ cls:=.type "list",data:=.seq its.toArray k5 })] s5 _ H5 _ (I5'.pins_of fun p hp=>?_) (fun b hb=>?_) st5 stop) fun r s6 ⟨hr,I6⟩=>?_
   ·have e:p=(s2.heap.objs.size,{ cls:=.type "list",data:=.seq its.toArray k5 }):=by simpa using hp
    subst e
    obtain ⟨a0,a1,a2,_⟩:=statA fa5
    exact ⟨ac5,a0,a1,a2,fun v z=>by cases z⟩
   ·obtain ⟨b0,b1,b2,b3,b4,b5⟩:=stat fr5 b hb
    refine ⟨b0,b1,b2,b3,b4,fun p hp=>?_⟩
    have e:p=(s2.heap.objs.size,{ cls:=.type "list",data:=.seq its.toArray k5 }):=by
     have hp':p∈[(s2.heap.objs.size,_)]:=hp
     simpa using hp'
    subst e
    exact fun z=>accF (by have z':s2.heap.objs.size=b:=z;rw [z'];exact hb)
   ·subst hr
    have e6:=(I6.pin (s2.heap.objs.size,{ cls:=.type "list",data:=.seq its.toArray k5 }) (by show _∈[]++[_];simp)).1
    obtain ⟨m6,hn6,_⟩:=I6.loc
    exact fin _ _ s6 _ m6 hn6 (I2.fpOk hCle (by rw [j9 hne];exact I6.free)) (fun h' sb=>comp_back I2 f2 hCle (Nat.le_refl _) hne I6.unpinned' fa5 e6 rv5 hz5 sb) (qn _ fa5)
  ·refine thn (T.item (cxC X (ts++fr) scope cl G.objs.size fp s2 H2) rfl rfl rfl hc i [(s2.heap.objs.size,{ cls:=.type "list",data:=.seq its.toArray k5 })] s5 _ H5 _ (I5'.pins_of fun p hp=>?_) (fun b hb=>?_) st5 go) fun r s6 ⟨u,hr,h6⟩=>?_
   ·have e:p=(s2.heap.objs.size,{ cls:=.type "list",data:=.seq its.toArray k5 }):=by simpa using hp
    subst e
    obtain ⟨a0,a1,a2,_⟩:=statA fa5
    exact ⟨ac5,a0,a1,a2,fun v z=>by cases z⟩
   ·obtain ⟨b0,b1,b2,b3,b4,b5⟩:=stat fr5 b hb
    refine ⟨b0,b1,b2,b3,b4,fun p hp=>?_⟩
    have e:p=(s2.heap.objs.size,{ cls:=.type "list",data:=.seq its.toArray k5 }):=by
     have hp':p∈[(s2.heap.objs.size,_)]:=hp
     simpa using hp'
    subst e
    exact fun z=>accF (by have z':s2.heap.objs.size=b:=z;rw [z'];exact hb)
   ·subst hr
    refine thn h6 fun _ s7 ⟨x,H7,I7,r7,y7,st7,fr7⟩=>?_
    have fa7:H7 s2.heap.objs.size=none:=(I7.pin (s2.heap.objs.size,{ cls:=.type "list",data:=.seq its.toArray k5 }) (by show _∈[]++[_];simp)).2.1
    have ac7:=(I7.pin (s2.heap.objs.size,{ cls:=.type "list",data:=.seq its.toArray k5 }) (by show _∈[]++[_];simp)).1
    have I7':Inv (cxC X (ts++fr) scope cl G.objs.size fp s2 H2) ([]++a4n (s2.heap.objs.size::fp) s7.heap) (qw ts.length ix σ) H7 s7:=by
     refine Inv.pinned I7.unpinned' (fun b hb=>?_) fun b hb=>?_
     ·rcases List.mem_cons.mp hb with e | e
      ·subst e;exact statA fa7
      ·exact stat fr7 b e
     ·rcases List.mem_cons.mp hb with e | e
      ·subst e;exact ⟨_,ac7,fun v z=>by cases z⟩
      ·exact T.obj _ _ st7 b e
    refine thn (hg G.objs.size fp s2 H2 _ s7 _ H7 x u _ I7' r7 (step x H7 y7)) fun _ s8 ⟨σ8,H8,I8,x8,q8⟩=>?_
    refine thn (he G.objs.size fp s2 H2 _ s8 _ H8 _ I8 q8) fun yv s9 ⟨y,H9,I9,r9,m',hm',w9⟩=>?_
    obtain ⟨ac9,fa9,_⟩:=I9.pin (s2.heap.objs.size,{ cls:=.type "list",data:=.seq its.toArray k5 }) (by show _∈[]++([]++_);simp;exact qu List.mem_cons_self ac7)
    have keep9:∀ b∈fp,∀ o,s7.heap.get? b=some o→s9.heap.get? b=some o∧H9 b=none:=fun b hb o e=>by
     obtain ⟨z1,z2,_⟩:=I9.pin (b,o) (by show _∈[]++([]++_);simp;exact qu (List.mem_cons_of_mem _ hb) e)
     exact ⟨z1,z2⟩
    have hl:=rv5.length
    refine call_meets F.slot_list_append ⟨_,ac9,rfl⟩ F.entry_list_append (F.args_list_append_2 _ _) (PySem.list_append s2.heap.objs.size its.toArray k5 yv (by rw [List.size_toArray];omega)) ⟨ac9,?_⟩
    have q:=PySem.IsL.update ac9 (fun a=>a.push yv)
    have qo:∀ b o,b≠s2.heap.objs.size→s9.heap.get? b=some o→(s9.heap.update s2.heap.objs.size (Obj.mapSeq (fun a=>a.push yv))).get? b=some o:=fun b o hb e=>(Heap.get?_update_other s9.heap _ (Ne.symm hb)).trans e
    have q':∃ k,(s9.heap.update s2.heap.objs.size (Obj.mapSeq (fun a=>a.push yv))).get? s2.heap.objs.size=some { cls:=.type "list",data:=.seq (its++[yv]).toArray k }:=⟨_,by rw [q];simp;rfl⟩
    obtain ⟨k9,q9⟩:=q'
    obtain ⟨a0,a1,a2,a3,a4,a5⟩:=statA (show H9 s2.heap.objs.size=none from fa9)
    refine ⟨m',hm',i+1,σ8,H9,ys++[y],its++[yv],k9,(I9.unpinned').turned qo a0 a1 a3 a4 a5,x8,?_,?_,fa9,q9,rv5.append (.cons r9 .nil),?_,w9⟩
    ·refine T.keep _ _ _ st7 fun b hb o e=>qo b o (fun z=>accF (z ▸ hb)) (keep9 b hb o e).1
    ·intro b hb
     obtain ⟨o,e,_⟩:=T.obj _ _ st7 b hb
     exact (keep9 b hb o e).2
    ·rw [List.length_append,List.length_singleton];omega
 exact codeAny_compStart_list (loop _ rfl) (T.self _ 0 _ _ _ st4 (loop _ rfl))
theorem af7 {elt tg iter:Expr} {scope:Scope} {pos:Pos} {cl:List (Str × Addr)} {ts fr:List Str} {ix:List Nat} {wi:TI} {g:TG} {te:TE} (hc:X.calm=true) (S:CSc X scope cl ts fr ix) (hi:PI X tg iter wi)
  (hg:∀ C fp s H,PG (cxC X (ts++fr) scope cl C fp s H) tg g) (he:∀ C fp s H,PE (cxC X (ts++fr) scope cl C fp s H) elt te)
  (hs:∀ x,foldedSetIterable iter X.env x=pure x:=by intro _;rfl) :
  PE X (.ListComp elt [⟨tg,iter,[],0⟩] scope pos) (af5 wi (qw ts.length ix) g te):=by
 intro pins s σ H Q I h
 rw [eval_ListComp]
 exact a75 hc S hi hg he hs none I h af6
theorem af8 {elt tg iter:Expr} {scope:Scope} {pos:Pos} {cl:List (Str × Addr)} {ts fr:List Str} {ix:List Nat} {wi:TI} {g:TG} {te:TE} {i:Nat} {x:Str} {pos' spos:Pos} (hN:X.N.Nodup) (hi':X.N[i]? = some x) (hx:Loc X.env.scope x) (hc:X.calm=true) (S:CSc X scope cl ts fr ix) (hi:PI X tg iter wi)
  (hg:∀ C fp s H,PG (cxC X (ts++fr) scope cl C fp s H) tg g) (he:∀ C fp s H,PE (cxC X (ts++fr) scope cl C fp s H) elt te)
  (hs:∀ x,foldedSetIterable iter X.env x=pure x:=by intro _;rfl) (hsw:swapsWith (.ListComp elt [⟨tg,iter,[],0⟩] scope pos) (some (.Name x pos')) spos.line X.env=pure true:=by rfl) (hf:X.fn x=true∨X.env.scope.names.lookup x=some .local:=by first | exact .inl rfl | exact .inr rfl | assumption) :
  PS X (.Assign [.Name x pos'] (.ListComp elt [⟨tg,iter,[],0⟩] scope pos) spos) (apx (af5 wi (qw ts.length ix) g te) (a5h i)):=by
 intro pins s σ H D I h
 rw [exec_Assign_Name_used _ _ _ _ hsw]
 refine wpAny_bind (wpAny_standAt (wpAny_bind ?_))
 refine wpAny_bind (wpAny_mono (a75 hc S hi hg he hs (some (assign (.Name x pos') X.env)) I h (a8y hN hi' hx hf)) (fun _ s' hq=>wpAny_pure (wpAny_pure hq)) fun _ _ e=>e)
end
end L2
namespace L2
open PySem PySem.Spec PyProof.Rows
end L2
namespace L2
open PySem PySem.Spec
theorem uw:bootBuiltins "len" = some (.builtin "len"):=PySem.boot_len
theorem iy:bootBuiltins "isinstance" = some (.builtin "isinstance"):=by first | exact PySem.boot_isinstance | exact PyProof.Rows.boot_isinstance
theorem ac0:bootBuiltins "str" = some (.type "str"):=by first | exact PySem.boot_str | exact PyProof.Rows.boot_str
theorem amz:bootBuiltins "all" = some (.builtin "all"):=by first | exact PySem.boot_all | exact PyProof.Rows.boot_all
theorem ahk:bootBuiltins "abs" = some (.builtin "abs"):=by first | exact PySem.boot_abs | exact PyProof.Rows.boot_abs
theorem ahl:bootBuiltins "int" = some (.type "int"):=by first | exact PySem.boot_int | exact PyProof.Rows.boot_int
theorem a88:bootBuiltins "list" = some (.type "list"):=by first | exact PySem.boot_list | exact PyProof.Rows.boot_list
theorem qx:bootBuiltins "tuple" = some (.type "tuple"):=by first | exact PySem.boot_tuple | exact PyProof.Rows.boot_tuple
structure Dn (P:Program) (w:World) (K:PySem.W.Frag) (mg:Str→Option Value) (base:Heap) (k:Nat) (x:Str) (ps:List Str) (sp:Sp) (f:Addr) (fd:FuncData):Prop where
 ok:FnOk P w K mg base CX0 k f fd ps sp
 m:mg x=some (.ref f)
 kp:PySem.W.keepIn K (.ref f)=true
 b:Binds K fd ps []
theorem aqq:sizeLine=16777216:=sizeLine_eq
theorem a89 {n:Nat} (h:n≤16777216):n≤sizeLine:=by rw [sizeLine_eq];exact h
end L2
namespace L2
open PySem PySem.Spec
theorem aqr (x y:Str):(x++y).cps.toList=x.cps.toList++y.cps.toList:=by
 show (x.cps++y.cps).toList=_
 simp
theorem ac1 {α:Type} (xs:List α) (k:Nat):a2f xs none (some (k:Int))=xs.take k:=by
 unfold a2f
 rw [HT.a5j,HT.a5k,List.drop_zero,Nat.sub_zero]
 by_cases h:k≤xs.length
 ·rw [Nat.min_eq_left h]
 ·rw [Nat.min_eq_right (by omega),List.take_of_length_le (Nat.le_refl _),List.take_of_length_le (by omega)]
theorem a76 {α:Type} (xs:List α) (k:Nat):a2f xs (some (k:Int)) none=xs.drop k:=by
 unfold a2f
 rw [HT.a5j,HT.a5k]
 by_cases h:k≤xs.length
 ·rw [Nat.min_eq_left h,List.take_of_length_le (by rw [List.length_drop];omega)]
 ·rw [Nat.min_eq_right (by omega),List.drop_eq_nil_of_le (Nat.le_refl _),List.drop_eq_nil_of_le (by omega),List.take_nil]
theorem aj5 {α:Type} (xs:List α) (j k:Nat):a2f xs (some (j:Int)) (some (k:Int))=(xs.drop j).take (k - j):=by
 unfold a2f
 rw [HT.a5k,HT.a5k]
 by_cases h:j≤xs.length
 ·rw [Nat.min_eq_left h]
  by_cases h2:k≤xs.length
  ·rw [Nat.min_eq_left h2]
  ·rw [Nat.min_eq_right (by omega),List.take_of_length_le (by rw [List.length_drop];omega),List.take_of_length_le (by rw [List.length_drop];omega)]
 ·rw [Nat.min_eq_right (show xs.length≤j by omega),List.drop_eq_nil_of_le (Nat.le_refl _),List.drop_eq_nil_of_le (by omega),List.take_nil,List.take_nil]
end L2
namespace L2
open PySem PySem.Spec PyProof.Rows
def ac2 (J:It) (s0:St) (g:TG) (tc:TT) (te:TE) (Q:VK) (H1:Hp):Prop:=∃ W:Nat→Nat→List V→Hp→Prop,(∃ m,W 0 m [] H1)∧∀ i m ys H,W i m ys H →
 (J.stop i H∧∀ p,H p=none→Q (.ref p) (upd H p (.lst ys))) ∨
 (J.go i H∧ys.length<sizeLine∧∀ x H',J.yld i H x H'→g x s0 H' fun σ2 H2=>Ext s0 σ2∧tc σ2 H2 fun ok H2'=>if ok=true then te σ2 H2' (fun y H3=>∃ m',m'<m∧W (i+1) m' (ys++[y]) H3) else ∃ m',m'<m∧W (i+1) m' ys H2')
def a8a (wi:TI) (s0:St→St) (g:TG) (tc:TT) (te:TE):TE:=fun σ H Q=>wi σ H fun J H1=>ac2 J (s0 σ) g tc te Q H1
theorem a3m (elt target iter cnd:Expr) (scope:Scope) (pos:Pos) (it acc:Value) (env:Env) :
  compTurn (.ListComp elt [⟨target,iter,[cnd],0⟩] scope pos) 0 it acc env=(standAt iter.pos>>=fun _=>pyNext it>>=fun r=>match r with
   | none=>pure (.done .next)
   | some v=>letOwnedTupleGo target it v>>=fun _=>assign target env v>>=fun _=>isTrue cnd env (eval cnd env)>>=fun ok =>
    (if ok=true then (eval elt env>>=fun x=>call (.builtin "list.append") [acc,x]>>=fun _=>pure ()) else pure ())>>=fun _ =>
     again (.compLoop (.ListComp elt [⟨target,iter,[cnd],0⟩] scope pos) 0 it acc env)):=by
 first
  | rfl
  | (unfold compTurn;simp only [List.getElem?_cons_zero];rfl)
  | (show (standAt iter.pos>>=fun _=>pyNext it>>=fun r=>_)=_
     congr 1;funext _;congr 1;funext r
     cases r with
     | none=>rfl
     | some v =>
      show (letOwnedTupleGo target it v>>=fun _=>assign target env v>>=fun _=>_)=(letOwnedTupleGo target it v>>=fun _=>assign target env v>>=fun _=>_)
      congr 1;funext _;congr 1;funext _
      simp
      congr 1;funext ok
      cases ok with
      | false=>rw [if_neg Bool.false_ne_true,if_neg Bool.false_ne_true,pure_bind]
      | true =>
       rw [if_pos rfl,if_pos rfl,bind_assoc]
       congr 1;funext x
       rw [map_eq_pure_bind,bind_assoc]
       congr 1)
theorem aa7 {prog:Program} {w:World} {A:Around} {R:Result→Shared→Prop} {s:Shared} {elt target iter cnd:Expr} {scope:Scope} {pos:Pos} {it acc:Value} {env:Env} (J:Nat→Shared→Prop)
  (step:∀ m z,J m z→wpAny (model prog w) A (pyNext it) (fun got z1=>match got with
   | none=>R (.ok .next) z1
   | some v=>wpAny (model prog w) A (letOwnedTupleGo target it v) (fun _ z2=>wpAny (model prog w) A (assign target env v) (fun _ z3=>wpAny (model prog w) A (isTrue cnd env (eval cnd env)) (fun ok z3'=>if ok=true then wpAny (model prog w) A (eval elt env) (fun x z4 =>
     wpAny (model prog w) A (call (.builtin "list.append") [acc,x]) (fun _ z5=>∃ m',m'<m∧J m' z5) (fun _ _=>False) z4)
     (fun _ _=>False) z3' else ∃ m',m'<m∧J m' z3') (fun _ _=>False) z3) (fun _ _=>False) z2) (fun _ _=>False) z1) (fun _ _=>False) z)
  (m:Nat) (j0:J m s):codeAny (model prog w) A (.compLoop (.ListComp elt [⟨target,iter,[cnd],0⟩] scope pos) 0 it acc env) R s:=by
 refine codeAny_loop rfl J (fun m z hj=>(wpAny_noted ?_:wpAny _ _ ((compTurn (.ListComp elt [⟨target,iter,[cnd],0⟩] scope pos) 0 it acc env).onRaise _) _ _ z)) m j0
 rw [a3m]
 refine wpAny_bind (wpAny_standAt (wpAny_bind (wpAny_mono (step m z hj) (fun got z1 h1=>?_) fun _ _ no=>no.elim)))
 match got,h1 with
 | none,h1=>exact wpAny_pure h1
 | some v,h1 =>
  refine wpAny_bind (wpAny_mono h1 (fun _ z2 h2=>wpAny_bind (wpAny_mono h2 (fun _ z3 h3=>wpAny_bind (wpAny_mono h3 (fun ok z3' h3'=>?_) fun _ _ no=>no.elim)) fun _ _ no=>no.elim)) fun _ _ no=>no.elim)
  match ok,h3' with
  | true,h3' =>
   rw [if_pos rfl] at h3'
   refine wpAny_bind (wpAny_bind (wpAny_mono h3' (fun x z4 h4=>?_) fun _ _ no=>no.elim))
   exact wpAny_bind (wpAny_mono h4 (fun _ z5 h5=>wpAny_pure (wpAny_pure ⟨rfl,h5⟩)) fun _ _ no=>no.elim)
  | false,h3' =>
   rw [if_neg Bool.false_ne_true] at h3'
   exact wpAny_bind (wpAny_pure (wpAny_pure ⟨rfl,h3'⟩))
section
variable {X:Cx}
theorem a8b {elt tg iter cnd:Expr} {scope:Scope} {pos ppos:Pos} {cl:List (Str × Addr)} {ts fr:List Str} {ix:List Nat} {wi:TI} {g:TG} {tc:TT} {te:TE} (hc:X.calm=true) (S:CSc X scope cl ts fr ix) (hi:PI X tg iter wi)
  (hg:∀ C fp s H,PG (cxC X (ts++fr) scope cl C fp s H) tg g) (he:∀ C fp s H,PE (cxC X (ts++fr) scope cl C fp s H) elt te) (ht:∀ C fp s H,PT (cxC X (ts++fr) scope cl C fp s H) cnd tc) (hs:∀ x,foldedSetIterable iter X.env x=pure x)
  (use:Option (Value→Sem Unit)) {pins:List (Addr × Obj)} {s:Shared} {σ:St} {H:Hp} {Q:VK} {Qf:Value→Shared→Prop} (I:Inv X pins σ H s) (h:a8a wi (qw ts.length ix) g tc te σ H Q) (fin:a5n X pins σ use Q Qf) :
  wpAny (model X.prog X.w) X.A (comprehension (.ListComp elt [⟨tg,iter,[cnd],0⟩] scope pos) scope X.env ppos (newList []) false (eval iter X.env) use) Qf X.xe s:=by
 refine wpAny_comprehension_free (use:=use) rfl hs S.clos S.kind S.names (thn (hi pins s σ H _ I h) fun v s1 h1=>thn h1 fun itv s2 h2=>?_)
 obtain ⟨it,fp,tn,J,H2,e,I2,T,st2,f2,W,⟨m0,w0⟩,turn⟩:=h2
 subst e
 have hob:∀ b∈fp,b<s2.heap.objs.size:=fun b hb=>let ⟨o,e,_⟩:=T.obj _ _ st2 b hb;Heap.lt_size e
 refine wpAny_newObj_type (wpAny_newFunctionEnv S.nocell (by intro y hy;simp at hy) (fun h4 hns4 hsb4=>?_) S.kind)
 dsimp only at hns4 hsb4 ⊢
 generalize hH2:s2.heap.push { cls:=.type "list",dict:=none,data:=.seq ([]:List Value).toArray }=G at hns4 hsb4 ⊢
 have hCs:G.objs.size=s2.heap.objs.size+1:=by rw [← hH2,Heap.size_push]
 have hCle:s2.heap.objs.size≤G.objs.size:=by omega
 have hne:G.objs.size≠s2.heap.objs.size:=by omega
 have old:∀ b o,s2.heap.get? b=some o→h4.get? b=some o:=fun b o e=>by
  have hlt:=Heap.lt_size e
  exact hsb4.extBut b o (Nat.ne_of_lt (Nat.lt_of_lt_of_le hlt hCle)) (Heap.get?_push_of_some _ (hH2 ▸ Heap.get?_push_of_some _ e))
 have hacc:h4.get? s2.heap.objs.size=some { cls:=.type "list",data:=.seq ([]:List Value).toArray 0 } :=
  hsb4.extBut _ _ (Ne.symm hne) (Heap.get?_push_of_some _ (hH2 ▸ Heap.get?_push_size _ rfl))
 have K0:Inv (cxC X (ts++fr) scope cl G.objs.size fp s2 H2) [] (qw ts.length ix σ) H2 { s2 with heap:=h4,toks:=s2.toks+([]:List (Str × Value)).length } :=
  abz S I2 f2 hob hCle old hns4 rfl rfl
 have st4:tn 0 h4:=T.keep _ _ _ st2 fun b _ o e=>old b o e
 have accF:s2.heap.objs.size ∉ fp:=fun z=>Nat.lt_irrefl _ (hob _ z)
 have stat:∀ {H':Hp},(∀ b∈fp,H' b=none)→∀ b∈fp,a80 (cxC X (ts++fr) scope cl G.objs.size fp s2 H2) [] H' b:=fun hn b hb =>
  ⟨hn b hb,fun z=>by have h1:=hob b hb;have z':b=G.objs.size:=z;exact Nat.ne_of_lt (Nat.lt_of_lt_of_le h1 hCle) z',fun z=>(a74 S I2 f2 hob hCle).exfs b hb z, .inl hb,fun x c e=>(f2 b hb).2.2.2.2.1 x c (S.sub x c e),fun p hp=>absurd (show p∈([]:List (Addr × Obj)) from hp) (by simp)⟩
 have statA:∀ {H':Hp},H' s2.heap.objs.size=none→a80 (cxC X (ts++fr) scope cl G.objs.size fp s2 H2) [] H' s2.heap.objs.size:=fun hn =>
  ⟨hn,fun z=>hne (show G.objs.size=s2.heap.objs.size from z.symm),fun z=>by
   obtain ⟨_,o,ho,_⟩:=(a74 S I2 f2 hob hCle).funs.mem z
   exact Nat.lt_irrefl _ (Heap.lt_size ho), .inr (Nat.le_refl _),fun x c e z=>by
   obtain ⟨v,o,ho,_⟩:=I2.cell x c (S.sub x c e)
   rw [z] at ho
   exact Nat.lt_irrefl _ (Heap.lt_size ho),fun p hp=>absurd (show p∈([]:List (Addr × Obj)) from hp) (by simp)⟩
 have loop:∀ s4:Shared,s4={ s2 with heap:=h4,toks:=s2.toks+([]:List (Str × Value)).length } →
   codeAny (model X.prog X.w) X.A (.compLoop (.ListComp elt [⟨tg,iter,[cnd],0⟩] scope pos) 0 (.ref it) (.ref s2.heap.objs.size) (compEnvC scope cl G.objs.size X.env))
    (compPost (model X.prog X.w) X.A X.xe use Qf (.ref s2.heap.objs.size) G.objs.size) s4:=by
  rintro s4 rfl
  refine aa7 (fun n s'=>∃ i σ' H' ys its k,Inv (cxC X (ts++fr) scope cl G.objs.size fp s2 H2) [] σ' H' s'∧Ext (qw ts.length ix σ) σ'∧tn i s'.heap∧(∀ b∈fp,H' b=none)∧H' s2.heap.objs.size=none ∧
   s'.heap.get? s2.heap.objs.size=some { cls:=.type "list",data:=.seq its.toArray k }∧Vals ys its∧ys.length≤sizeLine∧W i n ys H') ?_ m0
   ⟨0,_,H2,[],[],0,K0,⟨rfl,fun _ _ z=>z⟩,st4,fun b hb=>(f2 b hb).1,I2.hok.fresh (Nat.le_refl _),hacc, .nil,Nat.zero_le _,w0⟩
  rintro n s5 ⟨i,σ5,H5,ys,its,k5,I5,x5,st5,fr5,fa5,ac5,rv5,hz5,w5⟩
  have I5':Inv (cxC X (ts++fr) scope cl G.objs.size fp s2 H2) [] (qw ts.length ix σ) H5 s5:=I5.weak x5.1.symm x5.2
  rcases turn i n ys H5 w5 with ⟨stop,qn⟩ | ⟨go,hlt,step⟩
  ·refine thn (T.done (cxC X (ts++fr) scope cl G.objs.size fp s2 H2) rfl rfl rfl hc i [(s2.heap.objs.size,{ cls:=.type "list",data:=.seq its.toArray k5 })] s5 _ H5 _ (I5'.pins_of fun p hp=>?_) (fun b hb=>?_) st5 stop) fun r s6 ⟨hr,I6⟩=>?_
   ·have e:p=(s2.heap.objs.size,{ cls:=.type "list",data:=.seq its.toArray k5 }):=by simpa using hp
    subst e
    obtain ⟨a0,a1,a2,_⟩:=statA fa5
    exact ⟨ac5,a0,a1,a2,fun v z=>by cases z⟩
   ·obtain ⟨b0,b1,b2,b3,b4,b5⟩:=stat fr5 b hb
    refine ⟨b0,b1,b2,b3,b4,fun p hp=>?_⟩
    have e:p=(s2.heap.objs.size,{ cls:=.type "list",data:=.seq its.toArray k5 }):=by
     have hp':p∈[(s2.heap.objs.size,_)]:=hp
     simpa using hp'
    subst e
    exact fun z=>accF (by have z':s2.heap.objs.size=b:=z;rw [z'];exact hb)
   ·subst hr
    have e6:=(I6.pin (s2.heap.objs.size,{ cls:=.type "list",data:=.seq its.toArray k5 }) (by show _∈[]++[_];simp)).1
    obtain ⟨m6,hn6,_⟩:=I6.loc
    exact fin _ _ s6 _ m6 hn6 (I2.fpOk hCle (by rw [j9 hne];exact I6.free)) (fun h' sb=>comp_back I2 f2 hCle (Nat.le_refl _) hne I6.unpinned' fa5 e6 rv5 hz5 sb) (qn _ fa5)
  ·refine thn (T.item (cxC X (ts++fr) scope cl G.objs.size fp s2 H2) rfl rfl rfl hc i [(s2.heap.objs.size,{ cls:=.type "list",data:=.seq its.toArray k5 })] s5 _ H5 _ (I5'.pins_of fun p hp=>?_) (fun b hb=>?_) st5 go) fun r s6 ⟨u,hr,h6⟩=>?_
   ·have e:p=(s2.heap.objs.size,{ cls:=.type "list",data:=.seq its.toArray k5 }):=by simpa using hp
    subst e
    obtain ⟨a0,a1,a2,_⟩:=statA fa5
    exact ⟨ac5,a0,a1,a2,fun v z=>by cases z⟩
   ·obtain ⟨b0,b1,b2,b3,b4,b5⟩:=stat fr5 b hb
    refine ⟨b0,b1,b2,b3,b4,fun p hp=>?_⟩
    have e:p=(s2.heap.objs.size,{ cls:=.type "list",data:=.seq its.toArray k5 }):=by
     have hp':p∈[(s2.heap.objs.size,_)]:=hp
     simpa using hp'
    subst e
    exact fun z=>accF (by have z':s2.heap.objs.size=b:=z;rw [z'];exact hb)
   ·subst hr
    refine thn h6 fun _ s7 ⟨x,H7,I7,r7,y7,st7,fr7⟩=>?_
    have fa7:H7 s2.heap.objs.size=none:=(I7.pin (s2.heap.objs.size,{ cls:=.type "list",data:=.seq its.toArray k5 }) (by show _∈[]++[_];simp)).2.1
    have ac7:=(I7.pin (s2.heap.objs.size,{ cls:=.type "list",data:=.seq its.toArray k5 }) (by show _∈[]++[_];simp)).1
    have I7':Inv (cxC X (ts++fr) scope cl G.objs.size fp s2 H2) ([]++a4n (s2.heap.objs.size::fp) s7.heap) (qw ts.length ix σ) H7 s7:=by
     refine Inv.pinned I7.unpinned' (fun b hb=>?_) fun b hb=>?_
     ·rcases List.mem_cons.mp hb with e | e
      ·subst e;exact statA fa7
      ·exact stat fr7 b e
     ·rcases List.mem_cons.mp hb with e | e
      ·subst e;exact ⟨_,ac7,fun v z=>by cases z⟩
      ·exact T.obj _ _ st7 b e
    refine thn (hg G.objs.size fp s2 H2 _ s7 _ H7 x u _ I7' r7 (step x H7 y7)) fun _ s8 ⟨σ8,H8,I8,x8,q8⟩=>?_
    refine thn (ht G.objs.size fp s2 H2 _ s8 _ H8 _ I8 q8) fun ok s8' ⟨H8',I8',q8'⟩=>?_
    cases ok with
    | false =>
     rw [if_neg Bool.false_ne_true] at q8' ⊢
     obtain ⟨m',hm',w9⟩:=q8'
     obtain ⟨ac9,fa9,_⟩:=I8'.pin (s2.heap.objs.size,{ cls:=.type "list",data:=.seq its.toArray k5 }) (by show _∈[]++([]++_);simp;exact qu List.mem_cons_self ac7)
     have keep9:∀ b∈fp,∀ o,s7.heap.get? b=some o→s8'.heap.get? b=some o∧H8' b=none:=fun b hb o e=>by
      obtain ⟨z1,z2,_⟩:=I8'.pin (b,o) (by show _∈[]++([]++_);simp;exact qu (List.mem_cons_of_mem _ hb) e)
      exact ⟨z1,z2⟩
     refine ⟨m',hm',i+1,σ8,H8',ys,its,k5,I8'.unpinned',x8,?_,?_,fa9,ac9,rv5,hz5,w9⟩
     ·exact T.keep _ _ _ st7 fun b hb o e=>(keep9 b hb o e).1
     ·intro b hb
      obtain ⟨o,e,_⟩:=T.obj _ _ st7 b hb
      exact (keep9 b hb o e).2
    | true =>
     rw [if_pos rfl] at q8' ⊢
     refine thn (he G.objs.size fp s2 H2 _ s8' _ H8' _ I8' q8') fun yv s9 ⟨y,H9,I9,r9,m',hm',w9⟩=>?_
     obtain ⟨ac9,fa9,_⟩:=I9.pin (s2.heap.objs.size,{ cls:=.type "list",data:=.seq its.toArray k5 }) (by show _∈[]++([]++_);simp;exact qu List.mem_cons_self ac7)
     have keep9:∀ b∈fp,∀ o,s7.heap.get? b=some o→s9.heap.get? b=some o∧H9 b=none:=fun b hb o e=>by
      obtain ⟨z1,z2,_⟩:=I9.pin (b,o) (by show _∈[]++([]++_);simp;exact qu (List.mem_cons_of_mem _ hb) e)
      exact ⟨z1,z2⟩
     have hl:=rv5.length
     refine call_meets F.slot_list_append ⟨_,ac9,rfl⟩ F.entry_list_append (F.args_list_append_2 _ _) (PySem.list_append s2.heap.objs.size its.toArray k5 yv (by rw [List.size_toArray];omega)) ⟨ac9,?_⟩
     have q:=PySem.IsL.update ac9 (fun a=>a.push yv)
     have qo:∀ b o,b≠s2.heap.objs.size→s9.heap.get? b=some o→(s9.heap.update s2.heap.objs.size (Obj.mapSeq (fun a=>a.push yv))).get? b=some o:=fun b o hb e=>(Heap.get?_update_other s9.heap _ (Ne.symm hb)).trans e
     have q':∃ k,(s9.heap.update s2.heap.objs.size (Obj.mapSeq (fun a=>a.push yv))).get? s2.heap.objs.size=some { cls:=.type "list",data:=.seq (its++[yv]).toArray k }:=⟨_,by rw [q];simp;rfl⟩
     obtain ⟨k9,q9⟩:=q'
     obtain ⟨a0,a1,a2,a3,a4,a5⟩:=statA (show H9 s2.heap.objs.size=none from fa9)
     refine ⟨m',hm',i+1,σ8,H9,ys++[y],its++[yv],k9,(I9.unpinned').turned qo a0 a1 a3 a4 a5,x8,?_,?_,fa9,q9,rv5.append (.cons r9 .nil),?_,w9⟩
     ·refine T.keep _ _ _ st7 fun b hb o e=>qo b o (fun z=>accF (z ▸ hb)) (keep9 b hb o e).1
     ·intro b hb
      obtain ⟨o,e,_⟩:=T.obj _ _ st7 b hb
      exact (keep9 b hb o e).2
     ·rw [List.length_append,List.length_singleton];omega
 exact codeAny_compStart_list (loop _ rfl) (T.self _ 0 _ _ _ st4 (loop _ rfl))
theorem aa8 {elt tg iter cnd:Expr} {scope:Scope} {pos:Pos} {cl:List (Str × Addr)} {ts fr:List Str} {ix:List Nat} {wi:TI} {g:TG} {tc:TT} {te:TE} {i:Nat} {x:Str} {pos' spos:Pos} (hN:X.N.Nodup) (hi':X.N[i]? = some x) (hx:Loc X.env.scope x) (hc:X.calm=true) (S:CSc X scope cl ts fr ix) (hi:PI X tg iter wi)
  (hg:∀ C fp s H,PG (cxC X (ts++fr) scope cl C fp s H) tg g) (he:∀ C fp s H,PE (cxC X (ts++fr) scope cl C fp s H) elt te) (ht:∀ C fp s H,PT (cxC X (ts++fr) scope cl C fp s H) cnd tc)
  (hs:∀ x,foldedSetIterable iter X.env x=pure x:=by intro _;rfl) (hsw:swapsWith (.ListComp elt [⟨tg,iter,[cnd],0⟩] scope pos) (some (.Name x pos')) spos.line X.env=pure true:=by rfl) (hf:X.fn x=true∨X.env.scope.names.lookup x=some .local:=by first | exact .inl rfl | exact .inr rfl | assumption) :
  PS X (.Assign [.Name x pos'] (.ListComp elt [⟨tg,iter,[cnd],0⟩] scope pos) spos) (apx (a8a wi (qw ts.length ix) g tc te) (a5h i)):=by
 intro pins s σ H D I h
 rw [exec_Assign_Name_used _ _ _ _ hsw]
 refine wpAny_bind (wpAny_standAt (wpAny_bind ?_))
 refine wpAny_bind (wpAny_mono (a8b hc S hi hg he ht hs (some (assign (.Name x pos') X.env)) I h (a8y hN hi' hx hf)) (fun _ s' hq=>wpAny_pure (wpAny_pure hq)) fun _ _ e=>e)
end
end L2
namespace L2
open PySem PySem.Spec PyProof.Rows
section
variable {X:Cx}
def a0t (T:Str) (c:Nat):Int:=Txt.find T ⟨#[c]⟩
theorem a8c (s sub:Str) (hi limit:Nat):∀ (l:List Nat) (st:Array Nat × Nat) (k:Nat),k∈(forIn l st (StrLaws.occBody s sub hi limit)).run.fst.toList→k∈st.fst.toList∨(k+sub.length≤hi∧Builtin.Str.subAt s sub k=true)
 | [],st,k,h=>.inl h
 | a::l,st,k,h=>by
  rw [List.forIn_cons] at h
  unfold StrLaws.occBody at h
  split at h
  ·rename_i c
   rcases a8c s sub hi limit l _ k h with z | z
   ·simp at z
    rcases z with z | z
    ·exact .inl (by simpa using z)
    ·subst z;exact .inr ⟨c.1.2,c.2⟩
   ·exact .inr z
  ·rcases a8c s sub hi limit l _ k h with z | z
   ·exact .inl z
   ·exact .inr z
theorem a8z {T:Str} {c:Nat} (h:c∈T.cps.toList):∃ i:Nat,a0t T c=(i:Int)∧T.cps.toList[i]? = some c∧∃ rest,Builtin.Str.occurrences T ⟨#[c]⟩ 0 T.length 1=i::rest:=by
 have h1:=StrLaws.found_one T c
 rw [decide_eq_true h] at h1
 cases ho:Builtin.Str.occurrences T ⟨#[c]⟩ 0 T.length 1 with
 | nil=>rw [ho] at h1;cases h1
 | cons i rest =>
  refine ⟨i,by simp [a0t,Txt.find,ho],?_,rest,rfl⟩
  rw [StrLaws.occ_eq] at ho
  have hm:=a8c T ⟨#[c]⟩ T.length 1 (List.range' 0 (T.length+1 - 0)) (#[],0) i (by rw [ho];exact List.mem_cons_self)
  rcases hm with z | z
  ·simp at z
  ·exact (StrLaws.subAt_one T c i).mp z
theorem aj6:OpR X (compareOp .In) (fun x y H Q=>∃ c T,x = .str ⟨#[c]⟩∧y = .str T∧Q (.bl (decide (c∈T.cps.toList))) H):=by
 intro pins s σ H x y v u Q I rx ry h
 obtain ⟨c,T,rfl,rfl,q⟩:=h
 exact abi pins s σ H _ _ v u Q I rx ry ⟨_,_,rfl,rfl,by rw [StrLaws.found_one];exact q⟩
theorem a4r:OpR X (compareOp .NotIn) (fun x y H Q=>∃ c T,x = .str ⟨#[c]⟩∧y = .str T∧Q (.bl (!decide (c∈T.cps.toList))) H):=by
 intro pins s σ H x y v u Q I rx ry h
 obtain ⟨c,T,rfl,rfl,q⟩:=h
 exact a6v pins s σ H _ _ v u Q I rx ry ⟨_,_,rfl,rfl,by rw [StrLaws.found_one];exact q⟩
theorem aj7:MtR X "str.find" (fun x xs H Q=>∃ T c,x = .str T∧xs=[.str ⟨#[c]⟩]∧Q (.int (a0t T c)) H):=by
 intro pins s σ H x xs v us Q I rx rs h
 obtain ⟨T,c,rfl,rfl,q⟩:=h
 obtain ⟨t,rfl⟩:=rx
 obtain ⟨u,rfl,t',rfl⟩:=vals1 rs
 exact call_meets F.slot_str_find (typeIs_str _ _ _) F.entry_str_find (F.args_str_find_2 _ _) (gives_str_find _ _ _ _).meets ⟨.int (a0t T c),H,I.tok _,⟨_,rfl⟩,q⟩
theorem af9:MtR X "str.index" (fun x xs H Q=>∃ T c,x = .str T∧xs=[.str ⟨#[c]⟩]∧c∈T.cps.toList∧Q (.int (a0t T c)) H):=by
 intro pins s σ H x xs v us Q I rx rs h
 obtain ⟨T,c,rfl,rfl,hc,q⟩:=h
 obtain ⟨t,rfl⟩:=rx
 obtain ⟨u,rfl,t',rfl⟩:=vals1 rs
 obtain ⟨i,e1,e2,rest,ho⟩:=a8z hc
 refine call_meets F.slot_str_index (typeIs_str _ _ _) F.entry_str_index (F.args_str_index_2 _ _) (gives_str_index _ _ _ _ i rest ho).meets ⟨.int (a0t T c),H,I.tok _,⟨_,by rw [e1]⟩,q⟩
theorem aj8 {zs:List Str}:∀ {us:List Value},Vals (zs.map V.str) us→StrsAre us zs:=by
 induction zs with
 | nil=>intro us r;rw [List.map_nil] at r;cases r;exact .nil
 | cons z zs ih =>
  intro us r
  rw [List.map_cons] at r
  cases r with
  | cons r1 r2 =>
   obtain ⟨t,e⟩:=r1
   subst e
   exact .cons z t (ih r2)
theorem aj9:MtR X "str.join" (fun x xs H Q=>∃ sep p zs,x = .str sep∧xs=[.ref p]∧SqL X.K H p (zs.map V.str)∧(zs.map (·.length)).sum+zs.length*sep.length≤16777216∧Q (.str (Txt.join sep zs)) H):=by
 intro pins s σ H x xs v us Q I rx rs h
 obtain ⟨sep,p,zs,rfl,rfl,hp,hz,q⟩:=h
 obtain ⟨t,rfl⟩:=rx
 obtain ⟨u,rfl,ru⟩:=vals1 rs
 cases ru
 obtain ⟨its,r,pl,_⟩:=I.list hp
 exact join_list pl.isList (by simpa using aj8 r) hz fun t' k=>⟨.str _,H,I.tok _,⟨_,rfl⟩,q⟩
end
theorem CSc.of {X:Cx} {scope:Scope} {cl:List (Str × Addr)} {ts fr:List Str} {ix:List Nat} (clos:closureFor scope X.env=pure cl) (kind:scope.kind = .function)
  (nocell:(scope.names.all fun p=>p.2 != .cell)=true) (names:(scope.names.all fun p=>p.2 != .local || scope.names.lookup p.1 == some .local)=true) (sub:∀ p∈cl,X.env.cells.lookup p.1=some p.2)
  (has:((relabel scope X.env).names.all fun p => !(p.2 == .cell || p.2 == .free) || (cl.lookup p.1).isSome)=true) (nofn:(ts.all fun y=>(relabel scope X.env).names.lookup y == some .local)=true)
  (len:ix.length=fr.length) (vis:((fr.zip ix).all fun p=>X.N[p.2]? == some p.1 && (X.env.kindOf p.1 == some .cell || X.env.kindOf p.1 == some .free) && ((relabel scope X.env).names.lookup p.1 == some .cell || (relabel scope X.env).names.lookup p.1 == some .free))=true) :
  CSc X scope cl ts fr ix:=by
 refine ⟨clos,kind,fun y hy=>?_,fun y hy e=>?_,fun y c e=>sub _ (PySem.mem_of_lookup e),fun y z=>?_,fun y hy=>?_,len,fun j y e=>?_⟩
 ·have:=List.all_eq_true.mp nocell y hy
  simpa using this
 ·have:=List.all_eq_true.mp names y hy
  rw [e] at this
  simpa using this
 ·have key:∀ k,(relabel scope X.env).names.lookup y=some k→(k == .cell || k == .free)=true→∃ c,cl.lookup y=some c:=fun k e hk=>by
   have:=List.all_eq_true.mp has _ (PySem.mem_of_lookup e)
   rw [hk] at this
   exact Option.isSome_iff_exists.mp (by simpa using this)
  rcases z with z | z
  ·exact key _ z rfl
  ·exact key _ z rfl
 ·have:=List.all_eq_true.mp nofn y hy
  simpa using this
 ·obtain ⟨hj,_⟩:=List.getElem?_eq_some_iff.mp e
  have hj2:j<ix.length:=by omega
  have hm:(y,ix[j])∈fr.zip ix:=by
   rw [List.mem_iff_getElem?]
   exact ⟨j,by rw [List.getElem?_zip_eq_some];exact ⟨e,List.getElem?_eq_getElem hj2⟩⟩
  have:=List.all_eq_true.mp vis _ hm
  simp only [Bool.and_eq_true,Bool.or_eq_true,beq_iff_eq] at this
  exact ⟨ix[j],List.getElem?_eq_getElem hj2,this.1.1,this.1.2,this.2⟩
end L2
namespace HT
open PySem PySem.Spec PyProof.Rows
end HT
namespace L2
open PySem PySem.Spec PyProof.Rows
end L2
namespace L2
open PySem PySem.Spec PyProof.Rows
def tSM (r:V→List V→Hp→VK→Prop) (to:TE) (t:TA):TE:=fun σ H Q=>to σ H fun x H1=>(∃ z,x = .str z)∧t σ H1 fun xs H2=>r x xs H2 Q
theorem aqs {X:Cx} {o e:Expr} {es:List Expr} {to:TE} {t:TA} {name:Str} {apos cpos:Pos} {id:String} {r:V→List V→Hp→VK→Prop} (slot:Slot "str" name id) (hty:typeOf (.builtin id)=pure (.type "method_descriptor")) (hm:MtR X id r) (ho:PE X o to) (ha:PA X (e::es) t)
  (hbase:attributeBase o name X.env (eval o X.env)=eval o X.env:=by rfl)
  (hfew:((backTo cpos (starEach (e::es) X.env)).all (fun x => !x.1) && (backToKw cpos (keywordEach [] X.env)).all (fun x=>x.1.isSome)
   && decide ((e::es).length+([]:List Keyword).length+(if ([]:List Keyword).isEmpty then 0 else 1)<30))=true:=by rfl)
  (hline:(apos.endLine == cpos.line)=true:=by rfl) (hs:starEach (e::es) X.env=(false,eval e X.env)::starEach es X.env:=by rfl) (hplain:(backTo cpos (starEach es X.env)).any (·.1)=false:=by rfl) :
  PE X (.Call (.Attribute o name apos) (e::es) [] cpos) (tSM r to t):=by
 intro pins s σ H Q I h
 refine wpAny_Call_method_late hbase hfew hline rfl (thn (ho pins s σ H _ I h) fun v s1 ⟨x,H1,I1,r1,⟨z,hz⟩,q1⟩=>?_)
 subst hz
 obtain ⟨h1,h2⟩:=ahh (T := "str") I1 r1 rfl
 refine ⟨"str",id,PySem.F.plainAttrs_str,slot,hty,h1,h2,?_⟩
 have hA:=ha cpos pins s1 σ H1 _ I1 q1
 rw [hs] at hA ⊢
 refine Calls.callWith_builtin (by show (false || (backTo cpos (starEach es X.env)).any (·.1))=false;rw [hplain]<;>rfl) (Calls.evalArgs_plain ?_)
 exact thn hA fun us s2 ⟨vs,H2,I2,r2,q2⟩=>hm pins s2 σ H2 _ vs v us Q I2 r1 r2 q2
end L2
namespace L2
open PySem PySem.Spec PyProof.Rows
end L2
namespace SHP
open PySem L2
end SHP
namespace L2
open PySem PySem.Spec PyProof.Rows
def mxI:List Int→Int
 | []=>0
 | [a]=>a
 | a::b::r=>if mxI (b::r)≤a then a else mxI (b::r)
theorem ac3:∀ {l:List Int},l≠[]→mxI l∈l∧∀ x∈l,x≤mxI l
 | [],h=>absurd rfl h
 | [a],_=>⟨List.mem_singleton.mpr rfl,fun x hx=>by rw [List.mem_singleton.mp hx];exact Int.le_refl a⟩
 | a::b::r,_=>by
  obtain ⟨i,m⟩:=ac3 (l:=b::r) (by simp)
  unfold mxI
  split
  ·rename_i h
   refine ⟨List.mem_cons_self,fun x hx=>?_⟩
   rcases List.mem_cons.mp hx with rfl | hx
   ·exact Int.le_refl _
   ·exact Int.le_trans (m x hx) h
  ·rename_i h
   refine ⟨List.mem_cons_of_mem _ i,fun x hx=>?_⟩
   rcases List.mem_cons.mp hx with rfl | hx
   ·omega
   ·exact m x hx
theorem an0 {l:List Int} {k:Int} (h1:k∈l) (h2:∀ x∈l,x≤k):k=mxI l:=by
 obtain ⟨a,b⟩:=ac3 (l:=l) (by intro z;subst z;cases h1)
 have:=b k h1
 have:=h2 _ a
 omega
end L2
namespace L2
open PySem PySem.Spec PyProof.Rows
end L2
namespace SHP
open PySem L2
end SHP
namespace MI
open PySem L2
inductive D where
 | non | bl (b:Bool) | int (i:Int) | str (x:Str) | ty (n:String) | tup (xs:List D) | rol (xs:List D) | ref (i:Nat) | scr (xs:List D) | rod (ks:List Key) (xs:List D) | rdT (ks:List (List Key)) (xs:List D) | exc (c:Str)
inductive O where
 | lst (xs:List D) | dK (kvs:List (Key × D)) | dT (kvs:List (List Key × D))
abbrev Hd:=List O
abbrev Sd:=List (Option D)
inductive R (α:Type) where
 | ok (a:α) (h:Hd) | ex (c:Str) (h:Hd) | no
def R.bind {α β:Type}:R α→(α→Hd→R β)→R β
 | .ok a h,k=>k a h
 | .ex c h,_=>.ex c h
 | .no,_=>.no
inductive Fl where
 | nx (σ:Sd) (h:Hd) | rt (d:D) (h:Hd) | bk (σ:Sd) (h:Hd) | ct (σ:Sd) (h:Hd) | ex (c:Str) (h:Hd) | no
def R.fl {α:Type}:R α→(α→Hd→Fl)→Fl
 | .ok a h,k=>k a h
 | .ex c h,_=>.ex c h
 | .no,_=>.no
abbrev SE:=Sd→Hd→R D
abbrev ST:=Sd→Hd→R Bool
abbrev SA:=Sd→Hd→R (List D)
abbrev SS:=Sd→Hd→Fl
def SqF (K:PySem.W.Frag) (H:Hp) (a:Addr) (vs:List V):Prop:=(∃ o,H a=some (.frz o (.lst vs)))∨SqL K (fun _=>none) a vs
theorem SqF.l {K:PySem.W.Frag} {H:Hp} {a:Addr} {vs:List V} (h:SqF K H a vs):SqL K H a vs:=by
 rcases h with ⟨o,h⟩ | h
 ·exact .inl (.inr ⟨o,h⟩)
 ·rcases h with (h | ⟨o,h⟩) | h
  ·cases h
  ·cases h
  ·exact .inr h
def SqZ (H:Hp) (a:Addr) (vs:List V):Prop:=∃ o,H a=some (.frz o (.lst vs))
theorem SqZ.l {K:PySem.W.Frag} {H:Hp} {a:Addr} {vs:List V} (h:SqZ H a vs):SqL K H a vs:=let ⟨o,e⟩:=h; .inl (.inr ⟨o,e⟩)
def exO (a:Addr):HO:=.ext fun h=>∃ o,h.get? a=some o
mutual
inductive Rep (K:PySem.W.Frag) (ι:List Addr) (H:Hp):V→D→Prop
 | non:Rep K ι H .non .non
 | bl (b:Bool):Rep K ι H (.bl b) (.bl b)
 | int (i:Int):Rep K ι H (.int i) (.int i)
 | str (x:Str):Rep K ι H (.str x) (.str x)
 | ty (n:String):Rep K ι H (.ty n) (.ty n)
 | tup {a:Addr} {vs:List V} {xs:List D} (h:H a=some (.tup vs)) (r:Reps K ι H vs xs):Rep K ι H (.ref a) (.tup xs)
 | rol {a:Addr} {vs:List V} {xs:List D} (h:SqZ H a vs) (r:Reps K ι H vs xs):Rep K ι H (.ref a) (.rol xs)
 | scr {a:Addr} {vs:List V} {xs:List D} (h:SqF K H a vs) (r:Reps K ι H vs xs):Rep K ι H (.ref a) (.scr xs)
 | ref {a:Addr} {i:Nat} (h:ι[i]? = some a):Rep K ι H (.ref a) (.ref i)
 | rod {a:Addr} {o:Obj} {us:List (Key × V)} {ks:List Key} {xs:List D} (h:H a=some (.frz o (.dK us))) (e:us.map (·.1)=ks) (r:Reps K ι H (us.map (·.2)) xs):Rep K ι H (.ref a) (.rod ks xs)
 | rdT {a:Addr} {o:Obj} {us:List (List Key × V)} {ks:List (List Key)} {xs:List D} (h:H a=some (.frz o (.dT us))) (e:us.map (·.1)=ks) (r:Reps K ι H (us.map (·.2)) xs):Rep K ι H (.ref a) (.rdT ks xs)
 | exc {a C:Addr} {o:Obj} {c:Str} (h:H a=some (.frz o (exO a))) (hc:o.cls = .ref C) (hn:PySem.W.nsIn K mainGlobals c=some (some (.ref C))):Rep K ι H (.ref a) (.exc c)
inductive Reps (K:PySem.W.Frag) (ι:List Addr) (H:Hp):List V→List D→Prop
 | nil:Reps K ι H [] []
 | cons {v:V} {d:D} {vs:List V} {ds:List D} (r:Rep K ι H v d) (rs:Reps K ι H vs ds):Reps K ι H (v::vs) (d::ds)
end
structure Gw (ι:List Addr) (H:Hp) (ι':List Addr) (H':Hp):Prop where
 pre:∃ m,ι'=ι++m
 tup:∀ a vs,H a=some (.tup vs)→H' a=some (.tup vs)
 frz:∀ a o u,H a=some (.frz o u)→H' a=some (.frz o u)
structure Gr (ι:List Addr) (H:Hp) (ι':List Addr) (H':Hp):Prop where
 pre:∃ m,ι'=ι++m∧∀ a∈m,H a=none
 tup:∀ a vs,H a=some (.tup vs)→H' a=some (.tup vs)
 frz:∀ a o u,H a=some (.frz o u)→H' a=some (.frz o u)
 oth:∀ a u,H a=some u→a ∉ ι→H' a=some u
 kp:∀ a u,H a=some u→∃ u',H' a=some u'
theorem Gr.w {ι ι':List Addr} {H H':Hp} (g:Gr ι H ι' H'):Gw ι H ι' H':=⟨let ⟨m,e,_⟩:=g.pre; ⟨m,e⟩,g.tup,g.frz⟩
theorem Gr.refl (ι:List Addr) (H:Hp):Gr ι H ι H:=⟨⟨[],by simp,by simp⟩,fun _ _ h=>h,fun _ _ _ h=>h,fun _ _ h _=>h,fun _ u h=>⟨u,h⟩⟩
theorem Gr.trans {ι ι1 ι2:List Addr} {H H1 H2:Hp} (a:Gr ι H ι1 H1) (b:Gr ι1 H1 ι2 H2):Gr ι H ι2 H2:=by
 obtain ⟨m,rfl,hm⟩:=a.pre
 obtain ⟨n,rfl,hn⟩:=b.pre
 refine ⟨⟨m++n,by simp,fun x hx=>?_⟩,fun x vs h=>b.tup x vs (a.tup x vs h),fun x o u h=>b.frz x o u (a.frz x o u h),fun x u h hx=>?_,fun x u h=>?_⟩
 ·rcases List.mem_append.mp hx with hx | hx
  ·exact hm x hx
  ·cases e:H x with
   | none=>rfl
   | some u =>
    obtain ⟨u',e'⟩:=a.kp x u e
    rw [hn x hx] at e';cases e'
 ·refine b.oth x u (a.oth x u h hx) fun z=>?_
  rcases List.mem_append.mp z with z | z
  ·exact hx z
  ·rw [hm x z] at h;cases h
 ·obtain ⟨u',e⟩:=a.kp x u h
  exact b.kp x u' e
theorem Gw.at {ι ι':List Addr} {H H':Hp} (g:Gw ι H ι' H') {i:Nat} {a:Addr} (h:ι[i]? = some a):ι'[i]? = some a:=by
 obtain ⟨m,rfl⟩:=g.pre
 rw [List.getElem?_append_left (List.getElem?_eq_some_iff.mp h).1]
 exact h
theorem Gr.at {ι ι':List Addr} {H H':Hp} (g:Gr ι H ι' H') {i:Nat} {a:Addr} (h:ι[i]? = some a):ι'[i]? = some a:=g.w.at h
theorem SqF.monoW {K:PySem.W.Frag} {ι ι':List Addr} {H H':Hp} (g:Gw ι H ι' H') {a:Addr} {vs:List V} (h:SqF K H a vs):SqF K H' a vs:=by
 rcases h with ⟨o,h⟩ | h
 ·exact .inl ⟨o,g.frz _ _ _ h⟩
 ·exact .inr h
theorem SqZ.monoW {ι ι':List Addr} {H H':Hp} (g:Gw ι H ι' H') {a:Addr} {vs:List V} (h:SqZ H a vs):SqZ H' a vs:=let ⟨o,e⟩:=h; ⟨o,g.frz _ _ _ e⟩
theorem SqZ.mono {ι ι':List Addr} {H H':Hp} (g:Gr ι H ι' H') {a:Addr} {vs:List V} (h:SqZ H a vs):SqZ H' a vs:=h.monoW g.w
mutual
theorem Rep.monoW {K:PySem.W.Frag} {ι ι':List Addr} {H H':Hp} (g:Gw ι H ι' H'):∀ {v:V} {d:D},Rep K ι H v d→Rep K ι' H' v d
 | _,_, .non=>.non
 | _,_, .bl b=>.bl b
 | _,_, .int i=>.int i
 | _,_, .str x=>.str x
 | _,_, .ty n=>.ty n
 | _,_, .tup h r=>.tup (g.tup _ _ h) (Reps.monoW g r)
 | _,_, .rol h r=>.rol (h.monoW g) (Reps.monoW g r)
 | _,_, .scr h r=>.scr (h.monoW g) (Reps.monoW g r)
 | _,_, .ref h=>.ref (g.at h)
 | _,_, .rod h e r=>.rod (g.frz _ _ _ h) e (Reps.monoW g r)
 | _,_, .rdT h e r=>.rdT (g.frz _ _ _ h) e (Reps.monoW g r)
 | _,_, .exc h hc hn=>.exc (g.frz _ _ _ h) hc hn
theorem Reps.monoW {K:PySem.W.Frag} {ι ι':List Addr} {H H':Hp} (g:Gw ι H ι' H'):∀ {vs:List V} {ds:List D},Reps K ι H vs ds→Reps K ι' H' vs ds
 | _,_, .nil=>.nil
 | _,_, .cons r rs=>.cons (Rep.monoW g r) (Reps.monoW g rs)
end
theorem Rep.mono {K:PySem.W.Frag} {ι ι':List Addr} {H H':Hp} (g:Gr ι H ι' H') {v:V} {d:D} (r:Rep K ι H v d):Rep K ι' H' v d:=r.monoW g.w
theorem Reps.mono {K:PySem.W.Frag} {ι ι':List Addr} {H H':Hp} (g:Gr ι H ι' H') {vs:List V} {ds:List D} (r:Reps K ι H vs ds):Reps K ι' H' vs ds:=r.monoW g.w
section
variable {K:PySem.W.Frag} {ι:List Addr} {H:Hp}
theorem Reps.len {vs:List V} {ds:List D}:Reps K ι H vs ds→vs.length=ds.length
 | .nil=>rfl
 | .cons _ rs=>by rw [List.length_cons,List.length_cons,rs.len]
theorem Reps.get:∀ {vs:List V} {ds:List D} {i:Nat} {d:D},Reps K ι H vs ds→ds[i]? = some d→∃ v,vs[i]? = some v∧Rep K ι H v d
 | _,_,_,_, .nil,e=>by simp at e
 | _,_,0,_, .cons r _,e=>by simp at e;subst e;exact ⟨_,rfl,r⟩
 | _,_,i+1,d, .cons _ rs,e=>by
  obtain ⟨u,h1,h2⟩:=Reps.get (i:=i) (d:=d) rs (by simpa using e)
  exact ⟨u,by simpa using h1,h2⟩
theorem Reps.app:∀ {vs us:List V} {ds es:List D},Reps K ι H vs ds→Reps K ι H us es→Reps K ι H (vs++us) (ds++es)
 | _,_,_,_, .nil,s=>s
 | _,_,_,_, .cons r rs,s=>.cons r (Reps.app rs s)
theorem Reps.set {v:V} {d:D} (q:Rep K ι H v d):∀ {vs:List V} {ds:List D} (i:Nat),Reps K ι H vs ds→Reps K ι H (vs.set i v) (ds.set i d)
 | _,_,_, .nil=>.nil
 | _,_,0, .cons _ rs=>.cons q rs
 | _,_,i+1, .cons r rs=>.cons r (Reps.set q i rs)
theorem Reps.take:∀ {vs:List V} {ds:List D} (n:Nat),Reps K ι H vs ds→Reps K ι H (vs.take n) (ds.take n)
 | _,_,0,_=>.nil
 | _,_,_+1, .nil=>.nil
 | _,_,n+1, .cons r rs=>.cons r (Reps.take n rs)
theorem Reps.drop:∀ {vs:List V} {ds:List D} (n:Nat),Reps K ι H vs ds→Reps K ι H (vs.drop n) (ds.drop n)
 | _,_,0,r=>r
 | _,_,_+1, .nil=>.nil
 | _,_,n+1, .cons _ rs=>Reps.drop n rs
theorem Reps.erase:∀ {vs:List V} {ds:List D} (n:Nat),Reps K ι H vs ds→Reps K ι H (vs.eraseIdx n) (ds.eraseIdx n)
 | _,_,_, .nil=>.nil
 | _,_,0, .cons _ rs=>rs
 | _,_,n+1, .cons r rs=>.cons r (Reps.erase n rs)
theorem Reps.snoc {vs:List V} {ds:List D} {v:V} {d:D} (r:Reps K ι H vs ds) (q:Rep K ι H v d):Reps K ι H (vs++[v]) (ds++[d]):=r.app (.cons q .nil)
theorem Reps.flat:∀ {vs:List V} {ds:List D} (k:Nat),Reps K ι H vs ds→Reps K ι H (List.replicate k vs).flatten (List.replicate k ds).flatten
 | _,_,0,_=>.nil
 | vs,ds,k+1,r=>by
  rw [List.replicate_succ,List.replicate_succ,List.flatten_cons,List.flatten_cons]
  exact r.app (Reps.flat k r)
end
def KRep {κ:Type} (K:PySem.W.Frag) (ι:List Addr) (H:Hp) (us:List (κ × V)) (kvs:List (κ × D)):Prop:=us.map (·.1)=kvs.map (·.1)∧Reps K ι H (us.map (·.2)) (kvs.map (·.2))
def ORep (K:PySem.W.Frag) (ι:List Addr) (H:Hp) (a:Addr):O→Prop
 | .lst xs=>∃ vs,H a=some (.lst vs)∧Reps K ι H vs xs
 | .dK kvs=>∃ us,H a=some (.dK us)∧KRep K ι H us kvs
 | .dT kvs=>∃ us,H a=some (.dT us)∧KRep K ι H us kvs
structure HRep (K:PySem.W.Frag) (ι:List Addr) (H:Hp) (h:Hd):Prop where
 nd:ι.Nodup
 len:ι.length=h.length
 obj:∀ (i:Nat) (a:Addr) (o:O),ι[i]? = some a→h[i]? = some o→ORep K ι H a o
section
variable {K:PySem.W.Frag} {ι:List Addr} {H:Hp} {h:Hd}
theorem ORep.some {a:Addr} {o:O} (r:ORep K ι H a o):∃ u,H a=some u∧(∀ vs,u≠.tup vs)∧(∀ o' u',u≠.frz o' u'):=by
 cases o with
 | lst xs=>obtain ⟨vs,e,_⟩:=r;exact ⟨_,e,fun _ z=>(by cases z),fun _ _ z=>(by cases z)⟩
 | dK kvs=>obtain ⟨us,e,_⟩:=r;exact ⟨_,e,fun _ z=>(by cases z),fun _ _ z=>(by cases z)⟩
 | dT kvs=>obtain ⟨us,e,_⟩:=r;exact ⟨_,e,fun _ z=>(by cases z),fun _ _ z=>(by cases z)⟩
theorem HRep.at (r:HRep K ι H h) {i:Nat} {a:Addr} (e:ι[i]? = some a):∃ o,h[i]? = some o∧ORep K ι H a o:=by
 have hi:i<h.length:=by rw [← r.len];exact (List.getElem?_eq_some_iff.mp e).1
 exact ⟨h[i],List.getElem?_eq_getElem hi,r.obj i a _ e (List.getElem?_eq_getElem hi)⟩
theorem HRep.addr (r:HRep K ι H h) {i:Nat} {o:O} (e:h[i]? = some o):∃ a,ι[i]? = some a∧ORep K ι H a o:=by
 have hi:i<ι.length:=by rw [r.len];exact (List.getElem?_eq_some_iff.mp e).1
 exact ⟨ι[i],List.getElem?_eq_getElem hi,r.obj i _ o (List.getElem?_eq_getElem hi) e⟩
theorem HRep.notin (r:HRep K ι H h) {p:Addr} (e:H p=none):p ∉ ι:=fun z=>by
 obtain ⟨i,hi⟩:=List.getElem?_of_mem z
 obtain ⟨o,_,q⟩:=r.at hi
 obtain ⟨u,q,_⟩:=q.some
 rw [e] at q;cases q
theorem ORep.monoW {ι':List Addr} {H':Hp} {a:Addr} {o:O} (g:Gw ι H ι' H') (e:H' a=H a) (r:ORep K ι H a o):ORep K ι' H' a o:=by
 cases o with
 | lst xs=>obtain ⟨vs,h1,h2⟩:=r;exact ⟨vs,by rw [e];exact h1,h2.monoW g⟩
 | dK kvs=>obtain ⟨us,h1,h2,h3⟩:=r;exact ⟨us,by rw [e];exact h1,h2,h3.monoW g⟩
 | dT kvs=>obtain ⟨us,h1,h2,h3⟩:=r;exact ⟨us,by rw [e];exact h1,h2,h3.monoW g⟩
theorem ORep.mono {ι':List Addr} {H':Hp} {a:Addr} {o:O} (g:Gr ι H ι' H') (e:H' a=H a) (r:ORep K ι H a o):ORep K ι' H' a o:=r.monoW g.w e
theorem xj {p:Addr} (e:H p=none) (o:HO):Gr ι H ι (upd H p o) :=
 ⟨⟨[],by simp,by simp⟩,fun a vs h=>by rw [j9 (j4 h e)];exact h,fun a o u h=>by rw [j9 (j4 h e)];exact h,fun a u h _=>by rw [j9 (j4 h e)];exact h,fun a u h=>⟨u,by rw [j9 (j4 h e)];exact h⟩⟩
theorem HRep.aside (r:HRep K ι H h) {p:Addr} (e:H p=none) (o:HO):HRep K ι (upd H p o) h:=by
 refine ⟨r.nd,r.len,fun i a o' e1 e2=>?_⟩
 have q:=r.obj i a o' e1 e2
 obtain ⟨u,hu,_⟩:=q.some
 exact q.mono (xj e o) (j9 (j4 hu e))
theorem ac4 {p:Addr} (e:H p=none) (o:HO):Gr ι H (ι++[p]) (upd H p o) :=
 ⟨⟨[p],rfl,by simpa using e⟩,(xj (ι:=ι) e o).tup,(xj (ι:=ι) e o).frz,(xj (ι:=ι) e o).oth,(xj (ι:=ι) e o).kp⟩
theorem HRep.add (r:HRep K ι H h) {p:Addr} (e:H p=none) {o:HO} {ob:O} (q:ORep K (ι++[p]) (upd H p o) p ob):HRep K (ι++[p]) (upd H p o) (h++[ob]):=by
 refine ⟨?_,by simp [r.len],fun i a o' e1 e2=>?_⟩
 ·rw [List.nodup_append]
  exact ⟨r.nd,by simp,fun a ha b hb z=>r.notin e (by rw [List.mem_singleton.mp hb] at z;rw [← z];exact ha)⟩
 ·by_cases hi:i<ι.length
  ·rw [List.getElem?_append_left hi] at e1
   rw [List.getElem?_append_left (by rw [← r.len];exact hi)] at e2
   have q:=r.obj i a o' e1 e2
   obtain ⟨u,hu,_⟩:=q.some
   exact q.mono (ac4 e o) (j9 (j4 hu e))
  ·have hi2:i<(ι++[p]).length:=(List.getElem?_eq_some_iff.mp e1).1
   have:i=ι.length:=by simp at hi2;omega
   subst this
   rw [List.getElem?_append_right (Nat.le_refl _)] at e1
   rw [r.len,List.getElem?_append_right (Nat.le_refl _)] at e2
   simp at e1 e2
   subst e1 e2
   exact q
theorem a4s {a:Addr} {i:Nat} (r:HRep K ι H h) (e:ι[i]? = some a) (o:HO):Gr ι H ι (upd H a o):=by
 obtain ⟨_,_,q⟩:=r.at e
 obtain ⟨u,hu,n1,n2⟩:=q.some
 refine ⟨⟨[],by simp,by simp⟩,fun b vs hb=>?_,fun b o' u' hb=>?_,fun b u' hb hn=>?_,fun b u' hb=>?_⟩
 ·rw [j9 (fun z=>by subst z;rw [hu] at hb;exact n1 _ (Option.some.inj hb))];exact hb
 ·rw [j9 (fun z=>by subst z;rw [hu] at hb;exact n2 _ _ (Option.some.inj hb))];exact hb
 ·rw [j9 (fun z=>hn (by subst z;exact List.mem_of_getElem? e))];exact hb
 ·by_cases z:b=a
  ·subst z;exact ⟨o,o7⟩
  ·exact ⟨u',by rw [j9 z];exact hb⟩
theorem HRep.put (r:HRep K ι H h) {a:Addr} {i:Nat} (e:ι[i]? = some a) {o:HO} {ob:O} (q:ORep K ι (upd H a o) a ob):HRep K ι (upd H a o) (h.set i ob):=by
 refine ⟨r.nd,by rw [List.length_set];exact r.len,fun j b o' e1 e2=>?_⟩
 by_cases hj:i=j
 ·subst hj
  rw [e] at e1;cases e1
  have hi:i<h.length:=by rw [← r.len];exact (List.getElem?_eq_some_iff.mp e).1
  rw [List.getElem?_set_self hi] at e2;cases e2
  exact q
 ·rw [List.getElem?_set_ne hj] at e2
  have hne:b≠a:=fun z=>by
   subst z
   obtain ⟨h1,g1⟩:=List.getElem?_eq_some_iff.mp e
   obtain ⟨h2,g2⟩:=List.getElem?_eq_some_iff.mp e1
   have np:=List.pairwise_iff_getElem.mp r.nd
   rcases Nat.lt_or_gt_of_ne hj with l | l
   ·exact np i j h1 h2 l (g1.trans g2.symm)
   ·exact np j i h2 h1 l (g2.trans g1.symm)
  exact (r.obj j b o' e1 e2).mono (a4s r e o) (j9 hne)
end
structure SRep (K:PySem.W.Frag) (ι:List Addr) (H:Hp) (σ:St) (τ:Sd):Prop where
 len:σ.length=τ.length
 val:∀ (i:Nat) (d:D),τ[i]? = some (some d)→∃ v,σ[i]? = some (some v)∧Rep K ι H v d
theorem SRep.mono {K:PySem.W.Frag} {ι ι':List Addr} {H H':Hp} {σ:St} {τ:Sd} (g:Gr ι H ι' H') (s:SRep K ι H σ τ):SRep K ι' H' σ τ :=
 ⟨s.len,fun i d e=>let ⟨v,h1,h2⟩:=s.val i d e; ⟨v,h1,h2.mono g⟩⟩
theorem SRep.set {K:PySem.W.Frag} {ι:List Addr} {H:Hp} {σ:St} {τ:Sd} (s:SRep K ι H σ τ) {v:V} {d:D} (r:Rep K ι H v d) (i:Nat):SRep K ι H (σ.set i (some v)) (τ.set i (some d)):=by
 refine ⟨by simp [s.len],fun j d' e=>?_⟩
 by_cases hj:i=j
 ·subst hj
  have hi:i<τ.length:=by
   have:=(List.getElem?_eq_some_iff.mp e).1
   simpa using this
  rw [List.getElem?_set_self hi] at e
  cases e
  exact ⟨v,by rw [List.getElem?_set_self (by rw [s.len];exact hi)],r⟩
 ·rw [List.getElem?_set_ne hj] at e ⊢
  exact s.val j d' e
abbrev XD:=Str→List Addr→Hp→Hd→Prop
def out {α β:Type} (K:PySem.W.Frag) (E:XD) (Rp:List Addr→Hp→β→α→Prop) (ι:List Addr) (H:Hp) (r:R α) (Q:β→Hp→Prop):Prop :=
 match r with
 | .ok a h=>∀ ι' H' b,Gr ι H ι' H'→Rp ι' H' b a→HRep K ι' H' h→Q b H'
 | .ex c h=>∀ ι' H',Gr ι H ι' H'→HRep K ι' H' h→E c ι' H' h
 | .no=>False
theorem a5o {α β:Type} {K:PySem.W.Frag} {E:XD} {Rp:List Addr→Hp→β→α→Prop} {ι ι1:List Addr} {H H1:Hp} {r:R α} {Q:β→Hp→Prop} (o:out K E Rp ι H r Q) (g:Gr ι H ι1 H1):out K E Rp ι1 H1 r Q:=by
 cases r with
 | ok a h=>exact fun ι' H' b g'=>o ι' H' b (g.trans g')
 | ex c h=>exact fun ι' H' g'=>o ι' H' (g.trans g')
 | no=>exact o
theorem dh {α β γ δ:Type} {K:PySem.W.Frag} {E:XD} {Rp:List Addr→Hp→β→α→Prop} {Sp:List Addr→Hp→δ→γ→Prop} {ι:List Addr} {H:Hp} {r:R α} {k:α→Hd→R γ} {Q:δ→Hp→Prop} {P:β→Hp→Prop}
  (o:out K E Sp ι H (r.bind k) Q) (hP:∀ a h ι1 H1 b,Gr ι H ι1 H1→Rp ι1 H1 b a→HRep K ι1 H1 h→out K E Sp ι1 H1 (k a h) Q→P b H1):out K E Rp ι H r P:=by
 cases r with
 | ok a h=>exact fun ι' H' b g r' hr=>hP a h ι' H' b g r' hr (a5o o g)
 | ex c h=>exact o
 | no=>exact o
abbrev xg (K:PySem.W.Frag):List Addr→Hp→V→D→Prop:=fun ι H v d=>Rep K ι H v d
abbrev atm (K:PySem.W.Frag):List Addr→Hp→List V→List D→Prop:=fun ι H v d=>Reps K ι H v d
abbrev aja:List Addr→Hp→Bool→Bool→Prop:=fun _ _ a b=>a=b
abbrev atn:List Addr→Hp→Option Int→Option Int→Prop:=fun _ _ a b=>a=b
def aek (K:PySem.W.Frag) (E:XD) (ι:List Addr) (H:Hp) (r:Fl) (N:Ends):Prop :=
 match r with
 | .nx τ h=>∀ ι' H' σ,Gr ι H ι' H'→SRep K ι' H' σ τ→HRep K ι' H' h→N.nx σ H'
 | .bk τ h=>∀ ι' H' σ,Gr ι H ι' H'→SRep K ι' H' σ τ→HRep K ι' H' h→N.bk σ H'
 | .ct τ h=>∀ ι' H' σ,Gr ι H ι' H'→SRep K ι' H' σ τ→HRep K ι' H' h→N.ct σ H'
 | .rt d h=>∀ ι' H' v,Gr ι H ι' H'→Rep K ι' H' v d→HRep K ι' H' h→N.rt v H'
 | .ex c h=>∀ ι' H',Gr ι H ι' H'→HRep K ι' H' h→E c ι' H' h
 | .no=>False
theorem pq {K:PySem.W.Frag} {E:XD} {ι ι1:List Addr} {H H1:Hp} {r:Fl} {N:Ends} (o:aek K E ι H r N) (g:Gr ι H ι1 H1):aek K E ι1 H1 r N:=by
 cases r with
 | nx τ h=>exact fun ι' H' b g'=>o ι' H' b (g.trans g')
 | bk τ h=>exact fun ι' H' b g'=>o ι' H' b (g.trans g')
 | ct τ h=>exact fun ι' H' b g'=>o ι' H' b (g.trans g')
 | rt d h=>exact fun ι' H' b g'=>o ι' H' b (g.trans g')
 | ex c h=>exact fun ι' H' g'=>o ι' H' (g.trans g')
 | no=>exact o
theorem yg {α β:Type} {K:PySem.W.Frag} {E:XD} {Rp:List Addr→Hp→β→α→Prop} {ι:List Addr} {H:Hp} {r:R α} {k:α→Hd→Fl} {N:Ends} {P:β→Hp→Prop}
  (o:aek K E ι H (r.fl k) N) (hP:∀ a h ι1 H1 b,Gr ι H ι1 H1→Rp ι1 H1 b a→HRep K ι1 H1 h→aek K E ι1 H1 (k a h) N→P b H1):out K E Rp ι H r P:=by
 cases r with
 | ok a h=>exact fun ι' H' b g r' hr=>hP a h ι' H' b g r' hr (pq o g)
 | ex c h=>exact o
 | no=>exact o
def lift {α β:Type} (K:PySem.W.Frag) (E:XD) (Rp:List Addr→Hp→β→α→Prop) (f:Sd→Hd→R α):St→Hp→(β→Hp→Prop)→Prop:=fun σ H Q =>
 ∃ ι τ h,SRep K ι H σ τ∧HRep K ι H h∧out K E Rp ι H (f τ h) Q
def a3n (K:PySem.W.Frag) (E:XD) (f:SS):TS:=fun N σ H=>∃ ι τ h,SRep K ι H σ τ∧HRep K ι H h∧aek K E ι H (f τ h) N
abbrev ME (X:Cx) (E:XD) (e:Expr) (f:SE):Prop:=PE X e (lift X.K E (xg X.K) f)
abbrev MT (X:Cx) (E:XD) (e:Expr) (f:ST):Prop:=PT X e (lift X.K E aja f)
abbrev MW (X:Cx) (E:XD) (e:Expr) (f:ST):Prop:=PW X e (lift X.K E aja f)
abbrev MA (X:Cx) (E:XD) (es:List Expr) (f:SA):Prop:=PA X es (lift X.K E (atm X.K) f)
abbrev MS (X:Cx) (E:XD) (st:Stmt) (f:SS):Prop:=PS X st (a3n X.K E f)
abbrev MSs (X:Cx) (E:XD) (st:List Stmt) (f:SS):Prop:=PSs X st (a3n X.K E f)
theorem PE.weak {X:Cx} {e:Expr} {t t':TE} (h:PE X e t) (i:∀ σ H Q,t' σ H Q→t σ H Q):PE X e t':=fun pins s σ H Q I q=>h pins s σ H Q I (i _ _ _ q)
theorem PT.weak {X:Cx} {e:Expr} {t t':TT} (h:PT X e t) (i:∀ σ H Q,t' σ H Q→t σ H Q):PT X e t':=fun pins s σ H Q I q=>h pins s σ H Q I (i _ _ _ q)
theorem PW.weak {X:Cx} {e:Expr} {t t':TT} (h:PW X e t) (i:∀ σ H Q,t' σ H Q→t σ H Q):PW X e t':=fun wh pins s σ H Q I q=>h wh pins s σ H Q I (i _ _ _ q)
theorem PA.weak {X:Cx} {e:List Expr} {t t':TA} (h:PA X e t) (i:∀ σ H Q,t' σ H Q→t σ H Q):PA X e t':=fun pos pins s σ H Q I q=>h pos pins s σ H Q I (i _ _ _ q)
theorem PS.weak {X:Cx} {e:Stmt} {t t':TS} (h:PS X e t) (i:∀ N σ H,t' N σ H→t N σ H):PS X e t':=fun pins s σ H N I q=>h pins s σ H N I (i _ _ _ q)
theorem PSs.weak {X:Cx} {e:List Stmt} {t t':TS} (h:PSs X e t) (i:∀ N σ H,t' N σ H→t N σ H):PSs X e t':=fun pins s σ H N I q=>h pins s σ H N I (i _ _ _ q)
end MI
namespace MI
open PySem L2
abbrev LINE:Nat:=16777216
theorem ll {n:Nat} (h:n≤LINE):n≤sizeLine:=a89 h
def sV (i:Nat):SE:=fun τ h=>match τ[i]? with | some (some d)=>.ok d h | _=>.no
def sC (d:D):SE:=fun _ h=>.ok d h
section
variable {X:Cx} {E:XD} {a b c e:Expr} {fa fb fc:SE} {pos:Pos}
theorem bc (i:Nat) {x:Str} {pos:Pos} (hN:X.N[i]? = some x:=by rfl) (hv:Vis X.env.scope x:=by first | exact Or.inl rfl | exact Or.inr (Or.inl rfl) | exact Or.inr (Or.inr rfl)) (hd:(x == ("__debug__" : Str))=false:=by decide)
  (hcd:(x == ("__classdict__" : Str))=false:=by decide):ME X E (.Name x pos) (sV i):=by
 refine PE.weak (ab8 hN hv hd hcd) fun σ H Q ⟨ι,τ,h,S,Rh,o⟩=>?_
 unfold sV at o
 split at o
 ·rename_i d e
  obtain ⟨v,h1,h2⟩:=S.val i d e
  exact ⟨v,h1,o ι H v (.refl _ _) h2 Rh⟩
 ·exact o.elim
theorem ana {v:V} {d:D} (h:PE X e (tC v)) (r:∀ ι H,Rep X.K ι H v d):ME X E e (sC d) :=
 PE.weak h fun σ H Q ⟨ι,τ,h,S,Rh,o⟩=>o ι H v (.refl _ _) (r ι H) Rh
theorem az {i j pos}:ME X E (.Constant (.int i) j pos) (sC (.int i)):=ana alw fun _ _=>.int i
theorem ajb {i j pos}:ME X E (.Constant (.bool i) j pos) (sC (.bl i)):=ana aq3 fun _ _=>.bl i
theorem mj {i j pos}:ME X E (.Constant (.str i) j pos) (sC (.str i)):=ana aly fun _ _=>.str i
theorem a2g {j pos}:ME X E (.Constant .none j pos) (sC .non):=ana alx fun _ _=>.non
theorem a3o {x:Str} {n:String} {pos:Pos} (hg:Gl X x) (hm:X.mg x=none) (hv:bootBuiltins x=some (.type n)) (hn:x ≠ "__name__":=by decide) (hd:(x == ("__debug__" : Str))=false:=by decide):ME X E (.Name x pos) (sC (.ty n)) :=
 ana (ab9 (v:=.ty n) hg hm hv rfl hn hd) fun _ _=>.ty n
def s2 (g:D→D→Hd→R D) (fa fb:SE):SE:=fun τ h=>(fa τ h).bind fun x h1=>(fb τ h1).bind fun y h2=>g x y h2
def s1 (g:D→Hd→R D) (fa:SE):SE:=fun τ h=>(fa τ h).bind g
def a3p (K:PySem.W.Frag) (g:D→D→Hd→R D) (r:R2):Prop:=∀ (E:XD) ι H h x y dx dy Q,Rep K ι H x dx→Rep K ι H y dy→HRep K ι H h→out K E (xg K) ι H (g dx dy h) Q→r x y H Q
def ato (K:PySem.W.Frag) (g:D→Hd→R D) (r:V→Hp→VK→Prop):Prop:=∀ (E:XD) ι H h x dx Q,Rep K ι H x dx→HRep K ι H h→out K E (xg K) ι H (g dx h) Q→r x H Q
def ab6 (K:PySem.W.Frag) (g:List D→Hd→R D) (r:List V→Hp→VK→Prop):Prop:=∀ (E:XD) ι H h xs ds Q,Reps K ι H xs ds→HRep K ι H h→out K E (xg K) ι H (g ds h) Q→r xs H Q
theorem apz {g:D→D→Hd→R D} {r:R2} {K:PySem.W.Frag} (hs:a3p K g r) {σ:St} {H:Hp} {Q:VK} (q:lift K E (xg K) (s2 g fa fb) σ H Q):tOp r (lift K E (xg K) fa) (lift K E (xg K) fb) σ H Q:=by
 obtain ⟨ι,τ,h,S,Rh,o⟩:=q
 refine ⟨ι,τ,h,S,Rh,dh o fun d h1 ι1 H1 v g1 r1 hr1 o1=>?_⟩
 refine ⟨ι1,τ,h1,S.mono g1,hr1,dh o1 fun d2 h2 ι2 H2 u g2 r2 hr2 o2=>?_⟩
 exact hs E ι2 H2 h2 v u d d2 Q (r1.mono g2) r2 hr2 o2
theorem aa9 {op:Operator} {r:R2} {g:D→D→Hd→R D} (ho:OpR X (binaryOp op) r) (hs:a3p X.K g r) (ha:ME X E a fa) (hb:ME X E b fb):ME X E (.BinOp a op b pos) (s2 g fa fb) :=
 PE.weak (aqf ho ha hb) fun σ H Q q=>apz hs q
theorem a5p {op:CmpOp} {r:R2} {g:D→D→Hd→R D} (ho:OpR X (compareOp op) r) (hs:a3p X.K g r) (ha:ME X E a fa) (hb:ME X E b fb) (hm:behindInMarks op b=false):ME X E (.Compare a [op] [b] pos) (s2 g fa fb) :=
 PE.weak (ait ho ha hb hm) fun σ H Q q=>apz hs q
theorem aqt {op:UnaryOp} {r:V→Hp→VK→Prop} {g:D→Hd→R D} (ho:UnR X (unaryOp op) r) (hs:ato X.K g r) (ha:ME X E a fa):ME X E (.UnaryOp op a pos) (s1 g fa):=by
 refine PE.weak (aqg ho ha) fun σ H Q ⟨ι,τ,h,S,Rh,o⟩=>?_
 exact ⟨ι,τ,h,S,Rh,dh o fun d h1 ι1 H1 v g1 r1 hr1 o1=>hs E ι1 H1 h1 v d Q r1 hr1 o1⟩
theorem aqu {r:R2} {g:D→D→Hd→R D} (ho:IxR X r) (hs:a3p X.K g r) (ha:ME X E a fa) (hb:ME X E b fb) (hp:a84 b):ME X E (.Subscript a b pos) (s2 g fa fb) :=
 PE.weak (aqm ho ha hb hp) fun σ H Q q=>apz hs q
def asB (d:D) (h:Hd):R Bool:=match d with | .bl b=>.ok b h | _=>.no
def sT (f:SE):ST:=fun τ h=>(f τ h).bind asB
theorem ajc {K:PySem.W.Frag} {t:TE} {f:SE} (hi:∀ σ H Q,lift K E (xg K) f σ H Q→t σ H Q) {σ:St} {H:Hp} {Q:Bool→Hp→Prop} (q:lift K E aja (sT f) σ H Q):ami t σ H Q:=by
 refine hi σ H _ ?_
 obtain ⟨ι,τ,h,S,Rh,o⟩:=q
 refine ⟨ι,τ,h,S,Rh,dh o fun d h1 ι1 H1 v g1 r1 hr1 o1=>?_⟩
 cases r1 with
 | bl b=>exact ⟨b,rfl,o1 ι1 H1 b (.refl _ _) rfl hr1⟩
 | _=>exact o1.elim
theorem jb {op:CmpOp} {r:R2} {g:D→D→Hd→R D} (ho:OpR X (compareOp op) r) (hs:a3p X.K g r) (ha:ME X E a fa) (hb:ME X E b fb) (hm:behindInMarks op b=false):MT X E (.Compare a [op] [b] pos) (sT (s2 g fa fb)) :=
 PT.weak (aiu ho ha hb hm) fun σ H Q q=>ajc (fun _ _ _=>apz hs) q
def sCh (g g':D→D→Hd→R D) (fa fb fc:SE):SE:=fun τ h=>(fa τ h).bind fun x h1=>(fb τ h1).bind fun y h2=>(g x y h2).bind fun z h3=>match z with
 | .bl true=>(fc τ h3).bind fun w h4=>g' y w h4
 | .bl false=>.ok (.bl false) h3
 | _=>.no
def tru (d:D) (h:Hd):R Bool:=match d with
 | .non=>.ok false h
 | .bl b=>.ok b h
 | .int i=>.ok (i != 0) h
 | .str x=>if x.length≤LINE then .ok ((x.length:Int) != 0) h else .no
 | .tup xs=>.ok (!xs.isEmpty) h
 | .rol xs=>.ok (!xs.isEmpty) h
 | .ref i=>match h[i]? with
  | some (.lst xs)=>.ok (!xs.isEmpty) h
  | some (.dK kvs)=>.ok (!kvs.isEmpty) h
  | _=>.no
 | _=>.no
theorem Reps.emp {K:PySem.W.Frag} {ι:List Addr} {H:Hp} {vs:List V} {ds:List D} (r:Reps K ι H vs ds):vs.isEmpty=ds.isEmpty:=by cases r<;>rfl
theorem KRep.emp {κ:Type} {K:PySem.W.Frag} {ι:List Addr} {H:Hp} {us:List (κ × V)} {kvs:List (κ × D)} (r:KRep K ι H us kvs):us.isEmpty=kvs.isEmpty:=by
 have:=congrArg List.length r.1
 cases us<;>cases kvs<;>simp at this ⊢
theorem ajd {K:PySem.W.Frag} {ι:List Addr} {H:Hp} {h:Hd} {x:V} {d:D} {Q:Bool→Hp→Prop} (r:Rep K ι H x d) (hr:HRep K ι H h) (o:out K E aja ι H (tru d h) Q):∃ k,aqi K x H k∧Q k H:=by
 cases r with
 | non=>exact ⟨false,rfl,o ι H _ (.refl _ _) rfl hr⟩
 | bl b=>exact ⟨b,rfl,o ι H _ (.refl _ _) rfl hr⟩
 | int i=>exact ⟨_,rfl,o ι H _ (.refl _ _) rfl hr⟩
 | str x =>
  by_cases hl:x.length≤LINE
  ·simp only [tru,if_pos hl] at o
   exact ⟨_,⟨ll hl,rfl⟩,o ι H _ (.refl _ _) rfl hr⟩
  ·simp only [tru,if_neg hl] at o
   exact o.elim
 | ty n=>exact o.elim
 | rod _ _ _=>exact o.elim
 | scr _ _=>exact o.elim
 | rdT _ _ _=>exact o.elim
 | exc _ _ _=>exact o.elim
 | tup e rs=>exact ⟨_, .inr (.inl ⟨_,SqT.of e,rfl⟩),by rw [rs.emp];exact o ι H _ (.refl _ _) rfl hr⟩
 | rol e rs=>exact ⟨_, .inl ⟨_,e.l,rfl⟩,by rw [rs.emp];exact o ι H _ (.refl _ _) rfl hr⟩
 | @ref a i e =>
  obtain ⟨ob,h1,h2⟩:=hr.at e
  simp only [tru,h1] at o
  cases ob with
  | lst xs =>
   obtain ⟨vs,h3,h4⟩:=h2
   exact ⟨_, .inl ⟨_,SqL.of h3,rfl⟩,by rw [h4.emp];exact o ι H _ (.refl _ _) rfl hr⟩
  | dK kvs =>
   obtain ⟨us,h3,h4⟩:=h2
   exact ⟨_, .inr (.inr ⟨_,h3,rfl⟩),by rw [h4.emp];exact o ι H _ (.refl _ _) rfl hr⟩
  | dT kvs=>exact o.elim
def a5q (f:SE):ST:=fun τ h=>(f τ h).bind tru
theorem a0u (ha:ME X E a fa) (he:∀ whole,isTrue a X.env whole=(do let v ← whole;standAt a.pos;holding [v] (truthy v)):=by intro _;rfl):MT X E a (a5q fa):=by
 refine PT.weak (aex ha he) fun σ H Q ⟨ι,τ,h,S,Rh,o⟩=>?_
 exact ⟨ι,τ,h,S,Rh,dh o fun d h1 ι1 H1 v g1 r1 hr1 o1=>ajd r1 hr1 o1⟩
def ahm (f g:ST):ST:=fun τ h=>(f τ h).bind fun b h1=>if b=true then g τ h1 else .ok false h1
def sOr (f g:ST):ST:=fun τ h=>(f τ h).bind fun b h1=>if b=true then .ok true h1 else g τ h1
def a6t (f:ST):ST:=fun τ h=>(f τ h).bind fun b h1=>.ok (!b) h1
variable {ga gb:ST}
theorem aje (ha:MT X E a ga):MW X E (.BoolOp .And [a] pos) ga:=aim ha
theorem ac6 (ha:MT X E a ga):MW X E (.BoolOp .Or [a] pos) ga:=alz ha
theorem anb {rest:List Expr} (ha:MT X E a ga) (hb:MW X E (.BoolOp .And (b::rest) pos) gb):MW X E (.BoolOp .And (a::b::rest) pos) (ahm ga gb):=by
 refine PW.weak (am0 ha hb) fun σ H Q ⟨ι,τ,h,S,Rh,o⟩=>?_
 refine ⟨ι,τ,h,S,Rh,dh o fun d h1 ι1 H1 v g1 r1 hr1 o1=>?_⟩
 cases r1
 cases d with
 | true=>exact ⟨ι1,τ,h1,S.mono g1,hr1,o1⟩
 | false=>exact o1 ι1 H1 false (.refl _ _) rfl hr1
theorem ajf {rest:List Expr} (ha:MT X E a ga) (hb:MW X E (.BoolOp .Or (b::rest) pos) gb):MW X E (.BoolOp .Or (a::b::rest) pos) (sOr ga gb):=by
 refine PW.weak (aq4 ha hb) fun σ H Q ⟨ι,τ,h,S,Rh,o⟩=>?_
 refine ⟨ι,τ,h,S,Rh,dh o fun d h1 ι1 H1 v g1 r1 hr1 o1=>?_⟩
 cases r1
 cases d with
 | true=>exact o1 ι1 H1 true (.refl _ _) rfl hr1
 | false=>exact ⟨ι1,τ,h1,S.mono g1,hr1,o1⟩
theorem a4t (ha:MT X E a ga):MT X E (.UnaryOp .Not a pos) (a6t ga):=by
 refine PT.weak (am1 ha) fun σ H Q ⟨ι,τ,h,S,Rh,o⟩=>?_
 refine ⟨ι,τ,h,S,Rh,dh o fun d h1 ι1 H1 v g1 r1 hr1 o1=>?_⟩
 cases r1
 exact o1 ι1 H1 _ (.refl _ _) rfl hr1
def zj (f g:SE):SE:=fun τ h=>(f τ h).bind fun d h1=>match d with | .bl true=>g τ h1 | .bl false=>.ok (.bl false) h1 | _=>.no
def ale (f g:SE):SE:=fun τ h=>(f τ h).bind fun d h1=>match d with | .bl true=>.ok (.bl true) h1 | .bl false=>g τ h1 | _=>.no
def a4d (f:SE):SE:=fun τ h=>(f τ h).bind fun d h1=>match d with | .bl b=>.ok (.bl (!b)) h1 | _=>.no
theorem a90 {op} (ha:ME X E a fa):ME X E (.BoolOp op [a] pos) fa:=am2 ha
theorem a77 {rest:List Expr} (ha:ME X E a fa) (hb:ME X E (.BoolOp .And (b::rest) pos) fb):ME X E (.BoolOp .And (a::b::rest) pos) (zj fa fb):=by
 refine PE.weak (am3 ha hb) fun σ H Q ⟨ι,τ,h,S,Rh,o⟩=>?_
 refine ⟨ι,τ,h,S,Rh,dh o fun d h1 ι1 H1 v g1 r1 hr1 o1=>?_⟩
 cases r1 with
 | bl k =>
  refine ⟨k,rfl,?_⟩
  cases k with
  | true=>exact ⟨ι1,τ,h1,S.mono g1,hr1,o1⟩
  | false=>exact o1 ι1 H1 _ (.refl _ _) (.bl _) hr1
 | _=>exact o1.elim
theorem anc (ha:ME X E a fa):ME X E (.UnaryOp .Not a pos) (a4d fa):=by
 refine PE.weak (am4 ha) fun σ H Q ⟨ι,τ,h,S,Rh,o⟩=>?_
 refine ⟨ι,τ,h,S,Rh,dh o fun d h1 ι1 H1 v g1 r1 hr1 o1=>?_⟩
 cases r1 with
 | bl k=>exact ⟨k,rfl,o1 ι1 H1 _ (.refl _ _) (.bl _) hr1⟩
 | _=>exact o1.elim
def aaa (c:ST) (f g:SE):SE:=fun τ h=>(c τ h).bind fun b h1=>if b=true then f τ h1 else g τ h1
theorem ahn (hc:MT X E c ga) (ha:ME X E a fa) (hb:ME X E b fb):ME X E (.IfExp c a b pos) (aaa ga fa fb):=by
 refine PE.weak (aer hc ha hb) fun σ H Q ⟨ι,τ,h,S,Rh,o⟩=>?_
 refine ⟨ι,τ,h,S,Rh,dh o fun d h1 ι1 H1 v g1 r1 hr1 o1=>?_⟩
 cases r1
 cases d with
 | true=>exact ⟨ι1,τ,h1,S.mono g1,hr1,o1⟩
 | false=>exact ⟨ι1,τ,h1,S.mono g1,hr1,o1⟩
def cj:SA:=fun _ h=>.ok [] h
def aj (f:SE) (g:SA):SA:=fun τ h=>(f τ h).bind fun d h1=>(g τ h1).bind fun ds h2=>.ok (d::ds) h2
variable {es:List Expr} {ka:SA}
theorem aq:MA X E [] cj:=PA.weak a4p fun σ H Q ⟨ι,τ,h,S,Rh,o⟩=>o ι H [] (.refl _ _) .nil Rh
theorem aa (ha:ME X E e fa) (hr:MA X E es ka) (hs:starEach (e::es) X.env=(false,eval e X.env)::starEach es X.env:=by rfl):MA X E (e::es) (aj fa ka):=by
 refine PA.weak (p8 ha hr hs) fun σ H Q ⟨ι,τ,h,S,Rh,o⟩=>?_
 refine ⟨ι,τ,h,S,Rh,dh o fun d h1 ι1 H1 v g1 r1 hr1 o1=>?_⟩
 refine ⟨ι1,τ,h1,S.mono g1,hr1,dh o1 fun d2 h2 ι2 H2 u g2 r2 hr2 o2=>?_⟩
 exact o2 ι2 H2 _ (.refl _ _) (.cons (r1.mono g2) r2) hr2
def sr (ds:List D) (h:Hd):R D:=if ds.length≤LINE then .ok (.tup ds) h else .no
def xm (ds:List D) (h:Hd):R D:=if ds.length≤LINE then .ok (.ref h.length) (h++[.lst ds]) else .no
def sA (g:List D→Hd→R D) (k:SA):SE:=fun τ h=>(k τ h).bind g
theorem a0j {K:PySem.W.Frag} {ι:List Addr} {H:Hp} {h:Hd} {vs:List V} {ds:List D} {Q:VK} (r:Reps K ι H vs ds) (hr:HRep K ι H h) (o:out K E (xg K) ι H (.ok (.tup ds) h) Q):∀ p,H p=none→Q (.ref p) (upd H p (.tup vs)):=fun p hp =>
 o ι _ _ (xj hp _) (.tup o7 (r.mono (xj hp _))) (hr.aside hp _)
theorem zr {K:PySem.W.Frag} {ι:List Addr} {H:Hp} {h:Hd} {vs:List V} {ds:List D} {Q:VK} (r:Reps K ι H vs ds) (hr:HRep K ι H h) (o:out K E (xg K) ι H (.ok (.ref h.length) (h++[.lst ds])) Q):∀ p,H p=none→Q (.ref p) (upd H p (.lst vs)):=fun p hp =>
 o (ι++[p]) _ _ (ac4 hp _) (.ref (by rw [List.getElem?_append_right (by rw [hr.len];exact Nat.le_refl _),hr.len];simp)) (hr.add hp ⟨_,o7,r.mono (ac4 hp _)⟩)
theorem ac8 {K:PySem.W.Frag} {ι:List Addr} {H:Hp} {h:Hd} {i:Nat} {a:Addr} {vs:List V} {ds:List D} {d:D} {v:V} {Q:VK} (r:Reps K ι H vs ds) (hr:HRep K ι H h) (hi:ι[i]? = some a) (rd:Rep K ι H v d) (o:out K E (xg K) ι H (.ok d (h.set i (.lst ds))) Q):Q v (upd H a (.lst vs)) :=
 o ι _ _ (a4s hr hi _) (rd.mono (a4s hr hi _)) (hr.put hi ⟨_,o7,r.mono (a4s hr hi _)⟩)
theorem lu {x1} (h:MA X E es ka):ME X E (.Tuple es x1 pos) (sA sr ka):=by
 refine PE.weak (ahd h) fun σ H Q ⟨ι,τ,h,S,Rh,o⟩=>?_
 refine ⟨ι,τ,h,S,Rh,dh o fun d h1 ι1 H1 v g1 r1 hr1 o1=>?_⟩
 unfold sr at o1
 split at o1
 ·rename_i hl
  exact ⟨ll (by rw [r1.len];exact hl),a0j r1 hr1 o1⟩
 ·exact o1.elim
theorem qb (h:MA X E es ka):ME X E (.List es pos) (sA xm ka):=by
 refine PE.weak (aml h) fun σ H Q ⟨ι,τ,h,S,Rh,o⟩=>?_
 refine ⟨ι,τ,h,S,Rh,dh o fun d h1 ι1 H1 v g1 r1 hr1 o1=>?_⟩
 unfold xm at o1
 split at o1
 ·rename_i hl
  exact ⟨ll (by rw [r1.len];exact hl),zr r1 hr1 o1⟩
 ·exact o1.elim
theorem qd {x:Str} {p:Pos} {id:String} {r:List V→Hp→VK→Prop} {g:List D→Hd→R D} (hc:CallR X (.builtin id) r) (hs:ab6 X.K g r) (hg:Gl X x) (hm:X.mg x=none) (hv:bootBuiltins x=some (.builtin id)) (ha:MA X E (e::es) ka) (hn:x ≠ "__name__":=by decide) (hdb:(x == ("__debug__" : Str))=false:=by decide)
  (he:starEach (e::es) X.env=(false,eval e X.env)::starEach es X.env:=by rfl) (hpl:(backTo pos (starEach es X.env)).any (·.1)=false:=by rfl):ME X E (.Call (.Name x p) (e::es) [] pos) (sA g ka):=by
 refine PE.weak (a5i hc hg hm hv ha hn hdb he hpl) fun σ H Q ⟨ι,τ,h,S,Rh,o⟩=>?_
 exact ⟨ι,τ,h,S,Rh,dh o fun d h1 ι1 H1 v g1 r1 hr1 o1=>hs E ι1 H1 h1 v d Q r1 hr1 o1⟩
theorem yo {x:Str} {p:Pos} {id:String} {r:List V→Hp→VK→Prop} {g:List D→Hd→R D} (hc:CallR X (.type id) r) (hs:ab6 X.K g r) (hg:Gl X x) (hm:X.mg x=none) (hv:bootBuiltins x=some (.type id)) (ha:MA X E (e::es) ka) (hn:x ≠ "__name__":=by decide) (hdb:(x == ("__debug__" : Str))=false:=by decide)
  (he:starEach (e::es) X.env=(false,eval e X.env)::starEach es X.env:=by rfl) (hpl:(backTo pos (starEach es X.env)).any (·.1)=false:=by rfl):ME X E (.Call (.Name x p) (e::es) [] pos) (sA g ka):=by
 refine PE.weak (abp hc hg hm hv ha hn hdb he hpl) fun σ H Q ⟨ι,τ,h,S,Rh,o⟩=>?_
 exact ⟨ι,τ,h,S,Rh,dh o fun d h1 ι1 H1 v g1 r1 hr1 o1=>hs E ι1 H1 h1 v d Q r1 hr1 o1⟩
end
end MI
namespace MI
open PySem L2
def ie (f g:SS):SS:=fun τ h=>match f τ h with | .nx τ1 h1=>g τ1 h1 | r=>r
def sNx:SS:=fun τ h=>.nx τ h
def uc (f:SE):SS:=fun τ h=>(f τ h).fl fun d h1=>.rt d h1
def qp (f:SE):SS:=fun τ h=>(f τ h).fl fun _ h1=>.nx τ h1
def sIf (c:ST) (f g:SS):SS:=fun τ h=>(c τ h).fl fun b h1=>if b=true then f τ h1 else g τ h1
def jq (i:Nat) (f:SE):SS:=fun τ h=>(f τ h).fl fun d h1=>.nx (τ.set i (some d)) h1
def alf (i:Nat) (g:D→D→Hd→R D) (f:SE):SS:=fun τ h=>match τ[i]? with
 | some (some x)=>(f τ h).fl fun y h1=>(g x y h1).fl fun z h2=>.nx (τ.set i (some z)) h2
 | _=>.no
section
variable {X:Cx} {E:XD} {e o:Expr} {es:List Expr} {fa fb fc:SE} {ga:ST} {st:Stmt} {sts a b:List Stmt} {f g:SS} {pos:Pos}
theorem jg:MSs X E [] sNx:=PSs.weak ain fun N σ H ⟨ι,τ,h,S,Rh,o⟩=>o ι H σ (.refl _ _) S Rh
theorem ane {K:PySem.W.Frag} {N:Ends} {σ:St} {H:Hp} (q:a3n K E (ie f g) N σ H):a3n K E f { N with nx:=a3n K E g N } σ H:=by
 obtain ⟨ι,τ,h,S,Rh,o⟩:=q
 refine ⟨ι,τ,h,S,Rh,?_⟩
 unfold ie at o
 cases hf:f τ h with
 | nx τ1 h1 =>
  rw [hf] at o
  exact fun ι1 H1 σ1 g1 S1 R1=>⟨ι1,τ1,h1,S1,R1,pq o g1⟩
 | _=>rw [hf] at o;exact o
theorem ao (h1:MS X E st f) (h2:MSs X E sts g):MSs X E (st::sts) (ie f g):=PSs.weak (aes h1 h2) fun N σ H q=>ane q
theorem d7 (h1:MS X E st f):MSs X E [st] f:=aio h1
theorem jj (he:ME X E e fa):MS X E (.Return (some e) pos) (uc fa):=by
 refine PS.weak (am5 he) fun N σ H ⟨ι,τ,h,S,Rh,o⟩=>?_
 exact ⟨ι,τ,h,S,Rh,yg o fun d h1 ι1 H1 v g1 r1 hr1 o1=>o1 ι1 H1 v (.refl _ _) r1 hr1⟩
theorem v6 (he:ME X E e fa) (hs:swapsWith e none pos.line X.env=pure false:=by rfl):MS X E (.Expr e pos) (qp fa):=by
 refine PS.weak (aip he hs) fun N σ H ⟨ι,τ,h,S,Rh,o⟩=>?_
 exact ⟨ι,τ,h,S,Rh,yg o fun d h1 ι1 H1 v g1 r1 hr1 o1=>o1 ι1 H1 σ (.refl _ _) (S.mono g1) hr1⟩
theorem sy {c:Expr} (hc:MT X E c ga) (ha:MSs X E a f) (hb:MSs X E b g):MS X E (.If c a b pos) (sIf ga f g):=by
 refine PS.weak (aq9 hc ha hb) fun N σ H ⟨ι,τ,h,S,Rh,o⟩=>?_
 refine ⟨ι,τ,h,S,Rh,yg o fun d h1 ι1 H1 v g1 r1 hr1 o1=>?_⟩
 cases r1
 cases d with
 | true=>exact ⟨ι1,τ,h1,S.mono g1,hr1,o1⟩
 | false=>exact ⟨ι1,τ,h1,S.mono g1,hr1,o1⟩
theorem di {i:Nat} {x:Str} {pos':Pos} (hN:X.N.Nodup) (hi:X.N[i]? = some x) (hx:Loc X.env.scope x) (he:ME X E e fa) (hs:swapsWith e (some (.Name x pos')) pos.line X.env=pure false:=by rfl) (hf:X.fn x=true∨X.env.scope.names.lookup x=some .local:=by first | exact .inl rfl | exact .inr rfl | assumption) :
  MS X E (.Assign [.Name x pos'] e pos) (jq i fa):=by
 refine PS.weak (am7 hN hi hx he hs hf) fun N σ H ⟨ι,τ,h,S,Rh,o⟩=>?_
 exact ⟨ι,τ,h,S,Rh,yg o fun d h1 ι1 H1 v g1 r1 hr1 o1=>o1 ι1 H1 _ (.refl _ _) ((S.mono g1).set r1 i) hr1⟩
def put (o k v:D) (h:Hd):Option Hd:=match o,k with
 | .ref i, .int j=>match h[i]? with
  | some (.lst xs)=>match ixN xs.length j with
   | some m=>some (h.set i (.lst (xs.set m v)))
   | none=>none
  | _=>none
 | _,_=>none
theorem ajg {K:PySem.W.Frag} {ι:List Addr} {H:Hp} {h h':Hd} {o k v:V} {od kd vd:D} {Q:Hp→Prop} (r1:Rep K ι H o od) (r2:Rep K ι H k kd) (r3:Rep K ι H v vd) (hr:HRep K ι H h) (e:put od kd vd h=some h')
  (q:∀ H',Gr ι H ι H'→HRep K ι H' h'→Q H'):amu o k v H Q:=by
 cases r1 with
 | @ref a i ha =>
  cases r2 with
  | int j =>
   obtain ⟨ob,h1,h2⟩:=hr.at ha
   cases ob with
   | lst xs =>
    obtain ⟨vs,h3,h4⟩:=h2
    simp only [put,h1] at e
    cases hm:ixN xs.length j with
    | none=>rw [hm] at e;cases e
    | some m =>
     rw [hm] at e
     cases e
     exact ⟨a,vs,j,m,rfl,rfl,h3,by rw [h4.len];exact hm,q _ (a4s hr ha _) (hr.put ha ⟨_,o7,(h4.set r3 m).mono (a4s hr ha _)⟩)⟩
   | dK _=>simp only [put,h1] at e;cases e
   | dT _=>simp only [put,h1] at e;cases e
  | _=>cases e
 | _=>cases e
def a91 (fe fo fi:SE):SS:=fun τ h=>(fe τ h).fl fun v h1=>(fo τ h1).fl fun o h2=>(fi τ h2).fl fun k h3=>match put o k v h3 with | some h4=>.nx τ h4 | none=>.no
theorem a92 {i:Expr} {pos':Pos} (he:ME X E e fa) (ho:ME X E o fb) (hi:ME X E i fc)
  (hs:swapsWithSole [.Subscript o i pos'] e pos.line X.env=pure false:=by rfl) (hw:swappedStores [.Subscript o i pos'] e X.env=pure none:=by rfl)
  (h1:(assignEach [.Subscript o i pos'] X.env).map (·.2)=[assign (.Subscript o i pos') X.env]:=by rfl)
  (ha:∀ v,assign (.Subscript o i pos') X.env v=(do
   let ov ← holding [v] (eval o X.env)
   let iv ← holding [v,ov] (eval i X.env)
   standAt pos'
   holding [v,ov,iv] (setItem ov iv v)
   release [v,ov,iv] []):=by intro _;rfl):MS X E (.Assign [.Subscript o i pos'] e pos) (a91 fa fb fc):=by
 refine PS.weak (ahc he (am6 ho hi set_list ha) hs hw h1) fun N σ H ⟨ι,τ,h,S,Rh,oo⟩=>?_
 refine ⟨ι,τ,h,S,Rh,yg oo fun d h1 ι1 H1 v g1 r1 hr1 o1=>?_⟩
 refine ⟨ι1,τ,h1,S.mono g1,hr1,yg o1 fun d2 h2 ι2 H2 u g2 r2 hr2 o2=>?_⟩
 refine ⟨ι2,τ,h2,(S.mono g1).mono g2,hr2,yg o2 fun d3 h3 ι3 H3 w g3 r3 hr3 o3=>?_⟩
 cases hp:put d2 d3 d h3 with
 | none=>rw [hp] at o3;exact o3.elim
 | some h4 =>
  rw [hp] at o3
  exact ajg (r2.mono g3) r3 ((r1.mono g2).mono g3) hr3 hp fun H' g4 hr4=>o3 ι3 H' σ g4 ((((S.mono g1).mono g2).mono g3).mono g4) hr4
def sWh (c:ST) (f:SS):Nat→SS
 | 0,_,_=>.no
 | n+1,τ,h=>(c τ h).fl fun b h1=>if b=true then (match f τ h1 with | .nx τ2 h2=>sWh c f n τ2 h2 | .ct τ2 h2=>sWh c f n τ2 h2 | .bk τ2 h2=>.nx τ2 h2 | r=>r) else .nx τ h1
theorem a5r (n:Nat) {c:Expr} (hp:PassesOwn (model X.prog X.w) X.A X.env X.xe) (hc:MT X E c ga) (hb:MSs X E a f):MS X E (.While c a [] pos) (sWh ga f n):=by
 refine PS.weak (aet hp hc hb) fun N σ H q=>?_
 refine ⟨fun m σ H=>a3n X.K E (sWh ga f m) N σ H,⟨n,q⟩,?_⟩
 rintro m σ1 H1 ⟨ι,τ,h,S,Rh,o⟩
 cases m with
 | zero=>exact o.elim
 | succ m =>
  refine ⟨ι,τ,h,S,Rh,yg o fun d h1 ι1 H1 v g1 r1 hr1 o1=>?_⟩
  cases r1
  cases d with
  | false=>exact o1 ι1 H1 _ (.refl _ _) (S.mono g1) hr1
  | true =>
   refine ⟨fun σ' H'=>a3n X.K E (sWh ga f m) N σ' H',fun σ' H' q=>⟨m,Nat.lt_succ_self m,q⟩,ι1,τ,h1,S.mono g1,hr1,?_⟩
   rw [if_pos rfl] at o1
   cases hf:f τ h1 with
   | nx τ2 h2=>rw [hf] at o1;exact fun ι2 H2 σ2 g2 S2 R2=>⟨ι2,τ2,h2,S2,R2,pq o1 g2⟩
   | ct τ2 h2=>rw [hf] at o1;exact fun ι2 H2 σ2 g2 S2 R2=>⟨ι2,τ2,h2,S2,R2,pq o1 g2⟩
   | bk τ2 h2=>rw [hf] at o1;exact o1
   | rt d h2=>rw [hf] at o1;exact o1
   | ex c h2=>rw [hf] at o1;exact o1
   | no=>rw [hf] at o1;exact o1.elim
end
abbrev SG:=D→Sd→Hd→Fl
def ajh (K:PySem.W.Frag) (E:XD) (g:SG):TG:=fun v σ H Q=>∃ ι τ h d,Rep K ι H v d∧SRep K ι H σ τ∧HRep K ι H h∧aek K E ι H (g d τ h) { nx:=Q,rt:=fun _ _=>False }
abbrev MG (X:Cx) (E:XD) (tg:Expr) (g:SG):Prop:=PG X tg (ajh X.K E g)
abbrev SGs:=List D→Sd→Hd→Fl
def aca (K:PySem.W.Frag) (E:XD) (g:SGs):TGs:=fun vs σ H Q=>∃ ι τ h ds,Reps K ι H vs ds∧SRep K ι H σ τ∧HRep K ι H h∧aek K E ι H (g ds τ h) { nx:=Q,rt:=fun _ _=>False }
abbrev MGs (X:Cx) (E:XD) (tg:List Expr) (g:SGs):Prop:=PGs X tg (aca X.K E g)
theorem PG.weak {X:Cx} {e:Expr} {t t':TG} (h:PG X e t) (i:∀ v σ H Q,t' v σ H Q→t v σ H Q):PG X e t':=fun pins s σ H v u Q I r q=>h pins s σ H v u Q I r (i _ _ _ _ q)
theorem PGs.weak {X:Cx} {e:List Expr} {t t':TGs} (h:PGs X e t) (i:∀ v σ H Q,t' v σ H Q→t v σ H Q):PGs X e t':=fun pins s σ H v u Q I r q=>h pins s σ H v u Q I r (i _ _ _ _ q)
def kN (i:Nat):SG:=fun d τ h=>.nx (τ.set i (some d)) h
def a2w:SGs:=fun ds τ h=>match ds with | []=>.nx τ h | _=>.no
def ju (g:SG) (k:SGs):SGs:=fun ds τ h=>match ds with | d::r=>(match g d τ h with | .nx τ1 h1=>k r τ1 h1 | _=>.no) | []=>.no
def a2q (n:Nat) (k:SGs):SG:=fun d τ h=>match d with | .tup ds=>if ds.length=n then k ds τ h else .no | _=>.no
section
variable {X:Cx} {E:XD} {e:Expr} {es:List Expr} {fa:SE} {pos:Pos} {g:SG} {ks:SGs}
theorem jt {i:Nat} {x:Str} (hN:X.N.Nodup) (hi:X.N[i]? = some x) (hx:Loc X.env.scope x) (hf:X.fn x=true∨X.env.scope.names.lookup x=some .local:=by first | exact .inl rfl | exact .inr rfl | assumption):MG X E (.Name x pos) (kN i) :=
 PG.weak (wg hN hi hx hf) fun v σ H Q ⟨ι,τ,h,d,r,S,Rh,o⟩=>o ι H _ (.refl _ _) (S.set r i) Rh
theorem a0k:MGs X E [] a2w:=by
 refine PGs.weak abb fun vs σ H Q ⟨ι,τ,h,ds,r,S,Rh,o⟩=>?_
 cases r with
 | nil=>exact ⟨rfl,o ι H σ (.refl _ _) S Rh⟩
 | cons _ _=>exact o.elim
theorem afa {K:PySem.W.Frag} {vs:List V} {σ:St} {H:Hp} {Q:St→Hp→Prop} (q:aca K E (ju g ks) vs σ H Q):aba (ajh K E g) (aca K E ks) vs σ H Q:=by
 obtain ⟨ι,τ,h,ds,r,S,Rh,o⟩:=q
 cases r with
 | nil=>exact o.elim
 | @cons v d vs ds r rs =>
  refine ⟨v,vs,rfl,ι,τ,h,d,r,S,Rh,?_⟩
  simp only [ju] at o
  cases hg:g d τ h with
  | nx τ1 h1 =>
   rw [hg] at o
   exact fun ι1 H1 σ1 g1 S1 R1=>⟨ι1,τ1,h1,ds,rs.mono g1,S1,R1,pq o g1⟩
  | _=>rw [hg] at o;exact o.elim
theorem a3q {k n:Nat} (hc:X.calm=true) (h:MGs X E es ks) (hn:(assignEach es X.env).length=n:=by rfl) (hst:(assignEach es X.env).findIdx? (·.1)=none:=by rfl):MG X E (.Tuple es k pos) (a2q n ks):=by
 refine PG.weak (ahb hc h hn hst) fun v σ H Q ⟨ι,τ,h,d,r,S,Rh,o⟩=>?_
 cases r with
 | @tup a vs xs e rs =>
  simp only [a2q] at o
  by_cases hl:xs.length=n
  ·rw [if_pos hl] at o
   exact ⟨a,vs,rfl,SqT.of e,by rw [rs.len];exact hl,ι,τ,h,xs,rs,S,Rh,o⟩
  ·rw [if_neg hl] at o;exact o.elim
 | _=>exact o.elim
def a5s (f:SE) (g:SG):SS:=fun τ h=>(f τ h).fl fun d h1=>match g d τ h1 with | .nx τ2 h2=>.nx τ2 h2 | _=>.no
theorem a93 {tg:Expr} (he:ME X E e fa) (hg:MG X E tg g) (hs:swapsWithSole [tg] e pos.line X.env=pure false:=by rfl) (hw:swappedStores [tg] e X.env=pure none:=by rfl)
  (h1:(assignEach [tg] X.env).map (·.2)=[assign tg X.env]:=by rfl):MS X E (.Assign [tg] e pos) (a5s fa g):=by
 refine PS.weak (ahc he hg hs hw h1) fun N σ H ⟨ι,τ,h,S,Rh,o⟩=>?_
 refine ⟨ι,τ,h,S,Rh,yg o fun d h1 ι1 H1 v g1 r1 hr1 o1=>⟨ι1,τ,h1,d,r1,S.mono g1,hr1,?_⟩⟩
 cases hg:g d τ h1 with
 | nx τ1 h1=>rw [hg] at o1;exact o1
 | _=>rw [hg] at o1;exact o1.elim
end
structure Itm where
 xs:List D
 ck:Hd→Prop
def alg (K:PySem.W.Frag) (ι0:List Addr) (H0:Hp) (J:It) (it:Itm):Prop:=∀ ι H h,Gr ι0 H0 ι H→HRep K ι H h→it.ck h →
 (∀ (i:Nat) (d:D),it.xs[i]? = some d→J.go i H∧∀ x H',J.yld i H x H'→Gr ι H ι H'∧Rep K ι H' x d∧HRep K ι H' h)∧J.stop it.xs.length H
abbrev aqv (K:PySem.W.Frag):List Addr→Hp→It→Itm→Prop:=fun ι H J it=>alg K ι H J it
abbrev SI:=Sd→Hd→R Itm
abbrev MI (X:Cx) (E:XD) (tg iter:Expr) (f:SI):Prop:=PI X tg iter (lift X.K E (aqv X.K) f)
def yh (x:Str):List D:=x.cps.toList.map fun c=>D.str ⟨#[c]⟩
def aab (d:D) (h:Hd):R Itm:=match d with
 | .tup xs=>.ok ⟨xs,fun _=>True⟩ h
 | .rol xs=>.ok ⟨xs,fun _=>True⟩ h
 | .str x=>.ok ⟨yh x,fun _=>True⟩ h
 | .ref i=>match h[i]? with
  | some (.lst xs)=>.ok ⟨xs,fun h=>h[i]? = some (.lst xs)⟩ h
  | _=>.no
 | _=>.no
def sIt (f:SE):SI:=fun τ h=>(f τ h).bind aab
theorem aho {K:PySem.W.Frag} {ι0:List Addr} {H0:Hp} {a:Addr} {xs:List D} {ck:Hd→Prop} (hl:∀ ι H h,Gr ι0 H0 ι H→HRep K ι H h→ck h→∃ vs,SqL K H a vs∧Reps K ι H vs xs):alg K ι0 H0 (Itl K a) ⟨xs,ck⟩:=by
 intro ι H h g hr c
 obtain ⟨vs,h1,h2⟩:=hl ι H h g hr c
 refine ⟨fun i d e=>?_,⟨vs,h1,by rw [h2.len];exact Nat.le_refl _⟩⟩
 obtain ⟨v,e1,r⟩:=h2.get e
 refine ⟨⟨vs,v,h1,e1⟩,fun x H' y=>?_⟩
 obtain ⟨rfl,y⟩:=y
 have:=y vs h1
 rw [e1] at this;cases this
 exact ⟨.refl _ _,r,hr⟩
theorem a0c {X:Cx} {E:XD} {tg l:Expr} {f:SE} (hl:ME X E l f):MI X E tg l (sIt f):=by
 intro pins s σ H Rr I ⟨ι,τ,h,S,Rh,o⟩
 unfold sIt at o
 cases hf:f τ h with
 | no=>rw [hf] at o;exact o.elim
 | ex c h1 =>
  rw [hf] at o
  exact ahj hl pins s σ H Rr I ⟨ι,τ,h,S,Rh,by rw [hf];exact o⟩
 | ok d h1 =>
  rw [hf] at o
  cases d with
  | tup xs =>
   refine am9 hl pins s σ H Rr I ⟨ι,τ,h,S,Rh,?_⟩
   rw [hf]
   intro ι1 H1 v g1 r1 hr1
   cases r1 with
   | @tup a vs _ e rs =>
    refine ⟨a,rfl,⟨vs,SqT.of e⟩,o ι1 H1 _ g1 ?_ hr1⟩
    intro ι2 H2 h2 g2 hr2 _
    have e2:=g2.tup _ _ e
    have rs2:=rs.mono g2
    refine ⟨fun i d ed=>?_,⟨vs,SqT.of e2,by rw [rs2.len];exact Nat.le_refl _⟩⟩
    obtain ⟨v,e1,r⟩:=rs2.get ed
    refine ⟨⟨vs,v,SqT.of e2,e1⟩,fun x H' y=>?_⟩
    obtain ⟨rfl,y⟩:=y
    have:=y vs (SqT.of e2)
    rw [e1] at this;cases this
    exact ⟨.refl _ _,r,hr2⟩
  | rol xs =>
   refine abe hl pins s σ H Rr I ⟨ι,τ,h,S,Rh,?_⟩
   rw [hf]
   intro ι1 H1 v g1 r1 hr1
   cases r1 with
   | @rol a vs _ e rs =>
    refine ⟨a,rfl,⟨vs,e.l⟩,o ι1 H1 _ g1 ?_ hr1⟩
    exact aho (fun ι2 H2 h2 g2 hr2 _=>⟨vs,(e.mono g2).l,rs.mono g2⟩)
  | str x =>
   refine ahj hl pins s σ H Rr I ⟨ι,τ,h,S,Rh,?_⟩
   rw [hf]
   intro ι1 H1 v g1 r1 hr1
   cases r1
   refine ⟨x,rfl,o ι1 H1 _ g1 ?_ hr1⟩
   intro ι2 H2 h2 g2 hr2 _
   refine ⟨fun i d ed=>?_,by show (yh x).length=_;simp [yh]⟩
   simp only [yh,List.getElem?_map,Option.map_eq_some_iff] at ed
   obtain ⟨c,ec,rfl⟩:=ed
   refine ⟨by show i<x.cps.size;have:=(List.getElem?_eq_some_iff.mp ec).1;simpa using this,fun y H' q=>?_⟩
   obtain ⟨rfl,c',ec',rfl⟩:=q
   rw [ec] at ec';cases ec'
   exact ⟨.refl _ _, .str _,hr2⟩
  | ref i =>
   simp only [R.bind,aab] at o
   cases ho:h1[i]? with
   | none=>rw [ho] at o;exact o.elim
   | some ob =>
    rw [ho] at o
    cases ob with
    | dK _=>exact o.elim
    | dT _=>exact o.elim
    | lst xs =>
     refine abe hl pins s σ H Rr I ⟨ι,τ,h,S,Rh,?_⟩
     rw [hf]
     intro ι1 H1 v g1 r1 hr1
     cases r1 with
     | @ref a _ e =>
      obtain ⟨vs,e1,rs⟩:=hr1.obj i a _ e ho
      refine ⟨a,rfl,⟨vs,SqL.of e1⟩,o ι1 H1 _ g1 ?_ hr1⟩
      refine aho (fun ι2 H2 h2 g2 hr2 c=>?_)
      obtain ⟨us,e3,rs3⟩:=hr2.obj i a _ (g2.at e) c
      exact ⟨us,SqL.of e3,rs3⟩
  | _=>exact o.elim
def rng (lo:Int) (n:Nat):List D:=(List.range n).map fun i=>D.int (lo+(i:Nat))
def B62 (j:Int):Prop := -(2 ^ 62)≤j∧j<2 ^ 62
instance (j:Int):Decidable (B62 j):=by unfold B62;exact inferInstance
def a0l (ds:List D) (h:Hd):R Itm:=match ds with
 | [.int j]=>if B62 j then .ok ⟨rng 0 j.toNat,fun _=>True⟩ h else .no
 | _=>.no
def a5t (ds:List D) (h:Hd):R Itm:=match ds with
 | [.int i, .int j]=>if B62 i∧B62 j then .ok ⟨rng i (j - i).toNat,fun _=>True⟩ h else .no
 | _=>.no
def sRg (g:List D→Hd→R Itm) (k:SA):SI:=fun τ h=>(k τ h).bind g
theorem ahp {K:PySem.W.Frag} {ι0:List Addr} {H0:Hp} (lo:Int) (n:Nat):alg K ι0 H0 (Itr lo n) ⟨rng lo n,fun _=>True⟩:=by
 intro ι H h g hr _
 refine ⟨fun i d ed=>?_,by show n≤(rng lo n).length;simp [rng]⟩
 simp only [rng,List.getElem?_map,Option.map_eq_some_iff] at ed
 obtain ⟨j,ej,rfl⟩:=ed
 obtain ⟨hj,e⟩:=List.getElem?_eq_some_iff.mp ej
 simp at e hj
 subst e
 refine ⟨hj,fun y H' q=>?_⟩
 obtain ⟨rfl,rfl⟩:=q
 exact ⟨.refl _ _, .int _,hr⟩
theorem a1l {X:Cx} {E:XD} {tg a:Expr} {k:SA} {p pos:Pos} (hg:Gl X "range") (hm:X.mg "range" = none) (ha:MA X E [a] k) (hs:starEach [a] X.env=[(false,eval a X.env)]:=by rfl):MI X E tg (.Call (.Name "range" p) [a] [] pos) (sRg a0l k):=by
 intro pins s σ H Rr I ⟨ι,τ,h,S,Rh,o⟩
 refine abf hg hm ha hs pins s σ H Rr I ⟨ι,τ,h,S,Rh,dh o fun ds h1 ι1 H1 vs g1 r1 hr1 o1=>?_⟩
 unfold a0l at o1
 split at o1
 ·rename_i j
  cases r1 with
  | cons r rs =>
   cases r;cases rs
   by_cases hb:B62 j
   ·rw [if_pos hb] at o1
    exact ⟨j,rfl,hb.1,hb.2,o1 ι1 H1 _ (.refl _ _) (ahp 0 j.toNat) hr1⟩
   ·rw [if_neg hb] at o1;exact o1.elim
 ·exact o1.elim
theorem aji {X:Cx} {E:XD} {tg a b:Expr} {k:SA} {p pos:Pos} (hg:Gl X "range") (hm:X.mg "range" = none) (ha:MA X E [a,b] k) (hs:starEach [a,b] X.env=[(false,eval a X.env),(false,eval b X.env)]:=by rfl) (hs2:starEach [b] X.env=[(false,eval b X.env)]:=by rfl):MI X E tg (.Call (.Name "range" p) [a,b] [] pos) (sRg a5t k):=by
 intro pins s σ H Rr I ⟨ι,τ,h,S,Rh,o⟩
 refine abg hg hm ha hs hs2 pins s σ H Rr I ⟨ι,τ,h,S,Rh,dh o fun ds h1 ι1 H1 vs g1 r1 hr1 o1=>?_⟩
 unfold a5t at o1
 split at o1
 ·rename_i i j
  cases r1 with
  | cons r rs =>
   cases r
   cases rs with
   | cons r rs =>
   cases r;cases rs
   by_cases hb:B62 i∧B62 j
   ·rw [if_pos hb] at o1
    exact ⟨i,j,rfl,⟨hb.1.1,hb.1.2,hb.2.1,hb.2.2⟩,o1 ι1 H1 _ (.refl _ _) (ahp i _) hr1⟩
   ·rw [if_neg hb] at o1;exact o1.elim
 ·exact o1.elim
open Classical in
noncomputable def forL (ck:Hd→Prop) (g:SG) (b:SS):List D→Sd→Hd→Fl
 | [],τ,h=>if ck h then .nx τ h else .no
 | x::xs,τ,h=>if ck h then (match g x τ h with
   | .nx τ1 h1=>(match b τ1 h1 with
    | .nx τ2 h2=>forL ck g b xs τ2 h2
    | .ct τ2 h2=>forL ck g b xs τ2 h2
    | .bk τ2 h2=>.nx τ2 h2
    | r=>r)
   | _=>.no) else .no
noncomputable def a4u (f:SI) (g:SG) (b:SS):SS:=fun τ h=>(f τ h).fl fun it h1=>forL it.ck g b it.xs τ h1
theorem ajj {K:PySem.W.Frag} {E:XD} {ι0:List Addr} {H0:Hp} {J:It} {it:Itm} {g:SG} {b:SS} {N:Ends} {σ0:St} {τ0:Sd} {h0:Hd} (ir:alg K ι0 H0 J it) (S:SRep K ι0 H0 σ0 τ0) (Rh:HRep K ι0 H0 h0) (o:aek K E ι0 H0 (forL it.ck g b it.xs τ0 h0) N) :
  ∃ W:Nat→Nat→St→Hp→Prop,(∃ m,W 0 m σ0 H0)∧∀ i m σ H,W i m σ H →
   (J.stop i H∧N.nx σ H)∨(J.go i H∧∃ M:St→Hp→Prop,(∀ σ' H',M σ' H'→∃ m',m'<m∧W (i+1) m' σ' H')∧∀ x H',J.yld i H x H'→ajh K E g x σ H' fun σ2 H2=>a3n K E b { N with nx:=M,ct:=M,bk:=N.nx } σ2 H2):=by
 refine ⟨fun i m σ H=>m=it.xs.length - i∧i≤it.xs.length∧∃ ι τ h,Gr ι0 H0 ι H∧SRep K ι H σ τ∧HRep K ι H h∧aek K E ι H (forL it.ck g b (it.xs.drop i) τ h) N,⟨_,rfl,Nat.zero_le _,ι0,τ0,h0, .refl _ _,S,Rh,o⟩,?_⟩
 rintro i m σ H ⟨rfl,hi,ι,τ,h,g0,S,Rh,o⟩
 by_cases hlt:i<it.xs.length
 ·rw [List.drop_eq_getElem_cons hlt,forL] at o
  by_cases hc:it.ck h
  ·rw [if_pos hc] at o
   obtain ⟨go,yl⟩:=(ir ι H h g0 Rh hc).1 i _ (List.getElem?_eq_getElem hlt)
   refine .inr ⟨go,fun σ' H'=>it.xs.length - (i+1)<it.xs.length - i∧∃ ι τ h,Gr ι0 H0 ι H'∧SRep K ι H' σ' τ∧HRep K ι H' h∧aek K E ι H' (forL it.ck g b (it.xs.drop (i+1)) τ h) N,fun σ' H' q=>⟨_,q.1,rfl,hlt,q.2⟩,fun x H' y=>?_⟩
   obtain ⟨g1,r1,hr1⟩:=yl x H' y
   refine ⟨ι,τ,h,_,r1,S.mono g1,hr1,?_⟩
   have o':=pq o g1
   cases hg:g it.xs[i] τ h with
   | nx τ1 h1 =>
    rw [hg] at o'
    dsimp only at o'
    intro ι2 H2 σ2 g2 S2 R2
    refine ⟨ι2,τ1,h1,S2,R2,?_⟩
    have o2:=pq o' g2
    have gg:=(g0.trans g1).trans g2
    cases hb:b τ1 h1 with
    | nx τ2 h2=>rw [hb] at o2;exact fun ι3 H3 σ3 g3 S3 R3=>⟨by omega,ι3,τ2,h2,gg.trans g3,S3,R3,pq o2 g3⟩
    | ct τ2 h2=>rw [hb] at o2;exact fun ι3 H3 σ3 g3 S3 R3=>⟨by omega,ι3,τ2,h2,gg.trans g3,S3,R3,pq o2 g3⟩
    | bk τ2 h2=>rw [hb] at o2;exact o2
    | rt d h2=>rw [hb] at o2;exact o2
    | ex c h2=>rw [hb] at o2;exact o2
    | no=>rw [hb] at o2;exact o2.elim
   | _=>rw [hg] at o';exact o'.elim
  ·rw [if_neg hc] at o;exact o.elim
 ·have e:i=it.xs.length:=by omega
  subst e
  rw [List.drop_eq_nil_of_le (Nat.le_refl _),forL] at o
  by_cases hc:it.ck h
  ·rw [if_pos hc] at o
   exact .inl ⟨(ir ι H h g0 Rh hc).2,o ι H σ (.refl _ _) S Rh⟩
  ·rw [if_neg hc] at o;exact o.elim
theorem zu {X:Cx} {E:XD} {tg iter:Expr} {body:List Stmt} {f:SI} {g:SG} {b:SS} {pos:Pos} (hp:PassesOwn (model X.prog X.w) X.A X.env X.xe) (hc:X.calm=true) (hi:MI X E tg iter f) (hg:MG X E tg g) (hb:MSs X E body b) (hs:∀ x,foldedSetIterable iter X.env x=pure x:=by intro _;rfl):MS X E (.For tg iter body [] pos) (a4u f g b):=by
 refine PS.weak (ama hp hc hi hg hb hs) fun N σ H ⟨ι,τ,h,S,Rh,o⟩=>?_
 exact ⟨ι,τ,h,S,Rh,yg o fun it h1 ι1 H1 J g1 r1 hr1 o1=>ajj r1 (S.mono g1) hr1 o1⟩
end MI
namespace MI
open PySem PySem.Spec L2
theorem R.bind_assoc {α β γ:Type} (r:R α) (f:α→Hd→R β) (g:β→Hd→R γ):(r.bind f).bind g=r.bind fun a h=>(f a h).bind g:=by cases r<;>rfl
open Classical in
noncomputable def mapR (ck:Hd→Prop) (f:D→Hd→R D):List D→Hd→R (List D)
 | [],h=>if ck h then .ok [] h else .no
 | x::xs,h=>if ck h then (f x h).bind fun y h1=>(mapR ck f xs h1).bind fun ys h2=>.ok (y::ys) h2 else .no
open Classical in
noncomputable def ael (ck:Hd→Prop) (f:D→Hd→R (Option D)):List D→Hd→R (List D)
 | [],h=>if ck h then .ok [] h else .no
 | x::xs,h=>if ck h then (f x h).bind fun y h1=>(ael ck f xs h1).bind fun ys h2=>.ok (y.toList++ys) h2 else .no
def frs' (ix:List Nat) (τ:Sd):Sd:=ix.map fun i=>(τ[i]?).join
def t1 (d:D):Option Sd:=some [some d]
def tN (n:Nat) (d:D):Option Sd:=match d with | .tup ds=>if ds.length=n then some (ds.map some) else none | _=>none
def a4e (t:D→Option Sd) (fe:SE) (rest:Sd) (x:D) (h:Hd):R D:=match t x with | some ts=>fe (ts++rest) h | none=>.no
def a8d (t:D→Option Sd) (c:ST) (fe:SE) (rest:Sd) (x:D) (h:Hd):R (Option D):=match t x with
 | some ts=>(c (ts++rest) h).bind fun b h1=>if b=true then (fe (ts++rest) h1).bind fun y h2=>.ok (some y) h2 else .ok none h1
 | none=>.no
def a94 (yd zs:List D) (h:Hd):R D:=.ok (.ref h.length) (h++[.lst (yd++zs)])
theorem anf (r:R D) (m:Hd→R (List D)) (yd:List D):(r.bind fun y h1=>(m h1).bind fun ys h2=>.ok (y::ys) h2).bind (a94 yd)=r.bind fun y h1=>(m h1).bind (a94 (yd++[y])):=by
 cases r with
 | ok y h1 =>
  show ((m h1).bind _).bind _=(m h1).bind _
  cases m h1 with
  | ok ys h2=>simp [R.bind,a94]
  | _=>rfl
 | _=>rfl
theorem aqw (r:R (Option D)) (m:Hd→R (List D)) (yd:List D):(r.bind fun y h1=>(m h1).bind fun ys h2=>.ok (y.toList++ys) h2).bind (a94 yd)=r.bind fun y h1=>(m h1).bind (a94 (yd++y.toList)):=by
 cases r with
 | ok y h1 =>
  show ((m h1).bind _).bind _=(m h1).bind _
  cases m h1 with
  | ok ys h2=>simp [R.bind,a94]
  | _=>rfl
 | _=>rfl
noncomputable def ud (fi:SI) (t:D→Option Sd) (fe:SE) (ix:List Nat):SE:=fun τ h=>(fi τ h).bind fun it h1=>if it.xs.length≤LINE then (mapR it.ck (a4e t fe (frs' ix τ)) it.xs h1).bind (a94 []) else .no
noncomputable def a4v (fi:SI) (t:D→Option Sd) (c:ST) (fe:SE) (ix:List Nat):SE:=fun τ h=>(fi τ h).bind fun it h1=>if it.xs.length≤LINE then (ael it.ck (a8d t c fe (frs' ix τ)) it.xs h1).bind (a94 []) else .no
def afb (K:PySem.W.Frag) (n:Nat) (g:TG) (t:D→Option Sd):Prop:=∀ ι H v d ts (r:St) (Q:St→Hp→Prop),Rep K ι H v d→t d=some ts→(∀ us:St,us.length=n→SRep K ι H us ts→Q (us++r) H)→g v (List.replicate n none++r) H Q
theorem a5u {K:PySem.W.Frag} {ι:List Addr} {H:Hp}:SRep K ι H [] []:=⟨rfl,fun i d e=>by simp at e⟩
theorem zx {K:PySem.W.Frag} {ι:List Addr} {H:Hp} {v:V} {d:D} {σ:St} {τ:Sd} (r:Rep K ι H v d) (s:SRep K ι H σ τ):SRep K ι H (some v::σ) (some d::τ):=by
 refine ⟨by simp [s.len],fun i d' e=>?_⟩
 cases i with
 | zero=>simp at e;subst e;exact ⟨v,rfl,r⟩
 | succ i=>simpa using s.val i d' (by simpa using e)
theorem a2x {K:PySem.W.Frag} {ι:List Addr} {H:Hp} {σ σ':St} {τ τ':Sd} (s:SRep K ι H σ τ) (s':SRep K ι H σ' τ'):SRep K ι H (σ++σ') (τ++τ'):=by
 refine ⟨by simp [s.len,s'.len],fun i d e=>?_⟩
 by_cases hi:i<τ.length
 ·rw [List.getElem?_append_left hi] at e
  rw [List.getElem?_append_left (by rw [s.len];exact hi)]
  exact s.val i d e
 ·rw [List.getElem?_append_right (by omega)] at e
  rw [List.getElem?_append_right (by rw [s.len];omega),s.len]
  exact s'.val _ d e
theorem a5v {K:PySem.W.Frag} {ι:List Addr} {H:Hp} {σ:St} {τ:Sd} (s:SRep K ι H σ τ) (ix:List Nat):SRep K ι H (ix.map fun i=>(σ[i]?).join) (frs' ix τ):=by
 refine ⟨by simp [frs'],fun j d e=>?_⟩
 simp only [frs',List.getElem?_map,Option.map_eq_some_iff] at e
 obtain ⟨i,hi,e⟩:=e
 have:τ[i]? = some (some d):=by
  cases q:τ[i]? with
  | none=>rw [q] at e;cases e
  | some o=>rw [q] at e;simp at e;rw [e]
 obtain ⟨v,h1,h2⟩:=s.val i d this
 exact ⟨v,by simp [hi,h1],h2⟩
theorem a3r {K:PySem.W.Frag}:afb K 1 (a5h 0) t1:=fun ι H v d ts r Q hr e q=>by
 cases e
 exact q [some v] rfl (zx hr a5u)
theorem afc {K:PySem.W.Frag}:afb K 3 (L2.sr K 3 (aba (a5h 0) (aba (a5h 1) (aba (a5h 2) arv)))) (tN 3):=fun ι H v d ts r Q hr e q=>by
 unfold tN at e
 cases hr with
 | @tup a vs xs h rs =>
  simp only at e
  split at e
  ·rename_i hl
   cases e
   match xs,hl,rs with
   | [_,_,_],_, .cons r1 (.cons r2 (.cons r3 .nil))=>exact ⟨a,_,rfl,SqT.of h,rfl,_,_,rfl,_,_,rfl,_,_,rfl,rfl,q [some _,some _,some _] rfl (zx r1 (zx r2 (zx r3 a5u)))⟩
  ·cases e
 | _=>cases e
theorem acb {n:Nat} {us r:St} (h:us.length=n):L2.Ext (List.replicate n none++r) (us++r):=by
 refine ⟨by simp [h],fun i v e=>?_⟩
 by_cases hi:i<n
 ·rw [List.getElem?_append_left (by simpa using hi),List.getElem?_replicate,if_pos hi] at e
  cases e
 ·rw [List.getElem?_append_right (by simpa using hi),List.length_replicate] at e
  rw [List.getElem?_append_right (by omega),h]
  exact e
theorem a95 {K:PySem.W.Frag} {E:XD} {ι0:List Addr} {H0:Hp} {J:It} {it:Itm} {g:TG} {t:D→Option Sd} {fe:SE} {n:Nat} {r:St} {rd:Sd} {h0:Hd} {Q:VK} (ir:alg K ι0 H0 J it) (tg:afb K n g t) (S:SRep K ι0 H0 r rd) (Rh:HRep K ι0 H0 h0) (hl:it.xs.length≤LINE)
  (o:out K E (xg K) ι0 H0 ((mapR it.ck (a4e t fe rd) it.xs h0).bind (a94 [])) Q):amy J (List.replicate n none++r) g (lift K E (xg K) fe) Q H0:=by
 refine ⟨fun i m ys H=>m=it.xs.length - i∧i≤it.xs.length∧ys.length≤i∧∃ ι h yd,Gr ι0 H0 ι H∧HRep K ι H h∧Reps K ι H ys yd∧out K E (xg K) ι H ((mapR it.ck (a4e t fe rd) (it.xs.drop i) h).bind (a94 yd)) Q,
  ⟨_,rfl,Nat.zero_le _,Nat.zero_le _,ι0,h0,[], .refl _ _,Rh, .nil,o⟩,?_⟩
 rintro i m ys H ⟨rfl,hi,hy,ι,h,yd,g0,Rh,ry,o⟩
 by_cases hlt:i<it.xs.length
 ·rw [List.drop_eq_getElem_cons hlt,mapR] at o
  by_cases hc:it.ck h
  ·rw [if_pos hc,anf] at o
   obtain ⟨go,yl⟩:=(ir ι H h g0 Rh hc).1 i _ (List.getElem?_eq_getElem hlt)
   refine .inr ⟨go,Nat.lt_of_le_of_lt hy (Nat.lt_of_lt_of_le hlt (ll hl)),fun x H' y=>?_⟩
   obtain ⟨g1,r1,hr1⟩:=yl x H' y
   have o':=a5o o g1
   cases ht:t it.xs[i] with
   | none=>simp only [a4e,ht] at o';exact o'.elim
   | some ts =>
    simp only [a4e,ht] at o'
    refine tg ι H' x _ ts r _ r1 ht fun us hus su=>⟨acb hus,ι,ts++rd,h,a2x su (S.mono (g0.trans g1)),hr1,dh o' fun d2 h2 ι2 H2 u g2 r2 hr2 o2=>?_⟩
    refine ⟨it.xs.length - (i+1),by omega,rfl,hlt,by simp;omega,ι2,h2,yd++[d2],(g0.trans g1).trans g2,hr2,((ry.mono g1).mono g2).snoc r2,o2⟩
  ·rw [if_neg hc] at o;exact o.elim
 ·have e:i=it.xs.length:=by omega
  subst e
  rw [List.drop_eq_nil_of_le (Nat.le_refl _),mapR] at o
  by_cases hc:it.ck h
  ·rw [if_pos hc] at o
   refine .inl ⟨(ir ι H h g0 Rh hc).2,zr (E:=E) ry Rh ?_⟩
   simpa [R.bind,a94] using o
  ·rw [if_neg hc] at o;exact o.elim
theorem acd {K:PySem.W.Frag} {E:XD} {ι0:List Addr} {H0:Hp} {J:It} {it:Itm} {g:TG} {t:D→Option Sd} {c:ST} {fe:SE} {n:Nat} {r:St} {rd:Sd} {h0:Hd} {Q:VK} (ir:alg K ι0 H0 J it) (tg:afb K n g t) (S:SRep K ι0 H0 r rd) (Rh:HRep K ι0 H0 h0) (hl:it.xs.length≤LINE)
  (o:out K E (xg K) ι0 H0 ((ael it.ck (a8d t c fe rd) it.xs h0).bind (a94 [])) Q):ac2 J (List.replicate n none++r) g (lift K E aja c) (lift K E (xg K) fe) Q H0:=by
 refine ⟨fun i m ys H=>m=it.xs.length - i∧i≤it.xs.length∧ys.length≤i∧∃ ι h yd,Gr ι0 H0 ι H∧HRep K ι H h∧Reps K ι H ys yd∧out K E (xg K) ι H ((ael it.ck (a8d t c fe rd) (it.xs.drop i) h).bind (a94 yd)) Q,
  ⟨_,rfl,Nat.zero_le _,Nat.zero_le _,ι0,h0,[], .refl _ _,Rh, .nil,o⟩,?_⟩
 rintro i m ys H ⟨rfl,hi,hy,ι,h,yd,g0,Rh,ry,o⟩
 by_cases hlt:i<it.xs.length
 ·rw [List.drop_eq_getElem_cons hlt,ael] at o
  by_cases hc:it.ck h
  ·rw [if_pos hc,aqw] at o
   obtain ⟨go,yl⟩:=(ir ι H h g0 Rh hc).1 i _ (List.getElem?_eq_getElem hlt)
   refine .inr ⟨go,Nat.lt_of_le_of_lt hy (Nat.lt_of_lt_of_le hlt (ll hl)),fun x H' y=>?_⟩
   obtain ⟨g1,r1,hr1⟩:=yl x H' y
   have o':=a5o o g1
   cases ht:t it.xs[i] with
   | none=>simp only [a8d,ht] at o';exact o'.elim
   | some ts =>
    simp only [a8d,ht] at o'
    rw [R.bind_assoc] at o'
    refine tg ι H' x _ ts r _ r1 ht fun us hus su=>⟨acb hus,ι,ts++rd,h,a2x su (S.mono (g0.trans g1)),hr1,dh o' fun b h1 ι1 H1 b' g2 rb hrb ob=>?_⟩
    have su1:SRep K ι1 H1 (us++r) (ts++rd):=(a2x su (S.mono (g0.trans g1))).mono g2
    cases rb
    cases b with
    | true =>
     rw [if_pos rfl] at ob ⊢
     rw [R.bind_assoc] at ob
     refine ⟨ι1,ts++rd,h1,su1,hrb,dh ob fun d2 h2 ι2 H2 u g3 r2 hr2 o2=>?_⟩
     refine ⟨it.xs.length - (i+1),by omega,rfl,hlt,by simp;omega,ι2,h2,yd++[d2],((g0.trans g1).trans g2).trans g3,hr2,(((ry.mono g1).mono g2).mono g3).snoc r2,?_⟩
     simpa [R.bind] using o2
    | false =>
     rw [if_neg Bool.false_ne_true] at ob ⊢
     refine ⟨it.xs.length - (i+1),by omega,rfl,hlt,by omega,ι1,h1,yd,(g0.trans g1).trans g2,hrb,(ry.mono g1).mono g2,?_⟩
     simpa [R.bind] using ob
  ·rw [if_neg hc] at o;exact o.elim
 ·have e:i=it.xs.length:=by omega
  subst e
  rw [List.drop_eq_nil_of_le (Nat.le_refl _),ael] at o
  by_cases hc:it.ck h
  ·rw [if_pos hc] at o
   refine .inl ⟨(ir ι H h g0 Rh hc).2,zr (E:=E) ry Rh ?_⟩
   simpa [R.bind,a94] using o
  ·rw [if_neg hc] at o;exact o.elim
section
variable {X:Cx} {E:XD} {elt tg iter cnd:Expr} {scope:Scope} {pos:Pos} {cl:List (Str × Addr)} {ts fr:List Str} {ix:List Nat} {fi:SI} {g:TG} {t:D→Option Sd} {fe:SE} {fc:ST}
theorem a1m (hc:X.calm=true) (S:CSc X scope cl ts fr ix) (hi:MI X E tg iter fi) (hg:∀ C fp s H,PG (cxC X (ts++fr) scope cl C fp s H) tg g) (ht:afb X.K ts.length g t) (he:∀ C fp s H,ME (cxC X (ts++fr) scope cl C fp s H) E elt fe)
  (hs:∀ x,foldedSetIterable iter X.env x=pure x:=by intro _;rfl):ME X E (.ListComp elt [⟨tg,iter,[],0⟩] scope pos) (ud fi t fe ix):=by
 refine PE.weak (af7 (te:=lift X.K E (xg X.K) fe) hc S hi hg he hs) fun σ H Q ⟨ι,τ,h,Sr,Rh,o⟩=>?_
 refine ⟨ι,τ,h,Sr,Rh,dh o fun it h1 ι1 H1 J g1 r1 hr1 o1=>?_⟩
 by_cases hl:it.xs.length≤LINE
 ·rw [if_pos hl] at o1
  exact a95 r1 ht (a5v (Sr.mono g1) ix) hr1 hl o1
 ·rw [if_neg hl] at o1;exact o1.elim
end
mutual
def clo (n:Nat):D→Prop
 | .tup xs=>clos n xs
 | .rol xs=>clos n xs
 | .rod _ xs=>clos n xs
 | .scr xs=>clos n xs
 | .rdT _ xs=>clos n xs
 | .ref i=>i<n
 | _=>True
def clos (n:Nat):List D→Prop
 | []=>True
 | x::xs=>clo n x∧clos n xs
end
mutual
theorem Rep.clo {K:PySem.W.Frag} {ι:List Addr} {H:Hp}:∀ {v:V} {d:D},Rep K ι H v d→clo ι.length d
 | _,_, .non=>by simp [MI.clo]
 | _,_, .bl b=>by simp [MI.clo]
 | _,_, .int i=>by simp [MI.clo]
 | _,_, .str x=>by simp [MI.clo]
 | _,_, .ty n=>by simp [MI.clo]
 | _,_, .tup h r=>by simp only [MI.clo];exact Reps.clo r
 | _,_, .rol h r=>by simp only [MI.clo];exact Reps.clo r
 | _,_, .ref h=>by simp only [MI.clo];exact (List.getElem?_eq_some_iff.mp h).1
 | _,_, .rod h e r=>by simp only [MI.clo];exact Reps.clo r
 | _,_, .scr h r=>by simp only [MI.clo];exact Reps.clo r
 | _,_, .rdT h e r=>by simp only [MI.clo];exact Reps.clo r
 | _,_, .exc h hc hn=>by simp [MI.clo]
theorem Reps.clo {K:PySem.W.Frag} {ι:List Addr} {H:Hp}:∀ {vs:List V} {ds:List D},Reps K ι H vs ds→clos ι.length ds
 | _,_, .nil=>by simp [MI.clos]
 | _,_, .cons r rs=>by simp only [MI.clos];exact ⟨Rep.clo r,Reps.clo rs⟩
end
mutual
theorem Rep.cut {K:PySem.W.Frag} {ι:List Addr} {H:Hp} {n:Nat}:∀ {v:V} {d:D},Rep K ι H v d→clo n d→Rep K (ι.take n) H v d
 | _,_, .non,_=>.non
 | _,_, .bl b,_=>.bl b
 | _,_, .int i,_=>.int i
 | _,_, .str x,_=>.str x
 | _,_, .ty n,_=>.ty n
 | _,_, .tup h r,c=>.tup h (Reps.cut r (by simpa only [MI.clo] using c))
 | _,_, .rol h r,c=>.rol h (Reps.cut r (by simpa only [MI.clo] using c))
 | _,_, .ref h,c=>.ref (by simp only [MI.clo] at c;rw [List.getElem?_take,if_pos c];exact h)
 | _,_, .rod h e r,c=>.rod h e (Reps.cut r (by simpa only [MI.clo] using c))
 | _,_, .scr h r,c=>.scr h (Reps.cut r (by simpa only [MI.clo] using c))
 | _,_, .rdT h e r,c=>.rdT h e (Reps.cut r (by simpa only [MI.clo] using c))
 | _,_, .exc h hc hn,_=>.exc h hc hn
theorem Reps.cut {K:PySem.W.Frag} {ι:List Addr} {H:Hp} {n:Nat}:∀ {vs:List V} {ds:List D},Reps K ι H vs ds→clos n ds→Reps K (ι.take n) H vs ds
 | _,_, .nil,_=>.nil
 | _,_, .cons r rs,c=>by simp only [MI.clos] at c;exact .cons (Rep.cut r c.1) (Reps.cut rs c.2)
end
def zm (n:Nat):O→Prop
 | .lst xs=>clos n xs
 | .dK kvs=>clos n (kvs.map (·.2))
 | .dT kvs=>clos n (kvs.map (·.2))
def ang (n:Nat) (h:Hd):Prop:=∀ o∈h,zm n o
theorem ORep.clo {K:PySem.W.Frag} {ι:List Addr} {H:Hp} {a:Addr} {o:O} (r:ORep K ι H a o):zm ι.length o:=by
 cases o with
 | lst xs=>obtain ⟨vs,_,r⟩:=r;exact r.clo
 | dK kvs=>obtain ⟨us,_,_,r⟩:=r;exact r.clo
 | dT kvs=>obtain ⟨us,_,_,r⟩:=r;exact r.clo
theorem ORep.cut {K:PySem.W.Frag} {ι:List Addr} {H:Hp} {a:Addr} {o:O} {n:Nat} (r:ORep K ι H a o) (c:zm n o):ORep K (ι.take n) H a o:=by
 cases o with
 | lst xs=>obtain ⟨vs,h,r⟩:=r;exact ⟨vs,h,r.cut c⟩
 | dK kvs=>obtain ⟨us,h,e,r⟩:=r;exact ⟨us,h,e,r.cut c⟩
 | dT kvs=>obtain ⟨us,h,e,r⟩:=r;exact ⟨us,h,e,r.cut c⟩
theorem HRep.clo {K:PySem.W.Frag} {ι:List Addr} {H:Hp} {h:Hd} (r:HRep K ι H h):ang h.length h:=fun o ho=>by
 obtain ⟨i,hi⟩:=List.getElem?_of_mem ho
 obtain ⟨a,_,q⟩:=r.addr hi
 rw [← r.len];exact q.clo
theorem HRep.cut {K:PySem.W.Frag} {ι:List Addr} {H:Hp} {h g:Hd} (r:HRep K ι H (h++g)) (c:ang h.length h):HRep K (ι.take h.length) H h:=by
 refine ⟨r.nd.sublist (List.take_sublist _ _),?_,fun i a o e1 e2=>?_⟩
 ·have:=r.len
  rw [List.length_append] at this
  rw [List.length_take];omega
 ·have hi:i<h.length:=(List.getElem?_eq_some_iff.mp e2).1
  rw [List.getElem?_take,if_pos hi] at e1
  exact (r.obj i a o e1 (by rw [List.getElem?_append_left hi];exact e2)).cut (c o (List.mem_of_getElem? e2))
def X0:XD:=fun _ _ _ _=>False
abbrev SF:=List D→Hd→R D
def u5 (K:PySem.W.Frag) (n:Nat) (F:SF):Sp:=fun vs H Q _=>vs.length=n∧∃ ι ds h,Reps K ι H vs ds∧HRep K ι H h∧out K X0 (xg K) ι H (F ds h) Q
def zy (n:Nat) (ds:List D):Sd:=ds.map some++List.replicate (n - ds.length) none
def mq (b:SS) (n:Nat) (ds:List D) (h:Hd):R D:=match b (zy n ds) h with
 | .rt d h1=>.ok d h1
 | .nx _ h1=>.ok .non h1
 | .ex c h1=>.ex c h1
 | _=>.no
def Rf (n:Nat) (r' r:R D):Prop:=match r with
 | .no=>True
 | .ok d h1=>∃ g,r' = .ok d (h1++g)∧(g=[]∨(n≤h1.length∧clo h1.length d∧ang h1.length h1))
 | .ex c h1=>∃ g,r' = .ex c (h1++g)∧(g=[]∨(n≤h1.length∧ang h1.length h1))
theorem Rf.same {n:Nat} {r' r:R D} (h:r'=r):Rf n r' r:=by
 subst h
 cases r' with
 | ok d h1=>exact ⟨[],by simp, .inl rfl⟩
 | ex c h1=>exact ⟨[],by simp, .inl rfl⟩
 | no=>exact True.intro
theorem a4w {K:PySem.W.Frag} {ι:List Addr} {H:Hp} {vs:List V} {ds:List D} {N:List Str} (r:Reps K ι H vs ds):SRep K ι H (start N vs) (zy N.length ds):=by
 refine a2x ?_ ?_
 ·clear N
  induction r using Reps.rec (motive_1:=fun _ _ _=>True) with
  | nil=>exact a5u
  | cons r rs _ ih=>exact zx r ih
  | _=>trivial
 ·rw [r.len]
  exact ⟨by simp,fun i d e=>by rw [List.getElem?_replicate] at e;split at e<;>cases e⟩
theorem ahq {ι ι':List Addr} {H H':Hp} {n:Nat} (g:Gr ι H ι' H') (hn:ι.length≤n):Gr ι H (ι'.take n) H':=by
 obtain ⟨m,rfl,hm⟩:=g.pre
 exact ⟨⟨m.take (n - ι.length),by rw [List.take_append,List.take_of_length_le hn],fun a ha=>hm a (List.mem_of_mem_take ha)⟩,g.tup,g.frz,g.oth,g.kp⟩
section
variable {P:Program} {w:World} {K:PySem.W.Frag} {mg:Str→Option Value} {base:Heap}
theorem anh {x qual:Str} {st:Stmt} {f:Addr} {fd:FuncData} {N ps:List Str} {k:Nat} {b:SS} {F:SF} (Fu:Fun K x qual st f fd) (S:FnScope N ps (au st))
  (hb:∀ (cdv:Value) (A:Around) (outer:List Env) (s:Shared) (H:Hp) (E:XK),Room k (A.deeper (PyProof.Rows.envOfC qual (au st) s.heap.objs.size f cdv))→MSs (a0q CX0 P w K mg base N qual (au st) f cdv A outer s H E).nox X0 (iz st) b)
  (hF:∀ ds h,ds.length=ps.length→clos h.length ds→ang h.length h→Rf h.length (mq b N.length ds h) (F ds h)):FnOk P w K mg base CX0 (k+1) f fd ps (u5 K ps.length F):=by
 refine Fu.ok S (fun vs H Q E h=>h.1) fun cdv A outer s H vs Q E hr h=>⟨_,hb cdv A outer s H E hr,?_⟩
 obtain ⟨hl,ι,ds,h,r,hr',o⟩:=h
 refine ⟨ι,zy N.length ds,h,a4w r,hr',?_⟩
 have q:=hF ds h (by rw [← r.len];exact hl) (by rw [← hr'.len];exact r.clo) hr'.clo
 unfold mq at q
 cases hFd:F ds h with
 | no=>rw [hFd] at o;exact o.elim
 | ex c h1 =>
  rw [hFd] at q o
  obtain ⟨g,e,cl⟩:=q
  have fin:∀ ι' H',Gr ι H ι' H'→HRep K ι' H' (h1++g)→X0 c ι' H' (h1++g):=fun ι' H' g1 hr1=>by
   rcases cl with rfl | ⟨hn,c2⟩
   ·rw [List.append_nil] at hr1
    exact o ι' H' g1 hr1
   ·exact o (ι'.take h1.length) H' (ahq g1 (by rw [hr'.len];exact hn)) (hr1.cut c2)
  cases hbd:b (zy N.length ds) h with
  | ex c' h' =>
   rw [hbd] at e
   injection e with e1 e2
   subst e1 e2
   exact fin
  | _=>rw [hbd] at e;cases e
 | ok d h1 =>
  rw [hFd] at q o
  obtain ⟨g,e,cl⟩:=q
  have fin:∀ ι' H' v,Gr ι H ι' H'→Rep K ι' H' v d→HRep K ι' H' (h1++g)→Q v H':=fun ι' H' v g1 r1 hr1=>by
   rcases cl with rfl | ⟨hn,c1,c2⟩
   ·rw [List.append_nil] at hr1
    exact o ι' H' v g1 r1 hr1
   ·exact o (ι'.take h1.length) H' v (ahq g1 (by rw [hr'.len];exact hn)) (r1.cut c1) (hr1.cut c2)
  cases hbd:b (zy N.length ds) h with
  | rt d' h' =>
   rw [hbd] at e
   injection e with e1 e2
   subst e1 e2
   exact fin
  | nx τ' h' =>
   rw [hbd] at e
   injection e with e1 e2
   subst e1 e2
   exact fun ι' H' σ' g1 S1 hr1=>fin ι' H' .non g1 .non hr1
  | _=>rw [hbd] at e;cases e
def sN (n:Nat) (F:SF):SF:=fun ds h=>if ds.length=n then F ds h else .no
theorem ani {n:Nat} {F:SF} {ι:List Addr} {H:Hp} {vs:List V} {ds:List D} {h:Hd} {Q:VK} (r:Reps K ι H vs ds) (hr:HRep K ι H h) (o:out K X0 (xg K) ι H (sN n F ds h) Q) (E:XK):u5 K n F vs H Q E:=by
 unfold sN at o
 split at o
 ·rename_i hl
  exact ⟨by rw [r.len];exact hl,ι,ds,h,r,hr,o⟩
 ·exact o.elim
end
theorem ajk {X:Cx} {k n:Nat} {f:Addr} {fd:FuncData} {ps:List Str} {x:Str} {F:SF} {ka:SA} {e:Expr} {es:List Expr} {p pos:Pos} (G:Dn X.prog X.w X.K X.mg X.base k x ps (u5 X.K n F) f fd) (hr:Room k X.A) (hg:Gl X x) (ha:MA X X0 (e::es) ka)
  (hdb:(x == ("__debug__" : Str))=false:=by decide) (he:starEach (e::es) X.env=(false,eval e X.env)::starEach es X.env:=by rfl) (hpl:(backTo pos (starEach es X.env)).any (·.1)=false:=by rfl):ME X X0 (.Call (.Name x p) (e::es) [] pos) (sA (sN n F) ka):=by
 refine PE.weak (a1i G.ok hr hg G.m G.kp G.b .nil af4 ha hdb he hpl) fun σ H Q ⟨ι,τ,h,S,Rh,o⟩=>?_
 refine ⟨ι,τ,h,S,Rh,dh o fun ds h1 ι1 H1 vs g1 r1 hr1 o1=>?_⟩
 rw [List.append_nil]
 exact ani r1 hr1 o1 _
end MI
namespace MI
open PySem PySem.Spec L2
section
variable {K:PySem.W.Frag} {E:XD} {ι:List Addr} {H:Hp} {h:Hd} {Q:VK}
theorem ans {d:D} {v:V} (o:out K E (xg K) ι H (.ok d h) Q) (r:Rep K ι H v d) (hr:HRep K ι H h):Q v H:=o ι H v (.refl _ _) r hr
theorem HRep.lst (hr:HRep K ι H h) {i:Nat} {a:Addr} {xs:List D} (e:ι[i]? = some a) (hi:h[i]? = some (.lst xs)):∃ vs,H a=some (.lst vs)∧Reps K ι H vs xs:=hr.obj i a _ e hi
end
def aul:D→D→Hd→R D
 | .int i, .int j,h=>.ok (.int (i+j)) h
 | .str x, .str y,h=>if x.length+y.length≤LINE then .ok (.str (x++y)) h else .no
 | .tup xs, .tup ys,h=>if xs≠[]∧xs.length+ys.length≤LINE then .ok (.tup (xs++ys)) h else .no
 | .ref i, .ref j,h=>match h[i]?,h[j]? with
  | some (.lst xs),some (.lst ys)=>if xs.length+ys.length≤LINE then .ok (.ref h.length) (h++[.lst (xs++ys)]) else .no
  | _,_=>.no
 | _,_,_=>.no
def a8t:D→D→Hd→R D
 | .int i, .int j,h=>.ok (.int (i - j)) h
 | _,_,_=>.no
def a4f:D→D→Hd→R D
 | .int i, .int j,h=>if 0<j then .ok (.int (i % j)) h else .no
 | _,_,_=>.no
def aac:D→D→Hd→R D
 | .int i, .int j,h=>if 0<j∧j<1073741824 then .ok (.int (i / j)) h else .no
 | _,_,_=>.no
def ace:D→D→Hd→R D
 | .int i, .int j,h=>if 0≤j∧j≤1000000∧i.natAbs<2 ^ 64 then .ok (.int (i ^ j.toNat)) h else .no
 | _,_,_=>.no
section
variable {X:Cx} {K:PySem.W.Frag}
theorem ajl:a3p K a8t (rI0 fun i j=>.int (i - j)):=by
 intro E ι H h x y dx dy Q rx ry hr o
 cases rx with
 | int i =>
  cases ry with
  | int j=>exact ⟨i,j,rfl,rfl,ans o (.int _) hr⟩
  | _=>exact o.elim
 | _=>exact o.elim
theorem ajm:a3p K a4f (rI (fun _ j=>0<j) fun i j=>.int (i % j)):=by
 intro E ι H h x y dx dy Q rx ry hr o
 cases rx with
 | int i =>
  cases ry with
  | int j =>
   by_cases hc:0<j
   ·simp only [a4f,if_pos hc] at o;exact ⟨i,j,rfl,rfl,hc,ans o (.int _) hr⟩
   ·simp only [a4f,if_neg hc] at o;exact o.elim
  | _=>exact o.elim
 | _=>exact o.elim
theorem ajn:a3p K aac (rI arx fun i j=>.int (i / j)):=by
 intro E ι H h x y dx dy Q rx ry hr o
 cases rx with
 | int i =>
  cases ry with
  | int j =>
   by_cases hc:0<j∧j<1073741824
   ·simp only [aac,if_pos hc] at o;exact ⟨i,j,rfl,rfl,hc,ans o (.int _) hr⟩
   ·simp only [aac,if_neg hc] at o;exact o.elim
  | _=>exact o.elim
 | _=>exact o.elim
theorem ajo:a3p K ace (rI arz fun i j=>.int (i ^ j.toNat)):=by
 intro E ι H h x y dx dy Q rx ry hr o
 cases rx with
 | int i =>
  cases ry with
  | int j =>
   by_cases hc:0≤j∧j≤1000000∧i.natAbs<2 ^ 64
   ·simp only [ace,if_pos hc] at o;exact ⟨i,j,rfl,rfl,hc,ans o (.int _) hr⟩
   ·simp only [ace,if_neg hc] at o;exact o.elim
  | _=>exact o.elim
 | _=>exact o.elim
variable {E:XD} {a b e:Expr} {es:List Expr} {fa fb:SE} {ka:SA} {pos:Pos}
theorem ahr (ha:ME X E a fa) (hb:ME X E b fb):ME X E (.BinOp a .Sub b pos) (s2 a8t fa fb):=aa9 amc ajl ha hb
theorem a2h (ha:ME X E a fa) (hb:ME X E b fb):ME X E (.BinOp a .Mod b pos) (s2 a4f fa fb):=aa9 ame ajm ha hb
theorem acf (ha:ME X E a fa) (hb:ME X E b fb):ME X E (.BinOp a .FloorDiv b pos) (s2 aac fa fb):=aa9 aiq ajn ha hb
theorem ahs (ha:ME X E a fa) (hb:ME X E b fb):ME X E (.BinOp a .Pow b pos) (s2 ace fa fb):=aa9 amf ajo ha hb
def a2i:D→Hd→R D
 | .int i,h=>.ok (.int (-i)) h
 | _,_=>.no
theorem a0d (ha:ME X E a fa):ME X E (.UnaryOp .USub a pos) (s1 a2i fa):=aqt amg (fun E ι H h x dx Q rx hr o=>by
 cases rx with
 | int i=>exact ⟨i,rfl,ans o (.int _) hr⟩
 | _=>exact o.elim) ha
def eqS:D→D→Bool
 | .non, .non=>true
 | .int i, .int j=>decide (i=j)
 | .bl i, .bl j=>decide (i=j)
 | .str i, .str j=>decide (i=j)
 | _,_=>false
def gLt:D→D→Hd→R D
 | .int i, .int j,h=>.ok (.bl (decide (i<j))) h
 | .str i, .str j,h=>.ok (.bl (decide (i.cps.toList<j.cps.toList))) h
 | _,_,_=>.no
def gLe:D→D→Hd→R D
 | .int i, .int j,h=>.ok (.bl (decide (i≤j))) h
 | .str i, .str j,h=>.ok (.bl (!decide (j.cps.toList<i.cps.toList))) h
 | _,_,_=>.no
def gGt:D→D→Hd→R D
 | .int i, .int j,h=>.ok (.bl (decide (j<i))) h
 | _,_,_=>.no
def gGe:D→D→Hd→R D
 | .int i, .int j,h=>.ok (.bl (decide (j≤i))) h
 | _,_,_=>.no
theorem a96:a3p K gLt (fun x y H Q=>rI0 (fun i j=>.bl (decide (i<j))) x y H Q∨∃ i j,x = .str i∧y = .str j∧Q (.bl (decide (i.cps.toList<j.cps.toList))) H):=by
 intro E ι H h x y dx dy Q rx ry hr o
 cases rx with
 | int i =>
  cases ry with
  | int j=>exact .inl ⟨i,j,rfl,rfl,ans o (.bl _) hr⟩
  | _=>exact o.elim
 | str i =>
  cases ry with
  | str j=>exact .inr ⟨i,j,rfl,rfl,ans o (.bl _) hr⟩
  | _=>exact o.elim
 | _=>exact o.elim
theorem a97:a3p K gGt (rI0 fun i j=>.bl (decide (j<i))):=by
 intro E ι H h x y dx dy Q rx ry hr o
 cases rx with
 | int i =>
  cases ry with
  | int j=>exact ⟨i,j,rfl,rfl,ans o (.bl _) hr⟩
  | _=>exact o.elim
 | _=>exact o.elim
theorem aht:a3p K gGe (rI0 fun i j=>.bl (decide (j≤i))):=by
 intro E ι H h x y dx dy Q rx ry hr o
 cases rx with
 | int i =>
  cases ry with
  | int j=>exact ⟨i,j,rfl,rfl,ans o (.bl _) hr⟩
  | _=>exact o.elim
 | _=>exact o.elim
def a4g:D→Bool
 | .non=>true
 | _=>false
theorem a98 {ι:List Addr} {H:Hp} {x:V} {d:D} (r:Rep K ι H x d):decide (x = .non)=a4g d:=by cases r<;>simp [a4g]
def gIs:D→D→Hd→R D
 | x, .non,h=>.ok (.bl (a4g x)) h
 | .bl i, .bl j,h=>.ok (.bl (i == j)) h
 | _,_,_=>.no
def a78:D→D→Hd→R D
 | x, .non,h=>.ok (.bl (!a4g x)) h
 | .bl i, .bl j,h=>.ok (.bl (i != j)) h
 | _,_,_=>.no
theorem acg:a3p K gIs (fun x y H Q=>(y = .non∧Q (.bl (decide (x = .non))) H)∨∃ i j,x = .bl i∧y = .bl j∧Q (.bl (i == j)) H):=by
 intro E ι H h x y dx dy Q rx ry hr o
 cases ry with
 | non=>exact .inl ⟨rfl,by rw [a98 rx];simp only [gIs] at o;exact ans o (.bl _) hr⟩
 | bl j =>
  cases rx with
  | bl i=>exact .inr ⟨i,j,rfl,rfl,ans o (.bl _) hr⟩
  | _=>exact o.elim
 | _=>cases rx<;>exact o.elim
theorem ach:a3p K a78 (fun x y H Q=>(y = .non∧Q (.bl (!decide (x = .non))) H)∨∃ i j,x = .bl i∧y = .bl j∧Q (.bl (i != j)) H):=by
 intro E ι H h x y dx dy Q rx ry hr o
 cases ry with
 | non=>exact .inl ⟨rfl,by rw [a98 rx];simp only [a78] at o;exact ans o (.bl _) hr⟩
 | bl j =>
  cases rx with
  | bl i=>exact .inr ⟨i,j,rfl,rfl,ans o (.bl _) hr⟩
  | _=>exact o.elim
 | _=>cases rx<;>exact o.elim
def a0m:D→Bool
 | .non=>true | .bl _=>true | .int _=>true | .str _=>true
 | _=>false
def eqF:D→D→Bool
 | .non, .non=>true
 | .bl i, .bl j=>i == j
 | .int i, .int j=>i == j
 | .str i, .str j=>i == j
 | .int i, .bl j=>i == (if j then 1 else 0)
 | .bl i, .int j=>(if i then 1 else 0) == j
 | _,_=>false
end
end MI
namespace MI
open PySem PySem.Spec L2
section
variable {X:Cx} {K:PySem.W.Frag} {E:XD} {a b e o:Expr} {es:List Expr} {fa fb:SE} {ka:SA} {pos:Pos}
def zp (d:D) (h:Hd):Option (List D):=match d with
 | .tup xs=>some xs
 | .rol xs=>some xs
 | .ref i=>match h[i]? with | some (.lst xs)=>some xs | _=>none
 | _=>none
def gIx (x y:D) (h:Hd):R D:=match y with
 | .int i=>(match x with
  | .str z=>if z.length≤LINE then (match atI z.cps.toList i with | some c=>.ok (.str ⟨#[c]⟩) h | none=>.no) else .no
  | x=>match zp x h with
   | some xs=>(match atI xs i with | some d=>.ok d h | none=>.no)
   | none=>.no)
 | _=>.no
theorem afd {ι:List Addr} {H:Hp} {vs:List V} {xs:List D} {i:Int} {d:D} (r:Reps K ι H vs xs) (e:atI xs i=some d):∃ v,atI vs i=some v∧Rep K ι H v d:=by
 unfold atI at e ⊢
 rw [r.len]
 cases hx:ixN xs.length i with
 | none=>rw [hx] at e;cases e
 | some j=>rw [hx] at e;exact r.get e
theorem anj:a3p K gIx (rIx K):=by
 intro E ι H h x y dx dy Q rx ry hr o
 cases ry with
 | int i =>
  have go:∀ {p:Addr} {vs:List V} {xs:List D},Reps K ι H vs xs→out K E (xg K) ι H (match atI xs i with | some d=>.ok d h | none=>.no) Q→∃ v,atI vs i=some v∧Q v H:=fun {p vs xs} r o=>by
   cases he:atI xs i with
   | none=>rw [he] at o;exact o.elim
   | some d =>
    rw [he] at o
    obtain ⟨v,h1,h2⟩:=afd r he
    exact ⟨v,h1,ans o h2 hr⟩
  cases rx with
  | str z =>
   by_cases hc:z.length≤LINE
   ·simp only [gIx,if_pos hc] at o
    cases he:atI z.cps.toList i with
    | none=>rw [he] at o;exact o.elim
    | some c=>rw [he] at o;exact .inr (.inr ⟨z,i,c,rfl,rfl,ll hc,he,ans o (.str _) hr⟩)
   ·simp only [gIx,if_neg hc] at o;exact o.elim
  | @tup p vs xs hp r =>
   simp only [gIx,zp] at o
   obtain ⟨v,h1,h2⟩:=go (p:=p) r o
   exact .inr (.inl ⟨p,vs,i,v,rfl,rfl,SqT.of hp,h1,h2⟩)
  | @rol p vs xs hp r =>
   simp only [gIx,zp] at o
   obtain ⟨v,h1,h2⟩:=go (p:=p) r o
   exact .inl ⟨p,vs,i,v,rfl,rfl,hp.l,h1,h2⟩
  | @ref p j hp =>
   obtain ⟨ob,e1,e2⟩:=hr.at hp
   cases ob with
   | lst xs =>
    simp only [gIx,zp,e1] at o
    obtain ⟨vs,h3,h4⟩:=e2
    obtain ⟨v,h1,h2⟩:=go (p:=p) h4 o
    exact .inl ⟨p,vs,i,v,rfl,rfl,SqL.of h3,h1,h2⟩
   | dK _=>simp only [gIx,zp,e1] at o;exact o.elim
   | dT _=>simp only [gIx,zp,e1] at o;exact o.elim
  | _=>exact o.elim
 | _=>exact o.elim
theorem bh (ha:ME X E a fa) (hb:ME X E b fb) (hp:a84 b):ME X E (.Subscript a b pos) (s2 gIx fa fb):=aqu amt anj ha hb hp
abbrev SO:=Sd→Hd→R (Option Int)
abbrev MO (X:Cx) (E:XD) (e:Option Expr) (f:SO):Prop:=PO X e (lift X.K E atn f)
def oN:SO:=fun _ h=>.ok none h
def oS (f:SE):SO:=fun τ h=>(f τ h).bind fun d h1=>match d with | .int i=>.ok (some i) h1 | _=>.no
theorem PO.weak {e:Option Expr} {t t':St→Hp→(Option Int→Hp→Prop)→Prop} (h:PO X e t) (i:∀ σ H Q,t' σ H Q→t σ H Q):PO X e t':=fun pins s σ H Q I q=>h pins s σ H Q I (i _ _ _ q)
theorem wj:MO X E none oN:=PO.weak aiz fun σ H Q ⟨ι,τ,h,S,Rh,o⟩=>o ι H none (.refl _ _) rfl Rh
theorem ue (he:ME X E e fa):MO X E (some e) (oS fa):=by
 refine PO.weak (aj0 he) fun σ H Q ⟨ι,τ,h,S,Rh,o⟩=>?_
 refine ⟨ι,τ,h,S,Rh,dh o fun d h1 ι1 H1 v g1 r1 hr1 o1=>?_⟩
 cases r1 with
 | int i=>exact ⟨i,rfl,o1 ι1 H1 _ (.refl _ _) rfl hr1⟩
 | _=>exact o1.elim
def whole (n:Nat) (lo hi:Option Int):Prop:=HT.sIx n 0 lo=0∧HT.sIx n n hi=n
instance (n:Nat) (lo hi:Option Int):Decidable (whole n lo hi):=by unfold whole;exact inferInstance
def gSl (d:D) (lo hi:Option Int) (h:Hd):R D:=match d with
 | .str z=>if z.length≤LINE then .ok (.str ⟨(a2f z.cps.toList lo hi).toArray⟩) h else .no
 | .tup xs=>if ¬ whole xs.length lo hi then .ok (.tup (a2f xs lo hi)) h else .no
 | .rol xs=>.ok (.ref h.length) (h++[.lst (a2f xs lo hi)])
 | .scr xs=>.ok (.ref h.length) (h++[.lst (a2f xs lo hi)])
 | .ref i=>match h[i]? with | some (.lst xs)=>.ok (.ref h.length) (h++[.lst (a2f xs lo hi)]) | _=>.no
 | _=>.no
theorem a0v {ι:List Addr} {H:Hp} {vs:List V} {xs:List D} (r:Reps K ι H vs xs) (lo hi:Option Int):Reps K ι H (ahf vs lo hi) (a2f xs lo hi):=by
 unfold ahf a2f
 rw [r.len]
 exact (r.drop _).take _
theorem a99 {ι:List Addr} {H:Hp} {h:Hd} {x:V} {d:D} {lo hi:Option Int} {Q:VK} (rx:Rep K ι H x d) (hr:HRep K ι H h) (o:out K E (xg K) ι H (gSl d lo hi h) Q):aqp x lo hi H Q∨aql K x lo hi H Q∨aqn K x lo hi H Q:=by
 cases rx with
 | str z =>
  by_cases hc:z.length≤LINE
  ·simp only [gSl,if_pos hc] at o;exact .inl ⟨z,rfl,ll hc,ans o (.str _) hr⟩
  ·simp only [gSl,if_neg hc] at o;exact o.elim
 | @tup p vs xs hp r =>
  by_cases hc:¬ whole xs.length lo hi
  ·simp only [gSl,if_pos hc] at o
   exact .inr (.inl ⟨p,vs,rfl,SqT.of hp,by rw [r.len];exact hc,a0j (a0v r lo hi) hr o⟩)
  ·simp only [gSl,if_neg hc] at o;exact o.elim
 | @rol p vs xs hp r=>exact .inr (.inr ⟨p,vs,rfl,hp.l,zr (a0v r lo hi) hr o⟩)
 | @scr p vs xs hp r=>exact .inr (.inr ⟨p,vs,rfl,hp.l,zr (a0v r lo hi) hr o⟩)
 | @ref p j hp =>
  obtain ⟨ob,e1,e2⟩:=hr.at hp
  cases ob with
  | lst xs =>
   simp only [gSl,e1] at o
   obtain ⟨vs,h3,h4⟩:=e2
   exact .inr (.inr ⟨p,vs,rfl,SqL.of h3,zr (a0v h4 lo hi) hr o⟩)
  | dK _=>simp only [gSl,e1] at o;exact o.elim
  | dT _=>simp only [gSl,e1] at o;exact o.elim
 | _=>exact o.elim
theorem aci {ι:List Addr} {H:Hp} {x:V} {d:D} (r:Rep K ι H x d) (f:a0m d=true):a0i x=true:=by cases r<;>first | rfl | cases f
theorem ank {ι:List Addr} {H:Hp} {x y:V} {d c:D} (r:Rep K ι H x d) (q:Rep K ι H y c):a0m d=true→a0m c=true→eqV x y=eqF d c:=fun f g=>by
 cases r<;>cases q<;>first | rfl | (cases f;done) | (cases g;done)
def inD (x:D) (xs:List D):Bool:=xs.any fun y=>eqF y x
theorem afe {ι:List Addr} {H:Hp} {vs:List V} {xs:List D} (r:Reps K ι H vs xs) (f:xs.all a0m=true):vs.all a0i=true:=by
 induction r using Reps.rec (motive_1:=fun _ _ _=>True) with
 | nil=>rfl
 | cons r rs _ ih =>
  rw [List.all_cons,Bool.and_eq_true] at f ⊢
  exact ⟨aci r f.1,ih f.2⟩
 | _=>trivial
theorem anl {ι:List Addr} {H:Hp} {x:V} {d:D} {vs:List V} {xs:List D} (rx:Rep K ι H x d) (fx:a0m d=true) (r:Reps K ι H vs xs) (f:xs.all a0m=true):inV x vs=inD d xs:=by
 unfold inV inD
 induction r using Reps.rec (motive_1:=fun _ _ _=>True) with
 | nil=>rfl
 | cons r rs _ ih =>
  rw [List.all_cons,Bool.and_eq_true] at f
  rw [List.any_cons,List.any_cons,ih f.2,ank r rx f.1 fx]
 | _=>trivial
def gIn (neg:Bool) (x y:D) (h:Hd):R D:=match y with
 | .str T=>(match x with
  | .str z=>(match z.cps.toList with | [c]=>.ok (.bl (if neg then !decide (c∈T.cps.toList) else decide (c∈T.cps.toList))) h | _=>.no)
  | _=>.no)
 | y=>match zp y h with
  | some xs=>if a0m x=true∧xs.all a0m=true then .ok (.bl (if neg then !inD x xs else inD x xs)) h else .no
  | none=>.no
theorem one_sign {z:Str} {c:Nat} (h:z.cps.toList=[c]):z=⟨#[c]⟩:=by
 obtain ⟨cps⟩:=z
 congr
 exact Array.ext' (by simpa using h)
theorem ahu (neg:Bool) {r1:R2} (h1:∀ c T H (Q:VK),Q (.bl (if neg then !decide (c∈T.cps.toList) else decide (c∈T.cps.toList))) H→r1 (.str ⟨#[c]⟩) (.str T) H Q):a3p K (gIn neg) (fun x y H Q=>r1 x y H Q∨rIn K neg x y H Q):=by
 intro E ι H h x y dx dy Q rx ry hr o
 have go:∀ {p:Addr} {vs:List V} {xs:List D},(SqL K H p vs∨SqT K H p vs)→Reps K ι H vs xs→out K E (xg K) ι H (if a0m dx=true∧xs.all a0m=true then .ok (.bl (if neg then !inD dx xs else inD dx xs)) h else .no) Q→rIn K neg x (.ref p) H Q:=fun {p vs xs} sq r o=>by
  split at o
  ·rename_i hc
   exact ⟨p,vs,rfl,sq,aci rx hc.1,afe r hc.2,by rw [anl rx hc.1 r hc.2];exact ans o (.bl _) hr⟩
  ·exact o.elim
 cases ry with
 | str T =>
  cases rx with
  | str z =>
   simp only [gIn] at o
   split at o
   ·rename_i c hz
    rw [one_sign hz]
    exact .inl (h1 c T H Q (ans o (.bl _) hr))
   ·exact o.elim
  | _=>exact o.elim
 | @tup p vs xs hp r=>simp only [gIn,zp] at o;exact .inr (go (.inr (SqT.of hp)) r o)
 | @rol p vs xs hp r=>simp only [gIn,zp] at o;exact .inr (go (.inl hp.l) r o)
 | @ref p j hp =>
  obtain ⟨ob,e1,e2⟩:=hr.at hp
  cases ob with
  | lst xs =>
   simp only [gIn,zp,e1] at o
   obtain ⟨vs,h3,h4⟩:=e2
   exact .inr (go (.inl (SqL.of h3)) h4 o)
  | dK _=>simp only [gIn,zp,e1] at o;exact o.elim
  | dT _=>simp only [gIn,zp,e1] at o;exact o.elim
 | _=>exact o.elim
theorem ajp:a3p K (gIn false) (fun x y H Q=>(∃ c T,x = .str ⟨#[c]⟩∧y = .str T∧Q (.bl (decide (c∈T.cps.toList))) H)∨rIn K false x y H Q):=ahu false fun c T H Q q=>⟨c,T,rfl,rfl,q⟩
theorem acj:a3p K (gIn true) (fun x y H Q=>(∃ c T,x = .str ⟨#[c]⟩∧y = .str T∧Q (.bl (!decide (c∈T.cps.toList))) H)∨rIn K true x y H Q):=ahu true fun c T H Q q=>⟨c,T,rfl,rfl,q⟩
def ye:List D→Hd→R D
 | [.str z],h=>if z.length≤LINE then .ok (.int z.length) h else .no
 | [x],h=>(match zp x h with | some xs=>.ok (.int xs.length) h | none=>.no)
 | _,_=>.no
theorem nq:ab6 K ye (fun xs H Q=>(∃ p ys,xs=[.ref p]∧(SqL K H p ys∨SqT K H p ys)∧Q (.int ys.length) H)∨∃ z,xs=[.str z]∧z.length≤sizeLine∧Q (.int z.length) H):=by
 intro E ι H h xs ds Q r hr o
 cases r with
 | nil=>exact o.elim
 | cons r rs =>
  cases rs with
  | cons _ _=>exact (show False by cases r<;>exact o).elim
  | nil =>
   cases r with
   | str z =>
    by_cases hc:z.length≤LINE
    ·simp only [ye,if_pos hc] at o;exact .inr ⟨z,rfl,ll hc,ans o (.int _) hr⟩
    ·simp only [ye,if_neg hc] at o;exact o.elim
   | @tup p vs xs hp r=>simp only [ye,zp] at o;exact .inl ⟨p,vs,rfl, .inr (SqT.of hp),by rw [r.len];exact ans o (.int _) hr⟩
   | @rol p vs xs hp r=>simp only [ye,zp] at o;exact .inl ⟨p,vs,rfl, .inl hp.l,by rw [r.len];exact ans o (.int _) hr⟩
   | @ref p j hp =>
    obtain ⟨ob,e1,e2⟩:=hr.at hp
    cases ob with
    | lst xs =>
     simp only [ye,zp,e1] at o
     obtain ⟨vs,h3,h4⟩:=e2
     exact .inl ⟨p,vs,rfl, .inl (SqL.of h3),by rw [h4.len];exact ans o (.int _) hr⟩
    | dK _=>simp only [ye,zp,e1] at o;exact o.elim
    | dT _=>simp only [ye,zp,e1] at o;exact o.elim
   | _=>exact o.elim
def anm:List D→Hd→R D
 | [.int i],h=>.ok (.int (if i<0 then -i else i)) h
 | _,_=>.no
theorem ack:ab6 K anm (fun xs H Q=>∃ i,xs=[.int i]∧Q (.int (if i<0 then -i else i)) H):=by
 intro E ι H h xs ds Q r hr o
 unfold anm at o
 split at o
 ·cases r with | cons r rs=>cases r;cases rs;exact ⟨_,rfl,ans o (.int _) hr⟩
 ·exact o.elim
def aad:List D→Hd→R D
 | [.int i, .int j],h=>.ok (.int (if j > i then j else i)) h
 | _,_=>.no
def a3s:List D→Hd→R D
 | [.int i, .int j],h=>.ok (.int (if j<i then j else i)) h
 | _,_=>.no
theorem afg:ab6 K a3s (fun xs H Q=>∃ i j,xs=[.int i, .int j]∧Q (.int (if j<i then j else i)) H):=by
 intro E ι H h xs ds Q r hr o
 unfold a3s at o
 split at o
 ·cases r with | cons r rs=>cases rs with | cons q rs=>cases r;cases q;cases rs;exact ⟨_,_,rfl,ans o (.int _) hr⟩
 ·exact o.elim
def afh:List D→Hd→R D
 | [.int i],h=>.ok (.int i) h
 | [.bl k],h=>.ok (.int (if k then 1 else 0)) h
 | _,_=>.no
theorem ajq:ab6 K afh (fun xs H Q=>(∃ i,xs=[.int i]∧Q (.int i) H)∨∃ k,xs=[.bl k]∧Q (.int (if k then 1 else 0)) H):=by
 intro E ι H h xs ds Q r hr o
 unfold afh at o
 split at o
 ·cases r with | cons r rs=>cases r;cases rs;exact .inl ⟨_,rfl,ans o (.int _) hr⟩
 ·cases r with | cons r rs=>cases r;cases rs;exact .inr ⟨_,rfl,ans o (.int _) hr⟩
 ·exact o.elim
def tyD (d:D) (h:Hd):Option String:=match d with
 | .non=>some "NoneType" | .bl _=>some "bool" | .int _=>some "int" | .str _=>some "str" | .tup _=>some "tuple" | .rol _=>some "list"
 | .ref i=>(match h[i]? with | some (.lst _)=>some "list" | some (.dK _)=>some "dict" | _=>none)
 | _=>none
def a79 (t T:String):Option Bool :=
 if t∈["NoneType", "bool", "int", "str", "tuple", "list", "dict"]∧T∈["bool", "int", "str", "tuple", "list", "dict"] then some (t == T || (t == "bool" && T == "int")) else none
theorem a8e {t T:String} {b:Bool} (e:a79 t T=some b):PySem.W.kitOne K (.type t) (.type T)=some b:=by
 unfold a79 at e
 split at e
 ·rename_i h
  obtain ⟨h1,h2⟩:=h
  simp only [List.mem_cons,List.not_mem_nil,or_false] at h1 h2
  rcases h1 with rfl | rfl | rfl | rfl | rfl | rfl | rfl<;>rcases h2 with rfl | rfl | rfl | rfl | rfl | rfl<;>(cases e;rfl)
 ·cases e
def aem:List D→Hd→R D
 | [x, .ty T],h=>(match tyD x h with | some t=>(match a79 t T with | some b=>.ok (.bl b) h | none=>.no) | none=>.no)
 | _,_=>.no
theorem ahv {ι:List Addr} {H:Hp} {h:Hd} {x:V} {d:D} {t:String} (r:Rep K ι H x d) (hr:HRep K ι H h) (e:tyD d h=some t):TyOf K H x (.type t):=by
 cases r with
 | non=>cases e;exact .non
 | bl b=>cases e;exact .bl b
 | int b=>cases e;exact .int b
 | str b=>cases e;exact .str b
 | ty _=>cases e
 | tup hp r=>cases e;exact .tup hp
 | rol hp r=>cases e;obtain ⟨o,hp⟩:=hp;exact .frz hp
 | scr _ _=>cases e
 | rod _ _ _=>cases e
 | rdT _ _ _=>cases e
 | exc _ _ _=>cases e
 | ref hp =>
  obtain ⟨ob,e1,e2⟩:=hr.at hp
  cases ob with
  | lst xs=>simp only [tyD,e1] at e;cases e;obtain ⟨vs,h3,h4⟩:=e2;exact .lst h3
  | dK _=>simp only [tyD,e1] at e;cases e;obtain ⟨vs,h3,h4⟩:=e2;exact .dK h3
  | dT _=>simp only [tyD,e1] at e;cases e
theorem ajr:ab6 K aem (fun xs H Q=>∃ x T t b,xs=[x, .ty T]∧TyOf K H x t∧PySem.W.kitOne K t (.type T)=some b∧Q (.bl b) H):=by
 intro E ι H h xs ds Q r hr o
 unfold aem at o
 split at o
 ·rename_i d T
  cases r with
  | cons r rs =>
   cases rs with
   | cons q rs =>
    cases q;cases rs
    cases ht:tyD d h with
    | none=>rw [ht] at o;exact o.elim
    | some t =>
     rw [ht] at o
     cases hb:a79 t T with
     | none=>simp only [hb] at o;exact o.elim
     | some b =>
      simp only [hb] at o
      exact ⟨_,T, .type t,b,rfl,ahv r hr ht,a8e hb,ans o (.bl _) hr⟩
 ·exact o.elim
end
end MI
namespace MI
open PySem PySem.Spec L2
section
variable {X:Cx} {K:PySem.W.Frag} {E:XD} {a b e o:Expr} {es:List Expr} {fa fb fo:SE} {ka:SA} {pos apos cpos:Pos} {name:Str} {idn:String}
def ahw (K:PySem.W.Frag) (g:D→List D→Hd→R D) (r:V→List V→Hp→VK→Prop):Prop:=∀ (E:XD) ι H h x dx xs ds Q,Rep K ι H x dx→Reps K ι H xs ds→HRep K ι H h→out K E (xg K) ι H (g dx ds h) Q→r x xs H Q
def isL (d:D) (h:Hd):Bool:=match d with | .ref i=>(match h[i]? with | some (.lst _)=>true | _=>false) | .rol _=>true | _=>false
def sML (g:D→List D→Hd→R D) (f:SE) (k:SA):SE:=fun τ h=>(f τ h).bind fun d h1=>if isL d h1=true then (k τ h1).bind fun ds h2=>g d ds h2 else .no
theorem ano {ι:List Addr} {H:Hp} {h:Hd} {x:V} {d:D} (r:Rep K ι H x d) (hr:HRep K ι H h) (e:isL d h=true):tyV K "list" x H:=by
 cases r with
 | rol hp _=>exact .inl ⟨rfl,_,hp.l⟩
 | ref hp =>
  obtain ⟨ob,e1,e2⟩:=hr.at hp
  cases ob with
  | lst xs=>obtain ⟨vs,h3,_⟩:=e2;exact .inl ⟨rfl,_,SqL.of h3⟩
  | dK _=>simp [isL,e1] at e
  | dT _=>simp [isL,e1] at e
 | _=>cases e
theorem a2r {r:V→List V→Hp→VK→Prop} {g:D→List D→Hd→R D} (slot:Slot "list" name idn) (hty:typeOf (.builtin idn)=pure (.type "method_descriptor")) (hm:MtR X idn r) (hs:ahw X.K g r) (ho:ME X E o fo) (ha:MA X E (e::es) ka)
  (hbase:attributeBase o name X.env (eval o X.env)=eval o X.env:=by rfl)
  (hfew:((backTo cpos (starEach (e::es) X.env)).all (fun x => !x.1) && (backToKw cpos (keywordEach [] X.env)).all (fun x=>x.1.isSome)
   && decide ((e::es).length+([]:List Keyword).length+(if ([]:List Keyword).isEmpty then 0 else 1)<30))=true:=by rfl)
  (hline:(apos.endLine == cpos.line)=true:=by rfl) (hst:starEach (e::es) X.env=(false,eval e X.env)::starEach es X.env:=by rfl) (hplain:(backTo cpos (starEach es X.env)).any (·.1)=false:=by rfl) :
  ME X E (.Call (.Attribute o name apos) (e::es) [] cpos) (sML g fo ka):=by
 refine PE.weak (aqo PySem.F.plainAttrs_list slot hty hm ho ha hbase hfew hline hst hplain) fun σ H Q ⟨ι,τ,h,S,Rh,o⟩=>?_
 refine ⟨ι,τ,h,S,Rh,dh o fun d h1 ι1 H1 v g1 r1 hr1 o1=>?_⟩
 by_cases hc:isL d h1=true
 ·rw [if_pos hc] at o1
  refine ⟨ano r1 hr1 hc,ι1,τ,h1,S.mono g1,hr1,dh o1 fun ds h2 ι2 H2 vs g2 r2 hr2 o2=>?_⟩
  exact hs E ι2 H2 h2 v d vs ds Q (r1.mono g2) r2 hr2 o2
 ·rw [if_neg hc] at o1;exact o1.elim
def a2s:D→List D→Hd→R D
 | .ref i,[y],h=>(match h[i]? with | some (.lst xs)=>if xs.length<LINE then .ok .non (h.set i (.lst (xs++[y]))) else .no | _=>.no)
 | _,_,_=>.no
theorem xr:ahw K a2s abv:=by
 intro E ι H h x dx xs ds Q rx r hr o
 unfold a2s at o
 split at o
 ·rename_i i y
  cases rx with
  | @ref p _ hp =>
   cases r with
   | cons r1 rs =>
    cases rs
    split at o
    ·rename_i xs hx
     obtain ⟨vs,h3,h4⟩:=hr.lst hp hx
     split at o
     ·rename_i hc
      exact ⟨p,vs,_,rfl,rfl,h3,by rw [h4.len,aqq];exact hc,ac8 (h4.snoc r1) hr hp .non o⟩
     ·exact o.elim
    ·exact o.elim
 ·exact o.elim
def aum:D→List D→Hd→R D
 | .ref i,[],h=>(match h[i]? with | some (.lst xs)=>(match xs[xs.length - 1]? with | some y=>.ok y (h.set i (.lst xs.dropLast)) | none=>.no) | _=>.no)
 | _,_,_=>.no
def a7a:D→List D→Hd→R D
 | .ref i,[.int j],h=>(match h[i]? with | some (.lst xs)=>(match ixN xs.length j with | some k=>(match xs[k]? with | some y=>if xs.length≤LINE then .ok y (h.set i (.lst (xs.eraseIdx k))) else .no | none=>.no) | none=>.no) | _=>.no)
 | _,_,_=>.no
theorem acl:ahw K a7a ahi:=by
 intro E ι H h x dx xs ds Q rx r hr o
 unfold a7a at o
 split at o
 ·rename_i i j
  cases rx with
  | @ref p _ hp =>
   cases r with
   | cons r1 rs =>
    cases r1;cases rs
    split at o
    ·rename_i xs hx
     obtain ⟨vs,h3,h4⟩:=hr.lst hp hx
     split at o
     ·rename_i k hk
      split at o
      ·rename_i y hy
       split at o
       ·rename_i hl
        obtain ⟨v,h5,h6⟩:=h4.get hy
        obtain ⟨q1,q2,q3,q4⟩:=a82 hk
        have hl':xs.length≤16777216:=hl
        exact ⟨p,vs,j,k,v,rfl,rfl,h3,by omega,by omega,by rw [h4.len];exact q1,h5,ac8 (h4.erase k) hr hp h6 o⟩
       ·exact o.elim
      ·exact o.elim
     ·exact o.elim
    ·exact o.elim
 ·exact o.elim
def sMS (g:D→List D→Hd→R D) (f:SE) (k:SA):SE:=fun τ h=>(f τ h).bind fun d h1=>match d with | .str z=>(k τ h1).bind fun ds h2=>g (.str z) ds h2 | _=>.no
theorem ajs {r:V→List V→Hp→VK→Prop} {g:D→List D→Hd→R D} (slot:Slot "str" name idn) (hty:typeOf (.builtin idn)=pure (.type "method_descriptor")) (hm:MtR X idn r) (hs:ahw X.K g r) (ho:ME X E o fo) (ha:MA X E (e::es) ka)
  (hbase:attributeBase o name X.env (eval o X.env)=eval o X.env:=by rfl)
  (hfew:((backTo cpos (starEach (e::es) X.env)).all (fun x => !x.1) && (backToKw cpos (keywordEach [] X.env)).all (fun x=>x.1.isSome)
   && decide ((e::es).length+([]:List Keyword).length+(if ([]:List Keyword).isEmpty then 0 else 1)<30))=true:=by rfl)
  (hline:(apos.endLine == cpos.line)=true:=by rfl) (hst:starEach (e::es) X.env=(false,eval e X.env)::starEach es X.env:=by rfl) (hplain:(backTo cpos (starEach es X.env)).any (·.1)=false:=by rfl) :
  ME X E (.Call (.Attribute o name apos) (e::es) [] cpos) (sMS g fo ka):=by
 refine PE.weak (aqs slot hty hm ho ha hbase hfew hline hst hplain) fun σ H Q ⟨ι,τ,h,S,Rh,o⟩=>?_
 refine ⟨ι,τ,h,S,Rh,dh o fun d h1 ι1 H1 v g1 r1 hr1 o1=>?_⟩
 cases r1 with
 | str z=>exact ⟨⟨z,rfl⟩,ι1,τ,h1,S.mono g1,hr1,dh o1 fun ds h2 ι2 H2 vs g2 r2 hr2 o2=>hs E ι2 H2 h2 _ _ vs ds Q (.str z) r2 hr2 o2⟩
 | _=>exact o1.elim
def acn:D→List D→Hd→R D
 | .str T,[.str z],h=>(match z.cps.toList with | [c]=>.ok (.int (a0t T c)) h | _=>.no)
 | _,_,_=>.no
theorem afi:ahw K acn (fun x xs H Q=>∃ T c,x = .str T∧xs=[.str ⟨#[c]⟩]∧Q (.int (a0t T c)) H):=by
 intro E ι H h x dx xs ds Q rx r hr o
 unfold acn at o
 split at o
 ·cases rx
  cases r with
  | cons r1 rs =>
   cases r1;cases rs
   split at o
   ·rename_i c hz
    exact ⟨_,c,rfl,by rw [one_sign hz],ans o (.int _) hr⟩
   ·exact o.elim
 ·exact o.elim
def a4x:D→List D→Hd→R D
 | .str T,[.str z],h=>(match z.cps.toList with | [c]=>if c∈T.cps.toList then .ok (.int (a0t T c)) h else .no | _=>.no)
 | _,_,_=>.no
theorem aco:ahw K a4x (fun x xs H Q=>∃ T c,x = .str T∧xs=[.str ⟨#[c]⟩]∧c∈T.cps.toList∧Q (.int (a0t T c)) H):=by
 intro E ι H h x dx xs ds Q rx r hr o
 unfold a4x at o
 split at o
 ·cases rx
  cases r with
  | cons r1 rs =>
   cases r1;cases rs
   split at o
   ·rename_i c hz
    split at o
    ·rename_i hc
     exact ⟨_,c,rfl,by rw [one_sign hz],hc,ans o (.int _) hr⟩
    ·exact o.elim
   ·exact o.elim
 ·exact o.elim
def a8f:List D→Option (List Str)
 | []=>some []
 | .str z::r=>(a8f r).map (z::·)
 | _::_=>none
theorem a5w {ι:List Addr} {H:Hp}:∀ {vs:List V} {xs:List D} {zs:List Str},Reps K ι H vs xs→a8f xs=some zs→vs=zs.map V.str
 | _,_,_, .nil,e=>by cases e;rfl
 | _,_,zs, .cons (d:=d) r rs,e=>by
  cases r with
  | str z =>
   simp only [a8f,Option.map_eq_some_iff] at e
   obtain ⟨ws,h1,rfl⟩:=e
   rw [a5w rs h1];rfl
  | _=>cases e
def acp:D→List D→Hd→R D
 | .str sep,[.ref i],h=>(match h[i]? with | some (.lst xs)=>(match a8f xs with | some zs=>if (zs.map (·.length)).sum+zs.length*sep.length≤16777216 then .ok (.str (Txt.join sep zs)) h else .no | none=>.no) | _=>.no)
 | .str sep,[.rol xs],h=>(match a8f xs with | some zs=>if (zs.map (·.length)).sum+zs.length*sep.length≤16777216 then .ok (.str (Txt.join sep zs)) h else .no | none=>.no)
 | _,_,_=>.no
theorem afj:ahw K acp (fun x xs H Q=>∃ sep p zs,x = .str sep∧xs=[.ref p]∧SqL K H p (zs.map V.str)∧(zs.map (·.length)).sum+zs.length*sep.length≤16777216∧Q (.str (Txt.join sep zs)) H):=by
 intro E ι H h x dx xs ds Q rx r hr o
 unfold acp at o
 split at o
 ·rename_i sep i
  cases rx
  cases r with
  | cons r1 rs =>
   cases rs
   cases r1 with
   | @ref p _ hp =>
    split at o
    ·rename_i xs hx
     obtain ⟨vs,h3,h4⟩:=hr.lst hp hx
     split at o
     ·rename_i zs hz
      split at o
      ·rename_i hc
       exact ⟨sep,p,zs,rfl,rfl,SqL.of (by rw [h3,a5w h4 hz]),hc,ans o (.str _) hr⟩
      ·exact o.elim
     ·exact o.elim
    ·exact o.elim
 ·rename_i sep xs
  cases rx
  cases r with
  | cons r1 rs =>
   cases rs
   cases r1 with
   | @rol p vs xs hp r =>
    split at o
    ·rename_i zs hz
     split at o
     ·rename_i hc
      exact ⟨sep,p,zs,rfl,rfl,by rw [← a5w r hz];exact hp.l,hc,ans o (.str _) hr⟩
     ·exact o.elim
    ·exact o.elim
 ·exact o.elim
def atp:List D→Hd→R D
 | [.str z],h=>if z.length≤LINE then .ok (.ref h.length) (h++[.lst (yh z)]) else .no
 | [x],h=>(match zp x h with | some xs=>.ok (.ref h.length) (h++[.lst xs]) | none=>.no)
 | _,_=>.no
theorem a4y {ι:List Addr} {H:Hp} (z:Str):Reps K ι H (zf z) (yh z):=by
 unfold zf yh
 induction z.cps.toList with
 | nil=>exact .nil
 | cons c cs ih=>exact .cons (.str _) ih
def nu:List D→Hd→R D
 | [.str z],h=>if z.length≤LINE then .ok (.tup (yh z)) h else .no
 | [x],h=>(match zp x h with | some xs=>.ok (.tup xs) h | none=>.no)
 | _,_=>.no
theorem ux:ab6 K nu (fun xs H Q=>(∃ p ys,xs=[.ref p]∧((SqL K H p ys∧∀ l,H l=none→Q (.ref l) (upd H l (.tup ys)))∨(SqT K H p ys∧Q (.ref p) H)))∨∃ z,xs=[.str z]∧z.length≤sizeLine∧∀ l,H l=none→Q (.ref l) (upd H l (.tup (zf z)))):=by
 intro E ι H h xs ds Q r hr o
 cases r with
 | nil=>exact o.elim
 | cons r rs =>
  cases rs with
  | cons _ _=>exact (show False by cases r<;>exact o).elim
  | nil =>
   cases r with
   | str z =>
    by_cases hc:z.length≤LINE
    ·simp only [nu,if_pos hc] at o;exact .inr ⟨z,rfl,ll hc,a0j (a4y z) hr o⟩
    ·simp only [nu,if_neg hc] at o;exact o.elim
   | @tup p vs xs hp r=>simp only [nu,zp] at o;exact .inl ⟨p,vs,rfl, .inr ⟨SqT.of hp,ans o (.tup hp r) hr⟩⟩
   | @rol p vs xs hp r=>simp only [nu,zp] at o;exact .inl ⟨p,vs,rfl, .inl ⟨hp.l,a0j r hr o⟩⟩
   | @ref p j hp =>
    obtain ⟨ob,e1,e2⟩:=hr.at hp
    cases ob with
    | lst xs =>
     simp only [nu,zp,e1] at o
     obtain ⟨vs,h3,h4⟩:=e2
     exact .inl ⟨p,vs,rfl, .inl ⟨SqL.of h3,a0j h4 hr o⟩⟩
    | dK _=>simp only [nu,zp,e1] at o;exact o.elim
    | dT _=>simp only [nu,zp,e1] at o;exact o.elim
   | _=>exact o.elim
def ajt:List D→Option (List Bool)
 | []=>some []
 | .bl z::r=>(ajt r).map (z::·)
 | _::_=>none
def a4h:List D→Option (List Int)
 | []=>some []
 | .int z::r=>(a4h r).map (z::·)
 | _::_=>none
theorem a8g {ι:List Addr} {H:Hp}:∀ {vs:List V} {xs:List D} {zs:List Bool},Reps K ι H vs xs→ajt xs=some zs→vs=zs.map V.bl
 | _,_,_, .nil,e=>by cases e;rfl
 | _,_,zs, .cons (d:=d) r rs,e=>by
  cases r with
  | bl z =>
   simp only [ajt,Option.map_eq_some_iff] at e
   obtain ⟨ws,h1,rfl⟩:=e
   rw [a8g rs h1];rfl
  | _=>cases e
theorem a2y {ι:List Addr} {H:Hp}:∀ {vs:List V} {xs:List D} {zs:List Int},Reps K ι H vs xs→a4h xs=some zs→vs=zs.map V.int
 | _,_,_, .nil,e=>by cases e;rfl
 | _,_,zs, .cons (d:=d) r rs,e=>by
  cases r with
  | int z =>
   simp only [a4h,Option.map_eq_some_iff] at e
   obtain ⟨ws,h1,rfl⟩:=e
   rw [a2y rs h1];rfl
  | _=>cases e
theorem afk (bs:List Bool):ajt (bs.map D.bl)=some bs:=by
 induction bs with
 | nil=>rfl
 | cons b bs ih=>simp [ajt,ih]
def ahx:List D→Hd→R D
 | [.ref i],h=>(match h[i]? with | some (.lst xs)=>(match ajt xs with | some bs=>.ok (.bl (bs.all id)) h | none=>.no) | _=>.no)
 | [.rol xs],h=>(match ajt xs with | some bs=>.ok (.bl (bs.all id)) h | none=>.no)
 | _,_=>.no
theorem aju:ab6 K ahx (fun xs H Q=>∃ (p:Addr) (bs:List Bool),xs=[.ref p]∧SqL K H p (bs.map V.bl)∧Q (.bl (bs.all id)) H):=by
 intro E ι H h xs ds Q r hr o
 unfold ahx at o
 split at o
 ·cases r with
  | cons r rs =>
   cases rs
   cases r with
   | @ref p _ hp =>
    split at o
    ·rename_i xs hx
     obtain ⟨vs,h3,h4⟩:=hr.lst hp hx
     split at o
     ·rename_i bs hb
      exact ⟨p,bs,rfl,SqL.of (by rw [h3,a8g h4 hb]),ans o (.bl _) hr⟩
     ·exact o.elim
    ·exact o.elim
 ·cases r with
  | cons r rs =>
   cases rs
   cases r with
   | @rol p vs xs hp r =>
    split at o
    ·rename_i bs hb
     exact ⟨p,bs,rfl,by rw [← a8g r hb];exact hp.l,ans o (.bl _) hr⟩
    ·exact o.elim
 ·exact o.elim
end
end MI
theorem L2.Room.u {k:Nat} {A:PySem.Around} (r:L2.Room k A):A.units+64<PySem.cLine:=r.units
namespace MI
open PySem PySem.Spec L2
mutual
def eqD:D→D→Bool
 | .non, .non=>true
 | .bl a, .bl b=>a == b
 | .bl a, .int b=>(if a then 1 else 0) == b
 | .int a, .bl b=>a == (if b then 1 else 0)
 | .int a, .int b=>a == b
 | .str a, .str b=>a == b
 | .tup xs, .tup ys=>a9a xs ys
 | _,_=>false
def a9a:List D→List D→Bool
 | [],[]=>true
 | x::xs,y::ys=>eqD x y && a9a xs ys
 | _,_=>false
end
def pur:Nat→D→Bool
 | _, .non=>true
 | _, .bl _=>true
 | _, .int _=>true
 | _, .str _=>true
 | n+1, .tup xs=>xs.all (pur n)
 | _,_=>false
theorem as6 {n:Nat}:∀ {m:Nat} {d:D},n≤m→pur n d=true→pur m d=true:=by
 induction n with
 | zero=>intro m d _ h;cases d<;>first | (cases m<;>rfl) | (cases h;done)
 | succ n ih =>
  intro m d hm h
  cases m with
  | zero=>omega
  | succ m =>
   cases d with
   | tup xs =>
    simp only [pur,List.all_eq_true] at h ⊢
    exact fun x hx=>ih (by omega) (h x hx)
   | _=>first | rfl | (cases h;done)
def pairE (xs ys:List D) (j:Nat):Bool:=match xs[j]?,ys[j]? with | some x,some y=>eqD x y | _,_=>false
theorem a0w:∀ xs ys:List D,((List.range (min xs.length ys.length)).all (pairE xs ys) && xs.length == ys.length)=a9a xs ys
 | [],[]=>by simp [a9a]
 | [],_::_=>by simp [a9a]
 | _::_,[]=>by simp [a9a]
 | x::xs,y::ys=>by
  have ih:=a0w xs ys
  rw [show min (x::xs).length (y::ys).length=min xs.length ys.length+1 by simp only [List.length_cons];omega,List.range_succ_eq_map]
  rw [List.all_cons,List.all_map]
  have e:(pairE (x::xs) (y::ys) ∘ Nat.succ)=pairE xs ys:=by funext j;simp [pairE]
  rw [e]
  simp only [a9a]
  rw [← ih]
  have e2:((x::xs).length == (y::ys).length)=(xs.length == ys.length):=by simp
  rw [e2,Bool.and_assoc]
  rfl
section
variable {K:PySem.W.Frag} {ι:List Addr} {H:Hp}
theorem afl:∀ (n:Nat) {v:V} {d e:D},Rep K ι H v d→Rep K ι H v e→pur n d=true→pur n e=true→eqD d e=true:=by
 intro n
 induction n with
 | zero=>intro v d e r q p1 p2;cases r<;>cases q<;>first | (simp [eqD];done) | (cases p1;done) | (cases p2;done)
 | succ n ih =>
  intro v d e r q p1 p2
  cases r with
  | @tup a vs xs h rs =>
   cases q with
   | @tup _ us ys h' qs =>
    rw [h] at h';cases h'
    simp only [eqD]
    simp only [pur,List.all_eq_true] at p1 p2
    clear h
    induction rs using Reps.rec (motive_1:=fun _ _ _=>True) generalizing ys with
    | nil=>cases qs;rfl
    | cons r rs _ ih2 =>
     cases qs with
     | cons q qs =>
      simp only [a9a,Bool.and_eq_true]
      exact ⟨ih r q (p1 _ (List.mem_cons_self ..)) (p2 _ (List.mem_cons_self ..)),ih2 qs (fun x hx=>p1 x (List.mem_cons_of_mem _ hx)) (fun x hx=>p2 x (List.mem_cons_of_mem _ hx))⟩
    | _=>trivial
   | _=>cases p2
  | _=>cases q<;>first | (simp [eqD];done) | (cases p1;done) | (cases p2;done)
theorem a2j {n:Nat} {v:V} {d:D} (r:Rep K ι H v d) (p:pur n d=true):(∃ xs,d = .tup xs)∨(a0i v=true∧a0m d=true):=by
 cases r<;>first | exact .inr ⟨rfl,rfl⟩ | exact .inl ⟨_,rfl⟩ | (cases n<;>cases p)
theorem a5x {x y:V} {d e:D} (r:Rep K ι H x d) (q:Rep K ι H y e) (f:a0m d=true) (g:a0m e=true):eqV x y=eqD d e:=by
 cases r<;>cases q<;>first | rfl | (simp [eqV,eqD];done) | (cases f;done) | (cases g;done)
open SeqAt in
theorem ahy {P:Program} {w:World} {s:Shared} (hok:HOk P w H s.heap):∀ (n:Nat) (A:Around) {x y:V} {u v:Value} {d e:D},Rep K ι H x d→Rep K ι H y e→RelV x u→RelV y v→pur n d=true→pur n e=true→A.units+n<cLine→EqAt A s u v (eqD d e):=by
 intro n
 induction n with
 | zero =>
  intro A x y u v d e r q rx ry p1 p2 hu
  rcases a2j r p1 with ⟨xs,rfl⟩ | ⟨f1,f2⟩
  ·cases p1
  ·rcases a2j q p2 with ⟨xs,rfl⟩ | ⟨g1,g2⟩
   ·cases p2
   ·rw [← a5x r q f2 g2];exact abt rx ry f1 g1
 | succ n ih =>
  intro A x y u v d e r q rx ry p1 p2 hu
  rcases a2j r p1 with ⟨xs,rfl⟩ | ⟨f1,f2⟩
  ·cases r with
   | @tup a vs _ ha rs =>
    cases rx
    obtain ⟨_,its,r1,t1⟩:=(Rd.of ha).ok hok
    rcases a2j q p2 with ⟨ys,rfl⟩ | ⟨g1,g2⟩
    ·cases q with
     | @tup b us _ hb qs =>
      cases ry
      obtain ⟨_,its2,r2,t2⟩:=(Rd.of hb).ok hok
      by_cases hab:a=b
      ·subst hab
       rw [afl (n+1) (.tup ha rs) (.tup hb qs) p1 p2]
       exact EqAt.same _
      ·have l1:its.toArray.size=xs.length:=by rw [List.size_toArray,← r1.length,rs.len]
       have l2:its2.toArray.size=ys.length:=by rw [List.size_toArray,← r2.length,qs.len]
       have:=RcAt.tuples (A:=A) (s:=s) (e:=pairE xs ys) t1 t2 (by omega) (fun j h1 h2=>by
        have j1:j<xs.length:=by omega
        have j2:j<ys.length:=by omega
        obtain ⟨v1,e1,q1⟩:=rs.get (List.getElem?_eq_getElem j1)
        obtain ⟨v2,e2,q2⟩:=qs.get (List.getElem?_eq_getElem j2)
        obtain ⟨u1,e3,q3⟩:=r1.get e1
        obtain ⟨u2,e4,q4⟩:=r2.get e2
        have f1:its.toArray[j]=u1:=by simpa using (List.getElem?_eq_some_iff.mp e3).2
        have f2:its2.toArray[j]=u2:=by simpa using (List.getElem?_eq_some_iff.mp e4).2
        have pe:pairE xs ys j=eqD xs[j] ys[j]:=by simp [pairE,List.getElem?_eq_getElem j1,List.getElem?_eq_getElem j2]
        rw [f1,f2,pe]
        simp only [pur,List.all_eq_true] at p1 p2
        exact ih A.in1 q1 q2 q3 q4 (p1 _ (List.getElem_mem j1)) (p2 _ (List.getElem_mem j2)) (by rw [Around.in1_units];omega))
       rw [l1,l2,a0w] at this
       exact EqAt.of_refs hab this
    ·have e0:eqD (.tup xs) e=false:=by cases e<;>first | rfl | (cases g2;done)
     rw [e0]
     cases y with
     | non=>cases ry;exact EqAt.tuple_none t1 (by omega)
     | bl b=>cases ry;exact EqAt.tuple_bool b t1 (by omega)
     | int b=>obtain ⟨t,rfl⟩:=ry;exact EqAt.tuple_int b t t1 (by omega)
     | str b=>obtain ⟨t,rfl⟩:=ry;exact EqAt.tuple_str b t t1 (by omega)
     | _=>cases g1
  ·rcases a2j q p2 with ⟨ys,rfl⟩ | ⟨g1,g2⟩
   ·cases q with
    | @tup b us _ hb qs =>
     cases ry
     obtain ⟨_,its2,r2,t2⟩:=(Rd.of hb).ok hok
     have e0:eqD d (.tup ys)=false:=by cases d<;>first | rfl | (cases f2;done)
     rw [e0]
     cases x with
     | non=>cases rx;exact EqAt.none_tuple t2 (by omega)
     | bl b=>cases rx;exact EqAt.bool_tuple b t2 (by omega)
     | int b=>obtain ⟨t,rfl⟩:=rx;exact EqAt.int_tuple b t t2 (by omega)
     | str b=>obtain ⟨t,rfl⟩:=rx;exact EqAt.str_tuple b t t2 (by omega)
     | _=>cases f1
   ·rw [← a5x r q f2 g2];exact abt rx ry f1 g1
open SeqAt in
theorem anp {A:Around} {s:Shared} {y x:V} {u v:Value} (ry:RelV y u) (rx:RelV x v) (fy:a0i y=true) (fx:a0i x=true):RcAt A s u v (eqV y x):=by
 cases y with
 | non =>
  cases ry
  cases x with
  | non=>cases rx;exact RcAt.none_none
  | bl b=>cases rx;exact RcAt.none_bool b
  | int b=>obtain ⟨t,rfl⟩:=rx;exact RcAt.none_int b t
  | str b=>obtain ⟨t,rfl⟩:=rx;exact RcAt.none_str b t
  | _=>cases fx
 | bl a =>
  cases ry
  cases x with
  | non=>cases rx;exact RcAt.bool_none a
  | bl b=>cases rx;exact RcAt.bool_bool a b
  | int b=>obtain ⟨t,rfl⟩:=rx;exact RcAt.bool_int a b t
  | str b=>obtain ⟨t,rfl⟩:=rx;exact RcAt.bool_str a b t
  | _=>cases fx
 | int a =>
  obtain ⟨t',rfl⟩:=ry
  cases x with
  | non=>cases rx;exact RcAt.int_none a t'
  | bl b=>cases rx;exact RcAt.int_bool a t' b
  | int b=>obtain ⟨t,rfl⟩:=rx;exact RcAt.int_int a t' b t
  | str b=>obtain ⟨t,rfl⟩:=rx;exact RcAt.int_str a t' b t
  | _=>cases fx
 | str a =>
  obtain ⟨t',rfl⟩:=ry
  cases x with
  | non=>cases rx;exact RcAt.str_none a t'
  | bl b=>cases rx;exact RcAt.str_bool a t' b
  | int b=>obtain ⟨t,rfl⟩:=rx;exact RcAt.str_int a t' b t
  | str b=>obtain ⟨t,rfl⟩:=rx;exact RcAt.str_str a t' b t
  | _=>cases fx
 | _=>cases fy
open SeqAt in
theorem afm {A:Around} {s:Shared} {y x:V} {u v:Value} (ry:RelV y u) (rx:RelV x v) (fy:a0i y=true) (fx:a0i x=true):RcNeAt A s u v (!eqV y x):=by
 cases y with
 | non =>
  cases ry
  cases x with
  | non=>cases rx;exact RcNeAt.none_none
  | bl b=>cases rx;exact RcNeAt.none_bool b
  | int b=>obtain ⟨t,rfl⟩:=rx;exact RcNeAt.none_int b t
  | str b=>obtain ⟨t,rfl⟩:=rx;exact RcNeAt.none_str b t
  | _=>cases fx
 | bl a =>
  cases ry
  cases x with
  | non=>cases rx;exact RcNeAt.bool_none a
  | bl b=>cases rx;exact RcNeAt.bool_bool a b
  | int b=>obtain ⟨t,rfl⟩:=rx;exact RcNeAt.bool_int a b t
  | str b=>obtain ⟨t,rfl⟩:=rx;exact RcNeAt.bool_str a b t
  | _=>cases fx
 | int a =>
  obtain ⟨t',rfl⟩:=ry
  cases x with
  | non=>cases rx;exact RcNeAt.int_none a t'
  | bl b=>cases rx;exact RcNeAt.int_bool a t' b
  | int b=>obtain ⟨t,rfl⟩:=rx;exact RcNeAt.int_int a t' b t
  | str b=>obtain ⟨t,rfl⟩:=rx;exact RcNeAt.int_str a t' b t
  | _=>cases fx
 | str a =>
  obtain ⟨t',rfl⟩:=ry
  cases x with
  | non=>cases rx;exact RcNeAt.str_none a t'
  | bl b=>cases rx;exact RcNeAt.str_bool a t' b
  | int b=>obtain ⟨t,rfl⟩:=rx;exact RcNeAt.str_int a t' b t
  | str b=>obtain ⟨t,rfl⟩:=rx;exact RcNeAt.str_str a t' b t
  | _=>cases fx
 | _=>cases fy
open SeqAt in
theorem tops {P:Program} {w:World} {s:Shared} {A:Around} (hok:HOk P w H s.heap) {x y:V} {u v:Value} {d e:D} (r:Rep K ι H x d) (q:Rep K ι H y e) (rx:RelV x u) (ry:RelV y v) (p1:pur 60 d=true) (p2:pur 60 e=true) (hu:A.units+64<cLine) :
  RcAt A s u v (eqD d e)∧RcNeAt A s u v (!eqD d e):=by
 rcases a2j r p1 with ⟨xs,rfl⟩ | ⟨f1,f2⟩
 ·cases r with
  | @tup a vs _ ha rs =>
   cases rx
   obtain ⟨_,its,r1,t1⟩:=(Rd.of ha).ok hok
   rcases a2j q p2 with ⟨ys,rfl⟩ | ⟨g1,g2⟩
   ·cases q with
    | @tup b us _ hb qs =>
     cases ry
     obtain ⟨_,its2,r2,t2⟩:=(Rd.of hb).ok hok
     have l1:its.toArray.size=xs.length:=by rw [List.size_toArray,← r1.length,rs.len]
     have l2:its2.toArray.size=ys.length:=by rw [List.size_toArray,← r2.length,qs.len]
     have step:∀ j (h1:j<its.toArray.size) (h2:j<its2.toArray.size),EqAt A.in1 s its.toArray[j] its2.toArray[j] (pairE xs ys j):=fun j h1 h2=>by
      have j1:j<xs.length:=by omega
      have j2:j<ys.length:=by omega
      obtain ⟨v1,e1,q1⟩:=rs.get (List.getElem?_eq_getElem j1)
      obtain ⟨v2,e2,q2⟩:=qs.get (List.getElem?_eq_getElem j2)
      obtain ⟨u1,e3,q3⟩:=r1.get e1
      obtain ⟨u2,e4,q4⟩:=r2.get e2
      have f1:its.toArray[j]=u1:=by simpa using (List.getElem?_eq_some_iff.mp e3).2
      have f2:its2.toArray[j]=u2:=by simpa using (List.getElem?_eq_some_iff.mp e4).2
      have pe:pairE xs ys j=eqD xs[j] ys[j]:=by simp [pairE,List.getElem?_eq_getElem j1,List.getElem?_eq_getElem j2]
      rw [f1,f2,pe]
      simp only [pur,List.all_eq_true] at p1 p2
      exact ahy hok 59 A.in1 q1 q2 q3 q4 (p1 _ (List.getElem_mem j1)) (p2 _ (List.getElem_mem j2)) (by rw [Around.in1_units];omega)
     have c1:=RcAt.tuples (A:=A) (s:=s) (e:=pairE xs ys) t1 t2 (by omega) step
     have c2:=RcNeAt.tuples (A:=A) (s:=s) (e:=pairE xs ys) t1 t2 (by omega) step
     rw [l1,l2,a0w] at c1 c2
     exact ⟨c1,c2⟩
   ·have e0:eqD (.tup xs) e=false:=by cases e<;>first | rfl | (cases g2;done)
    rw [e0]
    cases y with
    | non=>cases ry;exact ⟨RcAt.tuple_none t1 (by omega),RcNeAt.tuple_none t1 (by omega)⟩
    | bl b=>cases ry;exact ⟨RcAt.tuple_bool b t1 (by omega),RcNeAt.tuple_bool b t1 (by omega)⟩
    | int b=>obtain ⟨t,rfl⟩:=ry;exact ⟨RcAt.tuple_int b t t1 (by omega),RcNeAt.tuple_int b t t1 (by omega)⟩
    | str b=>obtain ⟨t,rfl⟩:=ry;exact ⟨RcAt.tuple_str b t t1 (by omega),RcNeAt.tuple_str b t t1 (by omega)⟩
    | _=>cases g1
 ·rcases a2j q p2 with ⟨ys,rfl⟩ | ⟨g1,g2⟩
  ·cases q with
   | @tup b us _ hb qs =>
    cases ry
    obtain ⟨_,its2,r2,t2⟩:=(Rd.of hb).ok hok
    have e0:eqD d (.tup ys)=false:=by cases d<;>first | rfl | (cases f2;done)
    rw [e0]
    cases x with
    | non=>cases rx;exact ⟨RcAt.none_tuple t2 (by omega),RcNeAt.none_tuple t2 (by omega)⟩
    | bl b=>cases rx;exact ⟨RcAt.bool_tuple b t2 (by omega),RcNeAt.bool_tuple b t2 (by omega)⟩
    | int b=>obtain ⟨t,rfl⟩:=rx;exact ⟨RcAt.int_tuple b t t2 (by omega),RcNeAt.int_tuple b t t2 (by omega)⟩
    | str b=>obtain ⟨t,rfl⟩:=rx;exact ⟨RcAt.str_tuple b t t2 (by omega),RcNeAt.str_tuple b t t2 (by omega)⟩
    | _=>cases f1
  ·rw [← a5x r q f2 g2];exact ⟨anp rx ry f1 g1,afm rx ry f1 g1⟩
def as7 (K:PySem.W.Frag):R2:=fun x y H Q=>∃ ι d e,Rep K ι H x d∧Rep K ι H y e∧pur 60 d=true∧pur 60 e=true∧Q (.bl (eqD d e)) H
def as8 (K:PySem.W.Frag):R2:=fun x y H Q=>∃ ι d e,Rep K ι H x d∧Rep K ι H y e∧pur 60 d=true∧pur 60 e=true∧Q (.bl (!eqD d e)) H
theorem a00 {X:Cx} (hu:X.A.units+64<cLine):OpR X (compareOp .Eq) (as7 X.K):=by
 intro pins s σ H x y v u Q I rx ry h
 obtain ⟨ι,d,e,r,q,p1,p2,hq⟩:=h
 exact (tops (A:=X.A) I.hok r q rx ry p1 p2 hu).1 X.prog X.w X.xe _ ⟨.bl _,H,I,rfl,hq⟩
theorem a9b {X:Cx} (hu:X.A.units+64<cLine):OpR X (compareOp .NotEq) (as8 X.K):=by
 intro pins s σ H x y v u Q I rx ry h
 obtain ⟨ι,d,e,r,q,p1,p2,hq⟩:=h
 exact (tops (A:=X.A) I.hok r q rx ry p1 p2 hu).2 X.prog X.w X.xe _ ⟨.bl _,H,I,rfl,hq⟩
def hEq (x y:D) (h:Hd):R D:=if pur 60 x=true∧pur 60 y=true then .ok (.bl (eqD x y)) h else .no
def hNe (x y:D) (h:Hd):R D:=if pur 60 x=true∧pur 60 y=true then .ok (.bl (!eqD x y)) h else .no
theorem wu:a3p K hEq (as7 K):=by
 intro E ι H h x y dx dy Q rx ry hr o
 unfold hEq at o
 split at o
 ·rename_i hc;exact ⟨ι,dx,dy,rx,ry,hc.1,hc.2,ans o (.bl _) hr⟩
 ·exact o.elim
theorem a5y:a3p K hNe (as8 K):=by
 intro E ι H h x y dx dy Q rx ry hr o
 unfold hNe at o
 split at o
 ·rename_i hc;exact ⟨ι,dx,dy,rx,ry,hc.1,hc.2,ans o (.bl _) hr⟩
 ·exact o.elim
end
section
variable {X:Cx} {E:XD} {K:PySem.W.Frag}
def aqx:D→D→Hd→R D
 | .int i, .int j,h=>.ok (.int (i+j)) h
 | .str x, .str y,h=>if x.length+y.length≤LINE then .ok (.str (x++y)) h else .no
 | _,_,_=>.no
theorem anq:bootBuiltins "max" = some (.builtin "max"):=by first | exact PySem.boot_max | exact PyProof.Rows.boot_max
theorem anr:bootBuiltins "min" = some (.builtin "min"):=by first | exact PySem.boot_min | exact PyProof.Rows.boot_min
theorem ajv:bootBuiltins "bool" = some (.type "bool"):=by first | exact PySem.boot_bool | exact PyProof.Rows.boot_bool
theorem lw {e:Expr} {es:List Expr} {g:SG} {ks:SGs} (h1:MG X E e g) (h2:MGs X E es ks) (hs:(assignEach (e::es) X.env).map (·.2)=assign e X.env::(assignEach es X.env).map (·.2):=by rfl):MGs X E (e::es) (ju g ks) :=
 PGs.weak (a2v h1 h2 hs) fun vs σ H Q q=>afa q
end
end MI
namespace ZP
open PySem PySem.Spec PySem.Builtin PySem.Builtin.SmallTypes
section
variable {prog:Program} {w:World} {A:Around} {E:Value→Shared→Prop} {s:Shared}
theorem ajw {α:Type} {Q:α→Shared→Prop} (hh:A.handled=none) (q:∀ h' e,(∀ b o,s.heap.get? b=some o→h'.get? b=some o)→(∃ o,h'.get? e=some o∧o.cls = .type "StopIteration")→E (.ref e) { s with heap:=h' }) :
  wpAny (model prog w) A (stopIteration:Sem α) Q E s:=by
 have none_first:firstArgMember (.type "StopIteration") []=pure Value.none:=by first | rfl | (simp only [firstArgMember];rfl)
 rw [stopIteration]
 apply wpAny_bind
 rw [newExc,newTuple]
 apply wpAny_bind
 apply wpAny_newObj_type _ (by size_fits)
 rw [none_first,pure_bind]
 apply wpAny_newObj_type _ (by size_fits)
 apply wpAny_raiseNew_none hh
 exact q _ _ (fun b o z=>Heap.get?_push_of_some _ (Heap.get?_push_of_some _ z)) ⟨_,Heap.get?_push_size _ rfl,rfl⟩
theorem afn {it t:Addr} {i:Nat} {items:Array Value} {x:Value} {Q:Value→Shared→Prop} (hi:s.heap.IsTupleIter it t i) (ht:s.heap.IsTuple t items) (hx:items[i]? = some x)
  (q:∀ h',h'.IsTupleIter it t (i+1)→Heap.SameBut it s.heap h'→Q x { s with heap:=h' }):wpAny (model prog w) A (nextOf (.ref it)) Q E s:=by
 have ty:=hi.typeIs
 obtain ⟨o,e1,e2,e3⟩:=id hi
 obtain ⟨p,f1,f2,n,f3⟩:=ht
 rw [nextOf]
 apply wpAny_bind
 apply wpAny_callSpecial?_slot (name:=Str.ofString "__next__") ty F.slot_tuple_iterator_next
 apply wpAny_call_entry F.slot_tuple_iterator_next ty F.entry_tuple_iterator_next _ (F.args_tuple_iterator_next_1 _)
 change wpAny (model prog w) A.in1 (field (.ref it) 0>>=_) _ _ _
 apply wpAny_bind;apply wpAny_field e1 e3 (x:=.ref t) rfl
 change wpAny (model prog w) A.in1 (field (.ref it) 1>>=_) _ _ _
 apply wpAny_bind;apply wpAny_field e1 e3 (x:=.int i 0) rfl
 change wpAny (model prog w) A.in1 (seqItems? (.ref t)>>=_) _ _ _
 apply wpAny_bind;apply wpAny_seqItems f1 f3
 dsimp only
 rw [Int.toNat_natCast,hx]
 apply wpAny_bind
 obtain ⟨c,dd,dt,sl⟩:=o
 simp only at e2 e3
 subst e2 e3
 apply wpAny_setField e1 rfl (Nat.lt_succ_self 1)
 apply wpAny_pure
 exact ⟨x,rfl,wpAny_pure (q _ ⟨_,Heap.get?_update_self _ e1 rfl,rfl,rfl⟩ (Heap.SameBut.update ..))⟩
theorem ajx {it t:Addr} {i:Nat} {items:Array Value} {Q:Value→Shared→Prop} (hh:A.handled=none) (hi:s.heap.IsTupleIter it t i) (ht:s.heap.IsTuple t items) (hx:items[i]? = none)
  (q:∀ h' e,Heap.ExtBut it s.heap h'→(∃ o,h'.get? e=some o∧o.cls = .type "StopIteration")→E (.ref e) { s with heap:=h' }):wpAny (model prog w) A (nextOf (.ref it)) Q E s:=by
 have ty:=hi.typeIs
 obtain ⟨o,e1,e2,e3⟩:=id hi
 obtain ⟨p,f1,f2,n,f3⟩:=ht
 rw [nextOf]
 apply wpAny_bind
 apply wpAny_callSpecial?_slot (name:=Str.ofString "__next__") ty F.slot_tuple_iterator_next
 apply wpAny_call_entry F.slot_tuple_iterator_next ty F.entry_tuple_iterator_next _ (F.args_tuple_iterator_next_1 _)
 change wpAny (model prog w) A.in1 (field (.ref it) 0>>=_) _ _ _
 apply wpAny_bind;apply wpAny_field e1 e3 (x:=.ref t) rfl
 change wpAny (model prog w) A.in1 (field (.ref it) 1>>=_) _ _ _
 apply wpAny_bind;apply wpAny_field e1 e3 (x:=.int i 0) rfl
 change wpAny (model prog w) A.in1 (seqItems? (.ref t)>>=_) _ _ _
 apply wpAny_bind;apply wpAny_seqItems f1 f3
 dsimp only
 rw [Int.toNat_natCast,hx]
 dsimp only
 obtain ⟨c,dd,dt,sl⟩:=o
 simp only at e2 e3
 subst e2 e3
 apply wpAny_bind;apply wpAny_rule
 apply wpAny_bind;apply wpAny_setField e1 rfl (Nat.succ_pos 1)
 apply ajw (show A.in1.handled=none from hh)
 exact fun h' e k z=>q h' e (fun b o nb eb=>k b o ((Heap.SameBut.update ..).extBut b o nb eb)) z
theorem acq {prog:Program} {w:World} {A:Around} (hh:A.handled=none) (it t:Addr) (ne:t≠it) (items:Array Value):Draws prog w A it [it,t] items.size (fun i v=>items[i]? = some v) (fun i h=>h.IsTupleIter it t i∧h.IsTuple t items) where
 live:=fun _ _ st=>let ⟨o,e,_⟩:=st.1; ⟨o,e⟩
 frame:=fun _ _ _ st k=>⟨let ⟨o,e,r⟩:=st.1; ⟨o,k it (by simp) o e,r⟩,let ⟨o,e,r⟩:=st.2; ⟨o,k t (by simp) o e,r⟩⟩
 item:=fun i s Q E hi st q=>afn st.1 st.2 (Array.getElem?_eq_getElem hi) fun h' a b=>q _ h' s.toks (Array.getElem?_eq_getElem hi) ⟨a,st.2.extBut b.extBut ne⟩ b
 done:=fun s Q E st q=>ajx hh st.1 st.2 (by simp) q
end
end ZP
namespace ZP
open PySem PySem.Spec PySem.Builtin PySem.Builtin.SmallTypes
structure Ap (z TI TO i1 i2:Addr) (p q:List Addr):Prop where
 m1:i1∈p
 m2:i2∈q
 z1:z ∉ p
 z2:z ∉ q
 o1:TO ∉ p
 o2:TO ∉ q
 oz:TO≠z
 x1:i1 ∉ q
 x2:i2 ∉ p
section
variable {prog:Program} {w:World} {A:Around} {E:Value→Shared→Prop} {s:Shared} {z TI TO i1 i2:Addr} {p q:List Addr} {n1 n2 k:Nat} {P1 P2:Nat→Value→Prop} {S1 S2:Nat→Heap→Prop} {a b:Value}
theorem far {D:Draws prog w A i1 p n1 P1 S1} {h h':Heap} {c:Addr} (sb:Heap.SameBut c h h') (nc:c ∉ p) (st:S1 k h):S1 k h':=D.frame _ _ _ st fun x hx o e=>sb.extBut x o (fun y=>nc (y ▸ hx)) e
theorem acr {Q:Fin→Shared→Prop} (hz:IsZip s.heap z TI TO .none) (hi:IsPair s.heap TI (.ref i1) (.ref i2)) (ho:IsPair s.heap TO a b) (oz:TO≠z)
  (go:∀ h1,IsZip h1 z TI TO .ellipsis→Heap.SameBut z s.heap h1→wpAny (model prog w) A (nextOf (.ref i1))
   (fun x s2=>IsPair s2.heap TO a b∧∀ h3,IsPair h3 TO x b→Heap.SameBut TO s2.heap h3→wpAny (model prog w) A (nextOf (.ref i2))
    (fun y s4=>IsPair s4.heap TO x b∧∀ h5,IsPair h5 TO x y→Heap.SameBut TO s4.heap h5→IsZip h5 z TI TO .ellipsis∧∀ h8,IsZip h8 z TI TO (rawInt h5.objs.size)→IsPair h8 h5.objs.size x y→h8.objs.size=h5.objs.size+1 →
     (∀ c o,c≠z→h5.get? c=some o→h8.get? c=some o)→Q (.done (.ret (.ref h5.objs.size))) { s4 with heap:=h8 })
    (fun e s4=>wpAny (model prog w) A (setField (.ref z) 0 .none) (fun _ s5=>E e s5) E s4) { s2 with heap:=h3 })
   (fun e s2=>wpAny (model prog w) A (setField (.ref z) 0 .none) (fun _ s3=>E e s3) E s2) { s with heap:=h1 }) :
  wpAny (model prog w) A (Builtin.«zip.__next__» ⟨[.ref z],[]⟩) Q E s:=by
 change wpAny (model prog w) A (field (.ref z) 2>>=_) _ _ _
 apply wpAny_bind;apply wpAny_field hz rfl (x:=.bool false) rfl
 change wpAny (model prog w) A (field (.ref z) 3>>=_) _ _ _
 apply wpAny_bind;apply wpAny_field hz rfl (x:=.ref TI) rfl
 apply wpAny_bind;apply wpAny_seqItems hi rfl
 change wpAny (model prog w) A (ownedTupleIsFree (.ref z)>>=_) _ _ _
 apply wpAny_bind
 rw [ownedTupleIsFree]
 apply wpAny_bind;apply wpAny_field hz rfl (x:=.none) rfl
 apply wpAny_pure
 rw [if_pos rfl]
 apply wpAny_bind;apply wpAny_rule
 apply wpAny_bind;apply wpAny_field hz rfl (x:=.ref TO) rfl
 apply wpAny_bind;apply wpAny_setField_rec hz (Nat.succ_pos _)
 intro h1 z1 b1
 apply wpAny_bind
 simp only [List.zipIdx_cons,List.zipIdx_nil,List.forIn_cons,List.forIn_nil]
 apply wpAny_bind;apply wpAny_bind;apply wpAny_onRaise
 change wpAny (model prog w) A (nextOf (.ref i1)>>=_) _ _ _
 apply wpAny_bind
 apply wpAny_mono (go h1 z1 b1) _ fun _ _ r=>r
 rintro x s2 ⟨o2,g2⟩
 apply wpAny_pure
 apply wpAny_bind;apply wpAny_seqItems o2 rfl
 apply wpAny_bind;apply wpAny_updateSeq_pair o2
 intro h3 o3 b3
 apply wpAny_bind;apply wpAny_letGo;apply wpAny_pure
 apply wpAny_bind;apply wpAny_bind;apply wpAny_onRaise
 change wpAny (model prog w) A (nextOf (.ref i2)>>=_) _ _ _
 apply wpAny_bind
 apply wpAny_mono (g2 h3 o3 b3) _ fun _ _ r=>r
 rintro y s4 ⟨o4,g4⟩
 apply wpAny_pure
 apply wpAny_bind;apply wpAny_seqItems o4 rfl
 apply wpAny_bind;apply wpAny_updateSeq_pair o4
 intro h5 o5 b5
 obtain ⟨z5,g5⟩:=g4 h5 o5 b5
 apply wpAny_bind;apply wpAny_letGo;apply wpAny_pure;apply wpAny_pure
 apply wpAny_bind;apply wpAny_seqItems o5 rfl
 apply wpAny_bind;refine wpAny_newTuple ?_ (by show 2≤sizeLine;decide)
 change wpAny (model prog w) A (ownedTupleHandOut (.ref z) (.ref h5.objs.size)>>=_) _ _ _
 apply wpAny_bind
 rw [ownedTupleHandOut]
 have z6:IsZip (h5.push { cls:=.type "tuple",data:=.seq #[x,y] }) z TI TO .ellipsis:=Heap.get?_push_of_some _ z5
 have lt:z<h5.objs.size:=Heap.lt_size z5
 apply wpAny_bind;apply wpAny_setField_rec z6 (Nat.succ_pos _)
 intro h7 z7 b7
 apply wpAny_setField_rec z7 (by show 1<5;decide)
 intro h8 z8 b8
 apply wpAny_pure
 refine g5 h8 z8 (b8.extBut _ _ (Nat.ne_of_gt lt) (b7.extBut _ _ (Nat.ne_of_gt lt) (Heap.get?_push_size _ rfl))) ?_ fun c o nc e=>b8.extBut _ _ nc (b7.extBut _ _ nc (Heap.get?_push_of_some _ e))
 rw [b8.1,b7.1,Heap.size_push]
theorem afo {Q:Value→Shared→Prop} (D1:Draws prog w A i1 p n1 P1 S1) (D2:Draws prog w A i2 q n2 P2 S2) (ap:Ap z TI TO i1 i2 p q) (hz:IsZip s.heap z TI TO .none) (hi:IsPair s.heap TI (.ref i1) (.ref i2)) (ho:IsPair s.heap TO a b)
  (s1:S1 k s.heap) (s2:S2 k s.heap) (k1:k<n1) (k2:k<n2)
  (hQ:∀ x y h' tk,P1 k x→P2 k y→IsZip h' z TI TO (rawInt s.heap.objs.size)→IsPair h' TO x y→S1 (k+1) h'→S2 (k+1) h'→IsPair h' s.heap.objs.size x y→h'.objs.size=s.heap.objs.size+1 →
   (∀ c o,c≠z→c≠TO→c≠i1→c≠i2→s.heap.get? c=some o→h'.get? c=some o)→Q (.ref s.heap.objs.size) { s with heap:=h',toks:=tk }) :
  wpAny (model prog w) A (Builtin.«zip.__next__» ⟨[.ref z],[]⟩) (fun fin s'=>∃ v,fin = .done (.ret v)∧Q v s') E s:=by
 have ni1:i1≠z:=fun e=>ap.z1 (e ▸ ap.m1)
 have ni2:i2≠z:=fun e=>ap.z2 (e ▸ ap.m2)
 have no1:TO≠i1:=fun e=>ap.o1 (e ▸ ap.m1)
 have no2:TO≠i2:=fun e=>ap.o2 (e ▸ ap.m2)
 refine acr hz hi ho ap.oz fun h1 z1 b1=>?_
 refine D1.item k _ _ _ k1 (far (D:=D1) b1 ap.z1 s1) fun x h2 t2 px st2 b2=>?_
 refine ⟨b2.extBut _ _ no1 (b1.extBut _ _ ap.oz ho),fun h3 o3 b3=>?_⟩
 refine D2.item k _ _ _ k2 (far (D:=D2) b3 ap.o2 (far (D:=D2) b2 ap.x1 (far (D:=D2) b1 ap.z2 s2))) fun y h4 t4 py st4 b4=>?_
 refine ⟨b4.extBut _ _ no2 o3,fun h5 o5 b5=>⟨b5.extBut _ _ ap.oz.symm (b4.extBut _ _ ni2.symm (b3.extBut _ _ ap.oz.symm (b2.extBut _ _ ni1.symm z1))),fun h8 z8 t8 l8 k8=>⟨_,rfl,?_⟩⟩⟩
 have sz:h5.objs.size=s.heap.objs.size:=by rw [b5.1,b4.1,b3.1,b2.1,b1.1]
 have g1:S1 (k+1) h8:=D1.frame _ _ _ (far (D:=D1) b5 ap.o1 (far (D:=D1) b4 ap.x2 (far (D:=D1) b3 ap.o1 st2))) fun c hc o e=>k8 c o (fun y=>ap.z1 (y ▸ hc)) e
 have g2:S2 (k+1) h8:=D2.frame _ _ _ (far (D:=D2) b5 ap.o2 st4) fun c hc o e=>k8 c o (fun y=>ap.z2 (y ▸ hc)) e
 rw [sz] at z8 t8 l8 ⊢
 exact hQ x y h8 t4 px py z8 (k8 _ _ ap.oz o5) g1 g2 t8 l8 fun c o c1 c2 c3 c4 e=>k8 c o c1 (b5.extBut _ _ c2 (b4.extBut _ _ c4 (b3.extBut _ _ c2 (b2.extBut _ _ c3 (b1.extBut _ _ c1 e)))))
theorem ajy {Q:Fin→Shared→Prop} (D1:Draws prog w A i1 p n1 P1 S1) (D2:Draws prog w A i2 q n2 P2 S2) (ap:Ap z TI TO i1 i2 p q) (hz:IsZip s.heap z TI TO .none) (hi:IsPair s.heap TI (.ref i1) (.ref i2)) (ho:IsPair s.heap TO a b)
  (s1:S1 k s.heap) (s2:S2 k s.heap) (kk:k=n1∨(k<n1∧k=n2))
  (hE:∀ h' tk e,(∀ c o,c≠z→c≠TO→c≠i1→c≠i2→s.heap.get? c=some o→h'.get? c=some o)→(∃ o,h'.get? e=some o∧o.cls = .type "StopIteration")→E (.ref e) { s with heap:=h',toks:=tk }) :
  wpAny (model prog w) A (Builtin.«zip.__next__» ⟨[.ref z],[]⟩) Q E s:=by
 have ni1:i1≠z:=fun e=>ap.z1 (e ▸ ap.m1)
 have ni2:i2≠z:=fun e=>ap.z2 (e ▸ ap.m2)
 have no1:TO≠i1:=fun e=>ap.o1 (e ▸ ap.m1)
 have stop:∀ {h:Heap} {e:Addr},(∃ o,h.get? e=some o∧o.cls = .type "StopIteration")→IsZip h z TI TO .ellipsis→e≠z:=fun {h e} ⟨o,eo,ec⟩ zz y=>by
  subst y;rw [zz] at eo;cases eo;simp at ec
 refine acr hz hi ho ap.oz fun h1 z1 b1=>?_
 rcases kk with rfl | ⟨k1,rfl⟩
 ·refine D1.done _ _ _ (far (D:=D1) b1 ap.z1 s1) fun h2 e x2 st=>?_
  have z2:IsZip h2 z TI TO .ellipsis:=x2 _ _ ni1.symm z1
  have ne:=stop st z2
  obtain ⟨oe,f1,f2⟩:=st
  refine wpAny_setField_rec z2 (Nat.succ_pos _) fun h3 _ b3=>?_
  exact hE h3 _ e (fun c o c1 _ c3 _ y=>b3.extBut _ _ c1 (x2 _ _ c3 (b1.extBut _ _ c1 y))) ⟨oe,b3.extBut _ _ ne f1,f2⟩
 ·refine D1.item k _ _ _ k1 (far (D:=D1) b1 ap.z1 s1) fun x h2 t2 px st2 b2=>?_
  refine ⟨b2.extBut _ _ no1 (b1.extBut _ _ ap.oz ho),fun h3 o3 b3=>?_⟩
  refine D2.done _ _ _ (far (D:=D2) b3 ap.o2 (far (D:=D2) b2 ap.x1 (far (D:=D2) b1 ap.z2 s2))) fun h4 e x4 st=>?_
  have z4:IsZip h4 z TI TO .ellipsis:=x4 _ _ ni2.symm (b3.extBut _ _ ap.oz.symm (b2.extBut _ _ ni1.symm z1))
  have ne:=stop st z4
  obtain ⟨oe,f1,f2⟩:=st
  refine wpAny_setField_rec z4 (Nat.succ_pos _) fun h5 _ b5=>?_
  exact hE h5 _ e (fun c o c1 c2 c3 c4 y=>b5.extBut _ _ c1 (x4 _ _ c4 (b3.extBut _ _ c2 (b2.extBut _ _ c3 (b1.extBut _ _ c1 y))))) ⟨oe,b5.extBut _ _ ne f1,f2⟩
theorem next_item {Q:Option Value→Shared→Prop} (D1:Draws prog w A.in1 i1 p n1 P1 S1) (D2:Draws prog w A.in1 i2 q n2 P2 S2) (ap:Ap z TI TO i1 i2 p q) (hz:IsZip s.heap z TI TO .none) (hi:IsPair s.heap TI (.ref i1) (.ref i2)) (ho:IsPair s.heap TO a b)
  (s1:S1 k s.heap) (s2:S2 k s.heap) (k1:k<n1) (k2:k<n2)
  (hQ:∀ x y h' tk,P1 k x→P2 k y→IsZip h' z TI TO (rawInt s.heap.objs.size)→IsPair h' TO x y→S1 (k+1) h'→S2 (k+1) h'→IsPair h' s.heap.objs.size x y→h'.objs.size=s.heap.objs.size+1 →
   (∀ c o,c≠z→c≠TO→c≠i1→c≠i2→s.heap.get? c=some o→h'.get? c=some o)→Q (some (.ref s.heap.objs.size)) { s with heap:=h',toks:=tk }):wpAny (model prog w) A (pyNext (.ref z)) Q E s:=by
 have ty:s.TypeIs (.ref z) "zip":=⟨_,hz,rfl⟩
 rw [pyNext]
 apply wpAny_bind;apply wpAny_attempt
 apply wpAny_callSpecial?_slot (name:=Str.ofString "__next__") ty F.slot_zip_next
 apply wpAny_call_entry F.slot_zip_next ty F.entry_zip_next _ (F.args_zip_next_1 _)
 exact afo D1 D2 ap hz hi ho s1 s2 k1 k2 fun x y h' tk c1 c2 c3 c4 c5 c6 c7 c8 c9=>wpAny_pure (hQ x y h' tk c1 c2 c3 c4 c5 c6 c7 c8 c9)
theorem next_end {Q:Option Value→Shared→Prop} (D1:Draws prog w A.in1 i1 p n1 P1 S1) (D2:Draws prog w A.in1 i2 q n2 P2 S2) (ap:Ap z TI TO i1 i2 p q) (hz:IsZip s.heap z TI TO .none) (hi:IsPair s.heap TI (.ref i1) (.ref i2)) (ho:IsPair s.heap TO a b)
  (s1:S1 k s.heap) (s2:S2 k s.heap) (kk:k=n1∨(k<n1∧k=n2))
  (hQ:∀ h' tk,(∀ c o,c≠z→c≠TO→c≠i1→c≠i2→s.heap.get? c=some o→h'.get? c=some o)→Q none { s with heap:=h',toks:=tk }):wpAny (model prog w) A (pyNext (.ref z)) Q E s:=by
 have ty:s.TypeIs (.ref z) "zip":=⟨_,hz,rfl⟩
 rw [pyNext]
 apply wpAny_bind;apply wpAny_attempt
 apply wpAny_callSpecial?_slot (name:=Str.ofString "__next__") ty F.slot_zip_next
 apply wpAny_call_entry F.slot_zip_next ty F.entry_zip_next _ (F.args_zip_next_1 _)
 refine ajy D1 D2 ap hz hi ho s1 s2 kk fun h' tk e kp ⟨o,f1,f2⟩=>?_
 refine wpAny_bind (wpAny_isInstance (b:=true) (T := "StopIteration") ⟨o,f1,f2⟩ isSubtype_stop (wpAny_pure (hQ h' tk kp)))
end
end ZP
namespace ZP
open PySem PySem.Spec PySem.Builtin PySem.Builtin.SmallTypes L2
inductive Srk where
 | tup (a:Addr) | lst (a:Addr) | str (x:Str)
def Srk.v:Srk→V
 | .tup a=>.ref a
 | .lst a=>.ref a
 | .str x=>.str x
def its (H:Hp):Srk→Option (List V)
 | .tup a=>match H a with | some (.tup vs)=>some vs | _=>none
 | .lst a=>match H a with | some (.lst vs)=>some vs | some (.frz _ (.lst vs))=>some vs | _=>none
 | .str x=>some (zf x)
def own (it:Addr) (t:Tok):Srk→Nat→Heap→Prop
 | .tup a,i,h=>h.IsTupleIter it a i
 | .lst a,i,h=>h.IsListIter it a i
 | .str x,i,h=>h.IsStrIter it (strIterType x) x t i
def iob (t:Tok):Srk→Obj
 | .tup a=>{ cls:=.type "tuple_iterator",data:=.fields #[.ref a, .int 0 0] }
 | .lst a=>{ cls:=.type "list_iterator",data:=.fields #[.ref a, .int 0 0] }
 | .str x=>{ cls:=.type (strIterType x),data:=.fields #[.str x t, .int 0 0] }
def val (t:Tok):Srk→Value
 | .tup a=>.ref a
 | .lst a=>.ref a
 | .str x=>.str x t
def cont (h:Heap):Srk→List Value→Prop
 | .tup a,us=>h.IsTuple a us.toArray
 | .lst a,us=>h.IsList a us.toArray
 | .str x,us=>True
theorem aqy {it:Addr} {t:Tok} {k:Srk} {h:Heap} (e:h.get? it=some (iob t k)):own it t k 0 h:=by
 cases k with
 | tup a=>exact ⟨_,e,rfl,rfl⟩
 | lst a=>exact ⟨_,e,rfl,rfl⟩
 | str x=>exact ⟨_,e,rfl,rfl⟩
theorem a1n {it:Addr} {t:Tok} {k:Srk} {i:Nat} {h:Heap} (o:own it t k i h):∃ ob,h.get? it=some ob∧∀ v,ob.data≠.cell v:=by
 cases k with
 | tup a=>obtain ⟨ob,e,_,d⟩:=o;exact ⟨ob,e,fun v z=>by rw [d] at z;cases z⟩
 | lst a=>obtain ⟨ob,e,_,d⟩:=o;exact ⟨ob,e,fun v z=>by rw [d] at z;cases z⟩
 | str x=>obtain ⟨ob,e,_,d⟩:=o;exact ⟨ob,e,fun v z=>by rw [d] at z;cases z⟩
theorem a07 {it:Addr} {t:Tok} {k:Srk} {i:Nat} {h h':Heap} (o:own it t k i h) (kk:∀ ob,h.get? it=some ob→h'.get? it=some ob):own it t k i h':=by
 cases k with
 | tup a=>obtain ⟨ob,e,r⟩:=o;exact ⟨ob,kk _ e,r⟩
 | lst a=>obtain ⟨ob,e,r⟩:=o;exact ⟨ob,kk _ e,r⟩
 | str x=>obtain ⟨ob,e,r⟩:=o;exact ⟨ob,kk _ e,r⟩
section
variable {P:Program} {w:World} {H:Hp} {s:Shared}
theorem a3t {X:Cx} {pins:List (Addr × Obj)} {σ:St} (I:Inv X pins σ H s) {k:Srk} {xs:List V} (e:its H k=some xs):∃ us,cont s.heap k us∧((∀ x,k≠.str x)→Vals xs us):=by
 cases k with
 | tup a =>
  cases q:H a with
  | none=>simp [its,q] at e
  | some o =>
   cases o with
   | tup vs =>
    simp [its,q] at e;subst e
    obtain ⟨us,r,t,_⟩:=I.tuple (SqT.of q)
    exact ⟨us,t,fun _=>r⟩
   | _=>simp [its,q] at e
 | lst a =>
  cases q:H a with
  | none=>simp [its,q] at e
  | some o =>
   cases o with
   | lst vs =>
    simp [its,q] at e;subst e
    obtain ⟨us,r,t,_⟩:=I.list (SqL.of q)
    exact ⟨us,t.isList,fun _=>r⟩
   | frz ob u =>
    cases u with
    | lst vs =>
     simp [its,q] at e;subst e
     obtain ⟨us,r,t,_⟩:=I.list (.inl (.inr ⟨_,q⟩))
     exact ⟨us,t.isList,fun _=>r⟩
    | _=>simp [its,q] at e
   | _=>simp [its,q] at e
 | str x=>exact ⟨[],True.intro,fun n=>absurd rfl (n x)⟩
theorem a1o {X:Cx} {pins:List (Addr × Obj)} {σ:St} (I:Inv X pins σ H s) {k:Srk} {xs:List V} {it:Addr} {t:Tok} (e:its H k=some xs) (hn:H it=none) :
  ∃ (cs:List Addr) (P1:Nat→Value→Prop) (S1:Nat→Heap→Prop),(∀ A:Around,A.handled=none→Draws X.prog X.w A it (it::cs) xs.length P1 S1)∧(∀ i,own it t k i s.heap→S1 i s.heap)∧(∀ i h,S1 i h→own it t k i h)∧(∀ c∈cs,H c≠none) ∧
   ∀ i v,P1 i v→∃ x,xs[i]? = some x∧RelV x v:=by
 cases k with
 | tup a =>
  obtain ⟨us,c,r⟩:=a3t I e
  have r:=r (by intro x z;cases z)
  have ha:H a≠none:=fun z=>by simp [its,z] at e
  have l:us.toArray.size=xs.length:=by rw [List.size_toArray,r.length]
  refine ⟨[a],fun i v=>us.toArray[i]? = some v,fun i h=>h.IsTupleIter it a i∧h.IsTuple a us.toArray,fun A hA=>?_,fun i o=>⟨o,c⟩,fun i h z=>z.1,fun c hc=>by rw [List.mem_singleton.mp hc];exact ha,fun i v z=>?_⟩
  ·have:=acq (prog:=X.prog) (w:=X.w) hA it a (fun y=>ha (y ▸ hn)) us.toArray
   rw [l] at this;exact this
  ·have z':us[i]? = some v:=by simpa using z
   have hi:i<xs.length:=by rw [r.length];exact (List.getElem?_eq_some_iff.mp z').1
   obtain ⟨u,e1,e2⟩:=r.get (List.getElem?_eq_getElem hi)
   rw [z'] at e1;cases e1
   exact ⟨_,List.getElem?_eq_getElem hi,e2⟩
 | lst a =>
  obtain ⟨us,c,r⟩:=a3t I e
  have r:=r (by intro x z;cases z)
  have ha:H a≠none:=fun z=>by simp [its,z] at e
  have l:us.toArray.size=xs.length:=by rw [List.size_toArray,r.length]
  refine ⟨[a],fun i v=>us.toArray[i]? = some v,fun i h=>h.IsListIter it a i∧h.IsList a us.toArray,fun A hA=>?_,fun i o=>⟨o,c⟩,fun i h z=>z.1,fun c hc=>by rw [List.mem_singleton.mp hc];exact ha,fun i v z=>?_⟩
  ·have:=Draws.list (prog:=X.prog) (w:=X.w) hA it a (fun y=>ha (y ▸ hn)) us.toArray
   rw [l] at this;exact this
  ·have z':us[i]? = some v:=by simpa using z
   have hi:i<xs.length:=by rw [r.length];exact (List.getElem?_eq_some_iff.mp z').1
   obtain ⟨u,e1,e2⟩:=r.get (List.getElem?_eq_getElem hi)
   rw [z'] at e1;cases e1
   exact ⟨_,List.getElem?_eq_getElem hi,e2⟩
 | str x =>
  cases e
  have l:(zf x).length=x.cps.size:=by simp [zf]
  refine ⟨[],fun i v=>∃ c u,x.cps[i]? = some c∧v = .str ⟨#[c]⟩ u,fun i h=>h.IsStrIter it (strIterType x) x t i,fun A hA=>?_,fun i o=>o,fun i h z=>z,fun c hc=>(by cases hc),fun i v z=>?_⟩
  ·rw [l]
   cases ha:x.cps.all (· < 128)
   ·have:=Draws.strWide (prog:=X.prog) (w:=X.w) hA it x t
    simpa [strIterType,ha] using this
   ·have:=Draws.strAscii (prog:=X.prog) (w:=X.w) hA it x t
    simpa [strIterType,ha] using this
  ·obtain ⟨c,u,e1,rfl⟩:=z
   exact ⟨.str ⟨#[c]⟩,by simp [zf,e1],⟨_,rfl⟩⟩
end
def ItZ (k1 k2:Srk):It where
 go:=fun i H=>∃ xs ys x y,its H k1=some xs∧its H k2=some ys∧xs[i]? = some x∧ys[i]? = some y
 yld:=fun i H v H'=>∃ xs ys x y p,its H k1=some xs∧its H k2=some ys∧xs[i]? = some x∧ys[i]? = some y∧H p=none∧v = .ref p∧H'=upd H p (.tup [x,y])
 stop:=fun i H=>∃ xs ys,its H k1=some xs∧its H k2=some ys∧(i=xs.length∨(i<xs.length∧i=ys.length))
def tnZ (z TI TO i1 i2:Addr) (t1 t2:Tok) (k1 k2:Srk) (i:Nat) (h:Heap):Prop :=
 IsZip h z TI TO .none∧IsPair h TI (.ref i1) (.ref i2)∧(∃ a b,IsPair h TO a b)∧own i1 t1 k1 i h∧own i2 t2 k2 i h
structure Far (z TI TO i1 i2:Addr):Prop where
 a:TI≠z
 b:TO≠z
 c:i1≠z
 d:i2≠z
 e:TI≠TO
 f:TI≠i1
 g:TI≠i2
 h:TO≠i1
 i:TO≠i2
 j:i1≠i2
theorem a5z {X:Cx} {pins:List (Addr × Obj)} {σ:St} {H:Hp} {s:Shared} {h':Heap} {t':Nat} {ch:List Addr} (I:Inv X pins σ H s) (hf:∀ b∈ch,a80 X pins H b) (k:∀ b o,b ∉ ch→s.heap.get? b=some o→h'.get? b=some o) :
  Inv X pins σ H { s with heap:=h',toks:=t' }:=by
 have nit:∀ b u,H b=some u→b ∉ ch:=fun b u e z=>by rw [(hf b z).1] at e;cases e
 refine I.step (g':=s.gens) (d':=s.drawn) (ch:=ch) (fun b hb=>?_) (fun b o _ _ hc e _=>k b o hc e) (fun b o _ _ hc e _=>⟨o.slots,k b o hc e⟩) (fun _ _ _ _ n=>n) (fun b o hc e=>⟨o,k b o hc e⟩) (fun _ _ e=>e) (fun _ _ _ e=>e)
  (fun b ps e=>⟨#[],by rw [e];simp⟩) (fun m hm=>?_) (fun b u e=>?_) I.bare
 ·obtain ⟨_,f1,_,f3,f4,f5⟩:=hf b hb
  exact ⟨f3,f1,f4,f5⟩
 ·obtain ⟨o,es,ep,ho,r⟩:=hm
  exact ⟨o,es,ep,k _ o (fun z=>(hf _ z).2.1 rfl) ho,r⟩
 ·refine (I.hok b u e).stay (fun c v hc q=>k c v ?_ q) (fun _ q=>q) fun _ _ q=>q
  rcases hc with z | z
  ·rw [z];exact nit b u e
  ·exact nit c _ z
theorem afp {P:Program} {w:World} {K:PySem.W.Frag} {elts:List Expr} {x1:Nat} {pos:Pos} {z TI TO i1 i2:Addr} {t1 t2:Tok} {k1 k2:Srk} (f:Far z TI TO i1 i2):Turn P w K (.Tuple elts x1 pos) (ItZ k1 k2) [z,TI,TO,i1,i2] z (tnZ z TI TO i1 i2 t1 t2 k1 k2) where
 mem:=by simp
 obj:=fun i h st b hb=>by
  obtain ⟨h1,h2,⟨a,b',h3⟩,h4,h5⟩:=st
  simp only [List.mem_cons,List.not_mem_nil,or_false] at hb
  rcases hb with rfl | rfl | rfl | rfl | rfl
  ·exact ⟨_,h1,fun v z=>(by cases z)⟩
  ·exact ⟨_,h2,fun v z=>(by cases z)⟩
  ·exact ⟨_,h3,fun v z=>(by cases z)⟩
  ·exact a1n h4
  ·exact a1n h5
 keep:=fun i h h' st k=>by
  obtain ⟨h1,h2,⟨a,b',h3⟩,h4,h5⟩:=st
  exact ⟨k z (by simp) _ h1,k TI (by simp) _ h2,⟨a,b',k TO (by simp) _ h3⟩,a07 h4 fun ob e=>k i1 (by simp) ob e,a07 h5 fun ob e=>k i2 (by simp) ob e⟩
 item:=by
  intro X hP hw hK hc i pins s σ H E I hf st hg
  subst hP hw hK
  obtain ⟨xs,ys,x,y,e1,e2,g1,g2⟩:=hg
  obtain ⟨h1,h2,⟨a,b,h3⟩,h4,h5⟩:=st
  have n:∀ c∈[z,TI,TO,i1,i2],H c=none:=fun c hc=>(hf c hc).1
  obtain ⟨cs,P1,S1,D1,a1,b1,c1,d1⟩:=a1o I (t:=t1) e1 (n i1 (by simp))
  obtain ⟨ds,P2,S2,D2,a2,b2,c2,d2⟩:=a1o I (t:=t2) e2 (n i2 (by simp))
  have hd:=I.ok.hd hc
  have out1:∀ c,H c=none→c ∉ cs:=fun c e z=>c1 c z e
  have out2:∀ c,H c=none→c ∉ ds:=fun c e z=>c2 c z e
  have ap:Ap z TI TO i1 i2 (i1::cs) (i2::ds):=⟨by simp,by simp,by simp [f.c.symm,out1 z (n z (by simp))],by simp [f.d.symm,out2 z (n z (by simp))],by simp [f.h,out1 TO (n TO (by simp))],by simp [f.i,out2 TO (n TO (by simp))],f.b,by simp [f.j,out2 i1 (n i1 (by simp))],by simp [f.j.symm,out1 i2 (n i2 (by simp))]⟩
  refine next_item (D1 X.A.in1 hd) (D2 X.A.in1 hd) ap h1 h2 h3 (a1 i h4) (a2 i h5) (List.getElem?_eq_some_iff.mp g1).1 (List.getElem?_eq_some_iff.mp g2).1 fun u v h' tk pu pv z' to' s1' s2' pr sz kp=>?_
  obtain ⟨x',q1,r1⟩:=d1 i u pu
  obtain ⟨y',q2,r2⟩:=d2 i v pv
  rw [g1] at q1;cases q1
  rw [g2] at q2;cases q2
  refine ⟨_,rfl,wpAny_letOwnedTupleGo_zip z' fun h2' z2' sb=>?_⟩
  have hp:H s.heap.objs.size=none:=I.hok.fresh (Nat.le_refl _)
  have lt:∀ c∈[z,TI,TO,i1,i2],c<s.heap.objs.size:=fun c hc=>by
   simp only [List.mem_cons,List.not_mem_nil,or_false] at hc
   rcases hc with rfl | rfl | rfl | rfl | rfl
   ·exact Heap.lt_size h1
   ·exact Heap.lt_size h2
   ·exact Heap.lt_size h3
   ·obtain ⟨_,e,_⟩:=a1n h4;exact Heap.lt_size e
   ·obtain ⟨_,e,_⟩:=a1n h5;exact Heap.lt_size e
  have all:∀ c o,c ∉ [z,TI,TO,i1,i2]→s.heap.get? c=some o→h2'.get? c=some o:=fun c o nc e=>by
   simp only [List.mem_cons,List.not_mem_nil,or_false,not_or] at nc
   exact (sb.2 c nc.1).trans (kp c o nc.1 nc.2.2.1 nc.2.2.2.1 nc.2.2.2.2 e)
  have nT:∀ c∈[z,TI,TO,i1,i2],c≠s.heap.objs.size:=fun c hc=>Nat.ne_of_lt (lt c hc)
  have I0:Inv X pins σ (upd H s.heap.objs.size (.tup [x,y])) { s with heap:=s.heap.push { cls:=.type "tuple",data:=.seq #[u,v] } } :=
   I.laid (t':=s.toks) (o:=.tup [x,y]) (fun b o e=>Heap.get?_push_of_some _ e) (Nat.le_refl _) ⟨by show 2≤sizeLine;decide,[u,v], .cons r1 (.cons r2 .nil),⟨_,Heap.get?_push_size _ rfl,rfl,_,rfl⟩⟩
  have I1:Inv X pins σ (upd H s.heap.objs.size (.tup [x,y])) { s with heap:=h2',toks:=tk }:=by
   refine a5z (s:={ s with heap:=s.heap.push { cls:=.type "tuple",data:=.seq #[u,v] } }) (ch:=[z,TI,TO,i1,i2]) I0 (fun b hb=>?_) fun c o nc e=>?_
   ·obtain ⟨f0,f1⟩:=hf b hb
    exact ⟨by rw [j9 (nT b hb)];exact f0,f1⟩
   ·rcases Heap.get?_push_cases e with ⟨rfl,rfl⟩ | e
    ·exact (sb.2 _ (nT z (by simp)).symm).trans pr
    ·exact all c o nc e
  refine ⟨.ref s.heap.objs.size,_,I1,rfl,⟨xs,ys,x,y,_,e1,e2,g1,g2,hp,rfl,rfl⟩,⟨z2',?_,⟨u,v,(sb.2 _ f.b).trans to'⟩,a07 (b1 _ _ s1') fun ob e=>(sb.2 _ f.c).trans e,a07 (b2 _ _ s2') fun ob e=>(sb.2 _ f.d).trans e⟩,fun b hb=>?_⟩
  ·exact (sb.2 _ f.a).trans (kp TI _ f.a f.e f.f f.g h2)
  ·rw [j9 (nT b hb)];exact n b hb
 done:=by
  intro X hP hw hK hc i pins s σ H E I hf st hg
  subst hP hw hK
  obtain ⟨xs,ys,e1,e2,g⟩:=hg
  obtain ⟨h1,h2,⟨a,b,h3⟩,h4,h5⟩:=st
  have n:∀ c∈[z,TI,TO,i1,i2],H c=none:=fun c hc=>(hf c hc).1
  obtain ⟨cs,P1,S1,D1,a1,b1,c1,d1⟩:=a1o I (t:=t1) e1 (n i1 (by simp))
  obtain ⟨ds,P2,S2,D2,a2,b2,c2,d2⟩:=a1o I (t:=t2) e2 (n i2 (by simp))
  have hd:=I.ok.hd hc
  have out1:∀ c,H c=none→c ∉ cs:=fun c e z=>c1 c z e
  have out2:∀ c,H c=none→c ∉ ds:=fun c e z=>c2 c z e
  have ap:Ap z TI TO i1 i2 (i1::cs) (i2::ds):=⟨by simp,by simp,by simp [f.c.symm,out1 z (n z (by simp))],by simp [f.d.symm,out2 z (n z (by simp))],by simp [f.h,out1 TO (n TO (by simp))],by simp [f.i,out2 TO (n TO (by simp))],f.b,by simp [f.j,out2 i1 (n i1 (by simp))],by simp [f.j.symm,out1 i2 (n i2 (by simp))]⟩
  refine next_end (D1 X.A.in1 hd) (D2 X.A.in1 hd) ap h1 h2 h3 (a1 i h4) (a2 i h5) g fun h' tk kp=>⟨rfl,a5z I hf fun c o nc e=>?_⟩
  simp only [List.mem_cons,List.not_mem_nil,or_false,not_or] at nc
  exact kp c o nc.1 nc.2.2.1 nc.2.2.2.1 nc.2.2.2.2 e
 self:=fun _ _ _ _ _ st h=>wpAny_pyIter_zip st.1 h
end ZP
namespace ZP
open PySem PySem.Spec PySem.Builtin PySem.Builtin.SmallTypes L2
theorem acs {h:Heap} {k:Srk} {us:List Value} (c:cont h k us) (o:Obj):cont (h.push o) k us:=by
 cases k with
 | tup a=>obtain ⟨ob,e,r⟩:=c;exact ⟨ob,Heap.get?_push_of_some _ e,r⟩
 | lst a=>obtain ⟨ob,e,r⟩:=c;exact ⟨ob,Heap.get?_push_of_some _ e,r⟩
 | str x=>trivial
theorem a0x {prog:Program} {w:World} {A:Around} {E:Value→Shared→Prop} {s:Shared} {k:Srk} {t:Tok} {us:List Value} {Q:Value→Shared→Prop} (c:cont s.heap k us) (q:Q (.ref s.heap.objs.size) { s with heap:=s.heap.push (iob t k) }) :
  wpAny (model prog w) A (pyIter (val t k)) Q E s:=by
 cases k with
 | tup a=>exact wpAny_pyIter_tuple c q
 | lst a=>exact wpAny_pyIter_list c q
 | str x=>exact wpAny_pyIter_strU q
def mk2 (h:Heap) (t1 t2:Tok) (k1 k2:Srk):Heap:=(h.push (iob t1 k1)).push (iob t2 k2)
def mk5 (h:Heap) (t1 t2:Tok) (k1 k2:Srk):Heap :=
 (((mk2 h t1 t2 k1 k2).push { cls:=.type "tuple",data:=.seq #[.ref h.objs.size, .ref (h.objs.size+1)] }).push { cls:=.type "tuple",data:=.seq #[.none, .none] }).push
  { cls:=.type "zip",data:=.fields #[.none, .bool false, .bool false, .ref (h.objs.size+2), .ref (h.objs.size+3)] }
theorem afq (t1 t2:Tok) (k1 k2:Srk) (us1 us2:List Value):Meets (Builtin.«zip.__new__» ⟨[.type "zip",val t1 k1,val t2 k2],[]⟩)
  (fun _ R s=>cont s.heap k1 us1∧cont s.heap k2 us2∧R (.ok (.ret (.ref (s.heap.objs.size+4)))) { s with heap:=mk5 s.heap t1 t2 k1 k2 }) :=
 .of_wp fun prog w A R s h=>by
  obtain ⟨hp,g,d,tk,os⟩:=s
  obtain ⟨c1,c2,h⟩:=h
  have sub:=sub_zip
  have c1':cont (Shared.heap ⟨hp,g,d,tk,os⟩) k1 us1:=c1
  have c2':cont (Shared.heap ⟨hp.push (iob t1 k1),g,d,tk,os⟩) k2 us2:=acs c2 _
  wp_walk using a0x (t:=t1) c1',a0x (t:=t2) c2'
  refine ⟨_,rfl,?_⟩
  simpa [mk5,mk2,Heap.size_push,ownedTupleFields,Nat.add_assoc] using h
theorem aqz (n:Nat):Far (n+4) (n+2) (n+3) n (n+1):=by
 refine ⟨?_,?_,?_,?_,?_,?_,?_,?_,?_,?_⟩<;>(intro z;have z:(_:Nat)=_:=z;omega)
theorem atq (n b:Nat) (h:b∈[n+4,n+2,n+3,n,n+1]):n≤b:=by
 simp only [List.mem_cons,List.not_mem_nil,or_false] at h
 omega
section
variable {X:Cx} {elts:List Expr} {x1:Nat} {tpos:Pos}
def atr (ta:TA):TI:=fun σ H R=>ta σ H fun vs H1=>∃ k1 k2 xs ys,vs=[Srk.v k1,Srk.v k2]∧its H1 k1=some xs∧its H1 k2=some ys∧R (ItZ k1 k2) H1
theorem acu {k:Srk} {u:Value} (r:RelV k.v u):∃ t,u=val t k:=by
 cases k with
 | tup a=>cases r;exact ⟨0,rfl⟩
 | lst a=>cases r;exact ⟨0,rfl⟩
 | str x=>obtain ⟨t,rfl⟩:=r;exact ⟨t,rfl⟩
theorem ant {e1 e2:Expr} {ta:TA} {p pos:Pos} (hg:Gl X "zip") (hm:X.mg "zip" = none) (hb:bootBuiltins "zip" = some (.type "zip")) (ha:PA X [e1,e2] ta)
  (h1:starEach [e1,e2] X.env=[(false,eval e1 X.env),(false,eval e2 X.env)]:=by rfl) (h2:starEach [e2] X.env=[(false,eval e2 X.env)]:=by rfl):PI X (.Tuple elts x1 tpos) (.Call (.Name "zip" p) [e1,e2] [] pos) (atr ta):=by
 intro pins s σ H R I h
 refine wpAny_Call_Name_kw (a3f I hg hm hb ?_ (by decide) (by decide))
 refine PyProof.Rows.callWith_type1 (thn (ha pos pins s σ H _ I h) fun us s1 ⟨vs,H1,I1,r1,q1⟩=>?_) (by rw [h1,h2]) (by rw [h2];rfl)
 obtain ⟨k1,k2,xs,ys,rfl,e1,e2,q⟩:=q1
 obtain ⟨v1,v2,rfl,rv1,rv2⟩:=vals2 r1
 obtain ⟨t1,rfl⟩:=acu rv1
 obtain ⟨t2,rfl⟩:=acu rv2
 obtain ⟨us1,c1,_⟩:=a3t I1 e1
 obtain ⟨us2,c2,_⟩:=a3t I1 e2
 refine callType_new F.called_zip (by decide) (F.typeCall_zip_2 _ _) (F.newCall_zip_2 _ _) (fun obj=>F.args_object_init_3 obj _ _) F.entry_zip_new (afq t1 t2 k1 k2 us1 us2) ⟨c1,c2,?_⟩
 have z2:(mk2 s1.heap t1 t2 k1 k2).objs.size=s1.heap.objs.size+2:=by simp [mk2,Heap.size_push]
 have at0:(mk5 s1.heap t1 t2 k1 k2).get? s1.heap.objs.size=some (iob t1 k1):=by
  unfold mk5 mk2
  exact Heap.get?_push_of_some _ (Heap.get?_push_of_some _ (Heap.get?_push_of_some _ (Heap.get?_push_of_some _ (Heap.get?_push_size _ (by cases k1<;>rfl)))))
 have at1:(mk5 s1.heap t1 t2 k1 k2).get? (s1.heap.objs.size+1)=some (iob t2 k2):=by
  unfold mk5 mk2
  have:=Heap.get?_push_size (o:=iob t2 k2) (s1.heap.push (iob t1 k1)) (by cases k2<;>rfl)
  rw [Heap.size_push] at this
  exact Heap.get?_push_of_some _ (Heap.get?_push_of_some _ (Heap.get?_push_of_some _ this))
 have at2:IsPair (mk5 s1.heap t1 t2 k1 k2) (s1.heap.objs.size+2) (.ref s1.heap.objs.size) (.ref (s1.heap.objs.size+1)):=by
  unfold mk5
  rw [← z2]
  exact Heap.get?_push_of_some _ (Heap.get?_push_of_some _ (Heap.get?_push_size _ rfl))
 have at3:IsPair (mk5 s1.heap t1 t2 k1 k2) (s1.heap.objs.size+3) .none .none:=by
  unfold mk5
  have:=Heap.get?_push_size (o:={ cls:=.type "tuple",data:=.seq #[.none, .none] }) ((mk2 s1.heap t1 t2 k1 k2).push { cls:=.type "tuple",data:=.seq #[.ref s1.heap.objs.size, .ref (s1.heap.objs.size+1)] }) rfl
  rw [Heap.size_push,z2] at this
  exact Heap.get?_push_of_some _ this
 have at4:IsZip (mk5 s1.heap t1 t2 k1 k2) (s1.heap.objs.size+4) (s1.heap.objs.size+2) (s1.heap.objs.size+3) .none:=by
  unfold mk5
  have:=Heap.get?_push_size (o:={ cls:=.type "zip",data:=.fields #[.none, .bool false, .bool false, .ref (s1.heap.objs.size+2), .ref (s1.heap.objs.size+3)] }) (((mk2 s1.heap t1 t2 k1 k2).push { cls:=.type "tuple",data:=.seq #[.ref s1.heap.objs.size, .ref (s1.heap.objs.size+1)] }).push { cls:=.type "tuple",data:=.seq #[.none, .none] }) rfl
  rw [Heap.size_push,Heap.size_push,z2] at this
  exact this
 have keepA:∀ b o,s1.heap.get? b=some o→(mk5 s1.heap t1 t2 k1 k2).get? b=some o:=fun b o e=>by
  unfold mk5 mk2
  exact Heap.get?_push_of_some _ (Heap.get?_push_of_some _ (Heap.get?_push_of_some _ (Heap.get?_push_of_some _ (Heap.get?_push_of_some _ e))))
 have I2:Inv X pins σ H1 { s1 with heap:=mk5 s1.heap t1 t2 k1 k2 }:=I1.kept (t':=s1.toks) keepA
 refine ⟨⟨_,at4,rfl⟩,?_⟩
 refine wpAny_pyIter_zip (s:={ s1 with heap:=mk5 s1.heap t1 t2 k1 k2 }) at4 ?_
 refine ⟨s1.heap.objs.size+4,[s1.heap.objs.size+4,s1.heap.objs.size+2,s1.heap.objs.size+3,s1.heap.objs.size,s1.heap.objs.size+1],tnZ _ _ _ _ _ t1 t2 k1 k2,ItZ k1 k2,H1,rfl,I2,afp (aqz s1.heap.objs.size),
  ⟨at4,at2,⟨_,_,at3⟩,aqy at0,aqy at1⟩,fun b hb=>?_,q⟩
 have:s1.heap.objs.size≤b:=atq _ b hb
 exact I1.fpOk this (I1.hok.fresh this)
end
end ZP
namespace MI
open PySem PySem.Spec L2 ZP
def srcOf (d:D) (h:Hd):Option (List D × (Hd→Prop)):=match d with
 | .tup xs=>some (xs,fun _=>True)
 | .rol xs=>some (xs,fun _=>True)
 | .str x=>some (yh x,fun _=>True)
 | .ref i=>(match h[i]? with | some (.lst xs)=>some (xs,fun h=>h[i]? = some (.lst xs)) | _=>none)
 | _=>none
def anu (x y:D) (h:Hd):R Itm:=match srcOf x h,srcOf y h with
 | some (xs,c1),some (ys,c2)=>.ok ⟨(xs.zip ys).map fun p=>.tup [p.1,p.2],fun h=>c1 h∧c2 h⟩ h
 | _,_=>.no
def ajz (f g:SE):SI:=fun τ h=>(f τ h).bind fun x h1=>(g τ h1).bind fun y h2=>anu x y h2
theorem acv {K:PySem.W.Frag} {ι:List Addr} {H:Hp} {h:Hd} {v:V} {d:D} {xs:List D} {ck:Hd→Prop} (r:Rep K ι H v d) (hr:HRep K ι H h) (e:srcOf d h=some (xs,ck)) :
  ∃ k:Srk,v=k.v∧ck h∧∀ ι' H' h',Gr ι H ι' H'→HRep K ι' H' h'→ck h'→∃ vs,its H' k=some vs∧Reps K ι' H' vs xs:=by
 cases r with
 | @tup a vs ys ha rs =>
  cases e
  exact ⟨.tup a,rfl,True.intro,fun ι' H' h' g _ _=>⟨vs,by simp [its,g.tup _ _ ha],rs.mono g⟩⟩
 | @rol a vs ys ha rs =>
  cases e
  refine ⟨.lst a,rfl,True.intro,fun ι' H' h' g _ _=>⟨vs,?_,rs.mono g⟩⟩
  obtain ⟨o,q⟩:=ha.mono g
  simp [its,q]
 | str x =>
  cases e
  exact ⟨.str x,rfl,True.intro,fun ι' H' h' g _ _=>⟨_,rfl,a4y x⟩⟩
 | @ref a i ha =>
  obtain ⟨ob,e1,e2⟩:=hr.at ha
  cases ob with
  | lst zs =>
   simp only [srcOf,e1] at e
   cases e
   refine ⟨.lst a,rfl,e1,fun ι' H' h' g hr' c=>?_⟩
   obtain ⟨us,q1,q2⟩:=hr'.obj i a _ (g.at ha) c
   exact ⟨us,by simp [its,q1],q2⟩
  | dK _=>simp only [srcOf,e1] at e;cases e
  | dT _=>simp only [srcOf,e1] at e;cases e
 | _=>cases e
theorem anv {X:Cx} {E:XD} {elts:List Expr} {x1:Nat} {tpos:Pos} {e1 e2:Expr} {f g:SE} {p pos:Pos} (hg:Gl X "zip") (hm:X.mg "zip" = none) (hb:bootBuiltins "zip" = some (.type "zip")) (ha:ME X E e1 f) (hb':ME X E e2 g)
  (h1:starEach [e1,e2] X.env=[(false,eval e1 X.env),(false,eval e2 X.env)]:=by rfl) (h2:starEach [e2] X.env=[(false,eval e2 X.env)]:=by rfl) :
  MI X E (.Tuple elts x1 tpos) (.Call (.Name "zip" p) [e1,e2] [] pos) (ajz f g):=by
 intro pins s σ H Rr I ⟨ι,τ,h,S,Rh,o⟩
 refine ant hg hm hb (p8 ha (p8 hb' a4p (by rw [h2];rfl)) (by rw [h1,h2])) h1 h2 pins s σ H Rr I ?_
 refine ⟨ι,τ,h,S,Rh,dh o fun d h1 ι1 H1 v g1 r1 hr1 o1=>?_⟩
 refine ⟨ι1,τ,h1,S.mono g1,hr1,dh o1 fun d2 h2 ι2 H2 u g2 r2 hr2 o2=>?_⟩
 unfold anu at o2
 split at o2
 ·rename_i xs c1 ys c2 q1 q2
  obtain ⟨k1,rfl,k1c,k1f⟩:=acv (r1.mono g2) hr2 q1
  obtain ⟨k2,rfl,k2c,k2f⟩:=acv r2 hr2 q2
  obtain ⟨vs1,w1,w2⟩:=k1f ι2 H2 h2 (.refl _ _) hr2 k1c
  obtain ⟨vs2,w3,w4⟩:=k2f ι2 H2 h2 (.refl _ _) hr2 k2c
  refine ⟨k1,k2,vs1,vs2,rfl,w1,w3,o2 ι2 H2 _ (.refl _ _) ?_ hr2⟩
  intro ι3 H3 h3 g3 hr3 c
  obtain ⟨us1,a1,a2⟩:=k1f ι3 H3 h3 g3 hr3 c.1
  obtain ⟨us2,a3,a4⟩:=k2f ι3 H3 h3 g3 hr3 c.2
  refine ⟨fun i d ed=>?_,us1,us2,a1,a3,?_⟩
  ·simp only [List.getElem?_map,Option.map_eq_some_iff] at ed
   obtain ⟨⟨x,y⟩,ez,rfl⟩:=ed
   obtain ⟨ex,ey⟩:=List.getElem?_zip_eq_some.mp ez
   obtain ⟨v1,b1,b2⟩:=a2.get ex
   obtain ⟨v2,b3,b4⟩:=a4.get ey
   refine ⟨⟨us1,us2,v1,v2,a1,a3,b1,b3⟩,fun x H' yl=>?_⟩
   obtain ⟨xs',ys',x',y',p,c1,c2,c3,c4,c5,rfl,rfl⟩:=yl
   rw [a1] at c1;cases c1
   rw [a3] at c2;cases c2
   rw [b1] at c3;cases c3
   rw [b3] at c4;cases c4
   exact ⟨xj c5 _, .tup o7 (.cons (b2.mono (xj c5 _)) (.cons (b4.mono (xj c5 _)) .nil)),hr3.aside c5 _⟩
  ·rw [List.length_map,List.length_zip,a2.len,a4.len]
   omega
 ·exact o2.elim
theorem anw:bootBuiltins "zip" = some (.type "zip"):=by first | exact PySem.boot_zip | exact PyProof.Rows.boot_zip | rfl
end MI
namespace MI
open PySem PySem.Spec L2
section
variable {P:Program} {w:World} {K:PySem.W.Frag} {mg:Str→Option Value} {base:Heap}
theorem ar0 {k:Nat} {f:Addr} {fd:FuncData} {ps:List Str}:FnOk P w K mg base CX0 k f fd ps (u5 K ps.length fun _ _=>.no) :=
 ⟨fun vs H Q E h=>h.1,fun A outer s H args us vs Q E hr he hb hv hs=>by obtain ⟨_,ι,ds,h,_,_,o⟩:=hs;exact o.elim⟩
end
end MI
namespace MI
open PySem PySem.Spec L2
def FrzOf (L:List Addr) (H H2:Hp):Prop:=∀ a,(a ∉ L→H2 a=H a)∧(a∈L→∃ o u,H a=some u∧H2 a=some (.frz o u))
def a7b (H:Hp) (L:List Addr):Prop:=∀ a∈L,(∃ xs,H a=some (.lst xs))∨(∃ kvs,H a=some (.dK kvs))∨∃ kvs,H a=some (.dT kvs)
def still:HO→Prop
 | .lst _=>False | .dK _=>False | .dT _=>False
 | _=>True
theorem FrzOf.still {L:List Addr} {H H2:Hp} (f:FrzOf L H H2) (ab:a7b H L) {a:Addr} {u:HO} (e:H a=some u) (st:MI.still u):H2 a=some u:=by
 rw [(f a).1 fun z=>?_]
 ·exact e
 ·rcases ab a z with ⟨_,q⟩ | ⟨_,q⟩ | ⟨_,q⟩<;>(rw [e] at q;cases q;exact st)
theorem Inv.frz {X:Cx} {pins:List (Addr × Obj)} {σ:St} {H:Hp} {s:Shared} {L:List Addr} (I:Inv X pins σ H s) (ab:a7b H L):∃ H2,FrzOf L H H2∧Inv X pins σ H2 s:=by
 have obj:∀ a∈L,∀ u,H a=some u→∃ o,s.heap.get? a=some o:=fun a ha u e=>by
  rcases ab a ha with ⟨_,q⟩ | ⟨_,q⟩ | ⟨_,q⟩
  ·obtain ⟨_,_,_,_,z⟩:=I.hok a _ q;exact ⟨_,z⟩
  ·obtain ⟨_,_,_,_,z⟩:=I.hok a _ q
   obtain ⟨o,_,_,z,_⟩:=z
   exact ⟨o,z⟩
  ·obtain ⟨_,_,_,_,o,_,_,z,_⟩:=I.hok a _ q;exact ⟨o,z⟩
 let H2:Hp:=fun a=>if a∈L then (match s.heap.get? a,H a with | some o,some u=>some (.frz o u) | _,w=>w) else H a
 have f:FrzOf L H H2:=fun a=>⟨fun h=>by simp [H2,h],fun h=>by
  obtain ⟨u,e⟩:∃ u,H a=some u:=by
   rcases ab a h with ⟨_,q⟩ | ⟨_,q⟩ | ⟨_,q⟩<;>exact ⟨_,q⟩
  obtain ⟨o,eo⟩:=obj a h u e
  exact ⟨o,u,e,by simp [H2,h,e,eo]⟩⟩
 refine ⟨H2,f,?_⟩
 have mv:∀ a u,ObjOk X.prog X.w H s.heap a u→ObjOk X.prog X.w H2 s.heap a u:=fun a u x=>x.stay (fun b v _ q=>q) (fun c q=>f.still ab q True.intro) fun c xs q=>f.still ab q True.intro
 have ok:HOk X.prog X.w H2 s.heap:=fun a u e=>by
  by_cases hl:a∈L
  ·obtain ⟨u0,e0⟩:∃ u,H a=some u:=by
    rcases ab a hl with ⟨_,q⟩ | ⟨_,q⟩ | ⟨_,q⟩<;>exact ⟨_,q⟩
   obtain ⟨o,eo⟩:=obj a hl u0 e0
   have e':H2 a=some (.frz o u0):=by simp [H2,hl,e0,eo]
   rw [e'] at e
   cases e
   exact ⟨eo,mv a u0 (I.hok a u0 e0)⟩
  ·rw [(f a).1 hl] at e
   exact mv a u (I.hok a u e)
 have fn:∀ b,H b=none→H2 b=none:=fun b n=>by
  rw [(f b).1 fun z=>?_]
  ·exact n
  ·rcases ab b z with ⟨_,q⟩ | ⟨_,q⟩ | ⟨_,q⟩<;>(rw [n] at q;cases q)
 have un:Un X.fs [] H H2 s.heap s.heap:=⟨fun b o q _ _ _=>q,fun b o q _ _ _=>⟨o.slots,q⟩,fun b o _ n _=>fn b n,fun b o q _=>⟨o,q⟩,fun b xs q=>f.still ab q True.intro,fun b o u q=>f.still ab q True.intro,fun b ps q=>⟨#[],by rw [f.still ab q True.intro];simp⟩⟩
 exact I.un (t':=s.toks) un ok
theorem a4z {X:Cx} {e:Expr} {t:TE} (h:PE X e t):PE X e (fun σ H Q=>t σ H fun v H1=>∃ L,a7b H1 L∧∀ H2,FrzOf L H1 H2→Q v H2):=fun pins s σ H Q I q =>
 thn (h pins s σ H _ I q) fun u s' ⟨v,H1,I1,r,L,ab,k⟩=>let ⟨H2,f,I2⟩:=Inv.frz I1 ab; ⟨v,H2,I2,r,k H2 f⟩
def a01 {α β:Type} (f:α→Option β):List α→Option (List β)
 | []=>some []
 | x::xs=>match f x,a01 f xs with | some y,some ys=>some (y::ys) | _,_=>none
open Classical in
noncomputable def a2t (n:Nat) (h:Hd):Nat→D→Option D
 | 0,_=>none
 | k+1,d=>if clo n d then some d else match d with
  | .tup xs=>(a01 (a2t n h k) xs).map .tup
  | .rol xs=>(a01 (a2t n h k) xs).map .rol
  | .scr xs=>(a01 (a2t n h k) xs).map .scr
  | .rod ks xs=>(a01 (a2t n h k) xs).map (.rod ks)
  | .rdT ks xs=>(a01 (a2t n h k) xs).map (.rdT ks)
  | .ref i=>match h[i]? with
   | some (.lst xs)=>(a01 (a2t n h k) xs).map .rol
   | some (.dK kvs)=>(a01 (a2t n h k) (kvs.map (·.2))).map (.rod (kvs.map (·.1)))
   | some (.dT kvs)=>(a01 (a2t n h k) (kvs.map (·.2))).map (.rdT (kvs.map (·.1)))
   | none=>none
  | _=>none
open Classical in
noncomputable def anx (n:Nat) (h:Hd) (k:Nat) (o:O):Option O:=if zm n o then some o else match o with
 | .lst xs=>(a01 (a2t n h k) xs).map .lst
 | .dK kvs=>(a01 (a2t n h k) (kvs.map (·.2))).map fun ys=>.dK ((kvs.map (·.1)).zip ys)
 | .dT kvs=>(a01 (a2t n h k) (kvs.map (·.2))).map fun ys=>.dT ((kvs.map (·.1)).zip ys)
abbrev FU:Nat:=20
noncomputable def a9c (n:Nat):R D→R D
 | .ok d h1=>match a2t n h1 FU d,a01 (anx n h1 FU) (h1.take n) with | some d',some g=>.ok d' g | _,_=>.no
 | _=>.no
open Classical in
noncomputable def alh (n:Nat):R D→R D
 | .ok (.ref i) h1=>(match h1[i]? with
   | some o=>if n≤i∧zm n o∧∀ u∈h1.take n,zm n u then .ok (.ref n) (h1.take n++[o]) else .no
   | none=>.no)
 | _=>.no
section
variable {K:PySem.W.Frag} {ι ι':List Addr} {H H' H2:Hp} {h1:Hd} {n:Nat} {L:List Addr}
theorem a9d (f:FrzOf L H' H2) (ab:a7b H' L) (κ:List Addr):Gw κ H' κ H2:=⟨⟨[],by simp⟩,fun a vs e=>f.still ab e True.intro,fun a o u e=>f.still ab e True.intro⟩
theorem my {K:PySem.W.Frag} {ι κ:List Addr} {H H2:Hp} {f:D→Option D} (ih:∀ {v d d'},Rep K ι H v d→f d=some d'→Rep K κ H2 v d'):∀ {vs:List V} {ds ds':List D},Reps K ι H vs ds→a01 f ds=some ds'→Reps K κ H2 vs ds'
 | _,_,_, .nil,e=>by cases e;exact .nil
 | _,x::xs,_, .cons r rs,e=>by
  unfold a01 at e
  split at e
  ·rename_i y ys h1 h2
   cases e
   exact .cons (ih r h1) (my ih rs h2)
  ·cases e
theorem a65 (hr:HRep K ι' H' h1) (hL:∀ (i:Nat) a,ι'[i]? = some a→n≤i→a∈L) (f:FrzOf L H' H2) (ab:a7b H' L):∀ (k:Nat) {v:V} {d d':D},Rep K ι' H' v d→a2t n h1 k d=some d'→Rep K (ι'.take n) H2 v d':=by
 intro k
 induction k with
 | zero=>intro v d d' r e;cases e
 | succ k ih =>
  intro v d d' r e
  unfold a2t at e
  split at e
  ·rename_i c
   cases e
   exact (r.cut c).monoW (a9d f ab _)
  ·rename_i c
   cases r with
   | tup h rs =>
    simp only [Option.map_eq_some_iff] at e
    obtain ⟨ys,e1,rfl⟩:=e
    exact .tup (f.still ab h True.intro) (my (fun r e=>ih r e) rs e1)
   | rol h rs =>
    simp only [Option.map_eq_some_iff] at e
    obtain ⟨ys,e1,rfl⟩:=e
    exact .rol (h.monoW (a9d f ab ι')) (my (fun r e=>ih r e) rs e1)
   | scr h rs =>
    simp only [Option.map_eq_some_iff] at e
    obtain ⟨ys,e1,rfl⟩:=e
    exact .scr (h.monoW (a9d f ab ι')) (my (fun r e=>ih r e) rs e1)
   | rod h ek rs =>
    simp only [Option.map_eq_some_iff] at e
    obtain ⟨ys,e1,rfl⟩:=e
    exact .rod (f.still ab h True.intro) ek (my (fun r e=>ih r e) rs e1)
   | rdT h ek rs =>
    simp only [Option.map_eq_some_iff] at e
    obtain ⟨ys,e1,rfl⟩:=e
    exact .rdT (f.still ab h True.intro) ek (my (fun r e=>ih r e) rs e1)
   | @ref a i ha =>
    have hi:n≤i:=by
     simp only [clo] at c
     omega
    obtain ⟨o,u,e1,e2⟩:=(f a).2 (hL i a ha hi)
    obtain ⟨ob,h3,h4⟩:=hr.at ha
    simp only [h3] at e
    cases ob with
    | lst xs =>
     simp only [Option.map_eq_some_iff] at e
     obtain ⟨ys,e3,rfl⟩:=e
     obtain ⟨vs,h5,h6⟩:=h4
     rw [e1] at h5;cases h5
     exact .rol ⟨o,e2⟩ (my (fun r e=>ih r e) h6 e3)
    | dK kvs =>
     simp only [Option.map_eq_some_iff] at e
     obtain ⟨ys,e3,rfl⟩:=e
     obtain ⟨us,h5,h6,h7⟩:=h4
     rw [e1] at h5;cases h5
     exact .rod e2 h6 (my (fun r e=>ih r e) h7 e3)
    | dT kvs =>
     simp only [Option.map_eq_some_iff] at e
     obtain ⟨ys,e3,rfl⟩:=e
     obtain ⟨us,h5,h6,h7⟩:=h4
     rw [e1] at h5;cases h5
     exact .rdT e2 h6 (my (fun r e=>ih r e) h7 e3)
   | non=>simp only [clo,not_true_eq_false] at c
   | exc _ _ _=>simp only [clo,not_true_eq_false] at c
   | bl b=>simp only [clo,not_true_eq_false] at c
   | int b=>simp only [clo,not_true_eq_false] at c
   | str b=>simp only [clo,not_true_eq_false] at c
   | ty b=>simp only [clo,not_true_eq_false] at c
theorem a9e {κ:Type} {H:Hp} {us:List (κ × V)} {ks:List κ} {ys:List D} (e:us.map (·.1)=ks) (r:Reps K ι H (us.map (·.2)) ys):KRep K ι H us (ks.zip ys):=by
 have l:ks.length=ys.length:=by rw [← e,List.length_map,← r.len,List.length_map]
 refine ⟨?_,?_⟩
 ·rw [List.map_fst_zip (by omega)];exact e
 ·rw [List.map_snd_zip (by omega)];exact r
theorem ak0 (hr:HRep K ι' H' h1) (hL:∀ (i:Nat) a,ι'[i]? = some a→n≤i→a∈L) (f:FrzOf L H' H2) (ab:a7b H' L) {k:Nat} {a:Addr} {o o':O} (na:a ∉ L) (r:ORep K ι' H' a o) (e:anx n h1 k o=some o'):ORep K (ι'.take n) H2 a o':=by
 have same:H2 a=H' a:=(f a).1 na
 unfold anx at e
 split at e
 ·rename_i c
  cases e
  exact (r.cut c).monoW (a9d f ab _) same
 ·cases o with
  | lst xs =>
   simp only [Option.map_eq_some_iff] at e
   obtain ⟨ys,e1,rfl⟩:=e
   obtain ⟨vs,h3,h4⟩:=r
   exact ⟨vs,by rw [same];exact h3,my (fun r e=>a65 hr hL f ab k r e) h4 e1⟩
  | dK kvs =>
   simp only [Option.map_eq_some_iff] at e
   obtain ⟨ys,e1,rfl⟩:=e
   obtain ⟨us,h3,h4,h5⟩:=r
   exact ⟨us,by rw [same];exact h3,a9e h4 (my (fun r e=>a65 hr hL f ab k r e) h5 e1)⟩
  | dT kvs =>
   simp only [Option.map_eq_some_iff] at e
   obtain ⟨ys,e1,rfl⟩:=e
   obtain ⟨us,h3,h4,h5⟩:=r
   exact ⟨us,by rw [same];exact h3,a9e h4 (my (fun r e=>a65 hr hL f ab k r e) h5 e1)⟩
theorem a08 {α β:Type} {f:α→Option β}:∀ {xs:List α} {ys:List β},a01 f xs=some ys→xs.length=ys.length∧∀ (i:Nat) y,ys[i]? = some y→∃ x,xs[i]? = some x∧f x=some y
 | [],_,e=>by cases e;exact ⟨rfl,fun i y e=>by simp at e⟩
 | x::xs,ys,e=>by
  unfold a01 at e
  split at e
  ·rename_i y ys h1 h2
   cases e
   obtain ⟨l,g⟩:=a08 h2
   refine ⟨by simp [l],fun i z e=>?_⟩
   cases i with
   | zero=>simp at e;subst e;exact ⟨x,rfl,h1⟩
   | succ i=>simpa using g i z (by simpa using e)
  ·cases e
theorem acw (hr:HRep K ι' H' h1) (M:List Addr) (hM:∀ a∈M,a∈ι'):a7b H' M:=fun a ha=>by
 obtain ⟨i,hi⟩:=List.getElem?_of_mem (hM a ha)
 obtain ⟨o,_,q⟩:=hr.at hi
 cases o with
 | lst xs=>obtain ⟨vs,h,_⟩:=q;exact .inl ⟨_,h⟩
 | dK xs=>obtain ⟨vs,h,_⟩:=q;exact .inr (.inl ⟨_,h⟩)
 | dT xs=>obtain ⟨vs,h,_⟩:=q;exact .inr (.inr ⟨_,h⟩)
theorem a3u {α:Type} {l:List α} (nd:l.Nodup) {i j:Nat} {a:α} (h1:l[i]? = some a) (h2:l[j]? = some a):i=j:=by
 obtain ⟨l1,e1⟩:=List.getElem?_eq_some_iff.mp h1
 obtain ⟨l2,e2⟩:=List.getElem?_eq_some_iff.mp h2
 rcases Nat.lt_trichotomy i j with l | l | l
 ·exact absurd (e1.trans e2.symm) (List.pairwise_iff_getElem.mp nd i j l1 l2 l)
 ·exact l
 ·exact absurd (e2.trans e1.symm) (List.pairwise_iff_getElem.mp nd j i l2 l1 l)
theorem anz (g:Gr ι H ι' H') (f:FrzOf L H' H2) (ab:a7b H' L) (hL:∀ a∈L,H a=none) {m:List Addr} (hm:∀ a∈m,H a=none):Gr ι H (ι++m) H2:=by
 refine ⟨⟨m,rfl,hm⟩,fun a vs e=>f.still ab (g.tup a vs e) True.intro,fun a o u e=>f.still ab (g.frz a o u e) True.intro,fun a u e hn=>?_,fun a u e=>?_⟩
 ·rw [(f a).1 fun z=>by rw [hL a z] at e;cases e]
  exact g.oth a u e hn
 ·obtain ⟨u',e'⟩:=g.kp a u e
  rw [(f a).1 fun z=>by rw [hL a z] at e;cases e]
  exact ⟨u',e'⟩
theorem acx {d d':D} {v:V} {g':Hd} (g:Gr ι H ι' H') (rb:Rep K ι' H' v d) (hr:HRep K ι' H' h1) (e:a9c ι.length (.ok d h1) = .ok d' g') :
  ∃ L,a7b H' L∧∀ H2,FrzOf L H' H2→Gr ι H ι H2∧Rep K ι H2 v d'∧HRep K ι H2 g':=by
 obtain ⟨m,rfl,hm⟩:=g.pre
 have tk:(ι++m).take ι.length=ι:=by simp
 have ab:a7b H' m:=acw hr m fun a ha=>List.mem_append_right _ ha
 have hL:∀ (i:Nat) a,(ι++m)[i]? = some a→ι.length≤i→a∈m:=fun i a e hi=>by
  rw [List.getElem?_append_right hi] at e
  exact List.mem_of_getElem? e
 refine ⟨m,ab,fun H2 f=>?_⟩
 unfold a9c at e
 simp only at e
 split at e
 ·rename_i dd gg e1 e2
  cases e
  refine ⟨by simpa using anz g f ab hm (m:=[]) (by simp),by have:=a65 hr hL f ab FU rb e1;rwa [tk] at this,?_⟩
  obtain ⟨l,gt⟩:=a08 e2
  have hl:=hr.len
  have ln:ι.length≤h1.length:=by rw [← hl];simp
  refine ⟨(List.nodup_append.mp hr.nd).1,by rw [← l,List.length_take];omega,fun i a o q1 q2=>?_⟩
  obtain ⟨x,hx,fx⟩:=gt i o q2
  have hi:i<ι.length:=(List.getElem?_eq_some_iff.mp q1).1
  rw [List.getElem?_take,if_pos hi] at hx
  have q3:(ι++m)[i]? = some a:=by rw [List.getElem?_append_left hi];exact q1
  have na:a ∉ m:=fun z=>(List.nodup_append.mp hr.nd).2.2 a (List.mem_of_getElem? q1) a z rfl
  have:=ak0 hr hL f ab na (hr.obj i a x q3 hx) fx
  rwa [tk] at this
 ·cases e
theorem afr {d d':D} {v:V} {g':Hd} (g:Gr ι H ι' H') (rb:Rep K ι' H' v d) (hr:HRep K ι' H' h1) (e:alh ι.length (.ok d h1) = .ok d' g') :
  ∃ b,H b=none∧Gr ι H (ι++[b]) H'∧Rep K (ι++[b]) H' v d'∧HRep K (ι++[b]) H' g':=by
 obtain ⟨m,rfl,hm⟩:=g.pre
 have tk:(ι++m).take ι.length=ι:=by simp
 have up:∀ b,Gw ι H' (ι++[b]) H':=fun b=>⟨⟨[b],rfl⟩,fun _ _ h=>h,fun _ _ _ h=>h⟩
 cases rb with
 | @ref b i hb =>
  unfold alh at e
  simp only at e
  split at e
  ·rename_i ob ho
   split at e
   ·rename_i hc
    obtain ⟨hi,c1,c2⟩:=hc
    cases e
    have hb':=hb
    rw [List.getElem?_append_right hi] at hb'
    have bm:b∈m:=List.mem_of_getElem? hb'
    obtain ⟨nd1,nd2,nd3⟩:=List.nodup_append.mp hr.nd
    have hl:=hr.len
    have ln:ι.length≤h1.length:=by rw [← hl];simp
    have lt:(h1.take ι.length).length=ι.length:=by rw [List.length_take];omega
    refine ⟨b,hm b bm,⟨⟨[b],rfl,by simpa using hm b bm⟩,g.tup,g.frz,g.oth,g.kp⟩, .ref (by simp),?_⟩
    refine ⟨List.nodup_append.mpr ⟨nd1,by simp,fun a ha c hc z=>nd3 a ha c (by rw [List.mem_singleton.mp hc];exact bm) z⟩,by simp [lt],fun j a o q1 q2=>?_⟩
    by_cases hj:j<ι.length
    ·rw [List.getElem?_append_left hj] at q1
     rw [List.getElem?_append_left (by omega)] at q2
     have q2':=q2
     rw [List.getElem?_take,if_pos hj] at q2'
     have:=(hr.obj j a o (by rw [List.getElem?_append_left hj];exact q1) q2').cut (c2 o (List.mem_of_getElem? q2))
     rw [tk] at this
     exact this.monoW (up b) rfl
    ·have hj2:j<(ι++[b]).length:=(List.getElem?_eq_some_iff.mp q1).1
     have:j=ι.length:=by simp at hj2;omega
     subst this
     rw [List.getElem?_append_right (Nat.le_refl _)] at q1
     rw [List.getElem?_append_right (by omega),lt] at q2
     simp at q1 q2
     subst q1 q2
     have:=(hr.obj i b ob hb ho).cut c1
     rw [tk] at this
     exact this.monoW (up b) rfl
   ·cases e
  ·cases e
 | _=>cases e
end
noncomputable def sZ (f:SE):SE:=fun τ h=>a9c h.length (f τ h)
abbrev atu (Q:VK):VK:=fun v H1=>∃ L,a7b H1 L∧∀ H2,FrzOf L H1 H2→Q v H2
theorem as9 {K:PySem.W.Frag} {E:XD} {fa:SE} {σ:St} {H:Hp} {Q:VK} (q:lift K E (xg K) (sZ fa) σ H Q):lift K E (xg K) fa σ H (atu Q):=by
 obtain ⟨ι,τ,h,S,Rh,o⟩:=q
 refine ⟨ι,τ,h,S,Rh,?_⟩
 unfold sZ at o
 rw [← Rh.len] at o
 cases hf:fa τ h with
 | ok d h1 =>
  rw [hf] at o
  intro ι' H' v g r hr
  cases hz:a9c ι.length (.ok d h1) with
  | ok d' g' =>
   rw [hz] at o
   obtain ⟨L,ab,k⟩:=acx g r hr hz
   refine ⟨L,ab,fun H2 f=>?_⟩
   obtain ⟨k1,k2,k3⟩:=k H2 f
   exact o ι H2 v k1 k2 k3
  | ex c hx=>unfold a9c at hz;simp only at hz;split at hz<;>cases hz
  | no=>rw [hz] at o;exact o.elim
 | ex c h1=>rw [hf] at o;exact o.elim
 | no=>rw [hf] at o;exact o.elim
theorem a4i {X:Cx} {E:XD} {e:Expr} {fa:SE} (ha:ME X E e fa):ME X E e (sZ fa):=PE.weak (a4z ha) fun σ H Q q=>as9 q
def refOf:D→Option Nat
 | .ref i=>some i
 | _=>none
def a0n (ds:List D):List Nat:=ds.filterMap refOf
def a02:Nat→List D→List D
 | _,[]=>[]
 | k,d::ds=>match d with
  | .ref _=>.ref k::a02 (k+1) ds
  | d=>d::a02 k ds
def u6:Hd→List Nat→List O→Hd
 | h,i::is,o::os=>u6 (h.set i o) is os
 | h,_,_=>h
def isRef (d:D):Prop:=∃ i,d = .ref i
open Classical in
noncomputable def ali (m:Bool) (F:SF) (ds:List D) (h:Hd):R D:=match a01 (fun i=>h[i]?) (a0n ds) with
 | none=>.no
 | some os=>if (a0n ds).Nodup∧(∀ d∈ds,clo 0 d∨isRef d)∧(∀ o∈os,zm 0 o) then
   (match (if m then alh os.length (F (a02 0 ds) os) else a9c os.length (F (a02 0 ds) os)) with
   | .ok d h1=>if ∀ o∈h1,zm 0 o then
     (if m then .ok (.ref h.length) (u6 h (a0n ds) h1++h1.drop os.length)
      else if clo 0 d then .ok d (u6 h (a0n ds) h1) else .no) else .no
   | _=>.no)
  else .no
noncomputable def m5 (m:Bool) (n:Nat) (F:SF):SF:=fun ds h=>if ds.length=n then ali m F ds h else .no
section
variable {K:PySem.W.Frag} {ι ι':List Addr} {H H' H2:Hp} {h h1:Hd} {n:Nat}
theorem ahz (κ:List Addr):Gw [] H κ H:=⟨⟨κ,rfl⟩,fun _ _ h=>h,fun _ _ _ h=>h⟩
theorem Rep.any {v:V} {d:D} (r:Rep K ι H v d) (c:MI.clo 0 d) (κ:List Addr):Rep K κ H v d:=by
 have:=r.cut c
 rw [List.take_zero] at this
 exact this.monoW (ahz κ)
theorem ORep.any {a:Addr} {o:O} (r:ORep K ι H a o) (c:zm 0 o) (κ:List Addr):ORep K κ H a o:=by
 have:=r.cut c
 rw [List.take_zero] at this
 exact this.monoW (ahz κ) rfl
theorem a7c {α:Type} (l:List α):∀ {is:List Nat},(∀ i∈is,i<l.length)→∃ ys,a01 (fun i=>l[i]?) is=some ys
 | [],_=>⟨[],rfl⟩
 | i::is,hi=>by
  obtain ⟨ys,e⟩:=a7c l (is:=is) fun j hj=>hi j (List.mem_cons_of_mem _ hj)
  have:=hi i List.mem_cons_self
  exact ⟨l[i]::ys,by unfold a01;rw [e,List.getElem?_eq_getElem this]⟩
theorem a1p:∀ {ds:List D} {vs:List V} {pre κ:List Addr},Reps K ι H vs ds→(∀ d∈ds,clo 0 d∨isRef d)→a01 (fun i=>ι[i]?) (a0n ds)=some κ→Reps K (pre++κ) H vs (a02 pre.length ds)
 | [],_,_,_, .nil,_,_=>.nil
 | d::ds,_,pre,κ, .cons r rs,hc,e=>by
  have hc':∀ d∈ds,clo 0 d∨isRef d:=fun x hx=>hc x (List.mem_cons_of_mem _ hx)
  by_cases hd:isRef d
  ·obtain ⟨i,rfl⟩:=hd
   have e':a01 (fun i=>ι[i]?) (i::a0n ds)=some κ:=e
   unfold a01 at e'
   split at e'
   ·rename_i a κ' h1 h2
    cases e'
    cases r with
    | ref ha =>
     rw [ha] at h1;cases h1
     have:=a1p (pre:=pre++[a]) rs hc' h2
     simp only [List.append_assoc,List.singleton_append,List.length_append,List.length_singleton] at this
     refine .cons (.ref ?_) this
     rw [List.getElem?_append_right (Nat.le_refl _)]
     simp
   ·cases e'
  ·have c:=(hc d List.mem_cons_self).resolve_right hd
   have e1:a0n (d::ds)=a0n ds:=by
    unfold a0n
    cases d<;>first | rfl | exact absurd ⟨_,rfl⟩ hd
   have e2:a02 pre.length (d::ds)=d::a02 pre.length ds:=by
    cases d<;>first | rfl | exact absurd ⟨_,rfl⟩ hd
   rw [e1] at e
   rw [e2]
   exact .cons (r.any c _) (a1p rs hc' e)
theorem yj:∀ {is:List Nat} {os:List O} {h:Hd},(u6 h is os).length=h.length
 | [],_,_=>by simp [u6]
 | _::_,[],_=>by simp [u6]
 | i::is,o::os,h=>by rw [u6,yj,List.length_set]
theorem a1q {i:Nat}:∀ {is:List Nat} {os:List O} {h:Hd},i ∉ is→(u6 h is os)[i]? = h[i]?
 | [],_,_,_=>by simp [u6]
 | _::_,[],_,_=>by simp [u6]
 | j::is,o::os,h,n=>by
  rw [u6,a1q fun z=>n (List.mem_cons_of_mem _ z),List.getElem?_set_ne fun z=>n (by rw [z];exact List.mem_cons_self)]
theorem a7d {i:Nat} {o:O}:∀ {is:List Nat} {os:List O} {h:Hd} {j:Nat},is.Nodup→is[j]? = some i→os[j]? = some o→i<h.length→(u6 h is os)[i]? = some o
 | [],_,_,_,_,e,_,_=>by simp at e
 | _::_,[],_,_,_,_,e,_=>by simp at e
 | k::is,o'::os,h,j,nd,e1,e2,hl=>by
  cases j with
  | zero =>
   simp at e1 e2
   subst e1 e2
   rw [u6,a1q (List.nodup_cons.mp nd).1,List.getElem?_set_self hl]
  | succ j =>
   rw [u6]
   exact a7d (j:=j) (List.nodup_cons.mp nd).2 (by simpa using e1) (by simpa using e2) (by simpa using hl)
theorem a7e {α:Type} {l:List α} (nl:l.Nodup) {is:List Nat} {ys:List α} (e:a01 (fun i=>l[i]?) is=some ys) (ni:is.Nodup):ys.Nodup:=by
 obtain ⟨le,g⟩:=a08 e
 refine List.pairwise_iff_getElem.mpr fun i j hi hj lt z=>?_
 obtain ⟨x,h1,h2⟩:=g i _ (List.getElem?_eq_getElem hi)
 obtain ⟨y,h3,h4⟩:=g j _ (List.getElem?_eq_getElem hj)
 rw [← z] at h4
 have:=a3u nl h2 h4
 subst this
 have:=a3u ni h1 h3
 omega
theorem a9f {is:List Nat} {κ m:List Addr} {g:Hd} (hr:HRep K ι H h) (e1:a01 (fun i=>ι[i]?) is=some κ) (nd:is.Nodup) (gr:Gr κ H (κ++m) H2) (hg:HRep K (κ++m) H2 g) (cg:∀ o∈g,zm 0 o) (hm:m.length≤1) :
  Gr ι H (ι++m) H2∧HRep K (ι++m) H2 (u6 h is g++g.drop κ.length):=by
 obtain ⟨l1,g1⟩:=a08 e1
 have mn:∀ a∈m,H a=none:=by
  obtain ⟨m',e,hm'⟩:=gr.pre
  rw [List.append_cancel_left e];exact hm'
 have sub:∀ a∈κ,a∈ι:=fun a ha=>by
  obtain ⟨j,hj⟩:=List.getElem?_of_mem ha
  obtain ⟨i,_,q⟩:=g1 j a hj
  exact List.mem_of_getElem? q
 have some_of:∀ a∈ι,∃ u,H a=some u:=fun a ha=>by
  obtain ⟨i,hi⟩:=List.getElem?_of_mem ha
  obtain ⟨o,_,q⟩:=hr.at hi
  obtain ⟨u,q,_⟩:=q.some
  exact ⟨u,q⟩
 have G:Gr ι H (ι++m) H2:=⟨⟨m,rfl,mn⟩,gr.tup,gr.frz,fun a u e n=>gr.oth a u e fun z=>n (sub a z),gr.kp⟩
 have lg:=hg.len
 rw [List.length_append] at lg
 refine ⟨G,?_,?_,fun j a o q1 q2=>?_⟩
 ·refine List.nodup_append.mpr ⟨hr.nd,(List.nodup_append.mp hg.nd).2.1,fun a ha b hb z=>?_⟩
  obtain ⟨u,q⟩:=some_of a ha
  rw [z,mn b hb] at q;cases q
 ·rw [List.length_append,List.length_append,yj,List.length_drop,hr.len];omega
 ·by_cases hj:j<ι.length
  ·rw [List.getElem?_append_left hj] at q1
   rw [List.getElem?_append_left (by rw [yj,← hr.len];exact hj)] at q2
   by_cases hp:j∈is
   ·obtain ⟨k,hk⟩:=List.getElem?_of_mem hp
    have hkl:k<κ.length:=by rw [← l1];exact (List.getElem?_eq_some_iff.mp hk).1
    obtain ⟨i,h3,h4⟩:=g1 k _ (List.getElem?_eq_getElem hkl)
    rw [hk] at h3;cases h3
    rw [q1] at h4
    have hkg:k<g.length:=by omega
    have e5:=a7d (h:=h) nd hk (List.getElem?_eq_getElem hkg) (by rw [← hr.len];exact hj)
    rw [e5] at q2
    cases q2
    have ea:(κ++m)[k]? = some a:=by rw [List.getElem?_append_left hkl,List.getElem?_eq_getElem hkl];exact h4.symm
    exact (hg.obj k a _ ea (List.getElem?_eq_getElem hkg)).any (cg _ (List.getElem_mem hkg)) _
   ·rw [a1q hp] at q2
    have r:=hr.obj j a o q1 q2
    obtain ⟨u,hu,_⟩:=r.some
    have na:a ∉ κ:=fun z=>by
     obtain ⟨k,hk⟩:=List.getElem?_of_mem z
     obtain ⟨i,h3,h4⟩:=g1 k a hk
     have:=a3u hr.nd q1 h4
     subst this
     exact hp (List.mem_of_getElem? h3)
    exact r.mono G (by rw [hu];exact gr.oth a u hu na)
  ·have q1':=q1
   rw [List.getElem?_append_right (by omega)] at q1
   rw [List.getElem?_append_right (by rw [yj,← hr.len];omega),yj,← hr.len,List.getElem?_drop] at q2
   have ea:(κ++m)[κ.length+(j - ι.length)]? = some a:=by rw [List.getElem?_append_right (by omega)];simpa using q1
   exact (hg.obj _ a o ea q2).any (cg o (List.mem_of_getElem? q2)) _
theorem a66 {m:Bool} {F:SF} {vs:List V} {ds:List D} {Q:VK} (r:Reps K ι H vs ds) (hr:HRep K ι H h) (o:out K X0 (xg K) ι H (m5 m n F ds h) Q) (E:XK) :
  u5 K n F vs H (fun v H1=>∃ L,a7b H1 L∧∀ H2,FrzOf L H1 H2→Q v H2) E:=by
 unfold m5 at o
 split at o
 ·rename_i hl
  refine ⟨by rw [r.len];exact hl,?_⟩
  unfold ali at o
  split at o
  ·exact o.elim
  ·rename_i os hos
   split at o
   ·rename_i hc
    obtain ⟨nd,hd,hcl⟩:=hc
    obtain ⟨l0,g0⟩:=a08 hos
    obtain ⟨κ,e1⟩:=a7c ι (is:=a0n ds) fun i hi=>by
     obtain ⟨j,hj⟩:=List.getElem?_of_mem hi
     have hjl:j<os.length:=by rw [← l0];exact (List.getElem?_eq_some_iff.mp hj).1
     obtain ⟨x,h3,h4⟩:=g0 j _ (List.getElem?_eq_getElem hjl)
     rw [hj] at h3;cases h3
     rw [hr.len]
     exact (List.getElem?_eq_some_iff.mp h4).1
    obtain ⟨l1,g1⟩:=a08 e1
    have lk:κ.length=os.length:=by omega
    have R0:Reps K κ H vs (a02 0 ds):=by simpa using a1p (pre:=[]) r hd e1
    have H0:HRep K κ H os:=by
     refine ⟨a7e hr.nd e1 nd,lk,fun j a ob q1 q2=>?_⟩
     obtain ⟨i,h3,h4⟩:=g1 j a q1
     obtain ⟨i',h5,h6⟩:=g0 j ob q2
     rw [h3] at h5;cases h5
     exact (hr.obj i a ob h4 h6).any (hcl ob (List.mem_of_getElem? q2)) _
    refine ⟨κ,a02 0 ds,os,R0,H0,?_⟩
    cases hF:F (a02 0 ds) os with
    | no=>rw [hF] at o;cases m<;>exact o.elim
    | ex c hx=>rw [hF] at o;cases m<;>exact o.elim
    | ok d h1 =>
     rw [hF] at o
     intro ι' H' v g rb hr1
     rw [← lk] at o
     cases m with
     | false =>
      simp only [Bool.false_eq_true,if_false] at o
      cases hz:a9c κ.length (.ok d h1) with
      | ok d' g' =>
       rw [hz] at o
       simp only at o
       obtain ⟨L,ab,k⟩:=acx g rb hr1 hz
       refine ⟨L,ab,fun H2 f=>?_⟩
       obtain ⟨k1,k2,k3⟩:=k H2 f
       split at o
       ·rename_i cg
        split at o
        ·rename_i cd
         have q:=a9f (m:=[]) hr e1 nd (by simpa using k1) (by simpa using k3) cg (by simp)
         have lg:=k3.len
         have dr:g'.drop κ.length=[]:=List.drop_eq_nil_of_le (by omega)
         rw [dr,List.append_nil,List.append_nil] at q
         exact o ι H2 v q.1 (k2.any cd _) q.2
        ·exact o.elim
       ·exact o.elim
      | ex c hx=>rw [hz] at o;exact o.elim
      | no=>rw [hz] at o;exact o.elim
     | true =>
      simp only [if_true] at o
      cases hz:alh κ.length (.ok d h1) with
      | ok d' g' =>
       rw [hz] at o
       simp only at o
       obtain ⟨b,hb,k1,k2,k3⟩:=afr g rb hr1 hz
       refine ⟨[],fun a ha=>(by simp at ha),fun H2 f=>?_⟩
       have e2:H2=H':=by funext a;exact (f a).1 (by simp)
       subst e2
       split at o
       ·rename_i cg
        have q:=a9f (m:=[b]) hr e1 nd k1 k3 cg (by simp)
        refine o (ι++[b]) H2 v q.1 ?_ q.2
        have hd':d' = .ref κ.length:=by
         unfold alh at hz
         split at hz
         ·rename_i i h2 hh
          injection hh with z1 z2
          split at hz
          ·split at hz
           ·injection hz with z3 z4;exact z3.symm
           ·cases hz
          ·cases hz
         ·cases hz
        subst hd'
        cases k2 with
        | ref hk =>
         rw [List.getElem?_append_right (Nat.le_refl _)] at hk
         simp at hk
         subst hk
         exact .ref (by rw [← hr.len];simp)
       ·exact o.elim
      | ex c hx=>rw [hz] at o;exact o.elim
      | no=>rw [hz] at o;exact o.elim
   ·exact o.elim
 ·exact o.elim
end
theorem dz (m:Bool) {X:Cx} {k n:Nat} {f:Addr} {fd:FuncData} {ps:List Str} {x:Str} {F:SF} {ka:SA} {e:Expr} {es:List Expr} {p pos:Pos} (G:Dn X.prog X.w X.K X.mg X.base k x ps (u5 X.K n F) f fd) (hr:Room k X.A) (hg:Gl X x) (ha:MA X X0 (e::es) ka)
  (hdb:(x == ("__debug__" : Str))=false:=by decide) (he:starEach (e::es) X.env=(false,eval e X.env)::starEach es X.env:=by rfl) (hpl:(backTo pos (starEach es X.env)).any (·.1)=false:=by rfl):ME X X0 (.Call (.Name x p) (e::es) [] pos) (sA (m5 m n F) ka):=by
 refine PE.weak (a4z (a1i G.ok hr hg G.m G.kp G.b .nil af4 ha hdb he hpl)) fun σ H Q ⟨ι,τ,h,S,Rh,o⟩=>?_
 refine ⟨ι,τ,h,S,Rh,dh o fun ds h1 ι1 H1 vs g1 r1 hr1 o1=>?_⟩
 rw [List.append_nil]
 exact a66 r1 hr1 o1 _
theorem a7f (m:Bool) {X:Cx} {k n:Nat} {f:Addr} {fd:FuncData} {ps:List Str} {x:Str} {F:SF} {p pos:Pos} (G:Dn X.prog X.w X.K X.mg X.base k x ps (u5 X.K n F) f fd) (hr:Room k X.A) (hg:Gl X x) (hdb:(x == ("__debug__" : Str))=false:=by decide) :
  ME X X0 (.Call (.Name x p) [] [] pos) (sA (m5 m n F) cj):=by
 refine PE.weak (a4z (aey G.ok hr hg G.m G.kp G.b .nil af4 hdb)) fun σ H Q ⟨ι,τ,h,S,Rh,o⟩=>?_
 exact a66 (vs:=[]) .nil Rh o E0
end MI
namespace MI
open PySem PySem.Spec L2
def aen:SS:=fun _ _=>.no
section
variable {X:Cx} {E:XD}
theorem atv {st:Stmt}:MS X E st aen:=fun _ _ _ _ _ _ ⟨_,_,_,_,_,o⟩=>o.elim
theorem a2k {st:List Stmt}:MSs X E st aen:=fun _ _ _ _ _ _ ⟨_,_,_,_,_,o⟩=>o.elim
end
theorem ao0 {X:Cx} {st:Stmt} {t:TS} (h:PS X st t):PS X st (fun D σ H=>t { D with nx:=fun σ' H1=>∃ L,a7b H1 L∧∀ H2,FrzOf L H1 H2→D.nx σ' H2 } σ H):=fun pins s σ H D I q =>
 thn (h pins s σ H _ I q) fun f s' k=>by
  cases f with
  | next =>
   obtain ⟨σ',H1,I1,L,ab,k⟩:=k
   obtain ⟨H2,f,I2⟩:=Inv.frz I1 ab
   exact ⟨σ',H2,I2,k H2 f⟩
  | brk=>exact k
  | cont=>exact k
  | ret u=>exact k
theorem ai0 {K:PySem.W.Frag} {E:XD} {f:SE} {i:Nat} {N:Ends} {σ:St} {H:Hp} (q:a3n K E (jq i f) N σ H):lift K E (xg K) f σ H (fun v H1=>N.nx (σ.set i (some v)) H1):=by
 obtain ⟨ι,τ,h,S,Rh,o⟩:=q
 exact ⟨ι,τ,h,S,Rh,yg o fun d h1 ι1 H1 v g1 r1 hr1 o1=>o1 ι1 H1 _ (.refl _ _) ((S.mono g1).set r1 i) hr1⟩
theorem ak1 {K:PySem.W.Frag} {E:XD} {fi:SI} {t:D→Option Sd} {fe:SE} {ix:List Nat} {n:Nat} {g:TG} {σ:St} {H:Hp} {Q:VK} (ht:afb K n g t) (q:lift K E (xg K) (ud fi t fe ix) σ H Q):af5 (lift K E (aqv K) fi) (qw n ix) g (lift K E (xg K) fe) σ H Q:=by
 obtain ⟨ι,τ,h,Sr,Rh,o⟩:=q
 refine ⟨ι,τ,h,Sr,Rh,dh o fun it h1 ι1 H1 J g1 r1 hr1 o1=>?_⟩
 by_cases hl:it.xs.length≤LINE
 ·rw [if_pos hl] at o1
  exact a95 r1 ht (a5v (Sr.mono g1) ix) hr1 hl o1
 ·rw [if_neg hl] at o1;exact o1.elim
theorem afs {K:PySem.W.Frag} {E:XD} {fi:SI} {t:D→Option Sd} {fc:ST} {fe:SE} {ix:List Nat} {n:Nat} {g:TG} {σ:St} {H:Hp} {Q:VK} (ht:afb K n g t) (q:lift K E (xg K) (a4v fi t fc fe ix) σ H Q):a8a (lift K E (aqv K) fi) (qw n ix) g (lift K E aja fc) (lift K E (xg K) fe) σ H Q:=by
 obtain ⟨ι,τ,h,Sr,Rh,o⟩:=q
 refine ⟨ι,τ,h,Sr,Rh,dh o fun it h1 ι1 H1 J g1 r1 hr1 o1=>?_⟩
 by_cases hl:it.xs.length≤LINE
 ·rw [if_pos hl] at o1
  exact acd r1 ht (a5v (Sr.mono g1) ix) hr1 hl o1
 ·rw [if_neg hl] at o1;exact o1.elim
section
variable {X:Cx} {E:XD} {elt tg iter cnd:Expr} {scope:Scope} {pos spos pos':Pos} {cl:List (Str × Addr)} {ts fr:List Str} {ix:List Nat} {fi:SI} {g:TG} {t:D→Option Sd} {fe:SE} {fc:ST} {i:Nat} {x:Str}
theorem ak2 (hN:X.N.Nodup) (hi':X.N[i]? = some x) (hx:Loc X.env.scope x) (hc:X.calm=true) (S:CSc X scope cl ts fr ix) (hi:MI X E tg iter fi) (hg:∀ C fp s H,PG (cxC X (ts++fr) scope cl C fp s H) tg g) (ht:afb X.K ts.length g t) (he:∀ C fp s H,ME (cxC X (ts++fr) scope cl C fp s H) E elt fe)
  (hs:∀ x,foldedSetIterable iter X.env x=pure x:=by intro _;rfl) (hsw:swapsWith (.ListComp elt [⟨tg,iter,[],0⟩] scope pos) (some (.Name x pos')) spos.line X.env=pure true:=by rfl) (hf:X.fn x=true∨X.env.scope.names.lookup x=some .local:=by first | exact .inl rfl | exact .inr rfl | assumption) :
  MS X E (.Assign [.Name x pos'] (.ListComp elt [⟨tg,iter,[],0⟩] scope pos) spos) (jq i (ud fi t fe ix)) :=
 PS.weak (af8 (te:=lift X.K E (xg X.K) fe) hN hi' hx hc S hi hg he hs hsw hf) fun N σ H q=>ak1 ht (ai0 q)
theorem aft (hN:X.N.Nodup) (hi':X.N[i]? = some x) (hx:Loc X.env.scope x) (hc:X.calm=true) (S:CSc X scope cl ts fr ix) (hi:MI X E tg iter fi) (hg:∀ C fp s H,PG (cxC X (ts++fr) scope cl C fp s H) tg g) (ht:afb X.K ts.length g t) (he:∀ C fp s H,ME (cxC X (ts++fr) scope cl C fp s H) E elt fe)
  (hq:∀ C fp s H,MT (cxC X (ts++fr) scope cl C fp s H) E cnd fc)
  (hs:∀ x,foldedSetIterable iter X.env x=pure x:=by intro _;rfl) (hsw:swapsWith (.ListComp elt [⟨tg,iter,[cnd],0⟩] scope pos) (some (.Name x pos')) spos.line X.env=pure true:=by rfl) (hf:X.fn x=true∨X.env.scope.names.lookup x=some .local:=by first | exact .inl rfl | exact .inr rfl | assumption) :
  MS X E (.Assign [.Name x pos'] (.ListComp elt [⟨tg,iter,[cnd],0⟩] scope pos) spos) (jq i (sZ (a4v fi t fc fe ix))) :=
 PS.weak (ao0 (aa8 (te:=lift X.K E (xg X.K) fe) (tc:=lift X.K E aja fc) hN hi' hx hc S hi hg he hq hs hsw hf)) fun N σ H q=>afs ht (as9 (ai0 q))
end
theorem qe {P:Program} {w:World} {K:PySem.W.Frag} {mg:Str→Option Value} {base:Heap} {x qual:Str} {st:Stmt} {f:Addr} {fd:FuncData} {N ps:List Str} {k:Nat} {b:SS} (Fu:Fun K x qual st f fd) (S:FnScope N ps (au st))
  (hb:∀ (cdv:Value) (A:Around) (outer:List Env) (s:Shared) (H:Hp) (E:XK),Room k (A.deeper (PyProof.Rows.envOfC qual (au st) s.heap.objs.size f cdv))→MSs (a0q CX0 P w K mg base N qual (au st) f cdv A outer s H E).nox X0 (iz st) b) :
  FnOk P w K mg base CX0 (k+1) f fd ps (u5 K ps.length (mq b N.length)):=anh Fu S hb fun ds h _ _ _=>Rf.same rfl
end MI
namespace MI
open PySem PySem.Spec L2 HT
theorem aae {prog:Program} {w:World} {A:Around} {E:Value→Shared→Prop} {s:Shared} {t sl:Addr} {items:Array Value} {vl vu:Value} {lo hi:Option Int} {Q:Value→Shared→Prop} (ht:PyProof.Rows.IsTup s.heap t items) (hs:s.heap.IsSliceOf sl vl vu .none) (pl:IsPart vl lo) (pu:IsPart vu hi)
  (hw:HT.sIx items.size 0 lo=0∧HT.sIx items.size items.size hi=items.size) (h:Q (.ref t) s):wpAny (model prog w) A (getItem (.ref t) (.ref sl)) Q E s:=by
 obtain ⟨os,f1,f2,f3⟩:=id hs
 have ty:s.TypeIs (.ref sl) "slice":=⟨os,f1,f2⟩
 have tt:s.TypeIs (.ref t) "tuple":=ht.typeIs
 rw [getItem]
 try apply wpAny_holding
 first | (apply wpAny_bind;apply wpAny_pure) | skip
 apply wpAny_bind;apply wpAny_sequenceKey tt (by decide)
 apply wpAny_bind
 apply wpAny_callSpecial?_slot (name:=Str.ofString "__getitem__") tt PyProof.Rows.slot_tuple_getitem
 apply wpAny_call_entry PyProof.Rows.slot_tuple_getitem tt PyProof.Rows.entry_tuple_getitem _ (PyProof.Rows.args_tuple_getitem _ _)
 change wpAny (model prog w) A.in1 (Builtin.Tuple.tupleItemsOf (.ref t)>>=_) _ _ s
 apply wpAny_bind;apply PyProof.Rows.tupleItemsOf_ ht
 apply wpAny_bind;apply wpAny_typeOf ty
 rw [if_pos (by decide)]
 apply wpAny_bind;apply HT.zc hs pl pu
 rw [hw.1,hw.2]
 dsimp only
 rw [if_pos (by simp)]
 apply wpAny_bind
 rw [Builtin.Tuple.tupleIsExact]
 apply wpAny_bind;apply wpAny_typeOf tt
 apply wpAny_pure
 rw [if_pos (by decide)]
 apply wpAny_bind;apply wpAny_rule
 apply wpAny_pure
 exact ⟨_,rfl,wpAny_pure h⟩
def asa (K:PySem.W.Frag):V→Option Int→Option Int→Hp→VK→Prop:=fun x lo hi H Q=>∃ a xs,x = .ref a∧SqT K H a xs∧whole xs.length lo hi∧Q (.ref a) H
theorem afu {X:Cx}:SlR X (asa X.K):=by
 intro pins s σ H x v vl vu lo hi sl Q I rx hs pl pu h
 obtain ⟨a,xs,rfl,hx,hw,q⟩:=h
 cases rx
 obtain ⟨its,r,ht,hz⟩:=I.tuple hx
 have hlen:its.toArray.size=xs.length:=by rw [List.size_toArray];exact r.length.symm
 exact ⟨"tuple",_,PyProof.Rows.slot_tuple_getitem.lookup,ht.typeIs,aae ht hs pl pu (by rw [hlen];exact hw) ⟨.ref a,H,I,rfl,q⟩⟩
def a9g (d:D) (lo hi:Option Int) (h:Hd):R D:=match d with
 | .tup xs=>if whole xs.length lo hi then .ok (.tup xs) h else .ok (.tup (a2f xs lo hi)) h
 | d=>gSl d lo hi h
def a0e (f:SE) (l u:SO):SE:=fun τ h=>(f τ h).bind fun d h1=>(l τ h1).bind fun lo h2=>(u τ h2).bind fun hi h3=>a9g d lo hi h3
theorem ak3 {K:PySem.W.Frag} {E:XD} {ι:List Addr} {H:Hp} {h:Hd} {x:V} {d:D} {lo hi:Option Int} {Q:VK} (rx:Rep K ι H x d) (hr:HRep K ι H h) (o:out K E (xg K) ι H (a9g d lo hi h) Q):(aqp x lo hi H Q∨aql K x lo hi H Q∨aqn K x lo hi H Q)∨asa K x lo hi H Q:=by
 cases rx with
 | @tup p vs xs hp r =>
  by_cases hc:whole xs.length lo hi
  ·simp only [a9g,if_pos hc] at o
   exact .inr ⟨p,vs,rfl,SqT.of hp,by rw [r.len];exact hc,ans o (.tup hp r) hr⟩
  ·simp only [a9g,if_neg hc] at o
   exact .inl (.inr (.inl ⟨p,vs,rfl,SqT.of hp,by rw [r.len];exact hc,a0j (a0v r lo hi) hr o⟩))
 | non=>exact o.elim
 | bl _=>exact o.elim
 | int _=>exact o.elim
 | ty _=>exact o.elim
 | str z=>exact .inl (a99 (.str z) hr o)
 | rol a b=>exact .inl (a99 (.rol a b) hr o)
 | scr a b=>exact .inl (a99 (.scr a b) hr o)
 | rod a b c=>exact o.elim
 | rdT a b c=>exact o.elim
 | exc a b c=>exact o.elim
 | ref a=>exact .inl (a99 (.ref a) hr o)
theorem n6 {X:Cx} {E:XD} {e:Expr} {fa:SE} {lo hi:Option Expr} {l u:SO} {p2 pos:Pos} (he:ME X E e fa) (hl:MO X E lo l) (hu:MO X E hi u):ME X E (.Subscript e (.Slice lo hi none p2) pos) (a0e fa l u):=by
 refine PE.weak (af0 ((amx.or (amq.or aj3)).or afu) he hl hu) fun σ H Q ⟨ι,τ,h,S,Rh,o⟩=>?_
 refine ⟨ι,τ,h,S,Rh,dh o fun d h1 ι1 H1 v g1 r1 hr1 o1=>?_⟩
 refine ⟨ι1,τ,h1,S.mono g1,hr1,dh o1 fun lo h2 ι2 H2 lv g2 r2 hr2 o2=>?_⟩
 refine ⟨ι2,τ,h2,(S.mono g1).mono g2,hr2,dh o2 fun hi h3 ι3 H3 hv g3 r3 hr3 o3=>?_⟩
 cases r2;cases r3
 exact ak3 ((r1.mono g2).mono g3) hr3 o3
end MI
namespace TPM
open PySem PySem.Spec PySem.W L2 HT MI
end TPM
namespace MI
open PySem PySem.Spec L2 TPM
end MI
namespace L2
open PySem PySem.Spec PyProof.Rows
end L2
namespace MI
open PySem PySem.Spec L2
def ak4 (x y:D) (h:Hd):R D:=match x,y with
 | .ref p, .int i=>(match h[p]? with | some (.lst xs)=>(match atI xs i with | some d=>.ok d h | none=>.no) | _=>.no)
 | _,_=>.no
def aaf (g:D→D→Hd→R D) (fo fi fe:SE):SS:=fun τ h=>(fo τ h).fl fun o h1=>(fi τ h1).fl fun i h2=>(ak4 o i h2).fl fun x h3=>(fe τ h3).fl fun y h4=>(g x y h4).fl fun z h5=>match put o i z h5 with | some h6=>.nx τ h6 | none=>.no
end MI
namespace TPM
open PySem PySem.Spec PySem.W L2 HT MI
theorem aag (t b:Addr) (items2:Array Value) (n n2:Nat) (dd dd2:Option Addr) (sl sl2:Array (Option Value)) :
  Meets (Builtin.«tuple.__add__» ⟨[.ref t, .ref b],[]⟩) (fun _ R s=>s.heap.get? t=some { cls:=.type "tuple",dict:=dd,data:=.seq #[] n,slots:=sl }∧s.heap.get? b=some { cls:=.type "tuple",dict:=dd2,data:=.seq items2 n2,slots:=sl2 }∧R (.ok (.ret (.ref b))) s):=by
 refine .of_wp fun prog w A R s h=>?_
 obtain ⟨hp,g,d,tk,os⟩:=s
 obtain ⟨hl,hb,h⟩:=h
 wp_walk
 refine wpAny_of_eq sub_tuple_self ?_
 wp_walk
 exact ⟨_,rfl,h⟩
def ao1 (K:PySem.W.Frag):R2:=fun x y H Q=>∃ a b ys,x = .ref a∧y = .ref b∧SqT K H a []∧SqT K H b ys∧Q (.ref b) H
theorem ak5 {X:Cx}:OpR X (binaryOp .Add) (ao1 X.K):=by
 intro pins s σ H x y v u Q I rx ry h
 obtain ⟨a,b,ys,rfl,rfl,ha,hb,q⟩:=h
 cases rx
 cases ry
 obtain ⟨its,r1,p1,_⟩:=I.tuple ha
 obtain ⟨its2,r2,p2,_⟩:=I.tuple hb
 cases r1
 obtain ⟨⟨cls,dd,data,sl⟩,ho,hc,n,hd⟩:=id p1
 obtain ⟨⟨cls2,dd2,data2,sl2⟩,ho2,hc2,n2,hd2⟩:=id p2
 simp only at hc hd hc2 hd2
 subst hc hd hc2 hd2
 exact concat_meets ⟨_,ho,rfl⟩ ⟨_,ho2,rfl⟩ noFill_tuple_add seq_tuple_add F.slot_tuple_add F.entry_tuple_add (F.args_tuple_add_2 _ _) (aag a b its2.toArray n n2 dd dd2 sl sl2) ⟨ho,ho2,⟨.ref b,H,I,rfl,q⟩⟩
end TPM
namespace MI
open PySem PySem.Spec L2 TPM
end MI
namespace TPM
open PySem PySem.Spec PySem.W L2 HT MI PyProof.Rows
end TPM
namespace MI
open PySem PySem.Spec L2 TPM
end MI
namespace L2
open PySem PySem.Spec PyProof.Rows
section
variable {X:Cx}
theorem Inv.lstR {pins:List (Addr × Obj)} {σ:St} {H:Hp} {s:Shared} {l:Addr} {xs:List V} (I:Inv X pins σ H s) (hH:Rd H l (.lst xs)):xs.length≤sizeLine∧∃ (its:List Value) (n:Nat),Vals xs its∧xs.length=its.length∧s.heap.get? l=some { cls:=.type "list",data:=.seq its.toArray n }:=by
 obtain ⟨z,its,n,r,e⟩:=hH.ok I.hok
 exact ⟨z,its,n,r,r.length,e⟩
def ak6:R2:=fun x y H Q=>∃ l b xs zs,x = .ref l∧y = .ref b∧Rd H l (.lst xs)∧Rd H b (.lst zs)∧xs.length+zs.length≤sizeLine∧∀ p,H p=none→Q (.ref p) (upd H p (.lst (xs++zs)))
theorem ak7:OpR X (binaryOp .Add) ak6:=fun pins s σ H x y v u Q I rx ry ⟨l,b,xs,zs,ex,ey,h1,h2,hz,q⟩=>by
 subst ex ey
 cases rx
 cases ry
 obtain ⟨_,as,_,va,la,ea⟩:=I.lstR h1
 obtain ⟨_,bs,_,vb,lb,eb⟩:=I.lstR h2
 have app:as.toArray++bs.toArray=(as++bs).toArray:=by simp
 refine PySem.P.add_list ea eb ?_ (by simp;omega)
 rw [app]
 exact ⟨.ref _,_,I.lnew (t':=s.toks) (va.append vb) (by simpa using hz),rfl,q _ I.fresh⟩
def ao2:R2:=fun x y H Q=>∃ l k xs,x = .ref l∧y = .int k∧Rd H l (.lst xs) ∧ -(2 ^ 63)≤k∧k<2 ^ 63∧xs.length*k.toNat≤sizeLine∧∀ p,H p=none→Q (.ref p) (upd H p (.lst (List.replicate k.toNat xs).flatten))
theorem ak8 (its:List Value) (k:Nat):List.foldl (fun x1 x2=>x1++x2) #[] (List.replicate (if its.toArray.isEmpty=true then 0 else k) its.toArray)=(List.replicate k its).flatten.toArray:=by
 have g:∀ m:Nat,List.foldl (fun x1 x2=>x1++x2) #[] (List.replicate m its.toArray)=(List.replicate m its).flatten.toArray:=fun m=>by simpa using foldl_rep its m []
 cases its with
 | nil=>simp
 | cons a r=>rw [if_neg (by simp),g]
theorem ak9:OpR X (binaryOp .Mult) ao2:=fun pins s σ H x y v u Q I rx ry ⟨l,k,xs,ex,ey,h1,k1,k2,hz,q⟩=>by
 subst ex ey
 cases rx
 obtain ⟨t,rfl⟩:=ry
 obtain ⟨_,as,n,va,la,ea⟩:=I.lstR h1
 have few:as.toArray.size*k.toNat≤sizeLine:=by rw [List.size_toArray,← la];exact hz
 have top:(sizeLine:Nat)≤(2 ^ 63 - 1) / 8:=by decide
 refine wpAny_binaryOp_repeat_ref (T := "list") (U := "int") (by decide) ⟨_,ea,rfl⟩ (fun s'=>typeIs_int s' k t) noFill_list_mul F.fills_int_mul F.slot_int_rmul repeat_list F.slot_int_index.lookup
  (call_meets F.slot_int_rmul (typeIs_int s k t) F.entry_int_rmul (F.args_int_rmul_2 _ _) (int___rmul___int_list k t l as.toArray n)
   ⟨ea,rfl,⟨_,ea,rfl⟩,call_meets F.slot_list_mul ⟨_,ea,rfl⟩ F.entry_list_mul (F.args_list_mul_2 _ _)
    (AutoListH.list___mul___list_int_3 l as.toArray n k t (by rw [fitsIndex_both k1 k2];exact Bool.false_ne_true) (by omega) (by rw [af1 few];exact Bool.false_ne_true)) ⟨ea,?_⟩⟩)
 rw [ak8]
 exact ⟨.ref _,_,I.lnew (t':=s.toks) (va.rep k.toNat) (by rw [len_rep,Nat.mul_comm];exact hz),rfl,q _ I.fresh⟩
end
end L2
namespace MI
open PySem PySem.Spec L2 TPM
def xu (d:D) (h:Hd):Option (List D):=match d with
 | .rol xs=>some xs
 | .ref i=>(match h[i]? with | some (.lst xs)=>some xs | _=>none)
 | _=>none
section
variable {K:PySem.W.Frag} {ι:List Addr} {H:Hp} {h:Hd}
theorem a0y {x:V} {d:D} {xs:List D} (r:Rep K ι H x d) (hr:HRep K ι H h) (e:xu d h=some xs):∃ a vs,x = .ref a∧Rd H a (.lst vs)∧Reps K ι H vs xs:=by
 cases r with
 | @rol a vs ys hp rs=>cases e;exact ⟨a,vs,rfl, .inr hp,rs⟩
 | @ref a i hp =>
  obtain ⟨ob,e1,e2⟩:=hr.at hp
  simp only [xu,e1] at e
  cases ob with
  | lst ys=>cases e;obtain ⟨vs,h3,h4⟩:=e2;exact ⟨a,vs,rfl, .inl h3,h4⟩
  | _=>cases e
 | _=>cases e
def jk:D→D→Hd→R D
 | .int i, .int j,h=>.ok (.int (i+j)) h
 | .str x, .str y,h=>if x.length+y.length≤LINE then .ok (.str (x++y)) h else .no
 | .tup [], .tup ys,h=>.ok (.tup ys) h
 | .tup (x::xs), .tup ys,h=>if (x::xs).length+ys.length≤LINE then .ok (.tup (x::xs++ys)) h else .no
 | x,y,h=>match xu x h,xu y h with
  | some xs,some ys=>if xs.length+ys.length≤LINE then .ok (.ref h.length) (h++[.lst (xs++ys)]) else .no
  | _,_=>.no
theorem a67 {x y:D} {xs ys:List D} (e1:xu x h=some xs) (e2:xu y h=some ys):jk x y h=if xs.length+ys.length≤LINE then .ok (.ref h.length) (h++[.lst (xs++ys)]) else .no:=by
 cases x<;>first | (cases e1;done) | (cases y<;>first | (cases e2;done) | (simp only [jk,e1,e2]))
theorem afv:a3p K jk (fun x y H Q=>(rI0 (fun i j=>.int (i+j)) x y H Q∨(∃ i j,x = .str i∧y = .str j∧i.length+j.length≤sizeLine∧Q (.str (i++j)) H)∨amr K x y H Q∨ak6 x y H Q)∨ao1 K x y H Q):=by
 intro E ι H h x y dx dy Q rx ry hr o
 have lists:∀ xs ys,xu dx h=some xs→xu dy h=some ys→ak6 x y H Q:=fun xs ys e1 e2=>by
  rw [a67 e1 e2] at o
  obtain ⟨a,vs,rfl,h1,h2⟩:=a0y rx hr e1
  obtain ⟨b,us,rfl,h3,h4⟩:=a0y ry hr e2
  split at o
  ·rename_i hc
   exact ⟨a,b,vs,us,rfl,rfl,h1,h3,ll (by rw [h2.len,h4.len];exact hc),zr (h2.app h4) hr o⟩
  ·exact o.elim
 cases hx:xu dx h with
 | some xs =>
  cases hy:xu dy h with
  | some ys=>exact .inl (.inr (.inr (.inr (lists xs ys hx hy))))
  | none =>
   exfalso
   cases rx<;>first | (cases hx;done) | (cases ry<;>first | (simp only [jk,hx,hy] at o;exact o) | (simp only [jk] at o;exact o))
 | none =>
  cases rx with
  | int i =>
   cases ry with
   | int j=>exact .inl (.inl ⟨i,j,rfl,rfl,ans o (.int _) hr⟩)
   | _=>exact o.elim
  | str i =>
   cases ry with
   | str j =>
    simp only [jk] at o
    split at o
    ·rename_i hc;exact .inl (.inr (.inl ⟨i,j,rfl,rfl,ll hc,ans o (.str _) hr⟩))
    ·exact o.elim
   | _=>exact o.elim
  | @tup a vs xs ha r1 =>
   cases ry with
   | @tup b us ys hb r2 =>
    cases xs with
    | nil=>cases r1;exact .inr ⟨a,b,us,rfl,rfl,SqT.of ha,SqT.of hb,ans o (.tup hb r2) hr⟩
    | cons z xs =>
     simp only [jk] at o
     split at o
     ·rename_i hc
      refine .inl (.inr (.inr (.inl ⟨a,b,vs,us,rfl,rfl,SqT.of ha,SqT.of hb,fun z=>(by subst z;cases r1),ll (by rw [r1.len,r2.len];exact hc),fun z=>?_,fun _=>?_⟩)))
      ·subst z;cases r2
       rw [List.append_nil] at o
       exact ans o (.tup ha r1) hr
      ·exact a0j (r1.app r2) hr o
     ·exact o.elim
   | _=>cases xs<;>exact o.elim
  | rol _ _=>cases hx
  | ref _=>cases ry<;>(simp only [jk,hx] at o;exact o.elim)
  | _=>cases ry<;>exact o.elim
theorem jc {X:Cx} {E:XD} {a b:Expr} {fa fb:SE} {pos:Pos} (ha:ME X E a fa) (hb:ME X E b fb):ME X E (.BinOp a .Add b pos) (s2 jk fa fb) :=
 aa9 (OpR.or (amb.or (aa1.or (aj1.or ak7))) ak5) afv ha hb
open Classical in
noncomputable def a2u:D→D→Hd→R D
 | .int i, .int j,h=>if CMul i j then .ok (.int (i*j)) h else .no
 | x, .int k,h=>match xu x h with
  | some xs=>if (-(2 ^ 63)≤k∧k<2 ^ 63)∧xs.length*k.toNat≤LINE then .ok (.ref h.length) (h++[.lst (List.replicate k.toNat xs).flatten]) else .no
  | none=>.no
 | _,_,_=>.no
theorem afw:a3p K a2u (fun x y H Q=>rI CMul (fun i j=>.int (i*j)) x y H Q∨ao2 x y H Q):=by
 intro E ι H h x y dx dy Q rx ry hr o
 cases ry with
 | int k =>
  cases hx:xu dx h with
  | some xs =>
   obtain ⟨a,vs,rfl,h1,h2⟩:=a0y rx hr hx
   have o':out K E (xg K) ι H (if (-(2 ^ 63)≤k∧k<2 ^ 63)∧xs.length*k.toNat≤LINE then .ok (.ref h.length) (h++[.lst (List.replicate k.toNat xs).flatten]) else .no) Q:=by
    cases dx<;>first | (cases hx;done) | (simp only [a2u,hx] at o;exact o)
   split at o'
   ·rename_i hc
    exact .inr ⟨a,k,vs,rfl,rfl,h1,hc.1.1,hc.1.2,ll (by rw [h2.len];exact hc.2),zr (h2.flat _) hr o'⟩
   ·exact o'.elim
  | none =>
   cases rx with
   | int i =>
    by_cases hc:CMul i k
    ·simp only [a2u,if_pos hc] at o;exact .inl ⟨i,k,rfl,rfl,hc,ans o (.int _) hr⟩
    ·simp only [a2u,if_neg hc] at o;exact o.elim
   | _=>simp only [a2u,hx] at o;exact o.elim
 | _=>cases rx<;>exact o.elim
theorem a68 {X:Cx} {E:XD} {a b:Expr} {fa fb:SE} {pos:Pos} (ha:ME X E a fa) (hb:ME X E b fb):ME X E (.BinOp a .Mult b pos) (s2 a2u fa fb):=aa9 (amd.or ak9) afw ha hb
end
end MI
namespace MI
open PySem PySem.Spec L2
def a7g (d:D) (h:Hd):Option (List Int):=match d with
 | .ref i=>(match h[i]? with | some (.lst xs)=>a4h xs | _=>none)
 | .rol xs=>a4h xs
 | _=>none
theorem acy {K:PySem.W.Frag} {ι:List Addr} {H:Hp} {h:Hd} {v:V} {d:D} {ns:List Int} (r:Rep K ι H v d) (hr:HRep K ι H h) (e:a7g d h=some ns):∃ p,v = .ref p∧SqL K H p (ns.map V.int):=by
 unfold a7g at e
 split at e
 ·cases r with
  | @ref p _ hp =>
   split at e
   ·rename_i xs hx
    obtain ⟨vs,h3,h4⟩:=hr.lst hp hx
    exact ⟨p,rfl,SqL.of (by rw [h3,a2y h4 e])⟩
   ·cases e
 ·cases r with
  | @rol p vs xs hp r=>exact ⟨p,rfl,by rw [← a2y r e];exact hp.l⟩
 ·cases e
end MI
namespace L2
open PySem PySem.Spec PyProof.Rows
end L2
namespace MI
open PySem PySem.Spec L2
end MI
namespace L2
open PySem PySem.Spec PyProof.Rows
def ixI (n:Int):List Int→Option Nat
 | []=>none
 | a::l=>if a=n then some 0 else (ixI n l).map (·+1)
theorem acz {n:Int}:∀ {l:List Int} {j:Nat},ixI n l=some j→l[j]? = some n∧∀ i,i<j→l[i]?≠some n
 | [],_,h=>by cases h
 | a::l,j,h=>by
  unfold ixI at h
  split at h
  ·rename_i e
   cases h
   exact ⟨by rw [e];rfl,fun i hi=>absurd hi (Nat.not_lt_zero i)⟩
  ·rename_i e
   obtain ⟨k,hk,rfl⟩:=Option.map_eq_some_iff.mp h
   obtain ⟨h1,h2⟩:=acz hk
   refine ⟨h1,fun i hi=>?_⟩
   cases i with
   | zero=>intro z;exact e (Option.some.inj z)
   | succ i=>exact h2 i (Nat.lt_of_succ_lt_succ hi)
theorem a9h {n:Int}:∀ {l:List Int},n∈l→∃ j,ixI n l=some j
 | [],h=>by cases h
 | a::l,h=>by
  unfold ixI
  split
  ·exact ⟨0,rfl⟩
  ·rename_i e
   rcases List.mem_cons.mp h with h | h
   ·exact absurd h.symm e
   ·obtain ⟨j,hj⟩:=a9h h
    exact ⟨j+1,by rw [hj];rfl⟩
def eqI (n:Int):Value→Bool
 | .int a _=>a == n
 | _=>false
def ad0 (K:PySem.W.Frag):V→List V→Hp→VK→Prop:=fun x vs H Q=>∃ (l:Addr) (ns:List Int) (n:Int) (j:Nat),x = .ref l∧vs=[.int n]∧SqL K H l (ns.map V.int)∧ixI n ns=some j∧Q (.int (j:Nat)) H
theorem ad1 {X:Cx}:MtR X "list.index" (ad0 X.K):=by
 intro pins s σ H x vs v us Q I rx rv h
 obtain ⟨l,ns,n,j,rfl,rfl,hq,hj,q⟩:=h
 cases rx
 obtain ⟨u,rfl,ru⟩:=rv.one
 obtain ⟨t,rfl⟩:=ru
 obtain ⟨its,r,⟨⟨cls,dict,data,slots⟩,m,e1,e2,e3,e4⟩,hz⟩:=I.list hq
 have e2:cls = .type "list":=e2
 have e3:dict=none:=e3
 have e4:data = .seq its.toArray m:=e4
 subst e2 e3 e4
 have hl:its.length=ns.length:=by have:=r.length;simp at this;omega
 have each:∀ i (h:i<its.length),∃ a t,its[i] = .int a t∧ns[i]? = some a:=fun i h=>by
  obtain ⟨y,h1,h2⟩:=r.get (show (ns.map V.int)[i]? = some (V.int (ns[i]'(by omega))) by rw [List.getElem?_map,List.getElem?_eq_getElem (by omega)];rfl)
  obtain ⟨t,rfl⟩:=h2
  exact ⟨_,t,(List.getElem?_eq_some_iff.mp h1).2,List.getElem?_eq_getElem _⟩
 obtain ⟨p1,p2⟩:=acz hj
 have jl:j<ns.length:=(List.getElem?_eq_some_iff.mp p1).1
 rw [List.length_map] at hz
 rw [sizeLine_eq] at hz
 refine call_meets F.slot_list_index ⟨_,e1,rfl⟩ F.entry_list_index (F.args_list_index_2 _ _)
  (SeqAt.list_indexAt l its.toArray m none slots (.int n t) (eqI n) j (by simp;omega) (by omega) ?_ ?_) ⟨e1,fun y hy=>?_, .int (j:Nat),H,I.tok _,⟨_,rfl⟩,q⟩
 ·obtain ⟨a,t,h1,h2⟩:=each j (by omega)
  rw [p1] at h2;cases h2
  rw [List.getElem_toArray,h1]
  exact beq_self_eq_true _
 ·intro i hi hij
  obtain ⟨a,t,h1,h2⟩:=each i (by simpa using hi)
  rw [List.getElem_toArray,h1]
  exact beq_eq_false_iff_ne.mpr fun z=>p2 i hij (by rw [h2,z])
 ·obtain ⟨i,hi,rfl⟩:=List.getElem_of_mem (List.mem_toArray.mp hy)
  obtain ⟨a,t',h1,_⟩:=each i hi
  rw [h1]
  exact SeqAt.EqAt.int_int a t' n t
end L2
namespace MI
open PySem PySem.Spec L2
def a3v (d:D) (ds:List D) (h:Hd):R D:=match a7g d h,ds with
 | some ns,[.int n]=>(match ixI n ns with | some j=>.ok (.int (j:Nat)) h | none=>.no)
 | _,_=>.no
theorem aah {K:PySem.W.Frag}:ahw K a3v (ad0 K):=by
 intro E ι H h x dx xs ds Q rx r hr o
 unfold a3v at o
 split at o
 ·rename_i ns n e
  cases r with
  | cons r rs =>
   cases r;cases rs
   split at o
   ·rename_i j hj
    obtain ⟨p,rfl,q⟩:=acy rx hr e
    exact ⟨p,ns,n,j,rfl,rfl,q,hj,ans o (.int _) hr⟩
   ·exact o.elim
 ·exact o.elim
end MI
namespace MI
open PySem PySem.Spec L2
def asb:D→Option Key
 | .int i=>some (.inl i)
 | .str x=>some (.inr x)
 | _=>none
def atw:D→Option (List Key)
 | .tup xs=>a01 asb xs
 | _=>none
def putD {κ:Type} [DecidableEq κ] (kvs:List (κ × D)) (k:κ) (d:D):List (κ × D):=if (kvs.any fun kv=>decide (kv.1=k))=true then kvs.map fun kv=>if kv.1=k then (kv.1,d) else kv else kvs++[(k,d)]
section
variable {K:PySem.W.Frag} {ι:List Addr} {H:Hp} {h:Hd}
variable {X:Cx} {E:XD} {a b e o i:Expr} {fa fb fc:SE} {pos:Pos}
def atx (o k v:D) (h:Hd):Option Hd:=match o with
 | .ref i=>(match h[i]? with
  | some (.dK kvs)=>(match asb k with | some kk=>if kvs.length<LINE then some (h.set i (.dK (putD kvs kk v))) else none | none=>none)
  | some (.dT kvs)=>(match atw k with | some kk=>if kvs.length<LINE then some (h.set i (.dT (putD kvs kk v))) else none | none=>none)
  | _=>none)
 | _=>none
def aai (fe fo fi:SE):SS:=fun τ h=>(fe τ h).fl fun v h1=>(fo τ h1).fl fun o h2=>(fi τ h2).fl fun k h3=>match atx o k v h3 with | some h4=>.nx τ h4 | none=>.no
end
end MI
namespace ZP
open PySem PySem.Spec PySem.Builtin PySem.Builtin.SmallTypes L2
end ZP
namespace MI
open PySem PySem.Spec L2 ZP
def afx (x:D) (h:Hd):R Itm:=match srcOf x h with
 | some (xs,c)=>.ok ⟨((List.range xs.length).zip xs).map fun p=>.tup [.int (p.1:Nat),p.2],c⟩ h
 | none=>.no
def aka (f:SE):SI:=fun τ h=>(f τ h).bind afx
end MI
namespace L2
open PySem PySem.Spec PyProof.Rows
end L2
namespace MI
open PySem PySem.Spec L2
end MI
namespace L2
open PySem PySem.Spec PyProof.Rows
end L2
namespace MI
open PySem PySem.Spec L2
def aty (lo:Int) (n:Nat):List D:=(List.range n).map fun i=>D.int (lo - (i:Nat))
def akb (ds:List D) (h:Hd):R Itm:=match ds with
 | [.int i, .int j, .int k]=>if k = -1∧B62 i∧B62 j then .ok ⟨aty i (i - j).toNat,fun _=>True⟩ h else .no
 | _=>.no
end MI
namespace MI
open PySem PySem.Spec L2
end MI
namespace MI
open PySem PySem.Spec L2
theorem du {α β:Type} (a:α) (h:Hd) (k:α→Hd→R β):(R.ok a h).bind k=k a h:=rfl
theorem a1r {α:Type} (a:α) (h:Hd) (k:α→Hd→Fl):(R.ok a h).fl k=k a h:=rfl
def thn (r:Fl) (g:SS):Fl:=match r with | .nx τ h=>g τ h | r=>r
theorem qm (f g:SS) (τ:Sd) (h:Hd):ie f g τ h=thn (f τ h) g:=by unfold ie thn;cases f τ h<;>rfl
theorem v9 (τ:Sd) (h:Hd) (g:SS):thn (.nx τ h) g=g τ h:=rfl
theorem a5a (d:D) (h:Hd) (g:SS):thn (.rt d h) g = .rt d h:=rfl
def toR (r:Fl):R D:=match r with | .rt d h1=>.ok d h1 | .nx _ h1=>.ok .non h1 | .ex c h1=>.ex c h1 | _=>.no
theorem j6 (b:SS) (n:Nat) (ds:List D) (h:Hd):mq b n ds h=toR (b (zy n ds) h):=by unfold mq toR;cases b (zy n ds) h<;>rfl
theorem a3w (d:D) (h:Hd):toR (.rt d h) = .ok d h:=rfl
theorem a5b (τ:Sd) (h:Hd):toR (.nx τ h) = .ok .non h:=rfl
theorem xn {n:Nat}:∀ {xs:List D},clos n xs↔∀ x∈xs,clo n x
 | []=>by simp [clos]
 | x::xs=>by simp [clos,xn (xs:=xs)]
theorem fu {n:Nat} (i:Int):clo n (.int i):=by simp [clo]
theorem gf {n:Nat} (i:Str):clo n (.str i):=by simp [clo]
theorem a2l {n:Nat} (i:Bool):clo n (.bl i):=by simp [clo]
theorem a8h {n:Nat}:clo n .non:=by simp [clo]
theorem jm {n:Nat}:clos n []:=by simp [clos]
theorem bu {n:Nat} {x:D} {xs:List D} (a:clo n x) (b:clos n xs):clos n (x::xs):=by simp only [clos];exact ⟨a,b⟩
theorem jo {n:Nat} {xs:List D} (h:clos n xs):clo n (.tup xs):=by simpa [clo] using h
theorem ww {n:Nat} {xs:List D} (h:clos n xs):clo n (.rol xs):=by simpa [clo] using h
theorem jn {α:Type} {n:Nat} {f:α→D} {l:List α} (h:∀ a∈l,clo n (f a)):clos n (l.map f):=by
 rw [xn]
 intro x hx
 obtain ⟨a,ha,rfl⟩:=List.mem_map.mp hx
 exact h a ha
mutual
theorem a9i {n m:Nat} (hm:n≤m):∀ {d:D},clo n d→clo m d
 | .non,_=>by simp [clo]
 | .bl _,_=>by simp [clo]
 | .int _,_=>by simp [clo]
 | .str _,_=>by simp [clo]
 | .ty _,_=>by simp [clo]
 | .tup xs,h=>by simp only [clo] at h ⊢;exact yp hm h
 | .rol xs,h=>by simp only [clo] at h ⊢;exact yp hm h
 | .scr xs,h=>by simp only [clo] at h ⊢;exact yp hm h
 | .rod _ xs,h=>by simp only [clo] at h ⊢;exact yp hm h
 | .rdT _ xs,h=>by simp only [clo] at h ⊢;exact yp hm h
 | .exc _,_=>by simp [clo]
 | .ref i,h=>by simp only [clo] at h ⊢;omega
theorem yp {n m:Nat} (hm:n≤m):∀ {xs:List D},clos n xs→clos m xs
 | [],_=>by simp [clos]
 | x::xs,h=>by simp only [clos] at h ⊢;exact ⟨a9i hm h.1,yp hm h.2⟩
end
theorem o6 {n m:Nat} (hm:n≤m) {o:O} (h:zm n o):zm m o:=by
 cases o with
 | lst xs=>exact yp hm h
 | dK kvs=>exact yp hm h
 | dT kvs=>exact yp hm h
theorem a8i {α:Type} {f:α→Option α}:∀ {xs:List α},(∀ x∈xs,f x=some x)→a01 f xs=some xs
 | [],_=>rfl
 | x::xs,h=>by
  unfold a01
  rw [h x List.mem_cons_self,a8i fun y hy=>h y (List.mem_cons_of_mem _ hy)]
theorem a0z {n k:Nat} {h:Hd} {d:D} (c:clo n d):a2t n h (k+1) d=some d:=by unfold a2t;rw [if_pos c]
theorem afy {n k:Nat} {h:Hd} {o:O} (c:zm n o):anx n h k o=some o:=by unfold anx;rw [if_pos c]
theorem a9j {n k i:Nat} {h:Hd} {xs:List D} (hi:n≤i) (e:h[i]? = some (.lst xs)) (c:clos n xs):a2t n h (k+2) (.ref i)=some (.rol xs):=by
 unfold a2t
 rw [if_neg (by simp only [clo];omega)]
 simp only [e]
 rw [a8i fun x hx=>a0z (xn.mp c x hx)]
 rfl
theorem afz {n k:Nat} {h:Hd} {xs ys:List D} (e:a01 (a2t n h k) xs=some ys) (nc:¬ clos n xs):a2t n h (k+1) (.tup xs)=some (.tup ys):=by
 unfold a2t
 rw [if_neg (by simpa only [clo] using nc)]
 simp only [e,Option.map_some]
theorem a8j {n:Nat} {d d':D} {h1:Hd} (e:a2t n h1 FU d=some d') (c:∀ o∈h1.take n,zm n o):a9c n (.ok d h1) = .ok d' (h1.take n):=by
 unfold a9c
 simp only [e]
 rw [a8i fun o ho=>afy (c o ho)]
theorem lz {n:Nat} {d:D} {h1:Hd} (e:clo n d) (c:∀ o∈h1.take n,zm n o):a9c n (.ok d h1) = .ok d (h1.take n):=a8j (a0z e) c
theorem a1a {n i:Nat} {h1:Hd} {xs:List D} (hi:n≤i) (e:h1[i]? = some (.lst xs)) (cx:clos n xs) (c:∀ o∈h1.take n,zm n o):a9c n (.ok (.ref i) h1) = .ok (.rol xs) (h1.take n):=a8j (a9j hi e cx) c
theorem xx {f:SE} {τ:Sd} {h:Hd} {xs:List D} (e:f τ h = .ok (.ref h.length) (h++[.lst xs])) (cx:clos h.length xs) (c:∀ o∈h,zm h.length o):sZ f τ h = .ok (.rol xs) h:=by
 unfold sZ
 rw [e,a1a (Nat.le_refl _) (by simp) cx (by simpa using c)]
 simp
def Pu (F:SF) (n:Nat) (ds:List D) (d:D):Prop:=∀ h,m5 false n F ds h = .ok d h
def Dr (F:SF) (n:Nat) (ds:List D) (o:O) (d:D) (o':O):Prop:=∀ p h,h[p]? = some o→m5 false n F (.ref p::ds) h = .ok d (h.set p o')
theorem a2z:∀ {ds:List D},(∀ d∈ds,clo 0 d)→a0n ds=[]∧a02 0 ds=ds∧∀ k,a02 k ds=ds
 | [],_=>⟨rfl,rfl,fun _=>rfl⟩
 | d::ds,h=>by
  obtain ⟨a,b,c⟩:=a2z (ds:=ds) fun x hx=>h x (List.mem_cons_of_mem _ hx)
  have hd:=h d List.mem_cons_self
  have nr:refOf d=none:=by cases d<;>first | rfl | (simp only [clo] at hd;omega)
  refine ⟨?_,?_,fun k=>?_⟩
  ·simpa [a0n,nr] using a
  ·cases d<;>first | (simp only [clo] at hd;omega) | (simp only [a02,b])
  ·cases d<;>first | (simp only [clo] at hd;omega) | (simp only [a02,c])
theorem Pu.of {F:SF} {n:Nat} {ds:List D} {r:R D} {d:D} (hn:ds.length=n) (cd:∀ x∈ds,clo 0 x) (e:F ds []=r) (z:a9c 0 r = .ok d []) (c:clo 0 d):Pu F n ds d:=fun h=>by
 obtain ⟨p1,p2,_⟩:=a2z cd
 unfold m5
 rw [if_pos hn]
 unfold ali
 rw [p1]
 simp only [a01,List.length_nil,Bool.false_eq_true,if_false]
 rw [if_pos ⟨List.nodup_nil,fun x hx=>.inl (cd x hx),fun o ho=>by simp at ho⟩,p2,e,z]
 simp [c,u6]
theorem Dr.of {F:SF} {n:Nat} {ds:List D} {o o':O} {r:R D} {d:D} (hn:ds.length+1=n) (cd:∀ x∈ds,clo 0 x) (co:zm 0 o) (e:F (.ref 0::ds) [o]=r) (z:a9c 1 r = .ok d [o']) (c:clo 0 d) (co':zm 0 o'):Dr F n ds o d o':=fun p h hp=>by
 obtain ⟨p1,_,p3⟩:=a2z cd
 have e1:a0n (.ref p::ds)=[p]:=by
  have:a0n (.ref p::ds)=p::a0n ds:=rfl
  rw [this,p1]
 have e2:a02 0 (.ref p::ds) = .ref 0::ds:=by
  have:a02 0 (.ref p::ds) = .ref 0::a02 1 ds:=rfl
  rw [this,p3]
 unfold m5
 rw [if_pos (by simpa using hn)]
 unfold ali
 rw [e1]
 simp only [a01,hp,List.length_singleton,Bool.false_eq_true,if_false]
 have all:∀ x∈(D.ref p::ds),clo 0 x∨isRef x:=fun x hx=>by
  rcases List.mem_cons.mp hx with rfl | hx
  ·exact .inr ⟨p,rfl⟩
  ·exact .inl (cd x hx)
 rw [if_pos ⟨by simp,all,fun u hu=>by rw [List.mem_singleton.mp hu];exact co⟩,e2,e,z]
 simp [c,co',u6]
theorem ao3 {F:SF} {n i:Nat} {ds:List D} {o:O} {h1:Hd} (hn:ds.length=n) (cd:∀ x∈ds,clo 0 x) (e:F ds [] = .ok (.ref i) h1) (ho:h1[i]? = some o) (co:zm 0 o) (h:Hd):m5 true n F ds h = .ok (.ref h.length) (h++[o]):=by
 obtain ⟨p1,p2,_⟩:=a2z cd
 unfold m5
 rw [if_pos hn]
 unfold ali
 rw [p1]
 simp only [a01,List.length_nil,if_true]
 rw [if_pos ⟨List.nodup_nil,fun x hx=>.inl (cd x hx),fun o ho=>by simp at ho⟩,p2,e]
 unfold alh
 simp only [ho]
 rw [if_pos ⟨Nat.zero_le _,co,by simp⟩]
 simp [co,u6]
theorem ag0 (g:SG) (b:SS) (τ:Sd) (h:Hd):forL (fun _=>True) g b [] τ h = .nx τ h:=by rw [forL,if_pos True.intro]
def trn (r:Fl) (k:Sd→Hd→Fl):Fl:=match r with | .nx τ h=>k τ h | .ct τ h=>k τ h | .bk τ h=>.nx τ h | r=>r
theorem ad2 (g:SG) (b:SS) (x:D) (xs:List D) (τ τ1:Sd) (h h1:Hd) (e:g x τ h = .nx τ1 h1):forL (fun _=>True) g b (x::xs) τ h=trn (b τ1 h1) (forL (fun _=>True) g b xs):=by
 rw [forL,if_pos True.intro,e]
 dsimp only
 unfold trn
 cases b τ1 h1<;>rfl
theorem ao4 (τ:Sd) (h:Hd) (k:Sd→Hd→Fl):trn (.nx τ h) k=k τ h:=rfl
theorem ao5 (d:D) (h:Hd) (k:Sd→Hd→Fl):trn (.rt d h) k = .rt d h:=rfl
theorem a9k {g:SG} {b:SS} {α:Type} (f:α→D) (I:List α→Sd→Hd→Prop) (Rt:D→Hd→Prop):∀ (xs pre:List α) (τ:Sd) (h:Hd),
  (∀ pre' x post τ h,pre++xs=pre'++x::post→I pre' τ h→∃ τ1 h1,g (f x) τ h = .nx τ1 h1∧((∃ τ2 h2,b τ1 h1 = .nx τ2 h2∧I (pre'++[x]) τ2 h2)∨∃ d h2,b τ1 h1 = .rt d h2∧Rt d h2))→I pre τ h →
  (∃ τ' h',forL (fun _=>True) g b (xs.map f) τ h = .nx τ' h'∧I (pre++xs) τ' h')∨∃ d h',forL (fun _=>True) g b (xs.map f) τ h = .rt d h'∧Rt d h'
 | [],pre,τ,h,_,i0=>.inl ⟨τ,h,ag0 ..,by simpa using i0⟩
 | x::xs,pre,τ,h,st,i0=>by
  obtain ⟨τ1,h1,e1,q⟩:=st pre x xs τ h rfl i0
  rw [List.map_cons,ad2 _ _ _ _ _ _ _ _ e1]
  rcases q with ⟨τ2,h2,e2,i2⟩ | ⟨d,h2,e2,r⟩
  ·rw [e2,ao4]
   have:=a9k f I Rt xs (pre++[x]) τ2 h2 (fun pre' y post τ h e=>st pre' y post τ h (by simpa using e)) i2
   simpa using this
  ·rw [e2,ao5]
   exact .inr ⟨d,h2,rfl,r⟩
theorem vh {g:SG} {b:SS} {α:Type} (f:α→D) (I:List α→Sd→Hd→Prop) (xs:List α) (τ:Sd) (h:Hd)
  (st:∀ pre x post τ h,xs=pre++x::post→I pre τ h→∃ τ1 h1,g (f x) τ h = .nx τ1 h1∧∃ τ2 h2,b τ1 h1 = .nx τ2 h2∧I (pre++[x]) τ2 h2) (i0:I [] τ h) :
  ∃ τ' h',forL (fun _=>True) g b (xs.map f) τ h = .nx τ' h'∧I xs τ' h':=by
 rcases a9k f I (fun _ _=>False) xs [] τ h (fun pre' x post τ h e i=>let ⟨τ1,h1,a,b⟩:=st pre' x post τ h e i; ⟨τ1,h1,a, .inl b⟩) i0 with ⟨τ',h',a,b⟩ | ⟨_,_,_,z⟩
 ·exact ⟨τ',h',a,b⟩
 ·exact z.elim
theorem a69 {f:D→Hd→R D} {α:Type} (g:α→D) (I:List α→List D→Hd→Prop):∀ (xs pre:List α) (ys:List D) (h:Hd),
  (∀ pre' x post ys h,pre++xs=pre'++x::post→I pre' ys h→∃ y h',f (g x) h = .ok y h'∧I (pre'++[x]) (ys++[y]) h')→I pre ys h→∃ zs h',mapR (fun _=>True) f (xs.map g) h = .ok zs h'∧I (pre++xs) (ys++zs) h'
 | [],pre,ys,h,_,i0=>⟨[],h,by rw [List.map_nil,mapR,if_pos True.intro],by simpa using i0⟩
 | x::xs,pre,ys,h,st,i0=>by
  obtain ⟨y,h1,e1,i1⟩:=st pre x xs ys h rfl i0
  obtain ⟨zs,h',e2,i2⟩:=a69 g I xs (pre++[x]) (ys++[y]) h1 (fun pre' z post ys h e=>st pre' z post ys h (by simpa using e)) i1
  refine ⟨y::zs,h',?_,by simpa using i2⟩
  rw [List.map_cons,mapR,if_pos True.intro,e1]
  show (mapR _ f (xs.map g) h1).bind _=_
  rw [e2];rfl
theorem a7h {f:D→Hd→R D} {α:Type} (g F:α→D) {h:Hd}:∀ {xs:List α},(∀ x∈xs,f (g x) h = .ok (F x) h)→mapR (fun _=>True) f (xs.map g) h = .ok (xs.map F) h
 | [],_=>by rw [List.map_nil,mapR,if_pos True.intro];rfl
 | x::xs,st=>by
  rw [List.map_cons,mapR,if_pos True.intro,st x List.mem_cons_self]
  show (mapR _ f (xs.map g) h).bind _=_
  rw [a7h g F fun y hy=>st y (List.mem_cons_of_mem _ hy)];rfl
theorem a7i {f:D→Hd→R (Option D)} {α:Type} (g:α→D) (F:α→Option D) {h:Hd}:∀ {xs:List α},(∀ x∈xs,f (g x) h = .ok (F x) h)→ael (fun _=>True) f (xs.map g) h = .ok (xs.filterMap F) h
 | [],_=>by rw [List.map_nil,ael,if_pos True.intro];rfl
 | x::xs,st=>by
  rw [List.map_cons,ael,if_pos True.intro,st x List.mem_cons_self]
  show (ael _ f (xs.map g) h).bind _=_
  rw [a7i g F fun y hy=>st y (List.mem_cons_of_mem _ hy)]
  show R.ok ((F x).toList++xs.filterMap F) h=_
  cases e:F x<;>simp [List.filterMap_cons,e]
theorem akc {c:ST} {f:SS} (I:Nat→Sd→Hd→Prop) (N:Sd→Hd→Prop) (Rt:D→Hd→Prop)
  (st:∀ m τ h,I m τ h→(∃ h1,c τ h = .ok false h1∧N τ h1)∨∃ h1,c τ h = .ok true h1∧((∃ τ2 h2 m',f τ h1 = .nx τ2 h2∧m'<m∧I m' τ2 h2)∨∃ d h2,f τ h1 = .rt d h2∧Rt d h2)) :
  ∀ (m n:Nat) (τ:Sd) (h:Hd),m<n→I m τ h→(∃ τ' h',sWh c f n τ h = .nx τ' h'∧N τ' h')∨∃ d h',sWh c f n τ h = .rt d h'∧Rt d h':=by
 intro m
 induction m using Nat.strongRecOn with
 | ind m ih =>
  intro n τ h hn i0
  cases n with
  | zero=>omega
  | succ n =>
   rcases st m τ h i0 with ⟨h1,e1,q⟩ | ⟨h1,e1,q⟩
   ·exact .inl ⟨τ,h1,by rw [sWh,e1];rfl,q⟩
   ·rcases q with ⟨τ2,h2,m',e2,lt,i2⟩ | ⟨d,h2,e2,r⟩
    ·have e3:sWh c f (n+1) τ h=sWh c f n τ2 h2:=by
      rw [sWh,e1,a1r,if_pos rfl,e2]
     rw [e3]
     exact ih m' lt n τ2 h2 (by omega) i2
    ·refine .inr ⟨d,h2,?_,r⟩
     rw [sWh,e1,a1r,if_pos rfl,e2]
end MI
namespace MI
open PySem PySem.Spec L2
end MI
namespace MI
open PySem PySem.Spec L2
mutual
def toPy:D→Option PyData
 | .non=>some .none
 | .bl b=>some (.bool b)
 | .int i=>some (.int i)
 | .str x=>some (.str x)
 | .tup xs=>(akd xs).map .tuple
 | .rol xs=>(akd xs).map .list
 | .rod [] []=>some (.dict [])
 | _=>none
def akd:List D→Option (List PyData)
 | []=>some []
 | x::xs=>match toPy x,akd xs with | some p,some ps=>some (p::ps) | _,_=>none
end
mutual
def noL:D→Bool
 | .rol _=>false
 | .tup xs=>asd xs
 | _=>true
def asd:List D→Bool
 | []=>true
 | x::xs=>noL x && asd xs
end
def okR (d:D) (p:PyData):Prop:=(p.hasDict=true→noL d=true)∧p.showable=true∧p.depth≤60∧p.shown.length≤sizeLine
open Classical in
noncomputable def atz:List D→Hd→R D
 | [x],h=>(match toPy x with | some p=>if okR x p then .ok (.str p.shown) h else .no | none=>.no)
 | _,_=>.no
theorem km {X:Cx}:CallR X (.builtin "isinstance") (fun xs H Q=>∃ a o us T b,xs=[.ref a, .ty T]∧H a=some (.frz o (.dK us))∧PySem.W.kitOne X.K (.type "dict") (.type T)=some b∧Q (.bl b) H):=by
 intro pins s σ H xs us Q I r h
 obtain ⟨a,o,kv,T,b,rfl,ea,e,q⟩:=h
 obtain ⟨u,w',rfl,rx,rt⟩:=vals2 r
 cases rt
 obtain rfl:u=Value.ref a:=rx
 obtain ⟨_,_,_,vs,_,p⟩:=(show ObjOk X.prog X.w H s.heap a (.frz o (.dK kv)) from I.hok a _ ea)
 obtain ⟨o',es,ep,h1,h2,_⟩:=p
 exact PySem.W.kia_one PySem.W.kitx_dict I.kIn ⟨o',h1,h2.1⟩ e (fun z=>nomatch z) fun tk=>⟨.bl b,H,I.tok tk,rfl,q⟩
def uf:List D→Hd→R D
 | [.rod ks xs, .ty T],h=>(match a79 "dict" T with | some b=>.ok (.bl b) h | none=>.no)
 | ds,h=>aem ds h
theorem vm {K:PySem.W.Frag}:ab6 K uf (fun xs H Q=>(∃ x T t b,xs=[x, .ty T]∧TyOf K H x t∧PySem.W.kitOne K t (.type T)=some b∧Q (.bl b) H)∨∃ a o us T b,xs=[.ref a, .ty T]∧H a=some (.frz o (.dK us))∧PySem.W.kitOne K (.type "dict") (.type T)=some b∧Q (.bl b) H):=by
 intro E ι H h xs ds Q r hr o
 unfold uf at o
 split at o
 ·split at o
  ·rename_i b hb
   cases r with
   | cons r1 rs =>
    cases rs with
    | cons r2 rs2 =>
     cases rs2
     cases r2
     cases r1 with
     | rod hp ek rr=>exact .inr ⟨_,_,_,_,b,rfl,hp,a8e hb,ans o (.bl _) hr⟩
  ·exact o.elim
 ·exact .inl (ajr E ι H h xs _ Q r hr o)
end MI
namespace TPM
open PySem PySem.Spec PySem.W L2 HT MI PyProof.Rows
end TPM
namespace MI
open PySem PySem.Spec L2 TPM
end MI
namespace L2
open PySem PySem.Spec PyProof.Rows
section
variable {X:Cx}
theorem aaj (hc:X.calm=true):CallR X (.builtin "max") (fun xs H Q=>∃ (p:Addr) (ns:List Int),xs=[.ref p]∧SqT X.K H p (ns.map V.int)∧ns≠[]∧Q (.int (mxI ns)) H):=by
 intro pins s σ H xs us Q I r h
 obtain ⟨p,ns,rfl,hq,hn,q⟩:=h
 obtain ⟨u,rfl,rx⟩:=vals1 r
 cases rx
 obtain ⟨its,r',ht,hz⟩:=I.tuple hq
 have hInts:IntsAre its ns:=intsAre_of r'
 obtain ⟨prs,ep⟩:=hInts.allInts.items
 have nums:prs.toList.map (·.1)=ns:=by
  rw [← nums_intItems,← ep]
  exact hInts.numsOf
 have sz:prs.size=ns.length:=by rw [← nums,List.length_map,Array.length_toList]
 have pos:0<ns.length:=List.length_pos_iff.mpr hn
 have at':∀ j,j<ns.length→ns[j]? = some (numAt prs j):=fun j hj=>by
  rw [← nums,List.getElem?_map,Array.getElem?_toList]
  unfold numAt
  rw [Array.getElem?_eq_getElem (by omega)]
  rfl
 have hT:s.heap.IsTuple p (intItems prs):=ep ▸ ht
 have hlt:p<s.heap.objs.size:=by obtain ⟨_,e,_⟩:=hT;exact Heap.lt_size e
 refine call_max_walk (wpAny_pyIter_tuple hT ⟨_,_,_,_,_,_,_,rfl,Walks.tuple (A:=X.A.in1) (I.ok.hd hc) s.heap.objs.size p (Nat.ne_of_lt hlt) (intItems prs),⟨⟨_,Heap.get?_push_size _ rfl,rfl,rfl⟩,hT.at fun o e=>Heap.get?_push_of_some _ e⟩,fun b hb=>?_,by simp [intItems];omega,CmpOf.ints_gt (numAt prs) (fun _ _=>intItems_at),fun v h' tk hv hk=>?_⟩)
 ·show b<(s.heap.push _).objs.size
  rw [Heap.size_push]
  simp only [List.mem_cons,List.not_mem_nil,or_false] at hb
  rcases hb with rfl | rfl
  ·exact Nat.lt_succ_self _
  ·exact Nat.lt_succ_of_lt hlt
 ·have hv':(intItems prs)[argBest (fun i j=>decide (numAt prs i > numAt prs j)) (prs.size - 1)]? = some v:=by simpa [intItems] using hv
  obtain ⟨t,rfl⟩:=intItems_at hv'
  obtain ⟨b1,b2⟩:=argBest_gt (numAt prs) (prs.size - 1)
  generalize argBest (fun i j=>decide (numAt prs i > numAt prs j)) (prs.size - 1)=b at b1 b2
  have e:numAt prs b=mxI ns:=an0 (List.mem_of_getElem? (at' b (by omega))) fun x hx=>by
   obtain ⟨j,hj,rfl⟩:=List.getElem_of_mem hx
   have:=at' j hj
   rw [List.getElem?_eq_getElem hj] at this
   rw [Option.some.inj this]
   exact b2 j (by omega)
  refine ⟨.int (mxI ns),H,I.kept fun b o e=>hk b o (fun hm=>?_) (Heap.get?_push_of_some _ e),⟨t,by rw [e]⟩,q⟩
  rw [List.mem_singleton] at hm
  exact absurd (hm ▸ Heap.lt_size e) (Nat.lt_irrefl _)
end
end L2
namespace MI
open PySem PySem.Spec L2
def ad3:List D→Hd→R D
 | [.tup xs],h=>(match a4h xs with | some (n::ns)=>.ok (.int (mxI (n::ns))) h | _=>.no)
 | _,_=>.no
theorem ag1 {K:PySem.W.Frag}:ab6 K ad3 (fun xs H Q=>∃ (p:Addr) (ns:List Int),xs=[.ref p]∧SqT K H p (ns.map V.int)∧ns≠[]∧Q (.int (mxI ns)) H):=by
 intro E ι H h xs ds Q r hr o
 unfold ad3 at o
 split at o
 ·cases r with
  | cons r rs =>
   cases rs
   split at o
   ·rename_i n ns e
    cases r with
    | @tup p vs xs hp r=>exact ⟨p,n::ns,rfl,by rw [← a2y r e];exact SqT.of hp,by simp,ans o (.int _) hr⟩
   ·exact o.elim
 ·exact o.elim
theorem ao6 {xs:List Int} {h:Hd} (ne:xs≠[]):ad3 [.tup (xs.map D.int)] h = .ok (.int (mxI xs)) h:=by
 have e:∀ l:List Int,a4h (l.map D.int)=some l:=fun l=>by
  induction l with
  | nil=>rfl
  | cons a l ih=>rw [List.map_cons];simp only [a4h,ih,Option.map_some]
 unfold ad3
 simp only [e]
 cases xs with
 | nil=>exact absurd rfl ne
 | cons n ns=>rfl
end MI
namespace PN
open PySem PySem.Spec L2 MI
noncomputable def a1b:SS :=
 (uc (sA xm (aj (sZ (a0e (sV 0) oN (oS (sC (.int 63))))) (aj (sC (.int 0)) (aj (sC (.int 0)) cj)))))
noncomputable def a1s:SS :=
 (ie (sIf (sT (s2 gGt (s2 gIx (sV 0) (sC (.int 2))) (sC (.int 0))))
 (ie (jq 2 (s2 a4f (s2 gIx (sV 0) (sC (.int 2))) (sV 1)))
 (ie (a91 (s2 aac (s2 gIx (sV 0) (sC (.int 2))) (sV 1)) (sV 0) (sC (.int 2)))
 (uc (sV 2))))
 sNx)
 (ie (jq 3 (s2 gIx (sV 0) (sC (.int 1))))
 (ie (a91 (s2 jk (sV 3) (sC (.int 1))) (sV 0) (sC (.int 1)))
 (ie (jq 4 (sC (.int 5)))
 (ie (sIf (sT (s2 gGt (sA ye (aj (s2 gIx (sV 0) (sC (.int 0))) cj)) (sC (.int 0))))
 (jq 4 (s2 gIx (s2 gIx (sV 0) (sC (.int 0))) (s2 a4f (sV 3) (sA ye (aj (s2 gIx (sV 0) (sC (.int 0))) cj)))))
 sNx)
 (ie (sIf (ahm (sT (s2 gLt (sV 3) (sA ye (aj (s2 gIx (sV 0) (sC (.int 0))) cj)))) (sT (s2 gGe (sA anm (aj (sV 4) cj)) (s2 ace (sC (.int 10)) (sC (.int 18))))))
 (ie (jq 5 (s2 jk (s2 a2u (sC (.int 2)) (sA anm (aj (sV 4) cj))) (sA afh (aj (s2 gLt (sV 4) (sC (.int 0))) cj))))
 (ie (a91 (s2 aac (sV 5) (sV 1)) (sV 0) (sC (.int 2)))
 (uc (s2 a4f (sV 5) (sV 1)))))
 sNx)
 (ie (jq 6 (s2 a4f (s2 ace (s2 jk (s2 jk (s2 a4f (sV 4) (sC (.int 2147483587))) (s2 a2u (sC (.int 40709)) (sV 3))) (sC (.int 31))) (sC (.int 3))) (sC (.int 2147483647))))
 (ie (jq 6 (s2 a4f (s2 jk (s2 jk (s2 a2u (sV 6) (sV 6)) (s2 a2u (sC (.int 48271)) (sV 6))) (sV 3)) (sC (.int 2147483629))))
 (uc (s2 a4f (s2 aac (sV 6) (sC (.int 64))) (sV 1)))))))))))
noncomputable def wy:SS :=
 (ie (jq 0 (sC (.str " !\"#$&'()*+,-./0123456789:;<=>?@ABCDEFGHIJKLMNOPQRSTUVWXYZ[\\]^_`")))
 (uc (s2 jk (sV 0) (sC (.str "abcdefghijklmnopqrstuvwxyz{|}~\n")))))
noncomputable def vo (ak:SF):SS :=
 (ie (jq 5 (sA (m5 false 2 ak) (aj (sV 0) (aj (sA ye (aj (sV 1) cj)) cj))))
 (ie (jq 3 (s2 jk (sV 3) (s2 gIx (sV 1) (sV 5))))
 (jq 1 (s2 jk (a0e (sV 1) oN (oS (sV 5))) (a0e (sV 1) (oS (s2 jk (sV 5) (sC (.int 1)))) oN)))))
noncomputable def a1t (ak:SF):SS :=
 (ie (jq 3 (sC (.str "")))
 (ie (a4u (sRg a0l (aj (s2 jk (sC (.int 1)) (sA (m5 false 2 ak) (aj (sV 0) (aj (sV 2) cj)))) cj)) (kN 4) (vo ak))
 (uc (sV 3))))
noncomputable def o8:SS :=
 (sIf (sT (s2 (gIn true) (sV 6) (sV 4)))
 (qp (sML a2s (sV 4) (aj (sV 6) cj)))
 sNx)
noncomputable def ug:ST :=
 (sT (s2 gLt (sV 5) (sA ye (aj (sV 4) cj))))
noncomputable def o9:SS :=
 (ie (a4u (sIt (s2 gIx (sV 1) (s2 gIx (sV 4) (sV 5)))) (kN 6) o8)
 (jq 5 (s2 jk (sV 5) (sC (.int 1)))))
noncomputable def uh:SE :=
 (sML a3v (sV 1) (aj (sV 0) cj))
noncomputable def oh:SE :=
 (sA nu (aj (sZ (ud (sIt (s2 gIx (sV 1) (sV 0))) t1 uh [2])) cj))
noncomputable def ou:SE :=
 (s2 gIx (sV 1) (sV 0))
noncomputable def uq:SS :=
 (ie (jq 4 (sA xm (aj (sC (.int 0)) cj)))
 (ie (jq 5 (sC (.int 0)))
 (ie (sWh ug o9 100000)
 (ie (jq 3 (s2 jk (sC (.int 1)) (s2 a4f (sV 3) (sA ye (aj (sV 4) cj)))))
 (ie (jq 4 (s2 jk (sZ (s2 jk (sZ (sA xm (aj (sC (.int 0)) cj))) (sZ (a0e (sV 4) (oS (sV 3)) oN)))) (sZ (a0e (sV 4) (oS (sC (.int 1))) (oS (sV 3))))))
 (ie (jq 7 (sA nu (aj (sZ (ud (sIt (sV 4)) t1 oh [1,4])) cj)))
 (uc (sA sr (aj (sV 0) (aj (sV 7) (aj (sA nu (aj (sZ (ud (sIt (sV 4)) t1 ou [2])) cj)) cj)))))))))))
noncomputable def ur (fj:SF) (ak:SF):SE :=
 (sA (m5 false 2 ak) (aj (sV 1) (aj (sV 2) cj)))
noncomputable def qg (fj:SF) (ak:SF):SS :=
 (ie (jq 9 (ud (sIt (sV 1)) t1 (ur fj ak) [0,3]))
 (ie (sIf (sT (s2 hEq (sV 4) (sC (.int 0))))
 (a91 (sA a3s (aj (s2 jk (sV 8) (sC (.int 1))) (aj (s2 a8t (sV 3) (sC (.int 1))) cj))) (sV 9) (sA (m5 false 2 ak) (aj (sV 0) (aj (sA ye (aj (sV 9) cj)) cj))))
 sNx)
 (ie (jq 10 (sA (m5 false 2 ak) (aj (sV 0) (aj (sC (.int 6)) cj))))
 (ie (sIf (sOr (sT (s2 hEq (sV 8) (sC (.int 0)))) (sT (s2 gGt (sA (m5 false 2 ak) (aj (sV 0) (aj (sV 5) cj))) (sC (.int 0)))))
 (jq 10 (s1 a2i (sC (.int 1))))
 sNx)
 (ie (qp (sML a2s (sV 6) (aj (sV 9) cj)))
 (qp (sML a2s (sV 7) (aj (sV 10) cj))))))))
noncomputable def yq (fj:SF) (ak:SF):SS :=
 (ie (jq 3 (s2 jk (sC (.int 1)) (sA (m5 false 2 ak) (aj (sV 0) (aj (sV 2) cj)))))
 (ie (jq 4 (sA (m5 false 2 ak) (aj (sV 0) (aj (sC (.int 3)) cj))))
 (ie (jq 5 (s2 jk (sC (.int 2)) (sA (m5 false 2 ak) (aj (sV 0) (aj (sC (.int 2)) cj)))))
 (ie (jq 6 (sA xm cj))
 (ie (jq 7 (sA xm cj))
 (ie (a4u (sRg a0l (aj (sV 3) cj)) (kN 8) (qg fj ak))
 (uc (sA (sN 4 fj) (aj (sV 1) (aj (sV 6) (aj (sV 7) (aj (sA (m5 false 2 ak) (aj (sV 0) (aj (sC (.int 32)) cj))) cj))))))))))))
noncomputable def yc (ak:SF):SS :=
 (ie (jq 5 (sA (m5 false 2 ak) (aj (sV 0) (aj (sV 2) cj))))
 (ie (jq 6 (sZ (sA xm (aj (sA sr (aj (sC (.str "stay")) cj)) (aj (sA sr (aj (sC (.str "shut")) cj)) (aj (sA sr (aj (sC (.str "open")) (aj (sV 5) cj))) (aj (sA sr (aj (sC (.str "turn")) (aj (sV 5) cj))) (aj (sA sr (aj (sC (.str "shut")) cj)) (aj (sA sr (aj (sC (.str "open")) (aj (sV 5) cj))) cj)))))))))
 (qp (sML a2s (sV 3) (aj (s2 gIx (sV 6) (sA (m5 false 2 ak) (aj (sV 0) (aj (sC (.int 6)) cj)))) cj)))))
noncomputable def yr (ak:SF):SS :=
 (ie (jq 3 (sA xm cj))
 (ie (a4u (sRg a0l (aj (sV 1) cj)) (kN 4) (yc ak))
 (uc (sA nu (aj (sV 3) cj)))))
noncomputable def v7 (jy:SF) (jx:SF) (ak:SF):SS :=
 (ie (jq 6 (sA (m5 false 3 jx) (aj (sV 0) (aj (sV 1) (aj (sV 2) cj)))))
 (ie (jq 7 (s2 jk (sA ad3 (aj (s2 gIx (sV 6) (sC (.int 2))) cj)) (sC (.int 1))))
 (qp (sML a2s (sV 4) (aj (sA sr (aj (s2 gIx (sV 6) (sC (.int 1))) (aj (s2 gIx (sV 6) (sC (.int 2))) (aj (sA (m5 false 3 jy) (aj (sV 0) (aj (s2 jk (sV 7) (sA (m5 false 2 ak) (aj (sV 0) (aj (s2 a8t (sC (.int 7)) (sV 7)) cj)))) (aj (sV 3) cj)))) cj)))) cj)))))
noncomputable def vp (jy:SF) (jx:SF) (ak:SF):SS :=
 (ie (jq 3 (s2 jk (sC (.int 1)) (sA (m5 false 2 ak) (aj (sV 0) (aj (sC (.int 4)) cj)))))
 (ie (jq 4 (sA xm cj))
 (ie (a4u (sRg a0l (aj (sV 3) cj)) (kN 5) (v7 jy jx ak))
 (uc (sA sr (aj (sV 1) (aj (sA nu (aj (sV 4) cj)) cj)))))))
noncomputable def ut:SS :=
 (ie (jq 4 (s2 gIx (s2 gIx (s2 gIx (s2 gIx (s2 gIx (sV 0) (sC (.int 1))) (sV 1)) (sC (.int 0))) (sV 4)) (sMS acn (s2 gIx (sV 0) (sC (.int 0))) (aj (s2 gIx (sV 2) (sV 6)) cj))))
 (sIf (sT (s2 gGe (s2 gIx (s2 gIx (s2 gIx (s2 gIx (sV 0) (sC (.int 1))) (sV 1)) (sC (.int 1))) (sV 4)) (sC (.int 0))))
 (jq 5 (sA sr (aj (s2 gIx (s2 gIx (s2 gIx (s2 gIx (sV 0) (sC (.int 1))) (sV 1)) (sC (.int 1))) (sV 4)) (aj (s2 jk (sV 6) (sC (.int 1))) cj))))
 sNx))
noncomputable def yt:SS :=
 (ie (jq 4 (sC (.int 0)))
 (ie (jq 5 (sC .non))
 (ie (a4u (sRg a5t (aj (sV 3) (aj (sA ye (aj (sV 2) cj)) cj))) (kN 6) ut)
 (uc (sV 5)))))
noncomputable def qy (ak:SF):SE :=
 (s2 gIx (sV 2) (sA (m5 false 2 ak) (aj (sV 1) (aj (sA ye (aj (sV 2) cj)) cj))))
noncomputable def xq (ak:SF):SS :=
 (ie (jq 2 (sA (m5 false 2 ak) (aj (sV 0) (aj (s2 gIx (sZ (sA xm (aj (sC (.int 17)) (aj (sC (.int 17)) (aj (sC (.int 17)) (aj (sC (.int 17)) (aj (sC (.int 17)) (aj (sC (.int 61)) cj)))))))) (sA (m5 false 2 ak) (aj (sV 0) (aj (sC (.int 6)) cj)))) cj))))
 (uc (sMS acp (sC (.str "")) (aj (sZ (ud (sRg a0l (aj (sV 2) cj)) t1 (qy ak) [0,1])) cj))))
end PN
namespace L2
open PySem PySem.Spec PySem.W PyProof.Rows
structure Air (stack:List Env) (H:Hp) (h0 B:Heap) (a C:Addr) (t:Value) (h:Heap):Prop where
 fly:Heap.FlyingW B stack a (.ref C) t h
 bk:∀ b o,h.get? b=some o→b ∉ frs stack→(H b≠none∨∃ o0,h0.get? b=some o0)→B.get? b=some o
def CXE (P:Program) (w:World):CXT:=fun outer H s E e s' =>
 ∃ a C t B H',e = .ref a∧s'.os=s.os∧AllBare s'.gens∧Un (frs outer) [] H H' s.heap s'.heap∧HOk P w H' s'.heap∧Air outer H' s.heap B a C t s'.heap∧E (.ref C) none H'
section
variable {P:Program} {w:World} {H H':Hp} {h h':Heap}
theorem HOk.is (x:HOk P w H h) {a:Addr} {o:HO} (e:H a=some o):∃ ob,h.get? a=some ob:=by
 have:=x a o e
 cases o with
 | lst xs=>obtain ⟨_,_,_,_,e⟩:=this;exact ⟨_,e⟩
 | tup xs=>obtain ⟨_,_,_,ob,e,_⟩:=this;exact ⟨_,e⟩
 | dK kvs=>obtain ⟨_,_,_,_,o,_,_,e,_⟩:=this;exact ⟨_,e⟩
 | dT kvs=>obtain ⟨_,_,_,_,o,_,_,e,_⟩:=this;exact ⟨_,e⟩
 | set S n=>obtain ⟨o,_,_,_,e,_⟩:=this;exact ⟨_,e⟩
 | ins C dx fs=>obtain ⟨_,_,_,e,_⟩:=this;exact ⟨_,e⟩
 | own y=>exact this
 | xd fs=>obtain ⟨_,⟨_,_,_,e,_⟩,_⟩:=this;exact ⟨_,e⟩
 | rng lo hi=>obtain ⟨_,_,_,e⟩:=this;exact ⟨_,e⟩
 | frz ob u=>exact ⟨_,this.1⟩
 | tbl ps=>exact ⟨_,this⟩
 | met f y=>exact ⟨_,this⟩
 | ext φ=>exact this.2.1
theorem HOk.track (x:HOk P w H h) (k:∀ b u,H b≠none→h.get? b=some u→h'.get? b=some u):HOk P w H h':=fun a o e =>
 (x a o e).stay (fun b u hb q=>k b u (by
  rcases hb with rfl | hb
  ·rw [e];simp
  ·rw [hb];simp) q) (fun _ q=>q) fun _ _ q=>q
end
section
variable {P:Program} {w:World} {K:PySem.W.Frag} {mg:Str→Option Value} {base:Heap} {N:List Str} {qual:Str} {scope:Scope} {f:Addr} {cd:Value} {A:Around} {outer:List Env} {s0:Shared} {H0:Hp} {E:XK} {pins:List (Addr × Obj)} {σ:St} {H:Hp} {s:Shared}
abbrev cxE (P:Program) (w:World) (K:PySem.W.Frag) (mg:Str→Option Value) (base:Heap) (N:List Str) (qual:Str) (scope:Scope) (f:Addr) (cd:Value) (A:Around) (outer:List Env) (s:Shared) (H:Hp) (E:XK):Cx:=a0q (CXE P w) P w K mg base N qual scope f cd A outer s H E
theorem a9l {B:Heap} {a C:Addr} {t:Value} {h1 h2:Heap} (I:Inv (cxE P w K mg base N qual scope f cd A outer s0 H0 E) pins σ H { s with heap:=h1 }) (hB:∀ b o,h1.get? b=some o→b ∉ frs (envOfC qual scope s0.heap.objs.size f cd::outer)→(H b≠none∨∃ o0,s0.heap.get? b=some o0)→B.get? b=some o)
  (sl:∀ b o,h1.get? b=some o→b∈frs outer→∃ sl,h2.get? b=some { o with slots:=sl }) (fly:Heap.FlyingW B outer a (.ref C) t h2) (e:E (.ref C) none H):CXE P w outer H0 s0 E (.ref a) { s with heap:=h2 }:=by
 have lo:∀ b,b∈frs (envOfC qual scope s0.heap.objs.size f cd::outer)→b=s0.heap.objs.size∨b∈frs outer:=fun b hb=>by
  unfold frs at hb ⊢
  rw [List.filterMap_cons] at hb
  rcases List.mem_cons.mp hb with rfl | hb
  ·exact .inl rfl
  ·exact .inr hb
 have stk:∀ b,b∈frs (envOfC qual scope s0.heap.objs.size f cd::outer)→H b=none:=fun b hb=>I.stkFree b hb
 have old:∀ b o,s0.heap.get? b=some o→b ∉ frs outer→b ∉ frs (envOfC qual scope s0.heap.objs.size f cd::outer):=fun b o q n z=>by
  rcases lo b z with rfl | z
  ·exact absurd (Heap.lt_size q) (Nat.lt_irrefl _)
  ·exact n z
 have tr:∀ b u,H b≠none→h1.get? b=some u→h2.get? b=some u:=fun b u hn q=>fly.1 _ _ (hB b u q (fun z=>hn (stk b z)) (.inl hn))
 have ba:=I.base
 refine ⟨a,C,t,B,H,rfl,I.os,I.bare,⟨?_,?_,ba.free,?_,ba.tups,ba.frzs,ba.tbls⟩,I.hok.track tr,⟨fly,?_⟩,e⟩
 ·intro b o q n hf hx
  exact fly.1 _ _ (hB b o (ba.keep b o q n hf hx) (old b o q hf) (.inr ⟨o,q⟩))
 ·intro b o q n hf hx
  obtain ⟨s1,q1⟩:=ba.slot b o q n hf hx
  obtain ⟨s2,q2⟩:=sl b _ q1 hf
  exact ⟨s2,q2⟩
 ·intro b o q hx
  obtain ⟨o1,q1⟩:=ba.there b o q hx
  by_cases hf:b∈frs outer
  ·obtain ⟨s2,q2⟩:=sl b _ q1 hf
   exact ⟨_,q2⟩
  ·exact ⟨_,fly.1 _ _ (hB b o1 q1 (old b o q hf) (.inr ⟨o,q⟩))⟩
 ·intro b o q nf c
  have hh:b ∉ frs (envOfC qual scope s0.heap.objs.size f cd::outer):=fun z=>by
   rcases c with c | ⟨o0,c⟩
   ·exact c (stk b z)
   ·exact old b o0 c nf z
  obtain ⟨o1,q1⟩:∃ o1,h1.get? b=some o1:=by
   rcases c with c | ⟨o0,c⟩
   ·cases e1:H b with
    | none=>exact absurd e1 c
    | some u=>exact I.hok.is e1
   ·exact ba.there b o0 c (by intro z;cases z)
  have q2:=hB b o1 q1 hh c
  have q3:=fly.1 _ _ q2
  rw [q3] at q
  cases q
  exact q2
theorem a1u {X:Cx} {pins:List (Addr × Obj)} {σ:St} {H:Hp} {s:Shared} (I:Inv X pins σ H s) {b:Addr} {o:Obj} (hb:b∈frs X.stack) (q:s.heap.get? b=some o):∀ vs,o.data≠.fields vs:=by
 obtain ⟨_,o1,q1,d⟩:=I.stack.mem hb
 rw [q] at q1
 cases q1
 exact d
theorem ar3 {E':XK} (hE:∀ C H,E' (.ref C) none H→E (.ref C) none H):a3i (CXE P w) (cxE P w K mg base N qual scope f cd A outer s0 H0 E) E':=by
 rintro pins σ H s e s' I ⟨a,C,t,B,H',rfl,os,bare,un,hok,air,e⟩
 have I2:Inv (cxE P w K mg base N qual scope f cd A outer s0 H0 E) pins σ H' s':=I.call' os un hok bare (by intro b z;cases z)
 have hin:∀ b,b∈frs outer→b∈frs (envOfC qual scope s0.heap.objs.size f cd::outer):=fun b hb=>by
  unfold frs at hb ⊢
  rw [List.filterMap_cons]
  exact List.mem_cons_of_mem _ hb
 refine wpAny_leaves_onW (base:=B) I.ok.frames (L:=s0.heap.objs.size) rfl air.fly fun h2 fl up=>?_
 refine a9l (h1:=s'.heap) I2 (fun b o q nf c=>air.bk b o q nf ?_) (fun b o q hb=>up b o q (a1u I2 (hin b hb) q)) fl (hE _ _ e)
 rcases c with c | ⟨o0,c⟩
 ·exact .inl c
 ·exact .inr (I.base.there b o0 c (by intro z;cases z))
theorem ar4 {h':Heap} {a C:Addr} {args:List Value} (I:Inv (cxE P w K mg base N qual scope f cd A outer s0 H0 E) pins σ H s) (mk:Heap.MadeExcOf s.heap h' a (.ref C) args) (e:E (.ref C) none H):(cxE P w K mg base N qual scope f cd A outer s0 H0 E).xe (.ref a) { s with heap:=h' }:=by
 have hin:∀ b,b∈frs outer→b∈frs (envOfC qual scope s0.heap.objs.size f cd::outer):=fun b hb=>by
  unfold frs at hb ⊢
  rw [List.filterMap_cons]
  exact List.mem_cons_of_mem _ hb
 have st:=I.stack
 refine wpAny_leaves_madeW (base:=hideAll s.heap (frs (envOfC qual scope s0.heap.objs.size f cd::outer))) (h:=s.heap) I.ok.frames (L:=s0.heap.objs.size) rfl (fun b o q=>of_hideAll _ q) (funFrames_hide st fun env he b hb=>List.mem_filterMap.mpr ⟨env,he,hb⟩) mk fun h2 t fl tu bt up=>?_
 exact a9l (h1:=s.heap) I (fun b o q nf _=>hideAll_get _ q nf) (fun b o q hb=>up b o (mk.keeps b o q) (a1u I (hin b hb) q)) fl e
end
structure XCls (K:PySem.W.Frag) (C:Addr):Prop where
 obj:∃ (nm q:Str) (N:Addr) (bs bm:List Value) (hdct:Bool) (sn:List Str) (sub:List Value) (ab:Bool) (col:Option Bool) (dd:Option Addr) (k0 k1 k2 k3 k5:Option Value),
  K.lookup C=some (excClassObj nm q C N bs bm hdct sn sub ab col dd k0 k1 k2 k3 k5 "ValueError.__new__")∧nsOkIn K N=true∧nsIn K N "__init__" = some none∧tailIn K [.type "ValueError", .type "Exception", .type "BaseException", .type "object"] bm=true
def ao7 (t:TA) (Ex:Hp→Prop):TS:=fun _ σ H=>t σ H fun vs H1=>vs.length≤sizeLine∧Ex H1
section
variable {X:Cx} {C:Addr} {x:Str} {np cpos pos:Pos} {e:Expr} {es:List Expr} {t:TA} {Ex:Hp→Prop}
theorem ag2 (hC:XCls X.K C) (hg:Gl X x) (hm:X.mg x=some (.ref C)) (hc:X.calm=true) (ha:PA X (e::es) t)
  (lk:∀ (pins:List (Addr × Obj)) (σ:St) (H:Hp) (s:Shared) (h':Heap) (a:Addr) (args:List Value),Inv X pins σ H s→Heap.MadeExcOf s.heap h' a (.ref C) args→Ex H→X.xe (.ref a) { s with heap:=h' })
  (hdb:(x == ("__debug__" : Str))=false:=by decide) (he:starEach (e::es) X.env=(false,eval e X.env)::starEach es X.env:=by rfl) (hpl:(backTo cpos (starEach es X.env)).any (·.1)=false:=by rfl) :
  PS X (.Raise (some (.Call (.Name x np) (e::es) [] cpos)) none pos) (ao7 t Ex):=by
 intro pins s σ H D I h
 obtain ⟨nm,q,N,bs,bm,hdct,sn,sub,ab,col,dd,k0,k1,k2,k3,k5,lo,ok,ni,ti⟩:=hC.obj
 refine wpAny_Raise_call_subT (C:=C) (nm:=nm) (q:=q) (N:=N) (bs:=bs) (bm:=bm) (hdct:=hdct) (sn:=sn) (sub:=sub) (ab:=ab) (col:=col) (dd:=dd) (k0:=k0) (k1:=k1) (k2:=k2) (k3:=k3) (k5:=k5)
  PySem.F.excBase_ValueError (mN:=X.base.nsMap N) ((tail_of_in I.kIn ti).hasType PySem.F.excBase_ValueError.hasBase) (I.ok.hd hc) (by rw [he];show (false || (backTo cpos (starEach es X.env)).any (·.1))=false;rw [hpl];rfl) (nsMap_none_of_in I.ok.mod.kin ok ni) (a1h I hg hm ⟨rfl,?_⟩ hdb)
 have h2:=ha cpos pins s σ H _ I h
 rw [he] at h2 ⊢
 refine Calls.evalArgs_plain (thn h2 fun us s1 ⟨vs,H1,I1,r,z,ex⟩=>?_)
 exact ⟨rfl,by rw [← r.length];exact z,I1.kIn _ _ lo, .keeps (.of_isNs (isNs_of_in I1.ok.mod.kin ok)) I1.bk,tail_of_in I1.kIn ti,fun h' a mk=>lk pins σ H1 s1 h' a us I1 mk ex⟩
end
end L2
namespace L2
open PySem PySem.Spec PySem.W PyProof.Rows Builtin Builtin.ObjectAttr Builtin.Getset_descriptor
section
variable {prog:Program} {w:World} {A:Around} {E:Value→Shared→Prop} {s:Shared} {K:Frag} {x D:Addr} {ox:Obj} {odo:Option Obj}
structure XKit (K:Frag) (D:Addr):Prop where
 ga:findIn K (.ref D) "__getattribute__" = some (some (.builtin "BaseException.__getattribute__"))
 gn:findIn K (.ref D) "__getattr__" = some none
 cl:(clsIn K D).isSome=true
 ca:findIn K (.ref D) "__class__" = some (some (.builtin "object.__class__"))
 sp:specialIn K (.builtin "object.__class__") "__get__" = some (some (.builtin "getset_descriptor.__get__"))
 tk:takesIn K (.builtin "object.__class__")=some true
 ob:mroIn K D (.type "object")=some true
 be:subIn K (.ref D) (.type "BaseException")=some true
 kc:kitCls K (.ref D) (.ref D)=some true
abbrev ExAt (x D:Addr) (h:Heap):Prop:=∃ o,h.get? x=some o∧o.cls = .ref D
theorem ExAt.ty {M:Model} {h:Heap} (I:ExAt x D h):Looks M h (typeOf (.ref x)) (.ref D):=by
 obtain ⟨o,q,c⟩:=I
 exact c ▸ (Looks.ld q).andThen .now
theorem ake {R:Result→Shared→Prop} {tp:Value} (Z:XKit K D) (X:K.In s.heap) (I:ExAt x D s.heap) (h:R (.ok (.ret (.ref D))) s):codeAny (model prog w) A (.call (.builtin "getset_descriptor.__get__") ⟨[.builtin "object.__class__", .ref x,tp],[]⟩) R s:=by
 obtain ⟨hh,g,d,t,os⟩:=s
 have T0:=ExAt.ty (M:=model prog w) I
 have T1:=looks_mroIn (M:=model prog w) X Z.ob
 refine codeAny_call_builtin KF.slot_gs.plain KF.entry_gs (KF.slot_gs.check _ _ _ _ _ _ _ _ KF.type_class (KF.args_gs _ _ _) ?_);unfold Builtin.«getset_descriptor.__get__» descrGet;rw [dga_obj]
 refine wpAny_bind (wpAny_pure ?_);unfold descrGetter descrCheckInstance descrNameAndClass isInstance;simp only [KF.owner_class]
 repeat lk
 refine ⟨Code.quiet_builtin _ (by decide +kernel),codeAny_builtin KF.entry_class ?_⟩;unfold Builtin.«object.__class__» shownTypeOf
 repeat lk
 exact h
theorem ag3 {M:Model} {h:Heap} (Z:XKit K D) (X:K.In h):Looks M h (Builtin.ObjectAttr.find (.ref x) (.ref D) "__class__") (.bind (.builtin "getset_descriptor.__get__") (.builtin "object.__class__")):=by
 refine (looks_findIn X Z.ca).andThen (Looks.andThen (a:=some (.builtin "getset_descriptor.__get__")) (looks_specialIn X Z.sp) (Looks.andThen (a:=some (.builtin "getset_descriptor.__get__", .builtin "object.__class__")) ?_ (Looks.tag .now)))
 exact (looks_takesIn X Z.tk).andThen .now
theorem ad4 {Q:Option Value→Shared→Prop} (Z:XKit K D) (X:K.In s.heap) (I:ExAt x D s.heap) (h:Q (some (.ref D)) { s with toks:=s.toks+1 }):wpAny (model prog w) A (getAttr? (.ref x) "__class__") Q E s:=by
 obtain ⟨hh,g,d,t,os⟩:=s
 have T0:=ExAt.ty (M:=model prog w) I
 have T1:=looks_findIn (M:=model prog w) X Z.ga
 have T2:=looks_findIn (M:=model prog w) X Z.gn
 have T3:=ag3 (M:=model prog w) (x:=x) Z X
 have T4:Looks (model prog w) hh (isInstance (.ref x) (.type "BaseException")) true:=T0.andThen (looks_subIn X Z.be)
 have f3:=PySem.F.attrBase_ValueError.ga.bind (.ref x)
 have nb:(Value.builtin "BaseException.__getattribute__" == Value.builtin "object.__getattribute__")=false:=by decide +kernel
 have nh:(onTheHeap (Value.ref D) && Value.builtin "BaseException.__getattribute__" == Value.builtin "object.__getattribute__")=false:=by rw [nb];rfl
 unfold getAttr? getAttrBy? getAttrBy;refine wpAny_bind (wpAny_mkText (wpAny_bind (wpAny_attempt (wpAny_holding (wpAny_bind (T0.at (wpAny_bind (T1.at ?_))))))));dsimp only
 rw [nh,if_neg Bool.false_ne_true]
 unfold getAttrByItsOwn
 show wpAny _ _ (typeLookup (.ref D) "__getattr__">>=fun before=>_) _ _ _
 refine wpAny_bind (T2.at (wpAny_bind (wpAny_attempt (wpAny_holding ?_))))
 show wpAny _ _ (boundAndCalled _ _ _) _ _ _
 unfold boundAndCalled
 rw [f3]
 refine wpAny_bind (wpAny_pure (wpAny_call (codeAny_call_builtin PySem.F.attrBase_ValueError.ga.plain PySem.F.entry_bexc_ga ?_)))
 have k1:builtinKind "BaseException.__getattribute__" = some .slot:=by decide +kernel
 have k2:splitId "BaseException.__getattribute__" = some ("BaseException", "__getattribute__"):=by decide +kernel
 have k3:=PySem.F.args_bexc_ga (.ref x) (.str "__class__" t)
 simp only [checkBuiltinCall,k1,k2]
 show wpAny _ _ (isInstance (.ref x) (.type "BaseException")>>=fun b=>_) _ _ _
 refine wpAny_bind (T4.at ?_)
 rw [if_neg (by decide)]
 refine wpAny_mono (Q:=fun _ s'=>s'=⟨hh,g,d,t+1,os⟩) (E:=fun _ _=>False) ?_ (fun u s' e=>?_) (fun _ _ z=>z.elim)
 ·repeat (any_goals (first | assumption | rfl | wp_step))
 ·subst e
  unfold Builtin.«object.__getattribute__»
  repeat (first | with_reducible refine T0.at ?_ | with_reducible refine T3.at ?_ | wp_step)
  exact ake (s:=⟨hh,g,d,t+1,os⟩) Z X I (wpAny_pure (handed_on rfl (wpAny_pure h)))
theorem XKit.at (Z:XKit K D):∃ c o cd sl,K.lookup D=some ⟨c,o, .cls cd,sl⟩:=by
 have:=Z.cl
 unfold clsIn at this
 split at this
 ·exact ⟨_,_,_,_, ‹_›⟩
 ·cases this
theorem XKit.no (Z:XKit K D) {h:Heap} {tp:Addr} {dd:Option Addr} {its:List Value} {n:Nat} {sl:Array (Option Value)} (X:K.In h) (q:h.get? tp=some ⟨.type "tuple",dd, .seq its.toArray n,sl⟩):(Value.ref D == .ref tp)=false :=
 beq_eq_false_iff_ne.mpr fun e=>by
  obtain ⟨_,_,_,_,lo⟩:=Z.at
  rw [Value.ref.inj e] at lo
  have:=X _ _ lo
  rw [q] at this
  cases this
theorem a9m (Z:XKit K D):KitX K (.ref x) (.ref D) (ExAt x D) :=
 ⟨fun _ _ _ I=>ExAt.ty I,fun _ _ X _=>(kit_cls X Z.kc).2.1,fun _ _ _ _ _ _ X q=>Z.no X q,fun X I q=>ad4 Z X I q⟩
end
end L2
namespace L2
open PySem PySem.Spec PySem.W PyProof.Rows
section
variable {X:Cx} {pins:List (Addr × Obj)} {σ:St} {H H1 H':Hp} {s s1 s':Shared}
theorem a6a {M:Model} {A:Around} {E:Value→Shared→Prop} {i:Nat} {n:Str} {pos:Pos} {Q:Unit→Shared→Prop} (I:Inv X pins σ H s) (hN:X.N.Nodup) (hi:X.N[i]? = some n) (hk:X.env.scope.names.lookup n=some .local)
  (h:∀ s',Inv X pins (σ.set i none) H s'→Q () s'):wpAny M A (do bindName X.env n .none;unbindBehindTheSuite X.env n pos) Q E s:=by
 obtain ⟨m,hn,hl⟩:=id I.loc
 have hcls:(X.env.scope.kind == .class || (X.env.scope.kind == .module && X.env.locals != X.env.globals))=false:=by rw [I.ok.kind];rfl
 have cne:=I.cne
 obtain ⟨oL,_,_,hoL,_⟩:=id hn
 refine wpAny_nameGoes_keeps hk hn hcls fun h' v hn' hs=>h _ ?_
 have far:∀ b o,X.s₀.heap.get? b=some o→b≠X.env.locals:=fun b o e=>Nat.ne_of_lt (Nat.lt_of_lt_of_le (Heap.lt_size e) I.ok.above)
 refine ⟨I.ok,I.os,I.bare,⟨fun b o e n hb hx=>(hs.2 b (far b o e)).trans (I.base.keep b o e n hb hx),fun b o e n hb hx=>?_,I.base.free,fun b o e hx=>?_,I.base.tups,I.base.frzs,I.base.tbls⟩,⟨_,hn',fun j y v' e1 e2 e3=>?_⟩,fun y c e=>?_,I.free,I.freeC,fun p hp=>?_,I.hok.track fun b u hb q=>?_,by simpa using I.len⟩
 ·obtain ⟨sl,q⟩:=I.base.slot b o e n hb hx
  exact ⟨sl,(hs.2 b (far b o e)).trans q⟩
 ·obtain ⟨o1,q⟩:=I.base.there b o e hx
  exact ⟨o1,(hs.2 b (far b o e)).trans q⟩
 ·have ji:j≠i:=fun z=>by
   subst z
   rw [List.getElem?_set] at e2
   simp at e2
  rw [List.getElem?_set_ne (Ne.symm ji)] at e2
  obtain ⟨u',r',q⟩:=hl j y v' e1 e2 e3
  refine ⟨u',r',?_⟩
  rcases q with ⟨k,e⟩ | ⟨k,c,e,z⟩
  ·refine .inl ⟨k,?_⟩
   have:y≠n:=fun e=>ji (a5f hN e1 (e ▸ hi))
   simp [this,e]
  ·exact .inr ⟨k,c,e,z.sameBut hs (cne y c e)⟩
 ·obtain ⟨w',z⟩:=I.cell y c e
  exact ⟨w',z.sameBut hs (cne y c e)⟩
 ·obtain ⟨e,n,ne,nf,d⟩:=I.pin p hp
  exact ⟨(hs.2 p.1 ne).trans e,n,ne,nf,d⟩
 ·refine (hs.2 b fun z=>?_).trans q
  subst z
  exact hb I.free
theorem ai1 {B h5:Heap} {a C:Addr} {t:Value} (I1:Inv X pins σ H1 s1) (os:s'.os=s1.os) (bare:AllBare s'.gens) (un:Un (frs X.stack) [] H1 H' s1.heap s'.heap) (hok:HOk X.prog X.w H' s'.heap) (air:Air X.stack H' s1.heap B a C t s'.heap)
  (st:B.StaysIn h5) (up:s'.heap.UpToSlots h5) (tk:Nat):Inv X pins σ H' { s' with heap:=h5,toks:=tk }:=by
 have I2:Inv X pins σ H' s':=I1.call' os un hok bare (by intro b z;cases z)
 refine I1.call' (s':={ s' with heap:=h5,toks:=tk }) os ⟨fun b o q n hf hx=>?_,fun b o q n hf hx=>?_,un.free,fun b o q hx=>?_,un.tups,un.frzs,un.tbls⟩ (hok.track fun b u hn q=>?_) bare (by intro b z;cases z)
 ·exact st _ _ (air.bk b o (un.keep b o q n hf hx) hf (.inr ⟨o,q⟩))
 ·obtain ⟨s2,q2⟩:=un.slot b o q n hf hx
  obtain ⟨s3,q3⟩:=up b _ q2 (a1u I2 hf q2)
  exact ⟨s3,q3⟩
 ·obtain ⟨o1,q1⟩:=un.there b o q hx
  by_cases hf:b∈frs X.stack
  ·obtain ⟨s3,q3⟩:=up b _ q1 (a1u I2 hf q1)
   exact ⟨_,q3⟩
  ·exact ⟨_,st _ _ (air.bk b o1 q1 hf (.inr ⟨o,q⟩))⟩
 ·exact st _ _ (air.bk b u q (fun z=>hn (I2.stkFree b z)) (.inl hn))
abbrev Cx.inEx (X:Cx) (a:Addr):Cx:={ X with A:=X.A.mark (some (.ref a)),calm:=false,xe:=fun _ _=>False }
theorem Cx.Ok.inEx (ok:X.Ok) (a:Addr):(X.inEx a).Ok:=⟨ok.mod,ok.kind,ok.glob,ok.blt,ok.above,ok.inj,ok.has,ok.cab,fun z=>(Bool.noConfusion (show false=true from z)),ok.frames,ok.stk,ok.exf,ok.bs,ok.bsz,ok.noex,ok.exfs,ok.funs,ok.frf⟩
theorem Inv.inEx (I:Inv X pins σ H s) (a:Addr):Inv (X.inEx a) pins σ H s:=⟨I.ok.inEx a,I.os,I.bare,I.base,I.loc,I.cell,I.free,I.freeC,I.pin,I.hok,I.len⟩
theorem Inv.outEx {a:Addr} (ok:X.Ok) (I:Inv (X.inEx a) pins σ H s):Inv X pins σ H s:=⟨ok,I.os,I.bare,I.base,I.loc,I.cell,I.free,I.freeC,I.pin,I.hok,I.len⟩
def exO (a:Addr):HO:=.ext fun h=>∃ o,h.get? a=some o
theorem Inv.exc {a:Addr} {oe:Obj} (I:Inv X pins σ H s) (I1:Inv X pins σ H1 s1) (he:s.heap.get? a=some oe) (ha:H a=none) (na:s1.heap.get? a=none):Inv X pins σ (upd H a (.frz oe (exO a))) s:=by
 have old:∀ b o,s1.heap.get? b=some o→b≠a:=fun b o q z=>by subst z;rw [na] at q;cases q
 have sm:∀ b o,s1.heap.get? b=some o→upd H a (.frz oe (exO a)) b=H b:=fun b o q=>j9 (old b o q)
 have kp:∀ b u,H b=some u→upd H a (.frz oe (exO a)) b=some u:=fun b u q=>by
  rw [j9]
  ·exact q
  ·intro z;subst z;rw [ha] at q;cases q
 have ba:=I.base
 refine ⟨I.ok,I.os,I.bare,⟨ba.keep,ba.slot,fun b o q n hx=>?_,ba.there,fun b xs q=>kp _ _ (ba.tups b xs q),fun b o u q=>kp _ _ (ba.frzs b o u q),fun b ps q=>?_⟩,I.loc,I.cell,?_,fun y c e=>?_,fun p hp=>?_,fun b u q=>?_,I.len⟩
 ·obtain ⟨o1,q1⟩:=I1.base.there b o q hx
  rw [sm b o1 q1]
  exact ba.free b o q n hx
 ·obtain ⟨more,q1⟩:=ba.tbls b ps q
  exact ⟨more,kp _ _ q1⟩
 ·obtain ⟨_,⟨o,_,_,q,_⟩,_⟩:=I1.loc
  rw [sm _ _ q]
  exact I.free
 ·obtain ⟨v,o,q,_⟩:=I1.cell y c e
  rw [sm _ _ q]
  exact I.freeC y c e
 ·obtain ⟨e,n,ne,nf,d⟩:=I.pin p hp
  exact ⟨e,by rw [sm _ _ (I1.pin p hp).1];exact n,ne,nf,d⟩
 ·by_cases hb:b=a
  ·subst hb
   rw [o7] at q
   cases q
   exact ⟨he,⟨oe,he⟩,⟨oe,he⟩,fun h1 h2 ⟨o,q⟩ k=>⟨o,k o q⟩⟩
  ·rw [j9 hb] at q
   exact (I.hok b u q).stay (fun _ _ _ z=>z) (fun c z=>kp _ _ z) fun c xs z=>kp _ _ z
end
def XP (X:Cx) (pins:List (Addr × Obj)) (σ:St) (E:XK) (e:Value) (s':Shared):Prop:=∃ s1 H1,Inv X pins σ H1 s1∧CXE X.prog X.w X.stack H1 s1 E e s'
structure Hnd (X:Cx) (R:Addr) (x n:Str) (i:Nat):Prop where
 hg:Gl X x
 hm:X.mg x=some (.ref R)
 nd:X.N.Nodup
 hi:X.N[i]? = some n
 lo:X.env.scope.names.lookup n=some .local
 st:X.stack=X.env::X.outer∧X.env.frame=some X.env.locals
 db:(x == ("__debug__" : Str))=false
section
variable {X:Cx} {pins:List (Addr × Obj)} {σ:St} {s s':Shared}
def ar5 (D:Ends) (i:Nat):Ends:={ nx:=fun σ H=>D.nx (σ.set i none) H,rt:=D.rt,bk:=fun σ H=>D.bk (σ.set i none) H,ct:=fun σ H=>D.ct (σ.set i none) H }
theorem ag4 {R:Addr} {x n:Str} {i:Nat} {np pos:Pos} {b0:Stmt} {suite:List Stmt} {ts:TS} {D:Ends} {E:XK} {e:Value} (N:Hnd X R x n i) (hs:∀ a,PSs (X.inEx a) (b0::suite) ts)
  (mt:∀ C H,E (.ref C) none H→exmOne X.K (.ref C) (.ref R)=some true∧∀ a oe,oe.cls = .ref C→H a=none→ts (ar5 D i) (σ.set i (some (.ref a))) (upd H a (.frz oe (exO a))))
  (h:XP X pins σ E e s') :
  wpAny (model X.prog X.w) X.A (noteFrame e X.env) (fun _ s2=>wpAny (model X.prog X.w) X.A (setFlight e none) (fun _ s3=>wpAny (model X.prog X.w) X.A (handleBy e X.env [.ExceptHandler (some (.Name x np)) (some n) (b0::suite) pos]) (SP X pins D) X.xe s3) X.xe s2) X.xe s':=by
 obtain ⟨s1,H1,I1,a,C,t,B,H',rfl,os,bare,un,hok,air,e⟩:=h
 obtain ⟨mt1,mt2⟩:=mt C H' e
 have ok:=I1.ok
 have fr:X.A.frames=some (X.env::X.outer):=by rw [← N.st.1];exact ok.frames
 have fl:=air.fly
 rw [N.st.1] at fl
 have na:s1.heap.get? a=none:=by
  cases q:s1.heap.get? a with
  | none=>rfl
  | some o =>
   obtain ⟨oe,vs,he,_,hd,_⟩:=fl.first
   have I2:Inv X pins σ H' s':=I1.call' os un hok bare (by intro b z;cases z)
   have nf:a ∉ frs X.stack:=fun z=>a1u I2 z he _ hd
   have:=air.bk a oe he nf (.inr ⟨o,q⟩)
   rw [fl.2.1] at this
   cases this
 have ha:H' a=none:=by
  cases q:H' a with
  | none=>rfl
  | some u =>
   obtain ⟨oe,vs,he,_,hd,_⟩:=fl.first
   have I2:Inv X pins σ H' s':=I1.call' os un hok bare (by intro b z;cases z)
   have nf:a ∉ frs X.stack:=fun z=>a1u I2 z he _ hd
   have:=air.bk a oe he nf (.inl (by rw [q];simp))
   rw [fl.2.1] at this
   cases this
 refine wpAny_looks_onW fr N.st.2 fl fun h4 held4 up4=>?_
 refine wpAny_landsW held4 fun h5 fl5 up5=>?_
 have I5:=ai1 I1 os bare un hok air fl5.1 (up4.trans up5) s'.toks
 obtain ⟨ob,hob,hobc⟩:=fl5.there
 have I5m:=I5.inEx a
 refine wpAny_handleBy_cons (codeAny_handlers_test (a1h I5m N.hg N.hm ?_ N.db)) (by intro q;cases q)
 have LT:Looks (model X.prog X.w) h5 (typeOf (.ref a)) (.ref C):=hobc ▸ (Looks.ld hob).andThen .now
 refine (exm_one I5.kIn LT mt1).here ?_
 refine codeAny_handlers_suite_as ?_
 refine lands_againW fl5 fun h6 fl6 up6=>?_
 have I6:=ai1 I1 os bare un hok air fl6.1 ((up4.trans up5).trans up6) s'.toks
 obtain ⟨oe,vs,he,hec,hed,_⟩:=fl6.first
 have I7:=(I6.exc I1 he ha na).inEx a
 refine a5g (X:=X.inEx a) I7 N.nd N.hi (.inl N.lo) (v:=.ref a) rfl (fun s8 I8=>?_) (.inr N.lo)
 refine wpAny_mono (hs a pins s8 _ _ (ar5 D i) I8 (mt2 a oe hec ha)) (fun f s9 q=>?_) fun _ _ z=>z.elim
 show wpAny (model X.prog X.w) X.A (do bindName X.env n .none;unbindBehindTheSuite X.env n pos) (fun _ s3=>SP X pins D f s3) X.xe s9
 cases f with
 | next =>
  obtain ⟨σ',H9,I9,q⟩:=q
  exact a6a (I9.outEx ok) N.nd N.hi N.lo fun s10 I10=>⟨_,H9,I10,q⟩
 | brk =>
  obtain ⟨σ',H9,I9,q⟩:=q
  exact a6a (I9.outEx ok) N.nd N.hi N.lo fun s10 I10=>⟨_,H9,I10,q⟩
 | cont =>
  obtain ⟨σ',H9,I9,q⟩:=q
  exact a6a (I9.outEx ok) N.nd N.hi N.lo fun s10 I10=>⟨_,H9,I10,q⟩
 | ret u =>
  obtain ⟨v,σ',H9,I9,r,q⟩:=q
  exact a6a (I9.outEx ok) N.nd N.hi N.lo fun s10 I10=>⟨v,_,H9,I10,r,q⟩
def PEx (X:Cx) (e:Expr) (t:St→Hp→VK→XK→Prop):Prop :=
 ∀ (pins:List (Addr × Obj)) (s:Shared) (σ:St) (H:Hp) (Q:VK) (E:XK),Inv X pins σ H s→t σ H Q E→wpAny (model X.prog X.w) X.A (eval e X.env) (EP X pins σ Q) (XP X pins σ E) s
def PSx (X:Cx) (st:List Stmt) (t:Ends→XK→St→Hp→Prop):Prop :=
 ∀ (pins:List (Addr × Obj)) (s:Shared) (σ:St) (H:Hp) (D:Ends) (E:XK),Inv X pins σ H s→t D E σ H→wpAny (model X.prog X.w) X.A (execs st X.env) (SP X pins D) (XP X pins σ E) s
variable {e:Expr} {es:List Expr} {pos:Pos}
theorem ad5 {st:Stmt} {D:Ends} {W:Value→Shared→Prop} (h:wpAny (model X.prog X.w) X.A (exec st X.env) (SP X pins D) W s):wpAny (model X.prog X.w) X.A (execs [st] X.env) (SP X pins D) W s:=by
 refine wpAny_execs_cons (thn h fun f s1 q=>?_)
 cases f with
 | next=>exact wpAny_execs_nil q
 | ret v=>exact q
 | brk=>exact q
 | cont=>exact q
theorem ag5 {t:St→Hp→VK→XK→Prop} (he:PEx X e t) (hs:swapsWith e none pos.line X.env=pure false:=by rfl):PSx X [.Expr e pos] (fun D E σ H=>t σ H (fun _ H1=>D.nx σ H1) E):=by
 intro pins s σ H D E I h
 exact ad5 (wpAny_Expr_any (thn (he pins s σ H _ E I h) fun v s1 ⟨x,H1,I1,r1,q1⟩=>⟨σ,H1,I1,q1⟩) I.quiet hs)
theorem ao8 {R:Addr} {x n:Str} {i:Nat} {np hp pos:Pos} {body:List Stmt} {b0:Stmt} {suite:List Stmt} {t:Ends→XK→St→Hp→Prop} {ts:TS} (N:Hnd X R x n i) (hb:PSx X body t) (hs:∀ a,PSs (X.inEx a) (b0::suite) ts) :
  PS X (.Try body [.ExceptHandler (some (.Name x np)) (some n) (b0::suite) hp] [] [] pos) (fun D σ H=>t D (fun cls d H'=>∃ C,cls = .ref C∧exmOne X.K (.ref C) (.ref R)=some true∧∀ a oe,oe.cls = .ref C→H' a=none→ts (ar5 D i) (σ.set i (some (.ref a))) (upd H' a (.frz oe (exO a)))) σ H):=by
 intro pins s σ H D I h
 refine wpAny_Try_except (wpAny_mono (hb pins s σ H D _ I h) (fun f s1 q=>?_) fun e s1 q=>ag4 N hs (fun C H' z=>?_) q)
 ·cases f with
  | next=>exact wpAny_execs_nil q
  | ret v=>exact q
  | brk=>exact q
  | cont=>exact q
 ·obtain ⟨C',z,m1,m2⟩:=z
  cases z
  exact ⟨m1,m2⟩
theorem ag6 {k:Nat} {f:Addr} {fd:FuncData} {ps:List Str} {sp:Sp} {x:Str} {p:Pos} {t:TA} (F:FnOk X.prog X.w X.K X.mg X.base (CXE X.prog X.w) k f fd ps sp) (hr:Room k X.A) (hg:Gl X x) (hm:X.mg x=some (.ref f)) (hk:PySem.W.keepIn X.K (.ref f)=true) (hb:Binds X.K fd ps [])
  (ha:PA X.nox (e::es) t) (hdb:(x == ("__debug__" : Str))=false:=by decide) (he:starEach (e::es) X.env=(false,eval e X.env)::starEach es X.env:=by rfl) (hpl:(backTo pos (starEach es X.env)).any (·.1)=false:=by rfl) :
  PEx X (.Call (.Name x p) (e::es) [] pos) (fun σ H Q E=>t σ H fun vs H1=>sp vs H1 Q E):=by
 intro pins s σ H Q E I h
 refine wpAny_Call_Name_kw (a1h I hg hm ?_ hdb)
 refine PySem.W.callWith_K (h₀:=X.base) I.ok.mod.kin hk (wpAny_mono (ha pos pins s σ H _ (I.wish _) h) (fun us s1 ⟨vs,H1,I1,r,q⟩=>⟨I1.unwish.kIn,?_⟩) fun _ _ z=>z.elim) he hpl
 have I1:=I1.unwish
 have hl:us.length=ps.length:=by rw [← r.length];exact F.len _ _ _ _ q
 have bd:=hb s1 us I1.kIn (by rw [List.append_nil];exact hl)
 rw [List.append_nil] at bd
 refine wpAny_call (codeAny_mono (F.run X.A X.stack s1 H1 ⟨us,[]⟩ us vs Q E hr I1.env0 bd r q) fun r s' hq=>?_)
 cases r with
 | error e=>exact ⟨s1,H1,I1,hq⟩
 | ok fl =>
  cases fl with
  | ret u=>exact I1.after hq
  | next=>exact False.elim hq
  | brk=>exact False.elim hq
  | cont=>exact False.elim hq
end
end L2
namespace MI
open PySem PySem.Spec L2
def ad6 (mg:Str→Option Value) (E:XK):XD:=fun c _ H' _=>∃ C,mg c=some (.ref C)∧E (.ref C) none H'
def spX (K:PySem.W.Frag) (mg:Str→Option Value) (n:Nat) (F:SF):Sp:=fun vs H Q E=>vs.length=n∧∃ ι ds h,Reps K ι H vs ds∧HRep K ι H h∧out K (ad6 mg E) (xg K) ι H (F ds h) Q
structure DnX (P:Program) (w:World) (K:PySem.W.Frag) (mg:Str→Option Value) (base:Heap) (k:Nat) (x:Str) (ps:List Str) (sp:Sp) (f:Addr) (fd:FuncData):Prop where
 ok:FnOk P w K mg base (CXE P w) k f fd ps sp
 m:mg x=some (.ref f)
 kp:PySem.W.keepIn K (.ref f)=true
 b:Binds K fd ps []
theorem ad7 {P:Program} {w:World} {K:PySem.W.Frag} {mg:Str→Option Value} {base:Heap} {x qual:Str} {st:Stmt} {f:Addr} {fd:FuncData} {N ps:List Str} {k:Nat} {b:SS} (Fu:Fun K x qual st f fd) (S:FnScope N ps (au st))
  (hb:∀ (cdv:Value) (A:Around) (outer:List Env) (s:Shared) (H:Hp) (E:XK),Room k (A.deeper (PyProof.Rows.envOfC qual (au st) s.heap.objs.size f cdv))→MSs (cxE P w K mg base N qual (au st) f cdv A outer s H E) (ad6 mg E) (iz st) b) :
  FnOk P w K mg base (CXE P w) (k+1) f fd ps (spX K mg ps.length (mq b N.length)):=by
 obtain ⟨oc,od,kV,doc,pm,an,cdv,ct,osl,rfl,lk,hcd⟩:=Fu.ex
 refine amo lk hcd S (fun vs H Q E h=>h.1) fun A outer s H vs Q E hr h=>⟨_,hb cdv A outer s H E hr,?_⟩
 obtain ⟨hl,ι,ds,h,r,hr',o⟩:=h
 refine ⟨ι,zy N.length ds,h,a4w r,hr',?_⟩
 unfold mq at o
 cases hbd:b (zy N.length ds) h with
 | rt d h1=>rw [hbd] at o;exact o
 | nx τ h1=>rw [hbd] at o;exact fun ι' H' σ' g1 S1 hr1=>o ι' H' .non g1 .non hr1
 | ex c h1=>rw [hbd] at o;exact o
 | bk τ h1=>rw [hbd] at o;exact o.elim
 | ct τ h1=>rw [hbd] at o;exact o.elim
 | no=>rw [hbd] at o;exact o.elim
section
variable {K:PySem.W.Frag} {ι:List Addr} {H:Hp} {h:Hd} {n:Nat}
noncomputable def wz (n:Nat) (F:SF):SF:=fun ds h=>open Classical in if ∀ d∈ds,clo 0 d then (match F ds [] with | .ex c _=>if ds.length=n then .ex c h else .no | _=>m5 false n F ds h) else .no
theorem noex {m:Bool} {F:SF} {ds:List D} {c:Str} {h1:Hd}:m5 m n F ds h≠.ex c h1:=by
 unfold m5
 split
 ·unfold ali
  intro e
  repeat (first | (split at e) | cases e)
 ·intro e;cases e
theorem a9n {E E':XD} {r:R D} {Q:VK} (ne:∀ c h1,r≠.ex c h1) (o:out K E (xg K) ι H r Q):out K E' (xg K) ι H r Q:=by
 cases r with
 | ok a h=>exact o
 | ex c h=>exact absurd rfl (ne c h)
 | no=>exact o
theorem HRep.stays {H':Hp} (hr:HRep K ι H h) (k:∀ a u,H a=some u→H' a=some u):Gr ι H ι H'∧HRep K ι H' h:=by
 have G:Gr ι H ι H':=⟨⟨[],by simp,by simp⟩,fun a vs q=>k _ _ q,fun a o u q=>k _ _ q,fun a u q _=>k _ _ q,fun a u q=>⟨u,k _ _ q⟩⟩
 refine ⟨G,hr.nd,hr.len,fun i a o e1 e2=>?_⟩
 have r:=hr.obj i a o e1 e2
 obtain ⟨u,hu,_⟩:=r.some
 exact r.mono G (by rw [hu];exact k a u hu)
theorem a3x:∀ {ds:List D},(∀ d∈ds,clo 0 d)→clos 0 ds
 | [],_=>by simp [clos]
 | d::ds,h=>by simp only [clos];exact ⟨h d List.mem_cons_self,a3x fun x hx=>h x (List.mem_cons_of_mem _ hx)⟩
theorem a6b {mg:Str→Option Value} {F:SF} {vs:List V} {ds:List D} {Q:VK} {E:XK} {E2:XD} (r:Reps K ι H vs ds) (hr:HRep K ι H h) (o:out K E2 (xg K) ι H (wz n F ds h) Q) (hE:∀ c H' ,Gr ι H ι H'→HRep K ι H' h→E2 c ι H' h→ad6 mg E c ι H' h) :
  spX K mg n F vs H (fun v H1=>∃ L,a7b H1 L∧∀ H2,FrzOf L H1 H2→Q v H2) E:=by
 unfold wz at o
 split at o
 ·rename_i hc
  have ok:out K E2 (xg K) ι H (m5 false n F ds h) Q→spX K mg n F vs H (fun v H1=>∃ L,a7b H1 L∧∀ H2,FrzOf L H1 H2→Q v H2) E:=fun o=>by
   obtain ⟨l,ι0,ds0,h0,r0,hr0,o0⟩:=a66 r hr (a9n (E':=X0) (fun c h1=>noex) o) E
   refine ⟨l,ι0,ds0,h0,r0,hr0,?_⟩
   cases e:F ds0 h0 with
   | ok a h1=>rw [e] at o0;exact o0
   | ex c h1=>rw [e] at o0;exact fun ι' H' g hr=>(o0 ι' H' g hr).elim
   | no=>rw [e] at o0;exact o0
  split at o
  ·rename_i c hx e
   split at o
   ·rename_i hl
    have R0:Reps K [] H vs ds:=by
     have:=r.cut (a3x hc)
     rwa [List.take_zero] at this
    refine ⟨by rw [r.len];exact hl,[],ds,[],R0,⟨List.nodup_nil,rfl,fun i a o e1=>by simp at e1⟩,?_⟩
    rw [e]
    intro ι' H' g _
    obtain ⟨G,hr'⟩:=hr.stays fun a u q=>g.oth a u q (by simp)
    exact hE c H' G hr' (o ι H' G hr')
   ·exact o.elim
  ·exact ok o
 ·exact o.elim
end
theorem a09 (m:Bool) {X:Cx} {E:XD} {k n:Nat} {f:Addr} {fd:FuncData} {ps:List Str} {x:Str} {F:SF} {ka:SA} {e:Expr} {es:List Expr} {p pos:Pos} (G:Dn X.prog X.w X.K X.mg X.base k x ps (u5 X.K n F) f fd) (hr:Room k X.A) (hg:Gl X x) (ha:MA X E (e::es) ka)
  (hdb:(x == ("__debug__" : Str))=false:=by decide) (he:starEach (e::es) X.env=(false,eval e X.env)::starEach es X.env:=by rfl) (hpl:(backTo pos (starEach es X.env)).any (·.1)=false:=by rfl):ME X E (.Call (.Name x p) (e::es) [] pos) (sA (m5 m n F) ka):=by
 refine PE.weak (a4z (a1i G.ok hr hg G.m G.kp G.b .nil af4 ha hdb he hpl)) fun σ H Q ⟨ι,τ,h,S,Rh,o⟩=>?_
 refine ⟨ι,τ,h,S,Rh,dh o fun ds h1 ι1 H1 vs g1 r1 hr1 o1=>?_⟩
 rw [List.append_nil]
 exact a66 r1 hr1 (a9n (fun c h1=>noex) o1) _
theorem a3y {X:Cx} {k n:Nat} {f:Addr} {fd:FuncData} {ps:List Str} {x:Str} {F:SF} {ka:SA} {e:Expr} {es:List Expr} {p pos:Pos} (G:DnX X.prog X.w X.K X.mg X.base k x ps (spX X.K X.mg n F) f fd) (hr:Room k X.A) (hg:Gl X x) (ha:MA X X0 (e::es) ka)
  (hdb:(x == ("__debug__" : Str))=false:=by decide) (he:starEach (e::es) X.env=(false,eval e X.env)::starEach es X.env:=by rfl) (hpl:(backTo pos (starEach es X.env)).any (·.1)=false:=by rfl):ME X X0 (.Call (.Name x p) (e::es) [] pos) (sA (wz n F) ka):=by
 have ps0:a3i (CXE X.prog X.w) X E0:=by
  rintro pins σ H s e s' I ⟨a,C,t,B,H',rfl,os,bare,un,hok,air,z⟩
  exact z.elim
 refine PE.weak (a4z (a1i G.ok hr hg G.m G.kp G.b .nil ps0 ha hdb he hpl)) fun σ H Q ⟨ι,τ,h,S,Rh,o⟩=>?_
 refine ⟨ι,τ,h,S,Rh,dh o fun ds h1 ι1 H1 vs g1 r1 hr1 o1=>?_⟩
 rw [List.append_nil]
 exact a6b r1 hr1 o1 fun c H' _ _ z=>z.elim
section
variable {P:Program} {w:World} {K:PySem.W.Frag} {mg:Str→Option Value} {base:Heap} {N:List Str} {qual:Str} {scope:Scope} {fa:Addr} {cd:Value} {A:Around} {outer:List Env} {s0:Shared} {H0:Hp} {E:XK}
theorem ag7 {k n:Nat} {f:Addr} {fd:FuncData} {ps:List Str} {x:Str} {F:SF} {ka:SA} {e:Expr} {es:List Expr} {p pos:Pos} (G:DnX P w K mg base k x ps (spX K mg n F) f fd) (hr:Room k (cxE P w K mg base N qual scope fa cd A outer s0 H0 E).A) (hg:Gl (cxE P w K mg base N qual scope fa cd A outer s0 H0 E) x) (ha:MA (cxE P w K mg base N qual scope fa cd A outer s0 H0 E) (ad6 mg E) (e::es) ka)
  (hdb:(x == ("__debug__" : Str))=false:=by decide) (he:starEach (e::es) (cxE P w K mg base N qual scope fa cd A outer s0 H0 E).env=(false,eval e (cxE P w K mg base N qual scope fa cd A outer s0 H0 E).env)::starEach es (cxE P w K mg base N qual scope fa cd A outer s0 H0 E).env:=by rfl) (hpl:(backTo pos (starEach es (cxE P w K mg base N qual scope fa cd A outer s0 H0 E).env)).any (·.1)=false:=by rfl) :
  ME (cxE P w K mg base N qual scope fa cd A outer s0 H0 E) (ad6 mg E) (.Call (.Name x p) (e::es) [] pos) (sA (wz n F) ka):=by
 refine PE.weak (a4z (a1i (X:=cxE P w K mg base N qual scope fa cd A outer s0 H0 E) G.ok hr hg G.m G.kp G.b .nil (ar3 fun _ _ z=>z) ha hdb he hpl)) fun σ H Q ⟨ι,τ,h,S,Rh,o⟩=>?_
 refine ⟨ι,τ,h,S,Rh,dh o fun ds h1 ι1 H1 vs g1 r1 hr1 o1=>?_⟩
 rw [List.append_nil]
 exact a6b r1 hr1 o1 fun c H' _ _ z=>z
def a7j (c:Str) (ka:SA):SS:=fun τ h=>(ka τ h).fl fun ds h1=>if ds.length≤LINE then .ex c h1 else .no
theorem ag8 {C:Addr} {x:Str} {ka:SA} {e:Expr} {es:List Expr} {np cpos pos:Pos} (hC:XCls K C) (hg:Gl (cxE P w K mg base N qual scope fa cd A outer s0 H0 E) x) (hm:mg x=some (.ref C)) (ha:MA (cxE P w K mg base N qual scope fa cd A outer s0 H0 E) (ad6 mg E) (e::es) ka)
  (hdb:(x == ("__debug__" : Str))=false:=by decide) (he:starEach (e::es) (cxE P w K mg base N qual scope fa cd A outer s0 H0 E).env=(false,eval e (cxE P w K mg base N qual scope fa cd A outer s0 H0 E).env)::starEach es (cxE P w K mg base N qual scope fa cd A outer s0 H0 E).env:=by rfl) (hpl:(backTo cpos (starEach es (cxE P w K mg base N qual scope fa cd A outer s0 H0 E).env)).any (·.1)=false:=by rfl) :
  MS (cxE P w K mg base N qual scope fa cd A outer s0 H0 E) (ad6 mg E) (.Raise (some (.Call (.Name x np) (e::es) [] cpos)) none pos) (a7j x ka):=by
 refine PS.weak (ag2 (X:=cxE P w K mg base N qual scope fa cd A outer s0 H0 E) (Ex:=fun H=>E (.ref C) none H) hC hg hm rfl ha (fun pins σ H s h' a args I mk z=>ar4 I mk z) hdb he hpl) fun D σ H ⟨ι,τ,h,S,Rh,o⟩=>?_
 refine ⟨ι,τ,h,S,Rh,yg o fun ds h1 ι1 H1 vs g1 r1 hr1 o1=>?_⟩
 split at o1
 ·rename_i hl
  obtain ⟨C',e1,z⟩:=o1 ι1 H1 (.refl _ _) hr1
  rw [hm] at e1
  cases e1
  exact ⟨by rw [r1.len];exact a89 hl,z⟩
 ·exact o1.elim
end
def noX {α:Type}:R α→R α
 | .ex _ _=>.no
 | r=>r
def qA {α:Type} (ka:Sd→Hd→R α):Sd→Hd→R α:=fun τ h=>noX (ka τ h)
abbrev MEx (X:Cx) (e:Expr) (f:SE):Prop:=PEx X e fun σ H Q E=>lift X.K (ad6 X.mg E) (xg X.K) f σ H Q
abbrev MSx (X:Cx) (st:List Stmt) (f:SS):Prop:=PSx X st fun D E σ H=>a3n X.K (ad6 X.mg E) f D σ H
section
variable {X:Cx}
theorem akf {e:Expr} {t:St→Hp→VK→XK→Prop} (h:PEx X e t):PEx X e (fun σ H Q E=>t σ H (fun v H1=>∃ L,a7b H1 L∧∀ H2,FrzOf L H1 H2→Q v H2) E):=fun pins s σ H Q E I q =>
 L2.thn (h pins s σ H _ E I q) fun u s' ⟨v,H1,I1,r,L,ab,k⟩=>let ⟨H2,f,I2⟩:=Inv.frz I1 ab; ⟨v,H2,I2,r,k H2 f⟩
theorem akg {k n:Nat} {f:Addr} {fd:FuncData} {ps:List Str} {x:Str} {F:SF} {ka:SA} {e:Expr} {es:List Expr} {p pos:Pos} (G:DnX X.prog X.w X.K X.mg X.base k x ps (spX X.K X.mg n F) f fd) (hr:Room k X.A) (hg:Gl X x) (ha:MA X.nox X0 (e::es) ka)
  (hdb:(x == ("__debug__" : Str))=false:=by decide) (he:starEach (e::es) X.env=(false,eval e X.env)::starEach es X.env:=by rfl) (hpl:(backTo pos (starEach es X.env)).any (·.1)=false:=by rfl):MEx X (.Call (.Name x p) (e::es) [] pos) (sA (wz n F) (qA ka)):=by
 intro pins s σ H Q E I ⟨ι,τ,h,S,Rh,o⟩
 refine akf (ag6 G.ok hr hg G.m G.kp G.b ha hdb he hpl) pins s σ H Q E I ⟨ι,τ,h,S,Rh,?_⟩
 have o2:=dh o (P:=fun vs H1=>spX X.K X.mg n F vs H1 (fun v H1=>∃ L,a7b H1 L∧∀ H2,FrzOf L H1 H2→Q v H2) E) fun ds h1 ι1 H1 vs g1 r1 hr1 o1=>a6b r1 hr1 o1 fun c H' _ _ z=>z
 unfold qA at o2
 cases e1:ka τ h with
 | ok a h1=>rw [e1] at o2;exact o2
 | ex c h1=>rw [e1] at o2;exact o2.elim
 | no=>rw [e1] at o2;exact o2
theorem akh {e:Expr} {f:SE} {pos:Pos} (he:MEx X e f) (hs:swapsWith e none pos.line X.env=pure false:=by rfl):MSx X [.Expr e pos] (qp f):=fun pins s σ H D E I ⟨ι,τ,h,S,Rh,o⟩ =>
 ag5 he hs pins s σ H D E I ⟨ι,τ,h,S,Rh,yg o fun d h1 ι1 H1 v g1 r1 hr1 o1=>o1 ι1 H1 _ (.refl _ _) (S.mono g1) hr1⟩
def ao9 (i:Nat) (cs:Str→Bool) (fb fs:SS):SS:=fun τ h=>match fb τ h with
 | .ex c h1=>if cs c=true then (match fs (τ.set i (some (.exc c))) h1 with
   | .nx τ' h'=>.nx (τ'.set i none) h' | .rt d h'=>.rt d h' | .bk τ' h'=>.bk (τ'.set i none) h' | .ct τ' h'=>.ct (τ'.set i none) h' | _=>.no) else .no
 | r=>r
theorem SRep.off {K:PySem.W.Frag} {ι:List Addr} {H:Hp} {σ:St} {τ:Sd} (S:SRep K ι H σ τ) (i:Nat):SRep K ι H (σ.set i none) (τ.set i none):=by
 refine ⟨by simp [S.len],fun j d e=>?_⟩
 by_cases hj:i=j
 ·subst hj
  rw [List.getElem?_set] at e
  simp at e
 ·rw [List.getElem?_set_ne hj] at e ⊢
  exact S.val j d e
theorem aoa {R:Addr} {x n:Str} {i:Nat} {np hp pos:Pos} {body:List Stmt} {b0:Stmt} {suite:List Stmt} {cs:Str→Bool} {fb fs:SS} (N:Hnd X R x n i)
  (hcs:∀ c,cs c=true→∃ C,X.mg c=some (.ref C)∧PySem.W.nsIn X.K mainGlobals c=some (some (.ref C))∧PySem.W.exmOne X.K (.ref C) (.ref R)=some true)
  (hb:MSx X body fb) (hs:∀ a,MSs (X.inEx a) X0 (b0::suite) fs):MS X X0 (.Try body [.ExceptHandler (some (.Name x np)) (some n) (b0::suite) hp] [] [] pos) (ao9 i cs fb fs):=by
 refine PS.weak (ao8 (ts:=a3n X.K X0 fs) N hb hs) fun D σ H ⟨ι,τ,h,S,Rh,o⟩=>⟨ι,τ,h,S,Rh,?_⟩
 unfold ao9 at o
 cases e:fb τ h with
 | nx τ' h'=>rw [e] at o;exact o
 | rt d h'=>rw [e] at o;exact o
 | bk τ' h'=>rw [e] at o;exact o
 | ct τ' h'=>rw [e] at o;exact o
 | no=>rw [e] at o;exact o
 | ex c h1 =>
  rw [e] at o
  dsimp only at o
  split at o
  ·rename_i hc
   obtain ⟨C,m,ns,ex⟩:=hcs c hc
   intro ι' H' g hr
   refine ⟨C,m,C,rfl,ex,fun a oe hoe ha=>?_⟩
   have G:=g.trans (xj (ι:=ι') ha (.frz oe (L2.exO a)))
   refine ⟨ι',τ.set i (some (.exc c)),h1,(S.mono G).set (.exc (o:=oe) (C:=C) o7 hoe ns) i,hr.aside ha _,?_⟩
   have o1:=pq o G
   cases e2:fs (τ.set i (some (.exc c))) h1 with
   | nx τ' h'=>rw [e2] at o1;exact fun ι2 H2 σ' g2 S2 hr2=>o1 ι2 H2 _ g2 (S2.off i) hr2
   | bk τ' h'=>rw [e2] at o1;exact fun ι2 H2 σ' g2 S2 hr2=>o1 ι2 H2 _ g2 (S2.off i) hr2
   | ct τ' h'=>rw [e2] at o1;exact fun ι2 H2 σ' g2 S2 hr2=>o1 ι2 H2 _ g2 (S2.off i) hr2
   | rt d h'=>rw [e2] at o1;exact o1
   | ex c' h'=>rw [e2] at o1;exact o1.elim
   | no=>rw [e2] at o1;exact o1.elim
  ·exact o.elim
end
end MI
namespace MI
open PySem PySem.Spec L2
section
variable {X:Cx}
def vc (v:V) (cv:Value):Prop:=(∃ C,v = .ref C∧cv = .ref C)∨∃ T,v = .ty T∧cv = .type T
theorem vc.eq {v:V} {cv u:Value} (h:vc v cv) (r:RelV v u):u=cv:=by
 rcases h with ⟨C,rfl,rfl⟩ | ⟨T,rfl,rfl⟩
 ·exact r
 ·cases r;rfl
theorem aob {pins:List (Addr × Obj)} {σ:St} {H:Hp} {s:Shared} {a C:Addr} {o:Obj} (I:L2.Inv X pins σ H s) (e:H a=some (.frz o (exO a))) (c:o.cls = .ref C):ExAt a C s.heap:=⟨o,(show ObjOk X.prog X.w H s.heap a (.frz o (exO a)) from I.hok a _ e).1,c⟩
theorem ag9:CallR X (.builtin "isinstance") (fun xs H Q=>∃ a o C v cv b,xs=[.ref a,v]∧vc v cv∧H a=some (.frz o (exO a))∧o.cls = .ref C∧XKit X.K C∧PySem.W.kitOne X.K (.ref C) cv=some b∧Q (.bl b) H):=by
 intro pins s σ H xs us Q I r h
 obtain ⟨a,o,C,v,cv,b,rfl,hv,ea,hc,Z,e,q⟩:=h
 obtain ⟨u,w',rfl,rx,rt⟩:=vals2 r
 obtain rfl:u=Value.ref a:=rx
 obtain rfl:=hv.eq rt
 exact PySem.W.kia_one (a9m Z) I.kIn (aob I ea hc) e (fun z=>nomatch z) fun tk=>⟨.bl b,H,I.tok tk,rfl,q⟩
theorem a7k:∀ {cs:List Addr} {us:List Value},Vals (cs.map V.ref) us→us=cs.map Value.ref
 | [],_,r=>by cases r;rfl
 | c::cs,us,r=>by
  cases r with
  | cons r rs =>
   rw [List.map_cons,← a7k rs]
   congr 1
theorem ad8:CallR X (.builtin "isinstance") (fun xs H Q=>∃ a o C tp,∃ cs:List Addr,∃ b,xs=[.ref a, .ref tp]∧H tp=some (.tup (cs.map V.ref))∧H a=some (.frz o (exO a))∧o.cls = .ref C∧XKit X.K C∧PySem.W.kitAny X.K (.ref C) (cs.map Value.ref)=some b∧Q (.bl b) H):=by
 intro pins s σ H xs us Q I r h
 obtain ⟨a,o,C,tp,cs,b,rfl,et,ea,hc,Z,e,q⟩:=h
 obtain ⟨u,w',rfl,rx,rt⟩:=vals2 r
 obtain rfl:u=Value.ref a:=rx
 obtain rfl:w'=Value.ref tp:=rt
 obtain ⟨_,its,vr,o',h1,h2,h3⟩:=(show ObjOk X.prog X.w H s.heap tp (.tup (cs.map V.ref)) from I.hok tp _ et)
 obtain rfl:=a7k vr
 obtain ⟨n,h3⟩:=h3
 have htp:s.heap.get? tp=some ⟨.type "tuple",o'.dict, .seq (cs.map Value.ref).toArray n,o'.slots⟩:=by
  rw [h1]
  obtain ⟨c,dd,dt,sl⟩:=o'
  simp only at h2 h3
  rw [h2,h3]
 exact PySem.W.kia_tup (a9m Z) I.kIn (aob I ea hc) htp e (fun z=>nomatch z) fun tk=>⟨.bl b,H,I.tok tk,rfl,q⟩
def aga (i:Nat) (f:Str→Option Bool):SE:=fun τ h=>match τ[i]? with
 | some (some (.exc c))=>(match f c with | some b=>.ok (.bl b) h | none=>.no)
 | _=>.no
variable {E:XD}
theorem ai2 {K:PySem.W.Frag} {ι:List Addr} {H:Hp} {σ:St} {τ:Sd} {h:Hd} {i:Nat} {f:Str→Option Bool} {Q:VK} (S:SRep K ι H σ τ) (o:out K E (xg K) ι H (aga i f τ h) Q) :
  ∃ a ob C c b,σ[i]? = some (some (.ref a))∧H a=some (.frz ob (exO a))∧ob.cls = .ref C∧PySem.W.nsIn K mainGlobals c=some (some (.ref C))∧f c=some b∧out K E (xg K) ι H (.ok (.bl b) h) Q:=by
 unfold aga at o
 split at o
 ·rename_i c e
  obtain ⟨v,e1,r⟩:=S.val i _ e
  cases r with
  | exc q hc hn =>
   split at o
   ·rename_i b hb
    exact ⟨_,_,_,c,b,e1,q,hc,hn,hb,o⟩
   ·exact o.elim
 ·exact o.elim
theorem ai3 {i:Nat} {f:Str→Option Bool} {n x:Str} {v:V} {cv:Value} {p0 pn px pos:Pos} (hg:Gl X "isinstance") (hm:X.mg "isinstance" = none) (hb:bootBuiltins "isinstance" = some (.builtin "isinstance")) (hN:X.N[i]? = some n) (hv:Vis X.env.scope n) (hc:PE X (.Name x px) (tC v)) (hvc:vc v cv)
  (hf:∀ c b C,f c=some b→PySem.W.nsIn X.K mainGlobals c=some (some (.ref C))→XKit X.K C∧PySem.W.kitOne X.K (.ref C) cv=some b)
  (hd:(n == ("__debug__" : Str))=false:=by decide) (hcd:(n == ("__classdict__" : Str))=false:=by decide):ME X E (.Call (.Name "isinstance" p0) [.Name n pn, .Name x px] [] pos) (aga i f):=by
 refine PE.weak (a5i ag9 hg hm hb (p8 (ab8 hN hv hd hcd) (p8 hc a4p))) fun σ H Q ⟨ι,τ,h,S,Rh,o⟩=>?_
 obtain ⟨a,ob,C,c,b,e1,q,oc,ns,fb,o1⟩:=ai2 S o
 obtain ⟨Z,ki⟩:=hf c b C fb ns
 exact ⟨_,e1,a,ob,C,v,cv,b,rfl,hvc,q,oc,Z,ki,o1 ι H _ (.refl _ _) (.bl b) Rh⟩
theorem aki {i:Nat} {f:Str→Option Bool} {n:Str} {cs:List Addr} {es:List Expr} {t:TA} {k:Nat} {p0 pn px pos:Pos} (hg:Gl X "isinstance") (hm:X.mg "isinstance" = none) (hb:bootBuiltins "isinstance" = some (.builtin "isinstance")) (hN:X.N[i]? = some n) (hv:Vis X.env.scope n) (hc:PA X es t) (ht:∀ σ H (Q:List V→Hp→Prop),Q (cs.map V.ref) H→t σ H Q) (hl:cs.length≤sizeLine)
  (hf:∀ c b C,f c=some b→PySem.W.nsIn X.K mainGlobals c=some (some (.ref C))→XKit X.K C∧PySem.W.kitAny X.K (.ref C) (cs.map Value.ref)=some b)
  (hd:(n == ("__debug__" : Str))=false:=by decide) (hcd:(n == ("__classdict__" : Str))=false:=by decide):ME X E (.Call (.Name "isinstance" p0) [.Name n pn, .Tuple es k px] [] pos) (aga i f):=by
 refine PE.weak (a5i ad8 hg hm hb (p8 (ab8 hN hv hd hcd) (p8 (ahd hc) a4p))) fun σ H Q ⟨ι,τ,h,S,Rh,o⟩=>?_
 obtain ⟨a,ob,C,c,b,e1,q,oc,ns,fb,o1⟩:=ai2 S o
 obtain ⟨Z,ki⟩:=hf c b C fb ns
 refine ⟨_,e1,ht _ _ _ ⟨by rw [List.length_map];exact hl,fun p hp=>?_⟩⟩
 have G:=xj (ι:=ι) hp (.tup (cs.map V.ref))
 exact ⟨a,ob,C,p,cs,b,rfl,o7,G.frz _ _ _ q,oc,Z,ki,o1 ι _ _ G (.bl b) (Rh.aside hp _)⟩
end
end MI
namespace MI
open PySem PySem.Spec L2
def qS (f:SS):SS:=fun τ h=>match f τ h with | .ex _ _=>.no | r=>r
theorem aoc {X:Cx} {st:Stmt} {t:TS} (h:PS X.nox st t):PS X st t:=fun pins s σ H D I hw =>
 wpAny_mono (h pins s σ H D (I.wish _) hw) (fun _ _ q=>q.unwish) fun _ _ z=>False.elim z
theorem au0 {X:Cx} {E:XD} {st:Stmt} {f:SS} (h:MS X.nox X0 st f):MS X E st (qS f):=by
 refine PS.weak (aoc h) fun D σ H ⟨ι,τ,hp,S,Rh,o⟩=>⟨ι,τ,hp,S,Rh,?_⟩
 unfold qS at o
 cases e:f τ hp with
 | nx τ' h'=>rw [e] at o;exact o
 | rt d h'=>rw [e] at o;exact o
 | bk τ' h'=>rw [e] at o;exact o
 | ct τ' h'=>rw [e] at o;exact o
 | no=>rw [e] at o;exact o
 | ex c h1=>rw [e] at o;exact o.elim
end MI
namespace EVX
open PySem PySem.Spec L2 MI
theorem au1 {f:SS} {τ τ1:Sd} {h h1:Hd} (e:f τ h = .nx τ1 h1):qS f τ h = .nx τ1 h1:=by unfold qS;rw [e]
end EVX
namespace MI
open PySem PySem.Spec L2
section
variable {K:PySem.W.Frag} {ι:List Addr} {H:Hp} {h:Hd} {n:Nat}
open Classical in
noncomputable def a7l (n:Nat) (F:SF):SF:=fun ds h=>if (∀ d∈ds,clo 0 d)∧ds.length=n then (match F ds [] with
 | .ok (.tup (.ref i::es)) h1=>(match h1[i]? with | some o=>if zm 0 o∧clos 0 es then .ok (.tup (.ref h.length::es)) (h++[o]) else .no | none=>.no)
 | _=>.no) else .no
theorem agb {mg:Str→Option Value} {F:SF} {vs:List V} {ds:List D} {Q:VK} {E:XK} {E2:XD} (r:Reps K ι H vs ds) (hr:HRep K ι H h) (o:out K E2 (xg K) ι H (a7l n F ds h) Q):spX K mg n F vs H Q E:=by
 unfold a7l at o
 split at o
 ·rename_i hc
  split at o
  ·rename_i i es h1 ef
   split at o
   ·rename_i ob ho
    split at o
    ·rename_i cc
     have R0:Reps K [] H vs ds:=by
      have:=r.cut (a3x hc.1)
      rwa [List.take_zero] at this
     refine ⟨by rw [r.len];exact hc.2,[],ds,[],R0,⟨List.nodup_nil,rfl,fun i a o e1=>by simp at e1⟩,?_⟩
     rw [ef]
     intro ι' H' v g rb hr1
     obtain ⟨m,em,hm⟩:=g.pre
     rw [List.nil_append] at em
     subst em
     obtain ⟨G0,hr'⟩:=hr.stays (H':=H') fun a u q=>g.oth a u q (by simp)
     cases rb with
     | @tup p ws _ hp rs =>
      cases rs with
      | cons r1 rs =>
       cases r1 with
       | @ref b _ hb =>
         skip
         have bm:b∈ι':=List.mem_of_getElem? hb
         have bn:H b=none:=hm b bm
         have nb:b ∉ ι:=fun z=>by
          obtain ⟨j,hj,e⟩:=List.getElem_of_mem z
          have q1:ι[j]? = some b:=by rw [List.getElem?_eq_getElem hj,e]
          have hj2:j<h.length:=by rw [← hr.len];exact hj
          obtain ⟨u,hu,_⟩:=(hr.obj j b h[j] q1 (List.getElem?_eq_getElem hj2)).some
          rw [bn] at hu;cases hu
         have up:∀ κ:List Addr,Gw [] H' κ H':=fun κ=>⟨⟨κ,rfl⟩,fun _ _ h=>h,fun _ _ _ h=>h⟩
         have up2:Gw ι H' (ι++[b]) H':=⟨⟨[b],rfl⟩,fun _ _ h=>h,fun _ _ _ h=>h⟩
         have r2':=rs.cut cc.2
         rw [List.take_zero] at r2'
         have o1:=(hr1.obj i b ob hb ho).cut cc.1
         rw [List.take_zero] at o1
         refine o (ι++[b]) H' _ ⟨⟨[b],rfl,by simpa using bn⟩,g.tup,g.frz,fun a u q _=>g.oth a u q (by simp),g.kp⟩ (.tup hp (.cons (.ref (by rw [← hr.len];simp)) (r2'.monoW (up _)))) ⟨?_,?_,fun j a u q1 q2=>?_⟩
         ·exact List.nodup_append.mpr ⟨hr.nd,by simp,fun a ha c hc z=>nb (by rw [← List.mem_singleton.mp hc,← z];exact ha)⟩
         ·rw [List.length_append,List.length_append,hr.len];rfl
         ·by_cases hj:j<ι.length
          ·rw [List.getElem?_append_left hj] at q1
           rw [List.getElem?_append_left (by rw [← hr.len];exact hj)] at q2
           exact (hr'.obj j a u q1 q2).monoW up2 rfl
          ·have hj2:j<(ι++[b]).length:=(List.getElem?_eq_some_iff.mp q1).1
           have:j=ι.length:=by simp at hj2;omega
           subst this
           rw [List.getElem?_append_right (Nat.le_refl _)] at q1
           rw [List.getElem?_append_right (by rw [hr.len];exact Nat.le_refl _)] at q2
           simp [hr.len] at q1 q2
           subst q1 q2
           exact o1.monoW (up _) rfl
    ·exact o.elim
   ·exact o.elim
  ·exact o.elim
 ·exact o.elim
end
theorem agc {X:Cx} {k n:Nat} {f:Addr} {fd:FuncData} {ps:List Str} {x:Str} {F:SF} {ka:SA} {e:Expr} {es:List Expr} {p pos:Pos} (G:DnX X.prog X.w X.K X.mg X.base k x ps (spX X.K X.mg n F) f fd) (hr:Room k X.A) (hg:Gl X x) (ha:MA X X0 (e::es) ka)
  (hdb:(x == ("__debug__" : Str))=false:=by decide) (he:starEach (e::es) X.env=(false,eval e X.env)::starEach es X.env:=by rfl) (hpl:(backTo pos (starEach es X.env)).any (·.1)=false:=by rfl):ME X X0 (.Call (.Name x p) (e::es) [] pos) (sA (a7l n F) ka):=by
 have ps0:a3i (CXE X.prog X.w) X E0:=by
  rintro pins σ H s e s' I ⟨a,C,t,B,H',rfl,os,bare,un,hok,air,z⟩
  exact z.elim
 refine PE.weak (a1i G.ok hr hg G.m G.kp G.b .nil ps0 ha hdb he hpl) fun σ H Q ⟨ι,τ,h,S,Rh,o⟩=>?_
 refine ⟨ι,τ,h,S,Rh,dh o fun ds h1 ι1 H1 vs g1 r1 hr1 o1=>?_⟩
 rw [List.append_nil]
 exact agb r1 hr1 o1
end MI
namespace EVX
open PySem PySem.Spec L2 MI
theorem akj {F:SF} {n i:Nat} {ds es:List D} {o:O} {h h1:Hd} (hn:ds.length=n) (cd:∀ x∈ds,MI.clo 0 x) (e:F ds [] = .ok (.tup (.ref i::es)) h1) (ho:h1[i]? = some o) (co:zm 0 o) (c:clos 0 es):a7l n F ds h = .ok (.tup (.ref h.length::es)) (h++[o]):=by
 unfold a7l
 rw [if_pos ⟨cd,hn⟩,e]
 dsimp only
 rw [ho]
 dsimp only
 rw [if_pos ⟨co,c⟩]
theorem au2 {f:SS} {τ:Sd} {d:D} {h h1:Hd} (e:f τ h = .rt d h1):qS f τ h = .rt d h1:=by unfold qS;rw [e]
end EVX
namespace ZP
open PySem PySem.Spec PySem.Builtin PySem.Builtin.SmallTypes L2
def n8 (it:Addr) (a:Int):Obj:={ cls:=.type "enumerate",data:=.fields #[.none, .bool false, .ref it,rawInt a, .none, .none] }
theorem aak (t:Tok) (k:Srk) (us:List Value) (a:Int) (u:Tok) (hf:fitsIndex a=true):Meets (Builtin.«enumerate.__new__» ⟨[.type "enumerate",val t k],[(Str.ofString "start", .int a u)]⟩)
  (fun _ R s=>cont s.heap k us∧R (.ok (.ret (.ref (s.heap.objs.size+1)))) { s with heap:=(s.heap.push (iob t k)).push (n8 s.heap.objs.size a) }) :=
 .of_wp fun prog w A R s h=>by
  obtain ⟨hp,g,d,tk,os⟩:=s
  obtain ⟨c,h⟩:=h
  have sub:=sub_enumerate
  have c':cont (Shared.heap ⟨hp,g,d,tk,os⟩) k us:=c
  have fin:R (.ok (.ret (.ref (hp.push (iob t k)).objs.size))) { heap:=(hp.push (iob t k)).push (n8 hp.objs.size a),gens:=g,drawn:=d,toks:=tk,os:=os }:=by simpa [Heap.size_push] using h
  have ks:((Str.ofString "start") == (Str.ofString "start"))=true:=beq_self_eq_true _
  wp_walk
  refine wpAny_stack_any fun st=>wpAny_pure ?_
  split
  ·rename_i cl _ _ _ _ _
   cases (cl == Value.type "enumerate")
   ·wp_walk using a0x (t:=t) c'
    exact ⟨_,rfl,fin⟩
   ·wp_walk using a0x (t:=t) c'
    exact ⟨_,rfl,fin⟩
  ·wp_walk using a0x (t:=t) c'
   exact ⟨_,rfl,fin⟩
def Is2 (r0:Result) (s0:Shared):Result→Shared→Prop:=fun r s1=>r=r0∧s1=s0
theorem ad9 {self v:Value} {a:Int} {u:Tok}:Meets (Builtin.«object.__init__» ⟨[self,v],[(Str.ofString "start", .int a u)]⟩) (fun _ R s=>s.TypeIs self "enumerate"∧R (.ok (.ret .none)) s) :=
 .of_wp fun prog w A R s h=>by
  obtain ⟨hT,hq⟩:=h
  have hl:=F.called_enumerate.init.lookup
  have hm:=F.called_enumerate.made
  wp_walk
  exact ⟨_,rfl,hq⟩
theorem a8k {prog:Program} {w:World} {A:Around} {E:Value→Shared→Prop} {s:Shared} {t:Tok} {k:Srk} {us:List Value} {a:Int} {u:Tok} {Q:Value→Shared→Prop} (hf:fitsIndex a=true) (c:cont s.heap k us)
  (q:Q (.ref (s.heap.objs.size+1)) { s with heap:=(s.heap.push (iob t k)).push (n8 s.heap.objs.size a) }):wpAny (model prog w) A (call (.type "enumerate") [val t k] [(Str.ofString "start", .int a u)]) Q E s:=by
 have hct:checkTypeCall "enumerate" ⟨[val t k],[(Str.ofString "start", .int a u)]⟩=pure ():=by kernel_rfl
 have hcn:checkBuiltinCall "enumerate.__new__" ⟨[.type "enumerate",val t k],[(Str.ofString "start", .int a u)]⟩=pure ():=by kernel_rfl
 have hok:∀ obj,argsOk "object.__init__" ⟨[obj,val t k],[(Str.ofString "start", .int a u)]⟩:=fun obj=>by unfold argsOk;kernel_rfl
 obtain ⟨h1,h2,⟨c0,tl,hmro⟩,hmade,hpl,hsub,hini⟩:=F.called_enumerate
 refine wpAny_call (codeAny_of_tree ?_)
 show wpAny _ _ (callAny (.type "enumerate") _) _ _ _
 refine wpAny_pure ⟨Code.quiet_builtin _ (by decide +kernel),codeAny_builtin F.entry_type_call ?_⟩
 rw [Around.under_plain (weight_type_call_type _ _ _) (units_type_call_type _ _ _)]
 wp_walk
 have hT:Shared.TypeIs { s with heap:=(s.heap.push (iob t k)).push (n8 s.heap.objs.size a) } (.ref (s.heap.objs.size+1)) "enumerate":=by
  refine ⟨n8 s.heap.objs.size a,?_,rfl⟩
  have:=Heap.get?_push_size (o:=n8 s.heap.objs.size a) (s.heap.push (iob t k)) rfl
  rw [Heap.size_push] at this
  exact this
 have hli:=hini.lookup
 have hbi:=hini.bind (.ref (s.heap.objs.size+1))
 have N1:codeAny (model prog w) A.in1 (Code.call (.builtin "enumerate.__new__") ⟨[.type "enumerate",val t k],[(Str.ofString "start", .int a u)]⟩) (Is2 (.ok (.ret (.ref (s.heap.objs.size+1)))) { s with heap:=(s.heap.push (iob t k)).push (n8 s.heap.objs.size a) }) s :=
  codeAny_call_builtin hpl F.entry_enumerate_new (wpAny_of_eq hcn (aak t k us a u hf prog w A.in1 (Is2 (.ok (.ret (.ref (s.heap.objs.size+1)))) { s with heap:=(s.heap.push (iob t k)).push (n8 s.heap.objs.size a) }) s ⟨c,rfl,rfl⟩))
 have N2:codeAny (model prog w) A.in1 (Code.call (.builtin "object.__init__") ⟨[.ref (s.heap.objs.size+1),val t k],[(Str.ofString "start", .int a u)]⟩) (Is2 (.ok (.ret .none)) { s with heap:=(s.heap.push (iob t k)).push (n8 s.heap.objs.size a) }) { s with heap:=(s.heap.push (iob t k)).push (n8 s.heap.objs.size a) } :=
  codeAny_call_builtin hini.plain F.entry_object_init (hini.check _ _ _ _ _ _ _ _ hT (hok _) (ad9 prog w A.in1 (Is2 (.ok (.ret .none)) { s with heap:=(s.heap.push (iob t k)).push (n8 s.heap.objs.size a) }) { s with heap:=(s.heap.push (iob t k)).push (n8 s.heap.objs.size a) } ⟨hT,rfl,rfl⟩))
 refine codeAny_mono N1 fun r s1 hr=>?_
 obtain ⟨rfl,rfl⟩:=hr
 dsimp only
 wp_walk
 refine codeAny_mono N2 fun r s1 hr=>?_
 obtain ⟨rfl,rfl⟩:=hr
 dsimp only
 wp_walk
 exact q
theorem shifted {prog:Program} {w:World} {A:Around} {it:Addr} {fp:List Addr} {n:Nat} {P:Nat→Value→Prop} {St:Nat→Heap→Prop} (a:Nat) (D:Draws prog w A it fp n P St) :
  Draws prog w A it fp (a+n) (fun i v=>P (i - a) v) (fun i h=>a≤i∧St (i - a) h) where
 live:=fun i h z=>D.live _ h z.2
 frame:=fun i h h' z k=>⟨z.1,D.frame _ h h' z.2 k⟩
 item:=fun i s Q E hi z hQ=>D.item (i - a) s Q E (by omega) z.2 fun x h' tk p st sb=>hQ x h' tk p ⟨Nat.le_succ_of_le z.1,by rw [Nat.succ_sub z.1];exact st⟩ sb
 done:=fun s Q E z hE=>D.done s Q E (by have:=z.2;rwa [Nat.add_sub_cancel_left] at this) hE
def ar6 (a:Nat) (k:Srk):It where
 go:=fun i H=>∃ xs x,its H k=some xs∧xs[i]? = some x
 yld:=fun i H v H'=>∃ xs x p,its H k=some xs∧xs[i]? = some x∧H p=none∧v = .ref p∧H'=upd H p (.tup [.int ((a+i:Nat):Int),x])
 stop:=fun i H=>∃ xs,its H k=some xs∧i=xs.length
def ase (a:Nat) (e it:Addr) (t:Tok) (k:Srk) (i:Nat) (h:Heap):Prop:=(∃ old,IsEnum h e it ((a+i:Nat):Int) old)∧own it t k i h
theorem aal {P:Program} {w:World} {K:PySem.W.Frag} {elts:List Expr} {x1:Nat} {pos:Pos} {a:Nat} {e it:Addr} {t:Tok} {k:Srk} (ne:e≠it):Turn P w K (.Tuple elts x1 pos) (ar6 a k) [e,it] e (ase a e it t k) where
 mem:=by simp
 obj:=fun i h st b hb=>by
  obtain ⟨⟨old,h1⟩,h4⟩:=st
  simp only [List.mem_cons,List.not_mem_nil,or_false] at hb
  rcases hb with rfl | rfl
  ·exact ⟨_,h1,fun v z=>(by cases z)⟩
  ·exact a1n h4
 keep:=fun i h h' st kk=>by
  obtain ⟨⟨old,h1⟩,h4⟩:=st
  exact ⟨⟨old,kk e (by simp) _ h1⟩,a07 h4 fun ob q=>kk it (by simp) ob q⟩
 item:=by
  intro X hP hw hK hc i pins s σ H E I hf st hg
  subst hP hw hK
  obtain ⟨xs,x,e1,g1⟩:=hg
  obtain ⟨⟨old,h1⟩,h4⟩:=st
  have n:∀ c∈[e,it],H c=none:=fun c hc=>(hf c hc).1
  obtain ⟨cs,P1,S1,D1,a1,b1,c1,d1⟩:=a1o I (t:=t) e1 (n it (by simp))
  have hd:=I.ok.hd hc
  have ef:e ∉ it::cs:=by
   intro z
   rcases List.mem_cons.mp z with z | z
   ·exact ne z
   ·exact c1 e z (n e (by simp))
  have li:a+i<a+xs.length:=Nat.add_lt_add_left (List.getElem?_eq_some_iff.mp g1).1 a
  refine wpAny_pyNext_enum_itemD (shifted a (D1 X.A.in1 hd)) h1 ⟨Nat.le_add_right _ _,by rw [Nat.add_sub_cancel_left];exact a1 i h4⟩ li ne ef fun u h' tk pu eo s1' pr sz kp=>?_
  obtain ⟨_,s1'⟩:=s1'
  rw [Nat.add_assoc,Nat.add_sub_cancel_left] at s1'
  rw [Nat.add_sub_cancel_left] at pu
  obtain ⟨x',q1,r1⟩:=d1 i u pu
  rw [g1] at q1;cases q1
  refine ⟨_,rfl,wpAny_letOwnedTupleGo_enum eo fun h2' z2' sb=>?_⟩
  have hp:H s.heap.objs.size=none:=I.hok.fresh (Nat.le_refl _)
  have lt:∀ c∈[e,it],c<s.heap.objs.size:=fun c hc=>by
   simp only [List.mem_cons,List.not_mem_nil,or_false] at hc
   rcases hc with rfl | rfl
   ·exact Heap.lt_size h1
   ·obtain ⟨_,q,_⟩:=a1n h4;exact Heap.lt_size q
  have nT:∀ c∈[e,it],c≠s.heap.objs.size:=fun c hc=>Nat.ne_of_lt (lt c hc)
  have all:∀ c o,c ∉ [e,it]→s.heap.get? c=some o→h2'.get? c=some o:=fun c o nc q=>by
   simp only [List.mem_cons,List.not_mem_nil,or_false,not_or] at nc
   exact (sb.2 c nc.1).trans (kp c o nc.1 nc.2 q)
  have I0:Inv X pins σ (upd H s.heap.objs.size (.tup [.int ((a+i:Nat):Int),x])) { s with heap:=s.heap.push { cls:=.type "tuple",data:=.seq #[.int ((a+i:Nat):Int) tk,u] } } :=
   I.laid (t':=s.toks) (o:=.tup [.int ((a+i:Nat):Int),x]) (fun b o q=>Heap.get?_push_of_some _ q) (Nat.le_refl _) ⟨by show 2≤sizeLine;decide,[.int ((a+i:Nat):Int) tk,u], .cons ⟨tk,rfl⟩ (.cons r1 .nil),⟨_,Heap.get?_push_size _ rfl,rfl,_,rfl⟩⟩
  have I1:Inv X pins σ (upd H s.heap.objs.size (.tup [.int ((a+i:Nat):Int),x])) { s with heap:=h2',toks:=tk+1 }:=by
   refine a5z (s:={ s with heap:=s.heap.push { cls:=.type "tuple",data:=.seq #[.int ((a+i:Nat):Int) tk,u] } }) (ch:=[e,it]) I0 (fun b hb=>?_) fun c o nc q=>?_
   ·obtain ⟨f0,f1⟩:=hf b hb
    exact ⟨by rw [j9 (nT b hb)];exact f0,f1⟩
   ·rcases Heap.get?_push_cases q with ⟨rfl,rfl⟩ | q
    ·exact (sb.2 _ (nT e (by simp)).symm).trans pr
    ·exact all c o nc q
  refine ⟨.ref s.heap.objs.size,_,I1,rfl,⟨xs,x,_,e1,g1,hp,rfl,rfl⟩,⟨⟨u,by simpa [Int.add_assoc] using z2'⟩,a07 (b1 _ _ s1') fun ob q=>(sb.2 _ ne.symm).trans q⟩,fun b hb=>?_⟩
  rw [j9 (nT b hb)];exact n b hb
 done:=by
  intro X hP hw hK hc i pins s σ H E I hf st hg
  subst hP hw hK
  obtain ⟨xs,e1,rfl⟩:=hg
  obtain ⟨⟨old,h1⟩,h4⟩:=st
  have n:∀ c∈[e,it],H c=none:=fun c hc=>(hf c hc).1
  obtain ⟨cs,P1,S1,D1,a1,b1,c1,d1⟩:=a1o I (t:=t) e1 (n it (by simp))
  have hd:=I.ok.hd hc
  refine wpAny_pyNext_enum_endD (D1 X.A.in1 hd) h1 (a1 _ h4) fun h' ex=>⟨rfl,a5z (t':=s.toks) I hf fun c o nc q=>?_⟩
  simp only [List.mem_cons,List.not_mem_nil,or_false,not_or] at nc
  exact ex c o nc.2 q
 self:=fun _ _ _ _ _ st h=>by
  obtain ⟨⟨old,h1⟩,_⟩:=st
  exact wpAny_pyIter_enum h1 h
section
variable {X:Cx} {elts:List Expr} {x1:Nat} {tpos:Pos}
def aod (ta tk:TA):TI:=fun σ H R=>ta σ H fun vs H1=>tk σ H1 fun zs H2=>∃ k xs,∃ a:Nat,vs=[Srk.v k]∧its H2 k=some xs∧zs=[.int (a:Nat)]∧a≤16777216∧R (ar6 a k) H2
theorem agd {e1 e2:Expr} {ta tk:TA} {p pos kpos:Pos} (hg:Gl X "enumerate") (hm:X.mg "enumerate" = none) (ha:PA X [e1] ta) (hkw:PK X [⟨some "start",e2,kpos⟩] tk)
  (h1:starEach [e1] X.env=[(false,eval e1 X.env)]:=by rfl):PI X (.Tuple elts x1 tpos) (.Call (.Name "enumerate" p) [e1] [⟨some "start",e2,kpos⟩] pos) (aod ta tk):=by
 intro pins s σ H R I h
 refine wpAny_Call_Name_kw (a3f I hg hm PyProof.Rows.boot_enumerate ?_ (by decide) (by decide))
 have hpl:((backTo pos (starEach [e1] X.env)).any (·.1) || (backToKw pos (keywordEach [⟨some "start",e2,kpos⟩] X.env)).any (·.1.isNone))=false:=by rw [h1];rfl
 refine PySem.W.callWith_of (P:=fun _=>True) hpl (fun h _=>⟨.machine, .inr (.inl rfl),PySem.W.Looks.of_pure rfl⟩) (PyProof.Rows.evalArgs_kw2 (by rfl) (thn (ha pos pins s σ H _ I h) fun us s1 ⟨vs,H1,I1,r,q⟩=>?_) (by rw [h1];rfl))
 refine thn (hkw pos pins s1 σ H1 _ I1 q) fun ws s2 ⟨zs,H2,I2,rz,q2⟩=>⟨trivial,?_⟩
 obtain ⟨k,xs,a,rfl,e1,rfl,la,q⟩:=q2
 obtain ⟨v1,rfl,rv1⟩:=vals1 r
 obtain ⟨v2,rfl,u,rfl⟩:=vals1 rz
 obtain ⟨t,rfl⟩:=acu rv1
 obtain ⟨us1,c1,_⟩:=a3t I2 e1
 refine a8k (us:=us1) (by unfold fitsIndex;simp;omega) c1 ?_
 have at0:((s2.heap.push (iob t k)).push (n8 s2.heap.objs.size a)).get? s2.heap.objs.size=some (iob t k):=Heap.get?_push_of_some _ (Heap.get?_push_size _ (by cases k<;>rfl))
 have at1:IsEnum ((s2.heap.push (iob t k)).push (n8 s2.heap.objs.size a)) (s2.heap.objs.size+1) s2.heap.objs.size (a:Nat) .none:=by
  have:=Heap.get?_push_size (o:=n8 s2.heap.objs.size a) (s2.heap.push (iob t k)) rfl
  rw [Heap.size_push] at this
  exact this
 have keepA:∀ b o,s2.heap.get? b=some o→((s2.heap.push (iob t k)).push (n8 s2.heap.objs.size a)).get? b=some o:=fun b o q=>Heap.get?_push_of_some _ (Heap.get?_push_of_some _ q)
 have I3:Inv X pins σ H2 { s2 with heap:=(s2.heap.push (iob t k)).push (n8 s2.heap.objs.size a) }:=I2.kept (t':=s2.toks) keepA
 refine wpAny_pyIter_enum (s:={ s2 with heap:=(s2.heap.push (iob t k)).push (n8 s2.heap.objs.size a) }) at1 ?_
 refine ⟨s2.heap.objs.size+1,[s2.heap.objs.size+1,s2.heap.objs.size],ase a _ _ t k,ar6 a k,H2,rfl,I3,aal (by intro z;have z:(_:Nat)=_:=z;omega),⟨⟨.none,at1⟩,aqy at0⟩,fun b hb=>?_,q⟩
 have:s2.heap.objs.size≤b:=by
  simp only [List.mem_cons,List.not_mem_nil,or_false] at hb
  rcases hb with rfl | rfl
  ·exact Nat.le_succ _
  ·exact Nat.le_refl _
 exact I2.fpOk this (I2.hok.fresh this)
end
end ZP
namespace MI
open PySem PySem.Spec L2 ZP
def ai4 (x y:D) (h:Hd):R Itm:=match srcOf x h,y with
 | some (xs,c), .int n=>if 0≤n∧n≤16777216 then .ok ⟨((List.range xs.length).zip xs).map fun p=>.tup [.int ((n.toNat+p.1:Nat):Int),p.2],c⟩ h else .no
 | _,_=>.no
def a7m (f g:SE):SI:=fun τ h=>(f τ h).bind fun x h1=>(g τ h1).bind fun y h2=>ai4 x y h2
theorem age {X:Cx} {E:XD} {elts:List Expr} {x1:Nat} {tpos:Pos} {e1 e2:Expr} {f g:SE} {p pos kpos:Pos} (hg:Gl X "enumerate") (hm:X.mg "enumerate" = none) (ha:ME X E e1 f) (hb:ME X E e2 g)
  (h1:starEach [e1] X.env=[(false,eval e1 X.env)]:=by rfl):MI X E (.Tuple elts x1 tpos) (.Call (.Name "enumerate" p) [e1] [⟨some "start",e2,kpos⟩] pos) (a7m f g):=by
 intro pins s σ H Rr I ⟨ι,τ,h,S,Rh,o⟩
 refine agd hg hm (p8 ha a4p (by rw [h1];rfl)) (aiw hb amn) h1 pins s σ H Rr I ?_
 refine ⟨ι,τ,h,S,Rh,dh o fun d h1 ι1 H1 v g1 r1 hr1 o1=>?_⟩
 refine ⟨ι1,τ,h1,S.mono g1,hr1,dh o1 fun d2 h2 ι2 H2 v2 g2 r2 hr2 o2=>?_⟩
 have r1:=r1.mono g2
 unfold ai4 at o2
 split at o2
 ·rename_i xs c n q1
  split at o2
  ·rename_i hn
   obtain ⟨k,rfl,kc,kf⟩:=acv r1 hr2 q1
   obtain ⟨vs,w1,w2⟩:=kf ι2 H2 h2 (.refl _ _) hr2 kc
   cases r2
   obtain ⟨m,rfl⟩:=Int.eq_ofNat_of_zero_le hn.1
   refine ⟨k,vs,m,rfl,w1,rfl,by omega,o2 ι2 H2 _ (.refl _ _) ?_ hr2⟩
   intro ι3 H3 h3 g3 hr3 c3
   obtain ⟨us,a1,a2⟩:=kf ι3 H3 h3 g3 hr3 c3
   refine ⟨fun i d ed=>?_,us,a1,?_⟩
   ·simp only [List.getElem?_map,Option.map_eq_some_iff] at ed
    obtain ⟨⟨j,y⟩,ez,rfl⟩:=ed
    obtain ⟨ex,ey⟩:=List.getElem?_zip_eq_some.mp ez
    have hj:j=i:=by
     obtain ⟨_,q⟩:=List.getElem?_eq_some_iff.mp ex
     simpa using q.symm
    subst hj
    obtain ⟨v2,b3,b4⟩:=a2.get ey
    refine ⟨⟨us,v2,a1,b3⟩,fun x H' yl=>?_⟩
    obtain ⟨xs',x',p,c1,c3,c5,rfl,rfl⟩:=yl
    rw [a1] at c1;cases c1
    rw [b3] at c3;cases c3
    exact ⟨xj c5 _, .tup o7 (.cons (.int _) (.cons (b4.mono (xj c5 _)) .nil)),hr3.aside c5 _⟩
   ·rw [List.length_map,List.length_zip,List.length_range,a2.len]
    omega
  ·exact o2.elim
 ·exact o2.elim
end MI
namespace AT
open L2
theorem aam {α:Type} (x0:α) (xs:List α):atI (x0::xs) 0=some x0:=u9 (j:=0) rfl
theorem aan {α:Type} (x0 x1:α) (xs:List α):atI (x0::x1::xs) 1=some x1:=u9 (j:=1) rfl
theorem aao {α:Type} (x0 x1 x2:α) (xs:List α):atI (x0::x1::x2::xs) 2=some x2:=u9 (j:=2) rfl
theorem aap {α:Type} (x0 x1 x2 x3:α) (xs:List α):atI (x0::x1::x2::x3::xs) 3=some x3:=u9 (j:=3) rfl
theorem aaq {α:Type} (x0 x1 x2 x3 x4:α) (xs:List α):atI (x0::x1::x2::x3::x4::xs) 4=some x4:=u9 (j:=4) rfl
theorem aar {α:Type} (x0 x1 x2 x3 x4 x5:α) (xs:List α):atI (x0::x1::x2::x3::x4::x5::xs) 5=some x5:=u9 (j:=5) rfl
theorem aas {α:Type} (x0 x1 x2 x3 x4 x5 x6:α) (xs:List α):atI (x0::x1::x2::x3::x4::x5::x6::xs) 6=some x6:=u9 (j:=6) rfl
theorem aat {α:Type} (x0 x1 x2 x3 x4 x5 x6 x7:α) (xs:List α):atI (x0::x1::x2::x3::x4::x5::x6::x7::xs) 7=some x7:=u9 (j:=7) rfl
theorem x10:ixN 1 0=some 0:=rfl
theorem x20:ixN 2 0=some 0:=rfl
theorem x21:ixN 2 1=some 1:=rfl
theorem x30:ixN 3 0=some 0:=rfl
theorem x31:ixN 3 1=some 1:=rfl
theorem x32:ixN 3 2=some 2:=rfl
theorem x40:ixN 4 0=some 0:=rfl
theorem x41:ixN 4 1=some 1:=rfl
theorem x42:ixN 4 2=some 2:=rfl
theorem x43:ixN 4 3=some 3:=rfl
theorem x50:ixN 5 0=some 0:=rfl
theorem x51:ixN 5 1=some 1:=rfl
theorem x52:ixN 5 2=some 2:=rfl
theorem x53:ixN 5 3=some 3:=rfl
theorem x54:ixN 5 4=some 4:=rfl
theorem x60:ixN 6 0=some 0:=rfl
theorem x61:ixN 6 1=some 1:=rfl
theorem x62:ixN 6 2=some 2:=rfl
theorem x63:ixN 6 3=some 3:=rfl
theorem x64:ixN 6 4=some 4:=rfl
theorem x65:ixN 6 5=some 5:=rfl
theorem x70:ixN 7 0=some 0:=rfl
theorem x71:ixN 7 1=some 1:=rfl
theorem x72:ixN 7 2=some 2:=rfl
theorem x73:ixN 7 3=some 3:=rfl
theorem x74:ixN 7 4=some 4:=rfl
theorem x75:ixN 7 5=some 5:=rfl
theorem x76:ixN 7 6=some 6:=rfl
def ai5 (x:Int):Int:=if x<0 then -x else x
theorem aau (x:Int) (h:MI.Hd):MI.anm [.int x] h = .ok (.int (ai5 x)) h:=rfl
theorem p18 (h:MI.Hd):MI.ace (.int 10) (.int 18) h = .ok (.int 1000000000000000000) h:=by rw [MI.ace,if_pos (by decide)];rfl
theorem ar7 {i j:Int} {h:MI.Hd} (c:0≤j∧j≤1000000∧i.natAbs<2 ^ 64):MI.ace (.int i) (.int j) h = .ok (.int (i ^ j.toNat)) h:=by rw [MI.ace,if_pos c]
end AT
namespace MI
open PySem PySem.Spec L2 SeqAt
def asf (neg:Bool) (K:PySem.W.Frag):R2:=fun x y H Q=>∃ (ι:List Addr) (p q:Addr) (vs us:List V) (xs ys:List D),x = .ref p∧y = .ref q∧Rd H p (.lst vs)∧Rd H q (.lst us)∧Reps K ι H vs xs∧Reps K ι H us ys∧xs.all (pur 59)=true∧ys.all (pur 59)=true∧Q (.bl (if neg then !a9a xs ys else a9a xs ys)) H
theorem agf {X:Cx} {pins:List (Addr × Obj)} {s:Shared} {σ:St} {H:Hp} (I:Inv X pins σ H s) (hu:X.A.units+64<cLine) {ι:List Addr} {p q:Addr} {vs us:List V} {xs ys:List D} (h1:Rd H p (.lst vs)) (h2:Rd H q (.lst us)) (rs:Reps X.K ι H vs xs) (qs:Reps X.K ι H us ys) (p1:xs.all (pur 59)=true) (p2:ys.all (pur 59)=true) :
  RcAt X.A s (.ref p) (.ref q) (a9a xs ys)∧RcNeAt X.A s (.ref p) (.ref q) (!a9a xs ys):=by
 obtain ⟨its,r1,pl1,z1⟩:=I.list (.inl h1)
 obtain ⟨its2,r2,pl2,z2⟩:=I.list (.inl h2)
 have l1:its.toArray.size=xs.length:=by rw [List.size_toArray,← r1.length,rs.len]
 have l2:its2.toArray.size=ys.length:=by rw [List.size_toArray,← r2.length,qs.len]
 by_cases hl:xs.length=ys.length
 ·have step:∀ j (h1:j<its.toArray.size) (h2:j<its2.toArray.size),EqAt X.A.in1 s its.toArray[j] its2.toArray[j] (pairE xs ys j):=fun j h1 h2=>by
   have j1:j<xs.length:=by omega
   have j2:j<ys.length:=by omega
   obtain ⟨v1,e1,q1⟩:=rs.get (List.getElem?_eq_getElem j1)
   obtain ⟨v2,e2,q2⟩:=qs.get (List.getElem?_eq_getElem j2)
   obtain ⟨u1,e3,q3⟩:=r1.get e1
   obtain ⟨u2,e4,q4⟩:=r2.get e2
   have f1:its.toArray[j]=u1:=by simpa using (List.getElem?_eq_some_iff.mp e3).2
   have f2:its2.toArray[j]=u2:=by simpa using (List.getElem?_eq_some_iff.mp e4).2
   have pe:pairE xs ys j=eqD xs[j] ys[j]:=by simp [pairE,List.getElem?_eq_getElem j1,List.getElem?_eq_getElem j2]
   rw [f1,f2,pe]
   rw [List.all_eq_true] at p1 p2
   exact ahy I.hok 59 X.A.in1 q1 q2 q3 q4 (p1 _ (List.getElem_mem j1)) (p2 _ (List.getElem_mem j2)) (by rw [Around.in1_units];omega)
  have c1:=RcAt.lists (A:=X.A) (s:=s) (e:=pairE xs ys) pl1.isList pl2.isList (by omega) (by omega) step
  have c2:=RcNeAt.lists (A:=X.A) (s:=s) (e:=pairE xs ys) pl1.isList pl2.isList (by omega) (by omega) step
  have ea:=a0w xs ys
  rw [hl,Nat.min_self,beq_self_eq_true,Bool.and_true,← hl] at ea
  rw [l1,ea] at c1 c2
  exact ⟨c1,c2⟩
 ·have ne:(its.toArray.size != its2.toArray.size)=true:=by rw [l1,l2];simpa using hl
  have ea:=a0w xs ys
  rw [beq_eq_false_iff_ne.mpr hl,Bool.and_false] at ea
  rw [← ea]
  exact ⟨RcAt.lists_lengths pl1.isList pl2.isList ne (by omega),RcNeAt.lists_lengths pl1.isList pl2.isList ne (by omega)⟩
theorem aoe {X:Cx} (hu:X.A.units+64<cLine):OpR X (compareOp .Eq) (asf false X.K):=by
 intro pins s σ H x y v u Q I rx ry h
 obtain ⟨ι,p,q,vs,us,xs,ys,rfl,rfl,h1,h2,r1,r2,p1,p2,hq⟩:=h
 cases rx;cases ry
 exact (agf I hu h1 h2 r1 r2 p1 p2).1 X.prog X.w X.xe _ ⟨.bl _,H,I,rfl,hq⟩
def aof (neg:Bool) (x y:D) (h:Hd):R D:=match xu x h,xu y h with
 | some xs,some ys=>if xs.all (pur 59)=true∧ys.all (pur 59)=true then .ok (.bl (if neg then !a9a xs ys else a9a xs ys)) h else .no
 | _,_=>.no
theorem akk (neg:Bool) {K:PySem.W.Frag}:a3p K (aof neg) (asf neg K):=by
 intro E ι H h x y dx dy Q rx ry hr o
 unfold aof at o
 split at o
 ·rename_i xs ys e1 e2
  split at o
  ·rename_i hc
   obtain ⟨a,vs,rfl,h1,r1⟩:=a0y rx hr e1
   obtain ⟨b,us,rfl,h2,r2⟩:=a0y ry hr e2
   exact ⟨ι,a,b,vs,us,xs,ys,rfl,rfl,h1,h2,r1,r2,hc.1,hc.2,ans o (.bl _) hr⟩
  ·exact o.elim
 ·exact o.elim
end MI
namespace L2
open PySem PySem.Spec
section
variable {X:Cx}
theorem a9o:∀ {ts:List String} {us:List Value},Vals (ts.map V.ty) us→us=ts.map Value.type
 | [],_,r=>by cases r;rfl
 | t::ts,us,r=>by
  cases r with
  | cons r rs =>
   rw [List.map_cons,← a9o rs]
   congr 1
theorem a7n:CallR X (.builtin "isinstance") (fun xs H Q=>∃ x tp t b,∃ ts:List String,xs=[x, .ref tp]∧H tp=some (.tup (ts.map V.ty))∧TyOf X.K H x (.type t)∧PySem.W.kitAny X.K (.type t) (ts.map Value.type)=some b∧Q (.bl b) H):=by
 intro pins s σ H xs us Q I r h
 obtain ⟨x,tp,t,b,ts,rfl,et,ty,e,q⟩:=h
 obtain ⟨u,w',rfl,rx,rt⟩:=vals2 r
 obtain rfl:w'=Value.ref tp:=rt
 obtain ⟨_,its,vr,o',h1,h2,n,h3⟩:=(show ObjOk X.prog X.w H s.heap tp (.tup (ts.map V.ty)) from I.hok tp _ et)
 obtain rfl:=a9o vr
 have htp:s.heap.get? tp=some ⟨.type "tuple",o'.dict, .seq (ts.map Value.type).toArray n,o'.slots⟩:=by
  rw [h1]
  obtain ⟨c,dd,dt,sl⟩:=o'
  simp only at h2 h3
  rw [h2,h3]
 have fin:∀ tk,∃ y H',Inv X pins σ H' { s with toks:=tk }∧RelV y (Value.bool b)∧Q y H':=fun tk=>⟨.bl b,H,I.tok tk,rfl,q⟩
 cases ty with
 | non=>cases (show u=Value.none from rx);exact PySem.W.kia_tup PySem.W.kitx_none I.kIn True.intro htp e (fun z=>nomatch z) fin
 | bl y=>cases (show u=Value.bool y from rx);exact PySem.W.kia_tup PySem.W.kitx_bool I.kIn True.intro htp e (fun z=>nomatch z) fin
 | int i=>obtain ⟨t,q⟩:=(show ∃ t,u=Value.int i t from rx);cases q;exact PySem.W.kia_tup PySem.W.kitx_int I.kIn True.intro htp e (fun z=>nomatch z) fin
 | str y=>obtain ⟨t,q⟩:=(show ∃ t,u=Value.str y t from rx);cases q;exact PySem.W.kia_tup PySem.W.kitx_str I.kIn True.intro htp e (fun z=>nomatch z) fin
 | flt y=>obtain ⟨t,q⟩:=(show ∃ t,u=Value.float y t from rx);cases q;exact PySem.W.kia_tup PySem.W.kitx_float I.kIn True.intro htp e (fun z=>nomatch z) fin
 | @lst a xs ea =>
  cases (show u=Value.ref a from rx)
  obtain ⟨_,_,n,_,h1⟩:=(show ObjOk X.prog X.w H s.heap a (.lst xs) from I.hok a _ ea)
  exact PySem.W.kia_tup PySem.W.kitx_list I.kIn ⟨_,h1,rfl⟩ htp e (fun z=>nomatch z) fin
 | @frz a ob xs ea =>
  cases (show u=Value.ref a from rx)
  obtain ⟨_,_,_,n,_,h1⟩:=(show ObjOk X.prog X.w H s.heap a (.frz ob (.lst xs)) from I.hok a _ ea)
  exact PySem.W.kia_tup PySem.W.kitx_list I.kIn ⟨_,h1,rfl⟩ htp e (fun z=>nomatch z) fin
 | @tup a xs ea =>
  cases (show u=Value.ref a from rx)
  obtain ⟨_,_,_,p⟩:=(show ObjOk X.prog X.w H s.heap a (.tup xs) from I.hok a _ ea)
  obtain ⟨o,h1,h2,_⟩:=p
  exact PySem.W.kia_tup PySem.W.kitx_tuple I.kIn ⟨o,h1,h2⟩ htp e (fun z=>nomatch z) fin
 | @dK a kvs ea =>
  cases (show u=Value.ref a from rx)
  obtain ⟨_,_,vs,_,p⟩:=(show ObjOk X.prog X.w H s.heap a (.dK kvs) from I.hok a _ ea)
  obtain ⟨o,es,ep,h1,h2,_⟩:=p
  exact PySem.W.kia_tup PySem.W.kitx_dict I.kIn ⟨o,h1,h2.1⟩ htp e (fun z=>nomatch z) fin
 | @dT a kvs ea =>
  cases (show u=Value.ref a from rx)
  obtain ⟨_,_,xs,_,o,es,ep,h1,h2,_⟩:=(show ObjOk X.prog X.w H s.heap a (.dT kvs) from I.hok a _ ea)
  exact PySem.W.kia_tup PySem.W.kitx_dict I.kIn ⟨o,h1,h2.1⟩ htp e (fun z=>nomatch z) fin
end
end L2
namespace MI
open PySem PySem.Spec L2
section
variable {K:PySem.W.Frag}
def agg:List D→Option (List String)
 | []=>some []
 | .ty t::r=>(agg r).map (t::·)
 | _=>none
def a3z (t:String):List String→Option Bool
 | []=>some false
 | T::r=>match a79 t T with | some true=>some true | some false=>a3z t r | none=>none
theorem a7o {t:String}:∀ {ts:List String} {b:Bool},a3z t ts=some b→PySem.W.kitAny K (.type t) (ts.map Value.type)=some b
 | [],b,e=>e
 | T::ts,b,e=>by
  unfold a3z at e
  show (match PySem.W.kitOne K (.type t) (.type T) with | some true=>some true | some false=>PySem.W.kitAny K (.type t) (ts.map Value.type) | none=>none)=some b
  cases h:a79 t T with
  | none=>rw [h] at e;cases e
  | some c =>
   rw [h] at e
   rw [a8e h]
   cases c
   ·exact a7o e
   ·exact e
theorem ada {ι:List Addr} {H:Hp}:∀ {vs:List V} {xs:List D} {ts:List String},Reps K ι H vs xs→agg xs=some ts→vs=ts.map V.ty
 | _,[],ts,r,e=>by cases r;cases e;rfl
 | _,x::xs,ts,r,e=>by
  cases r with
  | cons r rs =>
   cases r with
   | ty t =>
    unfold agg at e
    cases h:agg xs with
    | none=>rw [h] at e;cases e
    | some us=>rw [h] at e;cases e;rw [ada rs h];rfl
   | _=>unfold agg at e;cases e
def a6c:List D→Hd→R D
 | [d, .tup xs],h=>(match agg xs,tyD d h with | some ts,some t=>(match a3z t ts with | some b=>.ok (.bl b) h | none=>.no) | _,_=>.no)
 | _,_=>.no
theorem agh:ab6 K a6c (fun xs H Q=>∃ x tp t b,∃ ts:List String,xs=[x, .ref tp]∧H tp=some (.tup (ts.map V.ty))∧TyOf K H x (.type t)∧PySem.W.kitAny K (.type t) (ts.map Value.type)=some b∧Q (.bl b) H):=by
 intro E ι H h xs ds Q r hr o
 unfold a6c at o
 split at o
 ·rename_i d xs
  cases r with
  | cons r rs =>
   cases rs with
   | cons q rs =>
    cases rs
    cases q with
    | @tup p vs _ hp qs =>
     split at o
     ·rename_i ts t e1 e2
      split at o
      ·rename_i b e3
       exact ⟨_,p,t,b,ts,rfl,by rw [hp,ada qs e1],ahv r hr e2,a7o e3,ans o (.bl _) hr⟩
      ·exact o.elim
     ·exact o.elim
 ·exact o.elim
end
end MI
namespace K69
open PySem PySem.Spec L2 MI
def a03:Str→Option Bool:=fun c=>if c = "NoText" then some true else none
def a6d:Str→Option Bool:=fun c=>if c = "NoText" then some true else none
def d8:Str→Option Bool:=fun c=>if c = "NoText" then some false else none
def yu:Str→Bool:=fun c=>decide (c = "NoText")
noncomputable def uy:SE :=
 (s2 (gIn false) (sV 0) (sV 1))
noncomputable def qi:SS :=
 (uc (zj (sA uf (aj (sV 1) (aj (sC (.ty "str")) cj))) (sA ahx (aj (sZ (ud (sIt (sV 1)) t1 uy [0])) cj))))
noncomputable def p6 (jw:SF):SS :=
 (ie (sIf (a6t (a5q (sA (m5 false 2 jw) (aj (sV 0) (aj (sV 1) cj)))))
 (a7j "NoText" (aj (sC (.str "no text of the tongue")) cj))
 sNx)
 (uc (sV 1)))
noncomputable def jr:SS :=
 (qp (sML a2s (sV 6) (aj (s2 gIx (s2 gIx (sV 4) (s2 gIx (sV 6) (s1 a2i (sC (.int 1))))) (sMS a4x (sV 3) (aj (sV 7) cj))) cj)))
noncomputable def lq:SS :=
 (ie (a5s (sV 0) (a2q 3 (ju (kN 3) (ju (kN 4) (ju (kN 5) a2w)))))
 (ie (jq 6 (sA xm (aj (sV 1) cj)))
 (ie (a4u (sIt (sV 2)) (kN 7) jr)
 (uc (sV 6)))))
noncomputable def p7 (dw:SF):SS :=
 (sIf (sT (s2 hNe (s2 gIx (sV 3) (sV 6)) (s1 a2i (sC (.int 1)))))
 (jq 4 (sA sr (aj (s2 gIx (sV 3) (sV 6)) (aj (sV 5) cj))))
 sNx)
noncomputable def w6 (dw:SF):SS :=
 (ie (jq 3 (s2 gIx (sV 0) (sC (.int 2))))
 (ie (jq 4 (sC .non))
 (ie (a4u (a7m (sA (m5 false 3 dw) (aj (sV 0) (aj (sC (.int 0)) (aj (a0e (sV 1) (oS (sV 2)) oN) cj)))) (sV 2)) (a2q 2 (ju (kN 5) (ju (kN 6) a2w))) (p7 dw))
 (uc (sV 4)))))
noncomputable def v8:SE :=
 (sA sr (aj (sV 3) (aj (sV 0) (aj (sV 1) cj))))
noncomputable def vq:SS :=
 (ie (a5s (sV 0) (a2q 2 (ju (kN 1) (ju (kN 2) a2w))))
 (uc (ud (sIt (sV 2)) (tN 3) v8 [1])))
noncomputable def a1c:SS :=
 (ie (a5s (s2 gIx (s2 gIx (sV 0) (sC (.int 1))) (sV 1)) (a2q 3 (ju (kN 3) (ju (kN 4) (ju (kN 5) a2w)))))
 (uc (s2 gIx (sV 5) (sV 2))))
noncomputable def vy:SS :=
 (ie (sIf (sT (s2 hEq (s2 gIx (sV 1) (sC (.int 0))) (sC (.str "open"))))
 (uc (s2 jk (sV 0) (sA sr (aj (s2 gIx (sV 1) (sC (.int 1))) cj))))
 sNx)
 (ie (sIf (sT (s2 hEq (s2 gIx (sV 1) (sC (.int 0))) (sC (.str "turn"))))
 (uc (s2 jk (a0e (sV 0) oN (oS (s1 a2i (sC (.int 1))))) (sA sr (aj (s2 gIx (sV 1) (sC (.int 1))) cj))))
 sNx)
 (ie (sIf (sT (s2 hEq (s2 gIx (sV 1) (sC (.int 0))) (sC (.str "stay"))))
 (uc (sV 0))
 sNx)
 (uc (aaa (sT (s2 gGt (sA ye (aj (sV 0) cj)) (sC (.int 1)))) (a0e (sV 0) oN (oS (s1 a2i (sC (.int 1))))) (sC .non))))))
noncomputable def a0f (jz:SF) (dq:SF) (ik:SF) (j5:SF) (gq:SF):ST :=
 (sT (s2 a78 (sV 7) (sC .non)))
noncomputable def uv (jz:SF) (dq:SF) (ik:SF) (j5:SF) (gq:SF):SS :=
 (ie (a5s (sV 7) (a2q 2 (ju (kN 8) (ju (kN 9) a2w))))
 (ie (jq 10 (s2 gIx (sV 6) (s1 a2i (sC (.int 1)))))
 (ie (jq 11 (sA (m5 false 2 gq) (aj (sV 6) (aj (sA (m5 false 3 jz) (aj (sV 0) (aj (sV 10) (aj (sV 8) cj)))) cj))))
 (ie (sIf (sT (s2 gIs (sV 11) (sC .non)))
 (uc (sA sr (aj (sV 4) (aj (sV 5) (aj (sC (.str "low")) (aj (sV 6) cj))))))
 sNx)
 (ie (qp (sML a2s (sV 4) (aj (sA sr (aj (sV 10) (aj (sV 8) (aj (sV 5) (aj (sV 9) cj))))) cj)))
 (ie (jq 5 (sV 9))
 (ie (jq 6 (sV 11))
 (jq 7 (sA (m5 false 3 j5) (aj (s2 gIx (sV 3) (s2 gIx (sV 6) (s1 a2i (sC (.int 1))))) (aj (sV 2) (aj (sV 5) cj))))))))))))
noncomputable def ul (jz:SF) (dq:SF) (ik:SF) (j5:SF) (gq:SF):SS :=
 (ie (qp (sA (wz 2 dq) (aj (s2 gIx (sV 0) (sC (.int 0))) (aj (sV 2) cj))))
 (ie (jq 3 (sA (m5 false 1 ik) (aj (sV 0) cj)))
 (ie (jq 4 (sA xm cj))
 (ie (jq 5 (sC (.int 0)))
 (ie (jq 6 (sA sr (aj (sV 1) cj)))
 (ie (jq 7 (sA (m5 false 3 j5) (aj (s2 gIx (sV 3) (sV 1)) (aj (sV 2) (aj (sV 5) cj)))))
 (ie (qS (sWh (a0f jz dq ik j5 gq) (uv jz dq ik j5 gq) 100000))
 (uc (sA sr (aj (sV 4) (aj (sV 5) (aj (aaa (sT (s2 hEq (sV 5) (sA ye (aj (sV 2) cj)))) (sC (.str "end")) (sC (.str "none"))) (aj (sV 6) cj)))))))))))))
noncomputable def um:SS :=
 (ie (sIf (sT (s2 hEq (s2 gIx (sV 1) (sC (.int 0))) (sC (.str "open"))))
 (uc (s2 jk (sV 0) (sZ (sA xm (aj (s2 gIx (sV 1) (sC (.int 1))) cj)))))
 sNx)
 (ie (sIf (sT (s2 hEq (s2 gIx (sV 1) (sC (.int 0))) (sC (.str "turn"))))
 (uc (s2 jk (sZ (a0e (sV 0) oN (oS (s1 a2i (sC (.int 1)))))) (sZ (sA xm (aj (s2 gIx (sV 1) (sC (.int 1))) cj)))))
 sNx)
 (ie (sIf (sT (s2 hEq (s2 gIx (sV 1) (sC (.int 0))) (sC (.str "shut"))))
 (uc (a0e (sV 0) oN (oS (s1 a2i (sC (.int 1))))))
 sNx)
 (uc (sV 0)))))
noncomputable def a2m (j7:SF) (j8:SF):ST :=
 (sT (s2 gLt (sV 5) (sA ye (aj (sV 2) cj))))
noncomputable def uz (j7:SF) (j8:SF):SS :=
 (ie (jq 6 (s2 gIx (sV 4) (s1 a2i (sC (.int 1)))))
 (ie (jq 7 (sA (m5 false 4 j7) (aj (sV 0) (aj (sV 6) (aj (sV 2) (aj (sV 5) cj))))))
 (ie (sIf (sT (s2 gIs (sV 7) (sC .non)))
 (uc (sA sr (aj (sV 3) (aj (sV 5) (aj (sC (.str "none")) (aj (sA nu (aj (sV 4) cj)) cj))))))
 sNx)
 (ie (jq 8 (sA (m5 false 2 j8) (aj (sV 4) (aj (s2 gIx (s2 gIx (s2 gIx (s2 gIx (sV 0) (sC (.int 1))) (sV 6)) (sC (.int 2))) (s2 gIx (sV 7) (sC (.int 0)))) cj))))
 (ie (sIf (sT (s2 (aof false) (sV 8) (sZ (sA xm cj))))
 (uc (sA sr (aj (sV 3) (aj (sV 5) (aj (sC (.str "low")) (aj (sA nu (aj (sV 4) cj)) cj))))))
 sNx)
 (ie (qp (sML a2s (sV 3) (aj (sA sr (aj (sV 6) (aj (s2 gIx (sV 7) (sC (.int 0))) (aj (sV 5) (aj (s2 gIx (sV 7) (sC (.int 1))) cj))))) cj)))
 (ie (jq 4 (sV 8))
 (jq 5 (s2 gIx (sV 7) (sC (.int 1)))))))))))
noncomputable def a1d (j7:SF) (j8:SF):SS :=
 (ie (jq 3 (sA xm cj))
 (ie (jq 4 (sZ (sA xm (aj (sV 1) cj))))
 (ie (jq 5 (sC (.int 0)))
 (ie (sWh (a2m j7 j8) (uz j7 j8) 100000)
 (uc (sA sr (aj (sV 3) (aj (sV 5) (aj (sC (.str "end")) (aj (sA nu (aj (sV 4) cj)) cj))))))))))
noncomputable def yw (bw:SF):SS :=
 (sIf (a6t (a5q (sA (m5 false 2 bw) (aj (sV 2) (aj (sV 3) cj)))))
 aen
 sNx)
noncomputable def uo (bw:SF):SS :=
 (ie (sIf (a5q (sA a6c (aj (sV 1) (aj (sA sr (aj (sC (.ty "list")) (aj (sC (.ty "tuple")) cj))) cj))))
 (ie (sIf (sOr (sT (s2 hNe (sA uf (aj (sV 1) (aj (sC (.ty "list")) cj))) (sA uf (aj (sV 0) (aj (sC (.ty "list")) cj))))) (sT (s2 hNe (sA uf (aj (sV 1) (aj (sC (.ty "tuple")) cj))) (sA uf (aj (sV 0) (aj (sC (.ty "tuple")) cj))))))
 aen
 sNx)
 (ie (sIf (sT (s2 hNe (sA ye (aj (sV 0) cj)) (sA ye (aj (sV 1) cj))))
 aen
 sNx)
 (ie (a4u (ajz (sV 0) (sV 1)) (a2q 2 (ju (kN 2) (ju (kN 3) a2w))) (yw bw))
 (uc (sC (.bl true))))))
 sNx)
 (ie (sIf (sT (s2 gIs (sV 1) (sC .non)))
 aen
 sNx)
 (ie (sIf (a5q (sA uf (aj (sV 1) (aj (sC (.ty "str")) cj))))
 (uc (zj (sA uf (aj (sV 0) (aj (sC (.ty "str")) cj))) (s2 hEq (sV 0) (sV 1))))
 sNx)
 (uc (zj (sA uf (aj (sV 0) (aj (sC (.ty "int")) cj))) (zj (a4d (sA uf (aj (sV 0) (aj (sC (.ty "bool")) cj)))) (s2 hEq (sV 0) (sV 1))))))))
noncomputable def vz (bj:SF):SS :=
 (ie (jq 3 (sC (.bl false)))
 (ie (ao9 4 yu
 (qp (sA (wz 3 bj) (qA (aj (sV 0) (aj (sV 1) (aj (sV 2) cj))))))
 (ie (jq 3 (zj (aga 4 a6d) (aga 4 a03)))
 (sIf (a5q (aga 4 d8))
 aen
 sNx)))
 (uc (sV 3))))
noncomputable def a9p (iu:SF) (cu:SF) (iw:SF) (d9:SF) (bw:SF) (dm:SF) (dj:SF) (gh:SF) (ak:SF) (bj:SF):SE :=
 (sV 0)
noncomputable def a3a (iu:SF) (cu:SF) (iw:SF) (d9:SF) (bw:SF) (dm:SF) (dj:SF) (gh:SF) (ak:SF) (bj:SF):ST :=
 (sT (s2 (gIn true) (sV 0) (sV 1)))
noncomputable def a3b (iu:SF) (cu:SF) (iw:SF) (d9:SF) (bw:SF) (dm:SF) (dj:SF) (gh:SF) (ak:SF) (bj:SF):SS :=
 (ie (jq 7 (sA (m5 false 2 dm) (aj (sV 1) (aj (sV 2) cj))))
 (ie (jq 8 (sA (m5 false 3 iu) (aj (sV 3) (aj (sV 6) (aj (sV 7) cj)))))
 (ie (jq 9 (sA (wz 3 bj) (aj (sV 3) (aj (sV 6) (aj (sV 7) cj)))))
 (ie (qp (sML a2s (sV 5) (aj (sA sr (aj (sV 9) (aj (sV 8) cj))) cj)))
 (ie (jq 10 (sA (m5 false 2 ak) (aj (sV 1) (aj (s2 jk (sA ye (aj (sV 7) cj)) (sC (.int 1))) cj))))
 (ie (jq 11 (s2 jk (s2 jk (a0e (sV 7) oN (oS (sV 10))) (s2 gIx (sV 4) (sA (m5 false 2 ak) (aj (sV 1) (aj (sA ye (aj (sV 4) cj)) cj))))) (a0e (sV 7) (oS (sV 10)) oN)))
 (ie (jq 12 (s2 gIx (sZ (sA xm (aj (sV 11) (aj (sV 11) (aj (sC .non) (aj (sC (.int 7)) (aj (sZ (sA xm (aj (sV 7) cj))) (aj (sA sr (aj (sV 7) cj)) (aj (sC (.bl true)) cj))))))))) (sA (m5 false 2 ak) (aj (sV 1) (aj (sC (.int 7)) cj)))))
 (ie (sIf (sOr (a6t (a5q (sA (m5 false 2 bw) (aj (sV 9) (aj (sV 8) cj))))) (a6t (a5q (sA (m5 false 3 d9) (aj (sV 3) (aj (sV 6) (aj (sV 12) cj)))))))
 aen
 sNx)
 (ie (jq 13 (sA (a7l 3 bj) (aj (sV 3) (aj (sV 6) (aj (sV 7) cj)))))
 (ie (qp (sML a2s (s2 gIx (sV 13) (sC (.int 0))) (aj (sA sr (aj (sC (.int 0)) (aj (sC (.int 0)) (aj (sC (.int 0)) (aj (sC (.int 0)) cj))))) cj)))
 (ie (qp (sML a7a (s2 gIx (sV 13) (sC (.int 0))) (aj (sC (.int 0)) cj)))
 (sIf (a6t (a5q (sA (m5 false 2 bw) (aj (sA (wz 3 bj) (aj (sV 3) (aj (sV 6) (aj (sV 7) cj)))) (aj (sV 8) cj)))))
 aen
 sNx))))))))))))
noncomputable def a6e (iu:SF) (cu:SF) (iw:SF) (d9:SF) (bw:SF) (dm:SF) (dj:SF) (gh:SF) (ak:SF) (bj:SF):SS :=
 (sIf (a6t (a5q (sA (m5 false 2 bw) (aj (sV 9) (aj (sV 8) cj)))))
 aen
 sNx)
noncomputable def agi (iu:SF) (cu:SF) (iw:SF) (d9:SF) (bw:SF) (dm:SF) (dj:SF) (gh:SF) (ak:SF) (bj:SF):SS :=
 (ie (jq 1 (sA (m5 true 1 iw) (aj (sV 0) cj)))
 (ie (jq 2 (sA (m5 false 3 gh) (aj (sV 1) (aj (sA (m5 false 0 dj) cj) (aj (sC (.int 6)) cj)))))
 (ie (jq 3 (sA (m5 false 3 cu) (aj (sV 1) (aj (sV 2) (aj (s2 gIx (sZ (sA xm (aj (sC (.int 8)) (aj (sC (.int 8)) (aj (sC (.int 8)) (aj (sC (.int 16)) cj)))))) (sA (m5 false 2 ak) (aj (sV 1) (aj (sC (.int 4)) cj)))) cj)))))
 (ie (jq 4 (sZ (a4v (sIt (sA (m5 false 0 dj) cj)) t1 (a3a iu cu iw d9 bw dm dj gh ak bj) (a9p iu cu iw d9 bw dm dj gh ak bj) [2])))
 (ie (jq 5 (sA xm cj))
 (ie (a4u (sRg a0l (aj (sA ye (aj (s2 gIx (sV 3) (sC (.int 1))) cj)) cj)) (kN 6) (a3b iu cu iw d9 bw dm dj gh ak bj))
 (ie (a4u (sIt (sV 5)) (a2q 2 (ju (kN 9) (ju (kN 8) a2w))) (a6e iu cu iw d9 bw dm dj gh ak bj))
 (uc (sA (m5 false 2 bw) (aj (sA (wz 3 bj) (aj (sV 3) (aj (sC (.int 0)) (aj (sC (.str "")) cj)))) (aj (sA sr (aj (sZ (sA xm cj)) (aj (sC (.int 0)) (aj (sC (.str "end")) (aj (sA sr (aj (sC (.int 0)) cj)) cj))))) cj)))))))))))
end K69
namespace K69
open PySem PySem.Spec L2 MI
def top (i:Nat):Stmt:=PySem.Challenge.pw_nearreach_k69_moded_cuts.main.body.getD i (.Pass ⟨0,0,0,0⟩)
structure Nm (mg:Str→Option Value):Prop where
 ValueError:mg "ValueError" = none
 abs:mg "abs" = none
 all:mg "all" = none
 bool:mg "bool" = none
 enumerate:mg "enumerate" = none
 int:mg "int" = none
 isinstance:mg "isinstance" = none
 len:mg "len" = none
 list:mg "list" = none
 max:mg "max" = none
 min:mg "min" = none
 range:mg "range" = none
 str:mg "str" = none
 tuple:mg "tuple" = none
 zip:mg "zip" = none
structure Xn (K:PySem.W.Frag) (mg:Str→Option Value) (y_NoText y_ReachError y_Closed y_NoBook y_NoModes y_NoPlace y_NoTable y_Stopped y_TooMany y_Unlike:Addr):Prop where
 g_NoText:mg "NoText" = some (.ref y_NoText)
 g_ReachError:mg "ReachError" = some (.ref y_ReachError)
 g_Closed:mg "Closed" = some (.ref y_Closed)
 g_NoBook:mg "NoBook" = some (.ref y_NoBook)
 g_NoModes:mg "NoModes" = some (.ref y_NoModes)
 g_NoPlace:mg "NoPlace" = some (.ref y_NoPlace)
 g_NoTable:mg "NoTable" = some (.ref y_NoTable)
 g_Stopped:mg "Stopped" = some (.ref y_Stopped)
 g_TooMany:mg "TooMany" = some (.ref y_TooMany)
 g_Unlike:mg "Unlike" = some (.ref y_Unlike)
 n_NoText:PySem.W.nsIn K mainGlobals "NoText" = some (some (.ref y_NoText))
 c_NoText:XCls K y_NoText
 k_NoText:XKit K y_NoText
 e_NoText_ReachError:PySem.W.exmOne K (.ref y_NoText) (.ref y_ReachError)=some true
 i_NoText_ValueError:PySem.W.kitOne K (.ref y_NoText) (.type "ValueError")=some true
 i_NoText_NoText:PySem.W.kitOne K (.ref y_NoText) (.ref y_NoText)=some true
 i_NoText_Closed_NoBook_NoModes_NoPlace_NoTable_Stopped_TooMany_Unlike:PySem.W.kitAny K (.ref y_NoText) [.ref y_Closed, .ref y_NoBook, .ref y_NoModes, .ref y_NoPlace, .ref y_NoTable, .ref y_Stopped, .ref y_TooMany, .ref y_Unlike]=some false
section
variable {K:PySem.W.Frag} {mg:Str→Option Value} {y_NoText y_ReachError y_Closed y_NoBook y_NoModes y_NoPlace y_NoTable y_Stopped y_TooMany y_Unlike:Addr}
theorem a4j (Z:Xn K mg y_NoText y_ReachError y_Closed y_NoBook y_NoModes y_NoPlace y_NoTable y_Stopped y_TooMany y_Unlike):∀ c,yu c=true→∃ C,mg c=some (.ref C)∧PySem.W.nsIn K mainGlobals c=some (some (.ref C))∧PySem.W.exmOne K (.ref C) (.ref y_ReachError)=some true:=by
 intro c h
 simp only [yu,Bool.or_eq_true,decide_eq_true_eq] at h
 subst h
 ·exact ⟨_,Z.g_NoText,Z.n_NoText,Z.e_NoText_ReachError⟩
theorem a6f (Z:Xn K mg y_NoText y_ReachError y_Closed y_NoBook y_NoModes y_NoPlace y_NoTable y_Stopped y_TooMany y_Unlike):∀ c b C,a03 c=some b→PySem.W.nsIn K mainGlobals c=some (some (.ref C))→XKit K C∧PySem.W.kitOne K (.ref C) (.type "ValueError")=some b:=by
 intro c b C h q
 unfold a03 at h
 by_cases e_NoText:c = "NoText"
 ·subst e_NoText;rw [if_pos rfl] at h;cases h;cases Z.n_NoText.symm.trans q;exact ⟨Z.k_NoText,Z.i_NoText_ValueError⟩
 rw [if_neg e_NoText] at h
 cases h
theorem adb (Z:Xn K mg y_NoText y_ReachError y_Closed y_NoBook y_NoModes y_NoPlace y_NoTable y_Stopped y_TooMany y_Unlike):∀ c b C,a6d c=some b→PySem.W.nsIn K mainGlobals c=some (some (.ref C))→XKit K C∧PySem.W.kitOne K (.ref C) (.ref y_NoText)=some b:=by
 intro c b C h q
 unfold a6d at h
 by_cases e_NoText:c = "NoText"
 ·subst e_NoText;rw [if_pos rfl] at h;cases h;cases Z.n_NoText.symm.trans q;exact ⟨Z.k_NoText,Z.i_NoText_NoText⟩
 rw [if_neg e_NoText] at h
 cases h
theorem jd (Z:Xn K mg y_NoText y_ReachError y_Closed y_NoBook y_NoModes y_NoPlace y_NoTable y_Stopped y_TooMany y_Unlike):∀ c b C,d8 c=some b→PySem.W.nsIn K mainGlobals c=some (some (.ref C))→XKit K C∧PySem.W.kitAny K (.ref C) ([y_Closed,y_NoBook,y_NoModes,y_NoPlace,y_NoTable,y_Stopped,y_TooMany,y_Unlike].map Value.ref)=some b:=by
 intro c b C h q
 unfold d8 at h
 by_cases e_NoText:c = "NoText"
 ·subst e_NoText;rw [if_pos rfl] at h;cases h;cases Z.n_NoText.symm.trans q;exact ⟨Z.k_NoText,Z.i_NoText_Closed_NoBook_NoModes_NoPlace_NoTable_Stopped_TooMany_Unlike⟩
 rw [if_neg e_NoText] at h
 cases h
end
section
variable {P:Program} {w:World} {K:PySem.W.Frag} {mg:Str→Option Value} {base:Heap} {f:Addr}
theorem ash:FnScope ["tongue", "thing"] ["tongue", "thing"] (au (top 12)):=⟨rfl,rfl,rfl,by decide +kernel,rfl,by decide +kernel,by decide +kernel⟩
theorem m_0 {k:Nat} (M:Nm mg) (cdv:Value) (A:Around) (outer:List Env) (s:Shared) (H:Hp) (E:XK) (hr:Room k (A.deeper (PyProof.Rows.envOfC "is_text" (au (top 12)) s.heap.objs.size f cdv))):MSs (a0q CX0 P w K mg base ["tongue", "thing"] "is_text" (au (top 12)) f cdv A outer s H E).nox X0 (iz (top 12)) (qi) :=
 have SC:=ash
 (d7 (jj (a77 (qd (L2.CallR.or m9 km) vm rfl M.isinstance iy (aa (bc 1) (aa (a3o rfl M.str ac0) aq))) (a90 (qd (a87 rfl) aju rfl M.all amz (aa (a4i (a1m rfl (CSc.of (ts:=["sign"]) (fr:=["tongue"]) (ix:=[0]) rfl rfl rfl rfl (by intro p hp;cases List.mem_singleton.mp hp;rfl) rfl rfl rfl rfl) (a0c (bc 1)) (fun _ _ _ _=>(wg (i:=0) (show (["sign", "tongue"]:List Str).Nodup by decide +kernel) rfl (Or.inl rfl) (.inr rfl))) a3r (fun _ _ _ _=>(a5p (aj6.or abu) ajp (bc 0) (bc 1) (by with_unfolding_all rfl))))) aq))))))
theorem asi:FnScope ["tongue", "thing"] ["tongue", "thing"] (au (top 14)):=⟨rfl,rfl,rfl,by decide +kernel,rfl,by decide +kernel,by decide +kernel⟩
theorem m_1 {k:Nat} {y_NoText y_ReachError y_Closed y_NoBook y_NoModes y_NoPlace y_NoTable y_Stopped y_TooMany y_Unlike:Addr} (Z:Xn K mg y_NoText y_ReachError y_Closed y_NoBook y_NoModes y_NoPlace y_NoTable y_Stopped y_TooMany y_Unlike) {a_0:Addr} {d_0:FuncData} {k_0:Nat} {F_0:SF} (D_0:Dn P w K mg base k_0 "is_text" ["tongue", "thing"] (u5 K 2 F_0) a_0 d_0) (h_0:k_0≤k) (cdv:Value) (A:Around) (outer:List Env) (s:Shared) (H:Hp) (E:XK) (hr:Room k (A.deeper (PyProof.Rows.envOfC "looked_text" (au (top 14)) s.heap.objs.size f cdv))):MSs (cxE P w K mg base ["tongue", "thing"] "looked_text" (au (top 14)) f cdv A outer s H E) (ad6 mg E) (iz (top 14)) (p6 F_0) :=
 have SC:=asi
 (ao (sy (a4t (a0u (a09 false D_0 (hr.mono h_0) rfl (aa (bc 0) (aa (bc 1) aq)))))
 (d7 (ag8 Z.c_NoText rfl Z.g_NoText (aa mj aq)))
 jg)
 (d7 (jj (bc 1))))
theorem asj:FnScope ["table", "room", "word", "tongue", "goes", "kinds", "rooms", "sign"] ["table", "room", "word"] (au (top 15)):=⟨rfl,rfl,rfl,by decide +kernel,rfl,by decide +kernel,by decide +kernel⟩
theorem m_2 {k:Nat} (cdv:Value) (A:Around) (outer:List Env) (s:Shared) (H:Hp) (E:XK) (hr:Room k (A.deeper (PyProof.Rows.envOfC "rooms_along" (au (top 15)) s.heap.objs.size f cdv))):MSs (a0q CX0 P w K mg base ["table", "room", "word", "tongue", "goes", "kinds", "rooms", "sign"] "rooms_along" (au (top 15)) f cdv A outer s H E).nox X0 (iz (top 15)) (lq) :=
 have SC:=asj
 (ao (a93 (bc 0) (a3q rfl (lw (jt (i:=3) SC.nd rfl (Or.inl rfl)) (lw (jt (i:=4) SC.nd rfl (Or.inl rfl)) (lw (jt (i:=5) SC.nd rfl (Or.inl rfl)) a0k)))))
 (ao (di (i:=6) SC.nd rfl (Or.inl rfl) (qb (aa (bc 1) aq)))
 (ao (zu PassesOwn.never rfl (a0c (bc 2)) (jt (i:=7) SC.nd rfl (Or.inl rfl)) (d7 (v6 (a2r PySem.F.slot_list_append PySem.F.type_list_append ph xr (bc 6) (aa (bh (bh (bc 4) (bh (bc 6) (a0d az) (fun _ _=>rfl)) (fun _ _=>rfl)) (ajs PySem.F.slot_str_index PySem.F.type_str_index af9 aco (bc 3) (aa (bc 7) aq)) (fun _ _=>rfl)) aq)))))
 (d7 (jj (bc 6))))))
theorem asl:FnScope ["table", "text", "at", "kinds", "found", "end", "room"] ["table", "text", "at"] (au (top 17)):=⟨rfl,rfl,rfl,by decide +kernel,rfl,by decide +kernel,by decide +kernel⟩
theorem m_3 {k:Nat} (M:Nm mg) {a_2:Addr} {d_2:FuncData} {k_2:Nat} {F_2:SF} (D_2:Dn P w K mg base k_2 "rooms_along" ["table", "room", "word"] (u5 K 3 F_2) a_2 d_2) (h_2:k_2≤k) (cdv:Value) (A:Around) (outer:List Env) (s:Shared) (H:Hp) (E:XK) (hr:Room k (A.deeper (PyProof.Rows.envOfC "piece_at" (au (top 17)) s.heap.objs.size f cdv))):MSs (a0q CX0 P w K mg base ["table", "text", "at", "kinds", "found", "end", "room"] "piece_at" (au (top 17)) f cdv A outer s H E).nox X0 (iz (top 17)) (w6 F_2) :=
 have SC:=asl
 (ao (di (i:=3) SC.nd rfl (Or.inl rfl) (bh (bc 0) az (fun _ _=>rfl)))
 (ao (di (i:=4) SC.nd rfl (Or.inl rfl) a2g)
 (ao (zu PassesOwn.never rfl (age rfl M.enumerate (dz false D_2 (hr.mono h_2) rfl (aa (bc 0) (aa az (aa (n6 (bc 1) (ue (bc 2)) wj) aq)))) (bc 2)) (a3q rfl (lw (jt (i:=5) SC.nd rfl (Or.inl rfl)) (lw (jt (i:=6) SC.nd rfl (Or.inl rfl)) a0k))) (d7 (sy (jb (a9b hr.u) a5y (bh (bc 3) (bc 6) (fun _ _=>rfl)) (a0d az) (kh _))
 (d7 (di (i:=4) SC.nd rfl (Or.inl rfl) (lu (aa (bh (bc 3) (bc 6) (fun _ _=>rfl)) (aa (bc 5) aq)))))
 jg)))
 (d7 (jj (bc 4))))))
theorem asm:FnScope ["machine", "tongue", "modes"] ["machine"] (au (top 19)):=⟨rfl,rfl,rfl,by decide +kernel,rfl,by decide +kernel,by decide +kernel⟩
theorem m_4 {k:Nat} (cdv:Value) (A:Around) (outer:List Env) (s:Shared) (H:Hp) (E:XK) (hr:Room k (A.deeper (PyProof.Rows.envOfC "mode_tables" (au (top 19)) s.heap.objs.size f cdv))):MSs (a0q CX0 P w K mg base ["machine", "tongue", "modes"] "mode_tables" (au (top 19)) f cdv A outer s H E).nox X0 (iz (top 19)) (vq) :=
 have SC:=asm
 (ao (a93 (bc 0) (a3q rfl (lw (jt (i:=1) SC.nd rfl (Or.inr rfl)) (lw (jt (i:=2) SC.nd rfl (Or.inl rfl)) a0k))))
 (d7 (jj (a1m rfl (CSc.of (ts:=["goes", "kinds", "deeds"]) (fr:=["tongue"]) (ix:=[1]) rfl rfl rfl rfl (by intro p hp;cases List.mem_singleton.mp hp;rfl) rfl rfl rfl rfl) (a0c (bc 2)) (fun _ _ _ _=>ahb rfl (a2v (wg (i:=0) (show (["goes", "kinds", "deeds", "tongue"]:List Str).Nodup by decide +kernel) rfl (Or.inl rfl) (.inr rfl)) (a2v (wg (i:=1) (show (["goes", "kinds", "deeds", "tongue"]:List Str).Nodup by decide +kernel) rfl (Or.inl rfl) (.inr rfl)) (a2v (wg (i:=2) (show (["goes", "kinds", "deeds", "tongue"]:List Str).Nodup by decide +kernel) rfl (Or.inl rfl) (.inr rfl)) abb)))) afc (fun _ _ _ _=>(lu (aa (bc 3) (aa (bc 0) (aa (bc 1) aq)))))))))
theorem asn:FnScope ["machine", "mode", "kind", "goes", "kinds", "deeds"] ["machine", "mode", "kind"] (au (top 20)):=⟨rfl,rfl,rfl,by decide +kernel,rfl,by decide +kernel,by decide +kernel⟩
theorem m_5 {k:Nat} (cdv:Value) (A:Around) (outer:List Env) (s:Shared) (H:Hp) (E:XK) (hr:Room k (A.deeper (PyProof.Rows.envOfC "deed_of" (au (top 20)) s.heap.objs.size f cdv))):MSs (a0q CX0 P w K mg base ["machine", "mode", "kind", "goes", "kinds", "deeds"] "deed_of" (au (top 20)) f cdv A outer s H E).nox X0 (iz (top 20)) (a1c) :=
 have SC:=asn
 (ao (a93 (bh (bh (bc 0) az (fun _ _=>rfl)) (bc 1) (fun _ _=>rfl)) (a3q rfl (lw (jt (i:=3) SC.nd rfl (Or.inl rfl)) (lw (jt (i:=4) SC.nd rfl (Or.inl rfl)) (lw (jt (i:=5) SC.nd rfl (Or.inl rfl)) a0k)))))
 (d7 (jj (bh (bc 5) (bc 2) (fun _ _=>rfl)))))
theorem aso:FnScope ["pile", "deed"] ["pile", "deed"] (au (top 21)):=⟨rfl,rfl,rfl,by decide +kernel,rfl,by decide +kernel,by decide +kernel⟩
theorem m_6 {k:Nat} (M:Nm mg) (cdv:Value) (A:Around) (outer:List Env) (s:Shared) (H:Hp) (E:XK) (hr:Room k (A.deeper (PyProof.Rows.envOfC "pile_behind" (au (top 21)) s.heap.objs.size f cdv))):MSs (a0q CX0 P w K mg base ["pile", "deed"] "pile_behind" (au (top 21)) f cdv A outer s H E).nox X0 (iz (top 21)) (vy) :=
 have SC:=aso
 (ao (sy (jb (a00 hr.u) wu (bh (bc 1) az (fun _ _=>rfl)) mj (kh _))
 (d7 (jj (jc (bc 0) (lu (aa (bh (bc 1) az (fun _ _=>rfl)) aq)))))
 jg)
 (ao (sy (jb (a00 hr.u) wu (bh (bc 1) az (fun _ _=>rfl)) mj (kh _))
 (d7 (jj (jc (n6 (bc 0) wj (ue (a0d az))) (lu (aa (bh (bc 1) az (fun _ _=>rfl)) aq)))))
 jg)
 (ao (sy (jb (a00 hr.u) wu (bh (bc 1) az (fun _ _=>rfl)) mj (kh _))
 (d7 (jj (bc 0)))
 jg)
 (d7 (jj (ahn (jb aew a97 (qd (L2.CallR.or gj gk) nq rfl M.len uw (aa (bc 0) aq)) az (kh _)) (n6 (bc 0) wj (ue (a0d az))) a2g))))))
theorem asp:FnScope ["machine", "start", "text", "tables", "pieces", "place", "pile", "found", "kind", "end", "mode", "later"] ["machine", "start", "text"] (au (top 23)):=⟨rfl,rfl,rfl,by decide +kernel,rfl,by decide +kernel,by decide +kernel⟩
theorem m_7 {k:Nat} (M:Nm mg) {a_5:Addr} {d_5:FuncData} {k_5:Nat} {F_5:SF} (D_5:Dn P w K mg base k_5 "deed_of" ["machine", "mode", "kind"] (u5 K 3 F_5) a_5 d_5) (h_5:k_5≤k) {a_1:Addr} {d_1:FuncData} {k_1:Nat} {F_1:SF} (D_1:DnX P w K mg base k_1 "looked_text" ["tongue", "thing"] (spX K mg 2 F_1) a_1 d_1) (h_1:k_1≤k) {a_4:Addr} {d_4:FuncData} {k_4:Nat} {F_4:SF} (D_4:Dn P w K mg base k_4 "mode_tables" ["machine"] (u5 K 1 F_4) a_4 d_4) (h_4:k_4≤k) {a_3:Addr} {d_3:FuncData} {k_3:Nat} {F_3:SF} (D_3:Dn P w K mg base k_3 "piece_at" ["table", "text", "at"] (u5 K 3 F_3) a_3 d_3) (h_3:k_3≤k) {a_6:Addr} {d_6:FuncData} {k_6:Nat} {F_6:SF} (D_6:Dn P w K mg base k_6 "pile_behind" ["pile", "deed"] (u5 K 2 F_6) a_6 d_6) (h_6:k_6≤k) (cdv:Value) (A:Around) (outer:List Env) (s:Shared) (H:Hp) (E:XK) (hr:Room k (A.deeper (PyProof.Rows.envOfC "moded_cut" (au (top 23)) s.heap.objs.size f cdv))):MSs (cxE P w K mg base ["machine", "start", "text", "tables", "pieces", "place", "pile", "found", "kind", "end", "mode", "later"] "moded_cut" (au (top 23)) f cdv A outer s H E) (ad6 mg E) (iz (top 23)) (ul F_5 F_1 F_4 F_3 F_6) :=
 have SC:=asp
 (ao (v6 (ag7 D_1 (hr.mono h_1) rfl (aa (bh (bc 0) az (fun _ _=>rfl)) (aa (bc 2) aq))))
 (ao (di (i:=3) SC.nd rfl (Or.inl rfl) (a09 false D_4 (hr.mono h_4) rfl (aa (bc 0) aq)))
 (ao (di (i:=4) SC.nd rfl (Or.inl rfl) (qb aq))
 (ao (di (i:=5) SC.nd rfl (Or.inl rfl) az)
 (ao (di (i:=6) SC.nd rfl (Or.inl rfl) (lu (aa (bc 1) aq)))
 (ao (di (i:=7) SC.nd rfl (Or.inl rfl) (a09 false D_3 (hr.mono h_3) rfl (aa (bh (bc 3) (bc 1) (fun _ _=>rfl)) (aa (bc 2) (aa (bc 5) aq)))))
 (ao (au0 (a5r 100000 PassesOwn.never (jb (ais.or a86) ach (bc 7) a2g (kh _)) (ao (a93 (bc 7) (a3q rfl (lw (jt (i:=8) SC.nd rfl (Or.inl rfl)) (lw (jt (i:=9) SC.nd rfl (Or.inl rfl)) a0k))))
 (ao (di (i:=10) SC.nd rfl (Or.inl rfl) (bh (bc 6) (a0d az) (fun _ _=>rfl)))
 (ao (di (i:=11) SC.nd rfl (Or.inl rfl) (a09 false D_6 (hr.mono h_6) rfl (aa (bc 6) (aa (a09 false D_5 (hr.mono h_5) rfl (aa (bc 0) (aa (bc 10) (aa (bc 8) aq)))) aq))))
 (ao (sy (jb (abj.or a5m) acg (bc 11) a2g (kh _))
 (d7 (jj (lu (aa (bc 4) (aa (bc 5) (aa mj (aa (bc 6) aq)))))))
 jg)
 (ao (v6 (a2r PySem.F.slot_list_append PySem.F.type_list_append ph xr (bc 4) (aa (lu (aa (bc 10) (aa (bc 8) (aa (bc 5) (aa (bc 9) aq))))) aq)))
 (ao (di (i:=5) SC.nd rfl (Or.inl rfl) (bc 9))
 (ao (di (i:=6) SC.nd rfl (Or.inl rfl) (bc 11))
 (d7 (di (i:=7) SC.nd rfl (Or.inl rfl) (a09 false D_3 (hr.mono h_3) rfl (aa (bh (bc 3) (bh (bc 6) (a0d az) (fun _ _=>rfl)) (fun _ _=>rfl)) (aa (bc 2) (aa (bc 5) aq)))))))))))))))
 (d7 (jj (lu (aa (bc 4) (aa (bc 5) (aa (ahn (jb (a00 hr.u) wu (bc 5) (qd (L2.CallR.or gj gk) nq rfl M.len uw (aa (bc 2) aq)) (kh _)) mj mj) (aa (bc 6) aq))))))))))))))
theorem asq:FnScope ["_law_script"] ["_law_script"] (au (top 25)):=⟨rfl,rfl,rfl,by decide +kernel,rfl,by decide +kernel,by decide +kernel⟩
theorem m_8 {k:Nat} (cdv:Value) (A:Around) (outer:List Env) (s:Shared) (H:Hp) (E:XK) (hr:Room k (A.deeper (PyProof.Rows.envOfC "_law_pen" (au (top 25)) s.heap.objs.size f cdv))):MSs (a0q CX0 P w K mg base ["_law_script"] "_law_pen" (au (top 25)) f cdv A outer s H E).nox X0 (iz (top 25)) (PN.a1b) :=
 have SC:=asq
 (d7 (jj (qb (aa (a4i (n6 (bc 0) wj (ue az))) (aa az (aa az aq))))))
theorem asr:FnScope ["_law_pen_here", "_law_many", "_law_found", "_law_at", "_law_cell", "_law_great", "_law_number"] ["_law_pen_here", "_law_many"] (au (top 26)):=⟨rfl,rfl,rfl,by decide +kernel,rfl,by decide +kernel,by decide +kernel⟩
theorem m_9 {k:Nat} (M:Nm mg) (cdv:Value) (A:Around) (outer:List Env) (s:Shared) (H:Hp) (E:XK) (hr:Room k (A.deeper (PyProof.Rows.envOfC "_law_take" (au (top 26)) s.heap.objs.size f cdv))):MSs (a0q CX0 P w K mg base ["_law_pen_here", "_law_many", "_law_found", "_law_at", "_law_cell", "_law_great", "_law_number"] "_law_take" (au (top 26)) f cdv A outer s H E).nox X0 (iz (top 26)) (PN.a1s) :=
 have SC:=asr
 (ao (sy (jb aew a97 (bh (bc 0) az (fun _ _=>rfl)) az (kh _))
 (ao (di (i:=2) SC.nd rfl (Or.inl rfl) (a2h (bh (bc 0) az (fun _ _=>rfl)) (bc 1)))
 (ao (a92 (acf (bh (bc 0) az (fun _ _=>rfl)) (bc 1)) (bc 0) az)
 (d7 (jj (bc 2)))))
 jg)
 (ao (di (i:=3) SC.nd rfl (Or.inl rfl) (bh (bc 0) az (fun _ _=>rfl)))
 (ao (a92 (jc (bc 3) az) (bc 0) az)
 (ao (di (i:=4) SC.nd rfl (Or.inl rfl) az)
 (ao (sy (jb aew a97 (qd (L2.CallR.or gj gk) nq rfl M.len uw (aa (bh (bc 0) az (fun _ _=>rfl)) aq)) az (kh _))
 (d7 (di (i:=4) SC.nd rfl (Or.inl rfl) (bh (bh (bc 0) az (fun _ _=>rfl)) (a2h (bc 3) (qd (L2.CallR.or gj gk) nq rfl M.len uw (aa (bh (bc 0) az (fun _ _=>rfl)) aq))) (fun _ _=>rfl))))
 jg)
 (ao (sy (PW.pt (anb (jb (aev.or a0r) a96 (bc 3) (qd (L2.CallR.or gj gk) nq rfl M.len uw (aa (bh (bc 0) az (fun _ _=>rfl)) aq)) (kh _)) (aje (jb amh aht (qd a8v ack rfl M.abs ahk (aa (bc 4) aq)) (ahs az az) (kh _)))))
 (ao (di (i:=5) SC.nd rfl (Or.inl rfl) (jc (a68 az (qd a8v ack rfl M.abs ahk (aa (bc 4) aq))) (yo abl ajq rfl M.int ahl (aa (a5p (aev.or a0r) a96 (bc 4) az (kh _)) aq))))
 (ao (a92 (acf (bc 5) (bc 1)) (bc 0) az)
 (d7 (jj (a2h (bc 5) (bc 1))))))
 jg)
 (ao (di (i:=6) SC.nd rfl (Or.inl rfl) (a2h (ahs (jc (jc (a2h (bc 4) az) (a68 az (bc 3))) az) az) az))
 (ao (di (i:=6) SC.nd rfl (Or.inl rfl) (a2h (jc (jc (a68 (bc 6) (bc 6)) (a68 az (bc 6))) (bc 3)) az))
 (d7 (jj (a2h (acf (bc 6) az) (bc 1))))))))))))
theorem aog:FnScope ["_law_some_here"] [] (au (top 27)):=⟨rfl,rfl,rfl,by decide +kernel,rfl,by decide +kernel,by decide +kernel⟩
theorem au3 {k:Nat} (cdv:Value) (A:Around) (outer:List Env) (s:Shared) (H:Hp) (E:XK) (hr:Room k (A.deeper (PyProof.Rows.envOfC "_law_signs" (au (top 27)) s.heap.objs.size f cdv))):MSs (a0q CX0 P w K mg base ["_law_some_here"] "_law_signs" (au (top 27)) f cdv A outer s H E).nox X0 (iz (top 27)) (PN.wy) :=
 have SC:=aog
 (ao (di (i:=0) SC.nd rfl (Or.inl rfl) mj)
 (d7 (jj (jc (bc 0) mj))))
theorem aoh:FnScope ["_law_pen_here", "_law_rest", "_law_most", "_law_found", "_law_k", "_law_at"] ["_law_pen_here", "_law_rest", "_law_most"] (au (top 28)):=⟨rfl,rfl,rfl,by decide +kernel,rfl,by decide +kernel,by decide +kernel⟩
theorem au4 {k:Nat} (M:Nm mg) {a_9:Addr} {d_9:FuncData} {k_9:Nat} {F_9:SF} (D_9:Dn P w K mg base k_9 "_law_take" ["_law_pen_here", "_law_many"] (u5 K 2 F_9) a_9 d_9) (h_9:k_9≤k) (cdv:Value) (A:Around) (outer:List Env) (s:Shared) (H:Hp) (E:XK) (hr:Room k (A.deeper (PyProof.Rows.envOfC "_law_some" (au (top 28)) s.heap.objs.size f cdv))):MSs (a0q CX0 P w K mg base ["_law_pen_here", "_law_rest", "_law_most", "_law_found", "_law_k", "_law_at"] "_law_some" (au (top 28)) f cdv A outer s H E).nox X0 (iz (top 28)) (PN.a1t F_9) :=
 have SC:=aoh
 (ao (di (i:=3) SC.nd rfl (Or.inl rfl) mj)
 (ao (zu PassesOwn.never rfl (a1l rfl M.range (aa (jc az (dz false D_9 (hr.mono h_9) rfl (aa (bc 0) (aa (bc 2) aq)))) aq)) (jt (i:=4) SC.nd rfl (Or.inl rfl)) (ao (di (i:=5) SC.nd rfl (Or.inl rfl) (dz false D_9 (hr.mono h_9) rfl (aa (bc 0) (aa (qd (L2.CallR.or gj gk) nq rfl M.len uw (aa (bc 1) aq)) aq))))
 (ao (di (i:=3) SC.nd rfl (Or.inl rfl) (jc (bc 3) (bh (bc 1) (bc 5) (fun _ _=>rfl))))
 (d7 (di (i:=1) SC.nd rfl (Or.inl rfl) (jc (n6 (bc 1) wj (ue (bc 5))) (n6 (bc 1) (ue (jc (bc 5) az)) wj)))))))
 (d7 (jj (bc 3)))))
theorem aoi:FnScope ["_law_tongue", "_law_goes", "_law_kinds", "_law_turn", "_law_met", "_law_at", "_law_there", "_law_rows"] ["_law_tongue", "_law_goes", "_law_kinds", "_law_turn"] (au (top 29)):=⟨rfl,rfl,rfl,by decide +kernel,rfl,by decide +kernel,by decide +kernel⟩
theorem au5 {k:Nat} (M:Nm mg) (cdv:Value) (A:Around) (outer:List Env) (s:Shared) (H:Hp) (E:XK) (hr:Room k (A.deeper (PyProof.Rows.envOfC "_law_cut_down" (au (top 29)) s.heap.objs.size f cdv))):MSs (a0q CX0 P w K mg base ["_law_tongue", "_law_goes", "_law_kinds", "_law_turn", "_law_met", "_law_at", "_law_there", "_law_rows"] "_law_cut_down" (au (top 29)) f cdv A outer s H E).nox X0 (iz (top 29)) (PN.uq) :=
 have SC:=aoi
 (ao (di (i:=4) SC.nd rfl (Or.inr rfl) (qb (aa az aq)))
 (ao (di (i:=5) SC.nd rfl (Or.inl rfl) az)
 (ao (a5r 100000 PassesOwn.never (jb (aev.or a0r) a96 (bc 5) (qd (L2.CallR.or gj gk) nq rfl M.len uw (aa (bc 4) aq)) (kh _)) (ao (zu PassesOwn.never rfl (a0c (bh (bc 1) (bh (bc 4) (bc 5) (fun _ _=>rfl)) (fun _ _=>rfl))) (jt (i:=6) SC.nd rfl (Or.inl rfl)) (d7 (sy (jb (a4r.or a2e) acj (bc 6) (bc 4) (by with_unfolding_all rfl))
 (d7 (v6 (a2r PySem.F.slot_list_append PySem.F.type_list_append ph xr (bc 4) (aa (bc 6) aq))))
 jg)))
 (d7 (di (i:=5) SC.nd rfl (Or.inl rfl) (jc (bc 5) az)))))
 (ao (di (i:=3) SC.nd rfl (Or.inl rfl) (jc az (a2h (bc 3) (qd (L2.CallR.or gj gk) nq rfl M.len uw (aa (bc 4) aq)))))
 (ao (di (i:=4) SC.nd rfl (Or.inr rfl) (jc (a4i (jc (a4i (qb (aa az aq))) (a4i (n6 (bc 4) (ue (bc 3)) wj)))) (a4i (n6 (bc 4) (ue az) (ue (bc 3))))))
 (ao (di (i:=7) SC.nd rfl (Or.inl rfl) (yo (L2.CallR.or kj (m7 rfl)) ux rfl M.tuple qx (aa (a4i (a1m rfl (CSc.of (ts:=["_law_room"]) (fr:=["_law_goes", "_law_met"]) (ix:=[1,4]) rfl rfl rfl rfl (by intro p hp;simp only [List.mem_cons,List.not_mem_nil,or_false] at hp;rcases hp with rfl | rfl<;>rfl) rfl rfl rfl rfl) (a0c (bc 4)) (fun _ _ _ _=>(wg (i:=0) (show (["_law_room", "_law_goes", "_law_met"]:List Str).Nodup by decide +kernel) rfl (Or.inl rfl) (.inr rfl))) a3r (fun _ _ _ _=>(yo (L2.CallR.or kj (m7 rfl)) ux rfl M.tuple qx (aa (a4i (a1m rfl (CSc.of (ts:=["_law_there"]) (fr:=["_law_met"]) (ix:=[2]) rfl rfl rfl rfl (by intro p hp;cases List.mem_singleton.mp hp;rfl) rfl rfl rfl rfl) (a0c (bh (bc 1) (bc 0) (fun _ _=>rfl))) (fun _ _ _ _=>(wg (i:=0) (show (["_law_there", "_law_met"]:List Str).Nodup by decide +kernel) rfl (Or.inl rfl) (.inr rfl))) a3r (fun _ _ _ _=>(a2r PySem.F.slot_list_index PySem.F.type_list_index ad1 aah (bc 1) (aa (bc 0) aq))))) aq))))) aq)))
 (d7 (jj (lu (aa (bc 0) (aa (bc 7) (aa (yo (L2.CallR.or kj (m7 rfl)) ux rfl M.tuple qx (aa (a4i (a1m rfl (CSc.of (ts:=["_law_room"]) (fr:=["_law_kinds"]) (ix:=[2]) rfl rfl rfl rfl (by intro p hp;cases List.mem_singleton.mp hp;rfl) rfl rfl rfl rfl) (a0c (bc 4)) (fun _ _ _ _=>(wg (i:=0) (show (["_law_room", "_law_kinds"]:List Str).Nodup by decide +kernel) rfl (Or.inl rfl) (.inr rfl))) a3r (fun _ _ _ _=>(bh (bc 1) (bc 0) (fun _ _=>rfl))))) aq)) aq))))))))))))
theorem aoj:FnScope ["_law_pen_here", "_law_tongue", "_law_most", "_law_many", "_law_road", "_law_often", "_law_goes", "_law_kinds", "_law_room", "_law_row", "_law_kind"] ["_law_pen_here", "_law_tongue", "_law_most"] (au (top 30)):=⟨rfl,rfl,rfl,by decide +kernel,rfl,by decide +kernel,by decide +kernel⟩
theorem au6 {k:Nat} (M:Nm mg) {a_12:Addr} {d_12:FuncData} {k_12:Nat} {F_12:SF} (D_12:Dn P w K mg base k_12 "_law_cut_down" ["_law_tongue", "_law_goes", "_law_kinds", "_law_turn"] (u5 K 4 F_12) a_12 d_12) (h_12:k_12≤k) {a_9:Addr} {d_9:FuncData} {k_9:Nat} {F_9:SF} (D_9:Dn P w K mg base k_9 "_law_take" ["_law_pen_here", "_law_many"] (u5 K 2 F_9) a_9 d_9) (h_9:k_9≤k) (cdv:Value) (A:Around) (outer:List Env) (s:Shared) (H:Hp) (E:XK) (hr:Room k (A.deeper (PyProof.Rows.envOfC "_law_table" (au (top 30)) s.heap.objs.size f cdv))):MSs (a0q CX0 P w K mg base ["_law_pen_here", "_law_tongue", "_law_most", "_law_many", "_law_road", "_law_often", "_law_goes", "_law_kinds", "_law_room", "_law_row", "_law_kind"] "_law_table" (au (top 30)) f cdv A outer s H E).nox X0 (iz (top 30)) (PN.yq F_12 F_9) :=
 have SC:=aoj
 (ao (di (i:=3) SC.nd rfl (Or.inr rfl) (jc az (dz false D_9 (hr.mono h_9) rfl (aa (bc 0) (aa (bc 2) aq)))))
 (ao (di (i:=4) SC.nd rfl (Or.inl rfl) (dz false D_9 (hr.mono h_9) rfl (aa (bc 0) (aa az aq))))
 (ao (di (i:=5) SC.nd rfl (Or.inl rfl) (jc az (dz false D_9 (hr.mono h_9) rfl (aa (bc 0) (aa az aq)))))
 (ao (di (i:=6) SC.nd rfl (Or.inl rfl) (qb aq))
 (ao (di (i:=7) SC.nd rfl (Or.inl rfl) (qb aq))
 (ao (zu PassesOwn.never rfl (a1l rfl M.range (aa (bc 3) aq)) (jt (i:=8) SC.nd rfl (Or.inl rfl)) (ao (ak2 (i:=9) SC.nd rfl (Or.inl rfl) rfl (CSc.of (ts:=["_law_sign"]) (fr:=["_law_pen_here", "_law_many"]) (ix:=[0,3]) rfl rfl rfl rfl (by intro p hp;simp only [List.mem_cons,List.not_mem_nil,or_false] at hp;rcases hp with rfl | rfl<;>rfl) rfl rfl rfl rfl) (a0c (bc 1)) (fun _ _ _ _=>(wg (i:=0) (show (["_law_sign", "_law_pen_here", "_law_many"]:List Str).Nodup by decide +kernel) rfl (Or.inl rfl) (.inr rfl))) a3r (fun _ _ _ _=>(dz false D_9 (hr.mono h_9) rfl (aa (bc 1) (aa (bc 2) aq)))))
 (ao (sy (jb (a00 hr.u) wu (bc 4) az (kh _))
 (d7 (a92 (qd (abk rfl) afg rfl M.min anr (aa (jc (bc 8) az) (aa (ahr (bc 3) az) aq))) (bc 9) (dz false D_9 (hr.mono h_9) rfl (aa (bc 0) (aa (qd (L2.CallR.or gj gk) nq rfl M.len uw (aa (bc 9) aq)) aq)))))
 jg)
 (ao (di (i:=10) SC.nd rfl (Or.inl rfl) (dz false D_9 (hr.mono h_9) rfl (aa (bc 0) (aa az aq))))
 (ao (sy (PW.pt (ajf (jb (a00 hr.u) wu (bc 8) az (kh _)) (ac6 (jb aew a97 (dz false D_9 (hr.mono h_9) rfl (aa (bc 0) (aa (bc 5) aq))) az (kh _)))))
 (d7 (di (i:=10) SC.nd rfl (Or.inl rfl) (a0d az)))
 jg)
 (ao (v6 (a2r PySem.F.slot_list_append PySem.F.type_list_append ph xr (bc 6) (aa (bc 9) aq)))
 (d7 (v6 (a2r PySem.F.slot_list_append PySem.F.type_list_append ph xr (bc 7) (aa (bc 10) aq))))))))))
 (d7 (jj (ajk D_12 (hr.mono h_12) rfl (aa (bc 1) (aa (bc 6) (aa (bc 7) (aa (dz false D_9 (hr.mono h_9) rfl (aa (bc 0) (aa az aq))) aq)))))))))))))
theorem aok:FnScope ["_law_pen_here", "_law_size", "_law_many", "_law_found", "_law_k", "_law_there", "_law_some_here"] ["_law_pen_here", "_law_size", "_law_many"] (au (top 31)):=⟨rfl,rfl,rfl,by decide +kernel,rfl,by decide +kernel,by decide +kernel⟩
theorem au7 {k:Nat} (M:Nm mg) {a_9:Addr} {d_9:FuncData} {k_9:Nat} {F_9:SF} (D_9:Dn P w K mg base k_9 "_law_take" ["_law_pen_here", "_law_many"] (u5 K 2 F_9) a_9 d_9) (h_9:k_9≤k) (cdv:Value) (A:Around) (outer:List Env) (s:Shared) (H:Hp) (E:XK) (hr:Room k (A.deeper (PyProof.Rows.envOfC "_law_deeds" (au (top 31)) s.heap.objs.size f cdv))):MSs (a0q CX0 P w K mg base ["_law_pen_here", "_law_size", "_law_many", "_law_found", "_law_k", "_law_there", "_law_some_here"] "_law_deeds" (au (top 31)) f cdv A outer s H E).nox X0 (iz (top 31)) (PN.yr F_9) :=
 have SC:=aok
 (ao (di (i:=3) SC.nd rfl (Or.inl rfl) (qb aq))
 (ao (zu PassesOwn.never rfl (a1l rfl M.range (aa (bc 1) aq)) (jt (i:=4) SC.nd rfl (Or.inl rfl)) (ao (di (i:=5) SC.nd rfl (Or.inl rfl) (dz false D_9 (hr.mono h_9) rfl (aa (bc 0) (aa (bc 2) aq))))
 (ao (di (i:=6) SC.nd rfl (Or.inl rfl) (a4i (qb (aa (lu (aa mj aq)) (aa (lu (aa mj aq)) (aa (lu (aa mj (aa (bc 5) aq))) (aa (lu (aa mj (aa (bc 5) aq))) (aa (lu (aa mj aq)) (aa (lu (aa mj (aa (bc 5) aq))) aq)))))))))
 (d7 (v6 (a2r PySem.F.slot_list_append PySem.F.type_list_append ph xr (bc 3) (aa (bh (bc 6) (dz false D_9 (hr.mono h_9) rfl (aa (bc 0) (aa az aq))) (fun _ _=>rfl)) aq)))))))
 (d7 (jj (yo (L2.CallR.or kj (m7 rfl)) ux rfl M.tuple qx (aa (bc 3) aq))))))
theorem aol:FnScope ["_law_pen_here", "_law_tongue", "_law_most", "_law_many", "_law_modes", "_law_k", "_law_table_here", "_law_least"] ["_law_pen_here", "_law_tongue", "_law_most"] (au (top 32)):=⟨rfl,rfl,rfl,by decide +kernel,rfl,by decide +kernel,by decide +kernel⟩
theorem au8 {k:Nat} (M:Nm mg) {a_14:Addr} {d_14:FuncData} {k_14:Nat} {F_14:SF} (D_14:Dn P w K mg base k_14 "_law_deeds" ["_law_pen_here", "_law_size", "_law_many"] (u5 K 3 F_14) a_14 d_14) (h_14:k_14≤k) {a_13:Addr} {d_13:FuncData} {k_13:Nat} {F_13:SF} (D_13:Dn P w K mg base k_13 "_law_table" ["_law_pen_here", "_law_tongue", "_law_most"] (u5 K 3 F_13) a_13 d_13) (h_13:k_13≤k) {a_9:Addr} {d_9:FuncData} {k_9:Nat} {F_9:SF} (D_9:Dn P w K mg base k_9 "_law_take" ["_law_pen_here", "_law_many"] (u5 K 2 F_9) a_9 d_9) (h_9:k_9≤k) (cdv:Value) (A:Around) (outer:List Env) (s:Shared) (H:Hp) (E:XK) (hr:Room k (A.deeper (PyProof.Rows.envOfC "_law_machine" (au (top 32)) s.heap.objs.size f cdv))):MSs (a0q CX0 P w K mg base ["_law_pen_here", "_law_tongue", "_law_most", "_law_many", "_law_modes", "_law_k", "_law_table_here", "_law_least"] "_law_machine" (au (top 32)) f cdv A outer s H E).nox X0 (iz (top 32)) (PN.vp F_14 F_13 F_9) :=
 have SC:=aol
 (ao (di (i:=3) SC.nd rfl (Or.inl rfl) (jc az (dz false D_9 (hr.mono h_9) rfl (aa (bc 0) (aa az aq)))))
 (ao (di (i:=4) SC.nd rfl (Or.inl rfl) (qb aq))
 (ao (zu PassesOwn.never rfl (a1l rfl M.range (aa (bc 3) aq)) (jt (i:=5) SC.nd rfl (Or.inl rfl)) (ao (di (i:=6) SC.nd rfl (Or.inl rfl) (dz false D_13 (hr.mono h_13) rfl (aa (bc 0) (aa (bc 1) (aa (bc 2) aq)))))
 (ao (di (i:=7) SC.nd rfl (Or.inl rfl) (jc (qd (aaj rfl) ag1 rfl M.max anq (aa (bh (bc 6) az (fun _ _=>rfl)) aq)) az))
 (d7 (v6 (a2r PySem.F.slot_list_append PySem.F.type_list_append ph xr (bc 4) (aa (lu (aa (bh (bc 6) az (fun _ _=>rfl)) (aa (bh (bc 6) az (fun _ _=>rfl)) (aa (dz false D_14 (hr.mono h_14) rfl (aa (bc 0) (aa (jc (bc 7) (dz false D_9 (hr.mono h_9) rfl (aa (bc 0) (aa (ahr az (bc 7)) aq)))) (aa (bc 3) aq)))) aq)))) aq)))))))
 (d7 (jj (lu (aa (bc 1) (aa (yo (L2.CallR.or kj (m7 rfl)) ux rfl M.tuple qx (aa (bc 4) aq)) aq))))))))
theorem aom:FnScope ["_law_machine_here", "_law_mode", "_law_text", "_law_start", "_law_room", "_law_found", "_law_at"] ["_law_machine_here", "_law_mode", "_law_text", "_law_start"] (au (top 33)):=⟨rfl,rfl,rfl,by decide +kernel,rfl,by decide +kernel,by decide +kernel⟩
theorem au9 {k:Nat} (M:Nm mg) (cdv:Value) (A:Around) (outer:List Env) (s:Shared) (H:Hp) (E:XK) (hr:Room k (A.deeper (PyProof.Rows.envOfC "_law_first" (au (top 33)) s.heap.objs.size f cdv))):MSs (a0q CX0 P w K mg base ["_law_machine_here", "_law_mode", "_law_text", "_law_start", "_law_room", "_law_found", "_law_at"] "_law_first" (au (top 33)) f cdv A outer s H E).nox X0 (iz (top 33)) (PN.yt) :=
 have SC:=aom
 (ao (di (i:=4) SC.nd rfl (Or.inl rfl) az)
 (ao (di (i:=5) SC.nd rfl (Or.inl rfl) a2g)
 (ao (zu PassesOwn.never rfl (aji rfl M.range (aa (bc 3) (aa (qd (L2.CallR.or gj gk) nq rfl M.len uw (aa (bc 2) aq)) aq))) (jt (i:=6) SC.nd rfl (Or.inl rfl)) (ao (di (i:=4) SC.nd rfl (Or.inl rfl) (bh (bh (bh (bh (bh (bc 0) az (fun _ _=>rfl)) (bc 1) (fun _ _=>rfl)) az (fun _ _=>rfl)) (bc 4) (fun _ _=>rfl)) (ajs PySem.F.slot_str_find PySem.F.type_str_find aj7 afi (bh (bc 0) az (fun _ _=>rfl)) (aa (bh (bc 2) (bc 6) (fun _ _=>rfl)) aq)) (fun _ _=>rfl)))
 (d7 (sy (jb amh aht (bh (bh (bh (bh (bc 0) az (fun _ _=>rfl)) (bc 1) (fun _ _=>rfl)) az (fun _ _=>rfl)) (bc 4) (fun _ _=>rfl)) az (kh _))
 (d7 (di (i:=5) SC.nd rfl (Or.inl rfl) (lu (aa (bh (bh (bh (bh (bc 0) az (fun _ _=>rfl)) (bc 1) (fun _ _=>rfl)) az (fun _ _=>rfl)) (bc 4) (fun _ _=>rfl)) (aa (jc (bc 6) az) aq)))))
 jg))))
 (d7 (jj (bc 5))))))
theorem aon:FnScope ["_law_modes", "_law_deed"] ["_law_modes", "_law_deed"] (au (top 34)):=⟨rfl,rfl,rfl,by decide +kernel,rfl,by decide +kernel,by decide +kernel⟩
theorem aua {k:Nat} (cdv:Value) (A:Around) (outer:List Env) (s:Shared) (H:Hp) (E:XK) (hr:Room k (A.deeper (PyProof.Rows.envOfC "_law_later" (au (top 34)) s.heap.objs.size f cdv))):MSs (a0q CX0 P w K mg base ["_law_modes", "_law_deed"] "_law_later" (au (top 34)) f cdv A outer s H E).nox X0 (iz (top 34)) (um) :=
 have SC:=aon
 (ao (sy (jb (a00 hr.u) wu (bh (bc 1) az (fun _ _=>rfl)) mj (kh _))
 (d7 (jj (jc (bc 0) (a4i (qb (aa (bh (bc 1) az (fun _ _=>rfl)) aq))))))
 jg)
 (ao (sy (jb (a00 hr.u) wu (bh (bc 1) az (fun _ _=>rfl)) mj (kh _))
 (d7 (jj (jc (a4i (n6 (bc 0) wj (ue (a0d az)))) (a4i (qb (aa (bh (bc 1) az (fun _ _=>rfl)) aq))))))
 jg)
 (ao (sy (jb (a00 hr.u) wu (bh (bc 1) az (fun _ _=>rfl)) mj (kh _))
 (d7 (jj (n6 (bc 0) wj (ue (a0d az)))))
 jg)
 (d7 (jj (bc 0))))))
theorem aoo:FnScope ["_law_machine_here", "_law_start", "_law_text", "_law_pieces", "_law_modes", "_law_at", "_law_mode", "_law_found", "_law_after"] ["_law_machine_here", "_law_start", "_law_text"] (au (top 35)):=⟨rfl,rfl,rfl,by decide +kernel,rfl,by decide +kernel,by decide +kernel⟩
theorem aub {k:Nat} (M:Nm mg) {a_16:Addr} {d_16:FuncData} {k_16:Nat} {F_16:SF} (D_16:Dn P w K mg base k_16 "_law_first" ["_law_machine_here", "_law_mode", "_law_text", "_law_start"] (u5 K 4 F_16) a_16 d_16) (h_16:k_16≤k) {a_17:Addr} {d_17:FuncData} {k_17:Nat} {F_17:SF} (D_17:Dn P w K mg base k_17 "_law_later" ["_law_modes", "_law_deed"] (u5 K 2 F_17) a_17 d_17) (h_17:k_17≤k) (cdv:Value) (A:Around) (outer:List Env) (s:Shared) (H:Hp) (E:XK) (hr:Room k (A.deeper (PyProof.Rows.envOfC "_law_cut" (au (top 35)) s.heap.objs.size f cdv))):MSs (a0q CX0 P w K mg base ["_law_machine_here", "_law_start", "_law_text", "_law_pieces", "_law_modes", "_law_at", "_law_mode", "_law_found", "_law_after"] "_law_cut" (au (top 35)) f cdv A outer s H E).nox X0 (iz (top 35)) (a1d F_16 F_17) :=
 have SC:=aoo
 (ao (di (i:=3) SC.nd rfl (Or.inl rfl) (qb aq))
 (ao (di (i:=4) SC.nd rfl (Or.inl rfl) (a4i (qb (aa (bc 1) aq))))
 (ao (di (i:=5) SC.nd rfl (Or.inl rfl) az)
 (ao (a5r 100000 PassesOwn.never (jb (aev.or a0r) a96 (bc 5) (qd (L2.CallR.or gj gk) nq rfl M.len uw (aa (bc 2) aq)) (kh _)) (ao (di (i:=6) SC.nd rfl (Or.inl rfl) (bh (bc 4) (a0d az) (fun _ _=>rfl)))
 (ao (di (i:=7) SC.nd rfl (Or.inl rfl) (dz false D_16 (hr.mono h_16) rfl (aa (bc 0) (aa (bc 6) (aa (bc 2) (aa (bc 5) aq))))))
 (ao (sy (jb (abj.or a5m) acg (bc 7) a2g (kh _))
 (d7 (jj (lu (aa (bc 3) (aa (bc 5) (aa mj (aa (yo (L2.CallR.or kj (m7 rfl)) ux rfl M.tuple qx (aa (bc 4) aq)) aq)))))))
 jg)
 (ao (di (i:=8) SC.nd rfl (Or.inl rfl) (dz false D_17 (hr.mono h_17) rfl (aa (bc 4) (aa (bh (bh (bh (bh (bc 0) az (fun _ _=>rfl)) (bc 6) (fun _ _=>rfl)) az (fun _ _=>rfl)) (bh (bc 7) az (fun _ _=>rfl)) (fun _ _=>rfl)) aq))))
 (ao (sy (jb (aoe hr.u) (akk false) (bc 8) (a4i (qb aq)) (kh _))
 (d7 (jj (lu (aa (bc 3) (aa (bc 5) (aa mj (aa (yo (L2.CallR.or kj (m7 rfl)) ux rfl M.tuple qx (aa (bc 4) aq)) aq)))))))
 jg)
 (ao (v6 (a2r PySem.F.slot_list_append PySem.F.type_list_append ph xr (bc 3) (aa (lu (aa (bc 6) (aa (bh (bc 7) az (fun _ _=>rfl)) (aa (bc 5) (aa (bh (bc 7) az (fun _ _=>rfl)) aq))))) aq)))
 (ao (di (i:=4) SC.nd rfl (Or.inl rfl) (bc 8))
 (d7 (di (i:=5) SC.nd rfl (Or.inl rfl) (bh (bc 7) az (fun _ _=>rfl))))))))))))
 (d7 (jj (lu (aa (bc 3) (aa (bc 5) (aa mj (aa (yo (L2.CallR.or kj (m7 rfl)) ux rfl M.tuple qx (aa (bc 4) aq)) aq)))))))))))
theorem aop:FnScope ["_law_pen_here", "_law_tongue", "_law_size"] ["_law_pen_here", "_law_tongue"] (au (top 36)):=⟨rfl,rfl,rfl,by decide +kernel,rfl,by decide +kernel,by decide +kernel⟩
theorem auc {k:Nat} (M:Nm mg) {a_9:Addr} {d_9:FuncData} {k_9:Nat} {F_9:SF} (D_9:Dn P w K mg base k_9 "_law_take" ["_law_pen_here", "_law_many"] (u5 K 2 F_9) a_9 d_9) (h_9:k_9≤k) (cdv:Value) (A:Around) (outer:List Env) (s:Shared) (H:Hp) (E:XK) (hr:Room k (A.deeper (PyProof.Rows.envOfC "_law_signed" (au (top 36)) s.heap.objs.size f cdv))):MSs (a0q CX0 P w K mg base ["_law_pen_here", "_law_tongue", "_law_size"] "_law_signed" (au (top 36)) f cdv A outer s H E).nox X0 (iz (top 36)) (PN.xq F_9) :=
 have SC:=aop
 (ao (di (i:=2) SC.nd rfl (Or.inl rfl) (dz false D_9 (hr.mono h_9) rfl (aa (bc 0) (aa (bh (a4i (qb (aa az (aa az (aa az (aa az (aa az (aa az aq)))))))) (dz false D_9 (hr.mono h_9) rfl (aa (bc 0) (aa az aq))) (fun _ _=>rfl)) aq))))
 (d7 (jj (ajs PySem.F.slot_str_join PySem.F.type_str_join aj9 afj mj (aa (a4i (a1m rfl (CSc.of (ts:=["_law_k"]) (fr:=["_law_pen_here", "_law_tongue"]) (ix:=[0,1]) rfl rfl rfl rfl (by intro p hp;simp only [List.mem_cons,List.not_mem_nil,or_false] at hp;rcases hp with rfl | rfl<;>rfl) rfl rfl rfl rfl) (a1l rfl M.range (aa (bc 2) aq)) (fun _ _ _ _=>(wg (i:=0) (show (["_law_k", "_law_pen_here", "_law_tongue"]:List Str).Nodup by decide +kernel) rfl (Or.inl rfl) (.inr rfl))) a3r (fun _ _ _ _=>(bh (bc 2) (dz false D_9 (hr.mono h_9) rfl (aa (bc 1) (aa (qd (L2.CallR.or gj gk) nq rfl M.len uw (aa (bc 2) aq)) aq))) (fun _ _=>rfl))))) aq)))))
theorem aoq:FnScope ["_law_found", "_law_due", "_law_one", "_law_other"] ["_law_found", "_law_due"] (au (top 37)):=⟨rfl,rfl,rfl,by decide +kernel,rfl,by decide +kernel,by decide +kernel⟩
theorem aud {k:Nat} (M:Nm mg) {a_20:Addr} {apt:FuncData} {k_20:Nat} {F_20:SF} (D_20:Dn P w K mg base k_20 "_law_same" ["_law_found", "_law_due"] (u5 K 2 F_20) a_20 apt) (h_20:k_20≤k) (cdv:Value) (A:Around) (outer:List Env) (s:Shared) (H:Hp) (E:XK) (hr:Room k (A.deeper (PyProof.Rows.envOfC "_law_same" (au (top 37)) s.heap.objs.size f cdv))):MSs (a0q CX0 P w K mg base ["_law_found", "_law_due", "_law_one", "_law_other"] "_law_same" (au (top 37)) f cdv A outer s H E).nox X0 (iz (top 37)) (uo F_20) :=
 have SC:=aoq
 (ao (sy (a0u (qd a7n agh rfl M.isinstance iy (aa (bc 1) (aa (lu (aa (a3o rfl M.list a88) (aa (a3o rfl M.tuple qx) aq))) aq))))
 (ao (sy (PW.pt (ajf (jb (a9b hr.u) a5y (qd (L2.CallR.or m9 km) vm rfl M.isinstance iy (aa (bc 1) (aa (a3o rfl M.list a88) aq))) (qd (L2.CallR.or m9 km) vm rfl M.isinstance iy (aa (bc 0) (aa (a3o rfl M.list a88) aq))) (kh _)) (ac6 (jb (a9b hr.u) a5y (qd (L2.CallR.or m9 km) vm rfl M.isinstance iy (aa (bc 1) (aa (a3o rfl M.tuple qx) aq))) (qd (L2.CallR.or m9 km) vm rfl M.isinstance iy (aa (bc 0) (aa (a3o rfl M.tuple qx) aq))) (kh _)))))
 a2k
 jg)
 (ao (sy (jb (a9b hr.u) a5y (qd (L2.CallR.or gj gk) nq rfl M.len uw (aa (bc 0) aq)) (qd (L2.CallR.or gj gk) nq rfl M.len uw (aa (bc 1) aq)) (kh _))
 a2k
 jg)
 (ao (zu PassesOwn.never rfl (anv rfl M.zip anw (bc 0) (bc 1)) (a3q rfl (lw (jt (i:=2) SC.nd rfl (Or.inl rfl)) (lw (jt (i:=3) SC.nd rfl (Or.inl rfl)) a0k))) (d7 (sy (a4t (a0u (dz false D_20 (hr.mono h_20) rfl (aa (bc 2) (aa (bc 3) aq)))))
 a2k
 jg)))
 (d7 (jj ajb)))))
 jg)
 (ao (sy (jb (abj.or a5m) acg (bc 1) a2g (kh _))
 a2k
 jg)
 (ao (sy (a0u (qd (L2.CallR.or m9 km) vm rfl M.isinstance iy (aa (bc 1) (aa (a3o rfl M.str ac0) aq))))
 (d7 (jj (a77 (qd (L2.CallR.or m9 km) vm rfl M.isinstance iy (aa (bc 0) (aa (a3o rfl M.str ac0) aq))) (a90 (a5p (a00 hr.u) wu (bc 0) (bc 1) (kh _))))))
 jg)
 (d7 (jj (a77 (qd (L2.CallR.or m9 km) vm rfl M.isinstance iy (aa (bc 0) (aa (a3o rfl M.int ahl) aq))) (a77 (anc (qd (L2.CallR.or m9 km) vm rfl M.isinstance iy (aa (bc 0) (aa (a3o rfl M.bool ajv) aq)))) (a90 (a5p (a00 hr.u) wu (bc 0) (bc 1) (kh _))))))))))
theorem aor:FnScope ["_law_machine_here", "_law_start", "_law_thing", "_law_good", "e"] ["_law_machine_here", "_law_start", "_law_thing"] (au (top 38)):=⟨rfl,rfl,rfl,by decide +kernel,rfl,by decide +kernel,by decide +kernel⟩
theorem aue {k:Nat} (M:Nm mg) {y_NoText y_ReachError y_Closed y_NoBook y_NoModes y_NoPlace y_NoTable y_Stopped y_TooMany y_Unlike:Addr} (Z:Xn K mg y_NoText y_ReachError y_Closed y_NoBook y_NoModes y_NoPlace y_NoTable y_Stopped y_TooMany y_Unlike) {a_7:Addr} {d_7:FuncData} {k_7:Nat} {F_7:SF} (D_7:DnX P w K mg base k_7 "moded_cut" ["machine", "start", "text"] (spX K mg 3 F_7) a_7 d_7) (h_7:k_7≤k) (cdv:Value) (A:Around) (outer:List Env) (s:Shared) (H:Hp) (E:XK) (hr:Room k (A.deeper (PyProof.Rows.envOfC "_law_refused" (au (top 38)) s.heap.objs.size f cdv))):MSs (a0q CX0 P w K mg base ["_law_machine_here", "_law_start", "_law_thing", "_law_good", "e"] "_law_refused" (au (top 38)) f cdv A outer s H E).nox X0 (iz (top 38)) (vz F_7) :=
 have SC:=aor
 (ao (di (i:=3) SC.nd rfl (Or.inl rfl) ajb)
 (ao (aoa (i:=4) ⟨rfl,Z.g_ReachError,SC.nd,rfl,rfl,⟨rfl,rfl⟩,by decide⟩ (a4j Z)
 (akh (akg D_7 (hr.mono h_7) rfl (aa (bc 0) (aa (bc 1) (aa (bc 2) aq)))))
 (fun a=>(ao (di (i:=3) SC.nd rfl (Or.inl rfl) (a77 (ai3 (i:=4) rfl M.isinstance iy rfl (Or.inl rfl) (ym (v:=.ref y_NoText) rfl Z.g_NoText rfl) (.inl ⟨_,rfl,rfl⟩) (adb Z)) (a90 (ai3 (i:=4) rfl M.isinstance iy rfl (Or.inl rfl) (ab9 (v:=.ty "ValueError") rfl M.ValueError PyProof.Rows.Boot.«ValueError» rfl) (.inr ⟨_,rfl,rfl⟩) (a6f Z)))))
 (d7 (sy (a0u (aki (i:=4) (cs:=[y_Closed,y_NoBook,y_NoModes,y_NoPlace,y_NoTable,y_Stopped,y_TooMany,y_Unlike]) rfl M.isinstance iy rfl (Or.inl rfl) (p8 (ym (v:=.ref y_Closed) rfl Z.g_Closed rfl) (p8 (ym (v:=.ref y_NoBook) rfl Z.g_NoBook rfl) (p8 (ym (v:=.ref y_NoModes) rfl Z.g_NoModes rfl) (p8 (ym (v:=.ref y_NoPlace) rfl Z.g_NoPlace rfl) (p8 (ym (v:=.ref y_NoTable) rfl Z.g_NoTable rfl) (p8 (ym (v:=.ref y_Stopped) rfl Z.g_Stopped rfl) (p8 (ym (v:=.ref y_TooMany) rfl Z.g_TooMany rfl) (p8 (ym (v:=.ref y_Unlike) rfl Z.g_Unlike rfl) a4p)))))))) (fun _ _ _ q=>q) (a89 (by simp)) (jd Z)))
 a2k
 jg)))))
 (d7 (jj (bc 3)))))
theorem aos:FnScope ["_law_script", "_law_pen_here", "_law_tongue", "_law_machine_here", "_law_rest", "_law_held", "_law_start", "_law_text", "_law_due", "_law_found", "_law_at", "_law_odd", "_law_bad", "_law_told"] ["_law_script"] (au (top 39)):=⟨rfl,rfl,rfl,by decide +kernel,rfl,by decide +kernel,by decide +kernel⟩
theorem auf {k:Nat} (M:Nm mg) {a_18:Addr} {d_18:FuncData} {k_18:Nat} {F_18:SF} (D_18:Dn P w K mg base k_18 "_law_cut" ["_law_machine_here", "_law_start", "_law_text"] (u5 K 3 F_18) a_18 d_18) (h_18:k_18≤k) {a_15:Addr} {d_15:FuncData} {k_15:Nat} {F_15:SF} (D_15:Dn P w K mg base k_15 "_law_machine" ["_law_pen_here", "_law_tongue", "_law_most"] (u5 K 3 F_15) a_15 d_15) (h_15:k_15≤k) {a_8:Addr} {d_8:FuncData} {k_8:Nat} {F_8:SF} (D_8:Dn P w K mg base k_8 "_law_pen" ["_law_script"] (u5 K 1 F_8) a_8 d_8) (h_8:k_8≤k) {a_21:Addr} {d_21:FuncData} {k_21:Nat} {F_21:SF} (D_21:Dn P w K mg base k_21 "_law_refused" ["_law_machine_here", "_law_start", "_law_thing"] (u5 K 3 F_21) a_21 d_21) (h_21:k_21≤k) {a_20:Addr} {apt:FuncData} {k_20:Nat} {F_20:SF} (D_20:Dn P w K mg base k_20 "_law_same" ["_law_found", "_law_due"] (u5 K 2 F_20) a_20 apt) (h_20:k_20≤k) {a_19:Addr} {d_19:FuncData} {k_19:Nat} {F_19:SF} (D_19:Dn P w K mg base k_19 "_law_signed" ["_law_pen_here", "_law_tongue"] (u5 K 2 F_19) a_19 d_19) (h_19:k_19≤k) {a_10:Addr} {d_10:FuncData} {k_10:Nat} {F_10:SF} (D_10:Dn P w K mg base k_10 "_law_signs" [] (u5 K 0 F_10) a_10 d_10) (h_10:k_10≤k) {a_11:Addr} {d_11:FuncData} {k_11:Nat} {F_11:SF} (D_11:Dn P w K mg base k_11 "_law_some" ["_law_pen_here", "_law_rest", "_law_most"] (u5 K 3 F_11) a_11 d_11) (h_11:k_11≤k) {a_9:Addr} {d_9:FuncData} {k_9:Nat} {F_9:SF} (D_9:Dn P w K mg base k_9 "_law_take" ["_law_pen_here", "_law_many"] (u5 K 2 F_9) a_9 d_9) (h_9:k_9≤k) {a_7:Addr} {d_7:FuncData} {k_7:Nat} {F_7:SF} (D_7:DnX P w K mg base k_7 "moded_cut" ["machine", "start", "text"] (spX K mg 3 F_7) a_7 d_7) (h_7:k_7≤k) (cdv:Value) (A:Around) (outer:List Env) (s:Shared) (H:Hp) (E:XK) (hr:Room k (A.deeper (PyProof.Rows.envOfC "law" (au (top 39)) s.heap.objs.size f cdv))):MSs (a0q CX0 P w K mg base ["_law_script", "_law_pen_here", "_law_tongue", "_law_machine_here", "_law_rest", "_law_held", "_law_start", "_law_text", "_law_due", "_law_found", "_law_at", "_law_odd", "_law_bad", "_law_told"] "law" (au (top 39)) f cdv A outer s H E).nox X0 (iz (top 39)) (agi F_18 F_15 F_8 F_21 F_20 F_19 F_10 F_11 F_9 F_7) :=
 have SC:=aos
 (ao (di (i:=1) SC.nd rfl (Or.inl rfl) (dz true D_8 (hr.mono h_8) rfl (aa (bc 0) aq)))
 (ao (di (i:=2) SC.nd rfl (Or.inr rfl) (dz false D_11 (hr.mono h_11) rfl (aa (bc 1) (aa (a7f false D_10 (hr.mono h_10) rfl) (aa az aq)))))
 (ao (di (i:=3) SC.nd rfl (Or.inl rfl) (dz false D_15 (hr.mono h_15) rfl (aa (bc 1) (aa (bc 2) (aa (bh (a4i (qb (aa az (aa az (aa az (aa az aq)))))) (dz false D_9 (hr.mono h_9) rfl (aa (bc 1) (aa az aq))) (fun _ _=>rfl)) aq)))))
 (ao (aft (i:=4) SC.nd rfl (Or.inl rfl) rfl (CSc.of (ts:=["_law_sign"]) (fr:=["_law_tongue"]) (ix:=[2]) rfl rfl rfl rfl (by intro p hp;cases List.mem_singleton.mp hp;rfl) rfl rfl rfl rfl) (a0c (a7f false D_10 (hr.mono h_10) rfl)) (fun _ _ _ _=>(wg (i:=0) (show (["_law_sign", "_law_tongue"]:List Str).Nodup by decide +kernel) rfl (Or.inl rfl) (.inr rfl))) a3r (fun _ _ _ _=>(bc 0)) (fun _ _ _ _=>(jb (a4r.or a2e) acj (bc 0) (bc 1) (by with_unfolding_all rfl))))
 (ao (di (i:=5) SC.nd rfl (Or.inl rfl) (qb aq))
 (ao (zu PassesOwn.never rfl (a1l rfl M.range (aa (qd (L2.CallR.or gj gk) nq rfl M.len uw (aa (bh (bc 3) az (fun _ _=>rfl)) aq)) aq)) (jt (i:=6) SC.nd rfl (Or.inl rfl)) (ao (di (i:=7) SC.nd rfl (Or.inl rfl) (dz false D_19 (hr.mono h_19) rfl (aa (bc 1) (aa (bc 2) aq))))
 (ao (di (i:=8) SC.nd rfl (Or.inl rfl) (dz false D_18 (hr.mono h_18) rfl (aa (bc 3) (aa (bc 6) (aa (bc 7) aq)))))
 (ao (di (i:=9) SC.nd rfl (Or.inl rfl) (a3y D_7 (hr.mono h_7) rfl (aa (bc 3) (aa (bc 6) (aa (bc 7) aq)))))
 (ao (v6 (a2r PySem.F.slot_list_append PySem.F.type_list_append ph xr (bc 5) (aa (lu (aa (bc 9) (aa (bc 8) aq))) aq)))
 (ao (di (i:=10) SC.nd rfl (Or.inl rfl) (dz false D_9 (hr.mono h_9) rfl (aa (bc 1) (aa (jc (qd (L2.CallR.or gj gk) nq rfl M.len uw (aa (bc 7) aq)) az) aq))))
 (ao (di (i:=11) SC.nd rfl (Or.inl rfl) (jc (jc (n6 (bc 7) wj (ue (bc 10))) (bh (bc 4) (dz false D_9 (hr.mono h_9) rfl (aa (bc 1) (aa (qd (L2.CallR.or gj gk) nq rfl M.len uw (aa (bc 4) aq)) aq))) (fun _ _=>rfl))) (n6 (bc 7) (ue (bc 10)) wj)))
 (ao (di (i:=12) SC.nd rfl (Or.inl rfl) (bh (a4i (qb (aa (bc 11) (aa (bc 11) (aa a2g (aa az (aa (a4i (qb (aa (bc 7) aq))) (aa (lu (aa (bc 7) aq)) (aa ajb aq))))))))) (dz false D_9 (hr.mono h_9) rfl (aa (bc 1) (aa az aq))) (fun _ _=>rfl)))
 (ao (sy (PW.pt (ajf (a4t (a0u (dz false D_20 (hr.mono h_20) rfl (aa (bc 9) (aa (bc 8) aq))))) (ac6 (a4t (a0u (dz false D_21 (hr.mono h_21) rfl (aa (bc 3) (aa (bc 6) (aa (bc 12) aq)))))))))
 a2k
 jg)
 (ao (di (i:=13) SC.nd rfl (Or.inl rfl) (agc D_7 (hr.mono h_7) rfl (aa (bc 3) (aa (bc 6) (aa (bc 7) aq)))))
 (ao (v6 (a2r PySem.F.slot_list_append PySem.F.type_list_append ph xr (bh (bc 13) az (fun _ _=>rfl)) (aa (lu (aa az (aa az (aa az (aa az aq))))) aq)))
 (ao (v6 (a2r PySem.F.slot_list_pop PySem.F.type_list_pop af2 acl (bh (bc 13) az (fun _ _=>rfl)) (aa az aq)))
 (d7 (sy (a4t (a0u (dz false D_20 (hr.mono h_20) rfl (aa (a3y D_7 (hr.mono h_7) rfl (aa (bc 3) (aa (bc 6) (aa (bc 7) aq)))) (aa (bc 8) aq)))))
 a2k
 jg))))))))))))))
 (ao (zu PassesOwn.never rfl (a0c (bc 5)) (a3q rfl (lw (jt (i:=9) SC.nd rfl (Or.inl rfl)) (lw (jt (i:=8) SC.nd rfl (Or.inl rfl)) a0k))) (d7 (sy (a4t (a0u (dz false D_20 (hr.mono h_20) rfl (aa (bc 9) (aa (bc 8) aq)))))
 a2k
 jg)))
 (d7 (jj (dz false D_20 (hr.mono h_20) rfl (aa (a3y D_7 (hr.mono h_7) rfl (aa (bc 3) (aa az (aa mj aq)))) (aa (lu (aa (a4i (qb aq)) (aa az (aa mj (aa (lu (aa az aq)) aq))))) aq))))))))))))
end
end K69
namespace HND
open PySem PySem.Spec L2 MI
noncomputable def wy:SS :=
 (ie (jq 0 (sC (.str " !\"#$&'()*+,-./0123456789:;<=>?@ABCDEFGHIJKLMNOPQRSTUVWXYZ[\\]^_`")))
 (uc (s2 jk (sV 0) (sC (.str "abcdefghijklmnopqrstuvwxyz{|}~\n")))))
end HND
namespace MI
open PySem PySem.Spec L2
abbrev S (l:List Nat):Str:=⟨l.toArray⟩
theorem a1e (l:List Nat):(S l).cps.toList=l:=by simp
theorem a8l (l:List Nat):(S l).length=l.length:=by simp [Str.length]
theorem agj (x:Str):S x.cps.toList=x:=by cases x;simp
theorem akl (a b:List Nat):S a++S b=S (a++b):=by rw [← agj (S a++S b),aqr]
section
variable {h:Hd} {a b l:List Nat} {i:Nat} {c:Nat}
theorem ar8 (hl:l.length≤LINE) (e:l[i]? = some c):gIx (.str (S l)) (.int (i:Nat)) h = .ok (.str (S [c])) h:=by
 unfold gIx
 simp only [a8l,if_pos hl,a1e,u9 e]
theorem adc (hl:a.length+b.length≤LINE):jk (.str (S a)) (.str (S b)) h = .ok (.str (S (a++b))) h:=by
 unfold jk
 simp only [a8l,if_pos hl,akl]
theorem aav (hl:l.length≤LINE):ye [.str (S l)] h = .ok (.int l.length) h:=by
 unfold ye
 simp only [a8l,if_pos hl]
theorem ass (k:Nat) (hl:l.length≤LINE):a9g (.str (S l)) none (some (k:Int)) h = .ok (.str (S (l.take k))) h:=by
 show gSl (.str (S l)) none (some (k:Int)) h=_
 unfold gSl
 simp only [a8l,if_pos hl,a1e,ac1]
theorem ade (k:Nat) (hl:l.length≤LINE):a9g (.str (S l)) (some (k:Int)) none h = .ok (.str (S (l.drop k))) h:=by
 show gSl (.str (S l)) (some (k:Int)) none h=_
 unfold gSl
 simp only [a8l,if_pos hl,a1e,a76]
end
section
variable {h:Hd} {i j:Int} {xs ys:List D}
theorem a0b:gIx (.tup xs) (.int i) h=(match atI xs i with | some d=>.ok d h | none=>.no):=rfl
theorem a2n:gIx (.rol xs) (.int i) h=(match atI xs i with | some d=>.ok d h | none=>.no):=rfl
theorem a2o {k:Nat}:gIx (.ref k) (.int i) h=(match zp (.ref k) h with | some xs=>(match atI xs i with | some d=>.ok d h | none=>.no) | none=>.no):=rfl
theorem a04:ye [.tup xs] h = .ok (.int xs.length) h:=rfl
theorem a0o:ye [.rol xs] h = .ok (.int xs.length) h:=rfl
theorem a0p {k:Nat}:ye [.ref k] h=(match zp (.ref k) h with | some xs=>.ok (.int xs.length) h | none=>.no):=rfl
theorem vf:jk (.int i) (.int j) h = .ok (.int (i+j)) h:=rfl
theorem a1v:aqx (.int i) (.int j) h = .ok (.int (i+j)) h:=rfl
open Classical in
theorem a5c:a2u (.int i) (.int j) h=if CMul i j then .ok (.int (i*j)) h else .no:=by unfold a2u;rfl
theorem qz (b:Bool):tru (.bl b) h = .ok b h:=rfl
theorem a1w:tru (.int i) h = .ok (i != 0) h:=rfl
theorem a1x:tru (.rol xs) h = .ok (!xs.isEmpty) h:=rfl
theorem a1y:tru (.tup xs) h = .ok (!xs.isEmpty) h:=rfl
theorem a1z:tru .non h = .ok false h:=rfl
theorem a7p:hEq (.int i) (.int j) h = .ok (.bl (i == j)) h:=rfl
theorem a7q:hNe (.int i) (.int j) h = .ok (.bl (!(i == j))) h:=rfl
theorem aaw (a b:Bool):hEq (.bl a) (.bl b) h = .ok (.bl (a == b)) h:=rfl
theorem aax (a b:Bool):hNe (.bl a) (.bl b) h = .ok (.bl (!(a == b))) h:=rfl
theorem a2p (x:D):gIs x .non h = .ok (.bl (a4g x)) h:=by cases x<;>rfl
theorem v4 (x:D):a78 x .non h = .ok (.bl (!a4g x)) h:=by cases x<;>rfl
theorem aay (a b:Bool):gIs (.bl a) (.bl b) h = .ok (.bl (a == b)) h:=rfl
theorem a0a (a b:Bool):a78 (.bl a) (.bl b) h = .ok (.bl (a != b)) h:=rfl
theorem alj:a4g (.int i)=false:=rfl
theorem alk (x:Str):a4g (.str x)=false:=rfl
theorem alm:a4g .non=true:=rfl
theorem aln:a4g (.tup xs)=false:=rfl
end
end MI
namespace HND
open PySem PySem.Spec L2 MI AT
local macro_rules | `(tactic| walk_at "ev") => `(tactic| simp only [qm,v9,a5a,a3w,a5b,jq,alf,aaf,sIf,uc,qp,a91,put,aai,a5s,a2q,ju,a2w,kN,sV,sC,s2,s1,sA,aj,cj,sNx,sT,asB,a5q,qz,a1w,a1x,a1y,a1z,ahm,sOr,a6t,zj,ale,a4d,sCh,aaa,du,a1r,MI.a0b,MI.a2n,MI.a2o,ak4,zp,gLt,gGt,gGe,gLe,a7p,a7q,aaw,aax,a2p,v4,aay,a0a,alj,alk,alm,aln,vf,MI.a8t,a4f,aac,a5c,AT.aau,AT.p18,a04,a0o,a0p,afh,a1v,a2i,a3s,aad,MI.sr,MI.xm,sML,isL,a2s,oN,oS,a0e,xu,sIt,aab,sRg,List.length_map,List.length_cons,List.length_nil,List.length_append,List.getElem?_cons_zero,List.getElem?_cons_succ,List.set_cons_zero,List.set_cons_succ,List.nil_append,List.cons_append,AT.aam,AT.aan,AT.aao,AT.aap,AT.aaq,AT.aar,AT.aas,AT.aat,AT.x10,AT.x20,AT.x21,AT.x30,AT.x31,AT.x32,AT.x40,AT.x41,AT.x42,AT.x43,AT.x50,AT.x51,AT.x52,AT.x53,AT.x54,AT.x60,AT.x61,AT.x62,AT.x63,AT.x64,AT.x65,AT.x70,AT.x71,AT.x72,AT.x73,AT.x74,AT.x75,AT.x76,decide_true,decide_false,reduceIte,Bool.true_and,Bool.and_self,Bool.not_true,Bool.not_false,and_self,true_and,and_true,beq_self_eq_true,Nat.reduceAdd,Nat.reduceLeDiff,Nat.reduceLT,Nat.reducePow,Int.reduceLT,Int.reduceLE,Int.reduceNeg,Int.reduceEq,Int.reduceBEq,Bool.false_eq_true,Bool.true_eq_false,ite_true,ite_false,if_true,if_false, *])
end HND
namespace HND
open PySem PySem.Spec L2 MI AT
local macro_rules | `(tactic| walk_at "ev") => `(tactic| simp only [qm,v9,a5a,a3w,a5b,jq,alf,aaf,sIf,uc,qp,a91,put,aai,a5s,a2q,ju,a2w,kN,sV,sC,s2,s1,sA,aj,cj,sNx,sT,asB,a5q,qz,a1w,a1x,a1y,a1z,ahm,sOr,a6t,zj,ale,a4d,sCh,aaa,du,a1r,MI.a0b,MI.a2n,MI.a2o,ak4,zp,gLt,gGt,gGe,gLe,a7p,a7q,aaw,aax,a2p,v4,aay,a0a,alj,alk,alm,aln,vf,MI.a8t,a4f,aac,a5c,AT.aau,AT.p18,a04,a0o,a0p,afh,a1v,a2i,a3s,aad,MI.sr,MI.xm,sML,isL,a2s,oN,oS,a0e,xu,sIt,aab,sRg,a4u,a0l,a5t,akb,aka,afx,ajz,anu,srcOf,  List.length_map,List.length_cons,List.length_nil,List.length_append,List.getElem?_cons_zero,List.getElem?_cons_succ,List.set_cons_zero,List.set_cons_succ,List.nil_append,List.cons_append,AT.aam,AT.aan,AT.aao,AT.aap,AT.aaq,AT.aar,AT.aas,AT.aat,AT.x10,AT.x20,AT.x21,AT.x30,AT.x31,AT.x32,AT.x40,AT.x41,AT.x42,AT.x43,AT.x50,AT.x51,AT.x52,AT.x53,AT.x54,AT.x60,AT.x61,AT.x62,AT.x63,AT.x64,AT.x65,AT.x70,AT.x71,AT.x72,AT.x73,AT.x74,AT.x75,AT.x76,decide_true,decide_false,reduceIte,Bool.true_and,Bool.and_self,Bool.not_true,Bool.not_false,and_self,true_and,and_true,beq_self_eq_true,Nat.reduceAdd,Nat.reduceLeDiff,Nat.reduceLT,Nat.reducePow,Int.reduceLT,Int.reduceLE,Int.reduceNeg,Int.reduceEq,Int.reduceBEq,Bool.false_eq_true,Bool.true_eq_false,ite_true,ite_false,if_true,if_false, *])
def aq0:Str := " !\"#$&'()*+,-./0123456789:;<=>?@ABCDEFGHIJKLMNOPQRSTUVWXYZ[\\]^_`"
def aq1:Str := "abcdefghijklmnopqrstuvwxyz{|}~\n"
def sig:List Nat:=aq0.cps.toList++aq1.cps.toList
theorem a4a:sig.length=95:=by decide +kernel
theorem ai6:sig.Nodup:=by decide +kernel
noncomputable def dj:SF:=mq wy 1
theorem lits {h:Hd}:jk (.str aq0) (.str aq1) h = .ok (.str (S sig)) h:=by
 rw [← agj aq0,← agj aq1,adc (by decide +kernel)]
 rfl
theorem a3c:Pu dj 0 [] (.str (S sig)):=by
 refine Pu.of rfl (by simp) (r:=.ok (.str (S sig)) []) ?_ (by rw [lz (gf _) (by simp)];rfl) (gf _)
 unfold dj
 rw [j6]
 unfold wy
 have e:=@lits []
 unfold aq0 aq1 at e
 show toR (ie (jq 0 _) _ [none] [])=_
 simp only [qm,jq,sC,a1r,v9,uc,s2,sV,List.set_cons_zero,List.getElem?_cons_zero,du,e,a3w]
structure Tongue (l:List Nat):Prop where
 lo:1≤l.length
 hi:l.length≤6
 nd:l.Nodup
 sub:∀ c∈l,c∈sig
theorem adf (a r:List Nat) (i:Nat) (c:Nat) (e:r[i]? = some c):List.Perm (a++r) ((a++[c])++(r.take i++r.drop (i+1))):=by
 obtain ⟨hi,e⟩:=List.getElem?_eq_some_iff.mp e
 have:r=r.take i++c::r.drop (i+1):=by rw [← e];simp
 rw [List.append_assoc]
 refine List.Perm.append_left a ?_
 rw [List.singleton_append]
 conv=>lhs;rw [this]
 exact List.perm_middle
end HND
namespace MI
open PySem PySem.Spec L2
theorem ar9 (n:Nat):rng 0 n=(List.range n).map fun i:Nat=>D.int (i:Nat):=by
 unfold rng
 exact List.map_congr_left fun i _=>by rw [Int.zero_add]
theorem ara (a:Int) (n:Nat):rng a n=(List.range n).map fun i:Nat=>D.int (a+(i:Nat)):=rfl
theorem a8m {n:Nat} (h:n≤LINE):B62 (n:Int):=by
 have:n≤16777216:=h
 unfold B62;omega
theorem aot {n:Nat} (h:Hd) (z:n≤LINE):a0l [.int (n:Nat)] h = .ok ⟨(List.range n).map fun i:Nat=>D.int (i:Nat),fun _=>True⟩ h:=by
 unfold a0l
 simp only [a8m z,if_true,Int.toNat_natCast,ar9]
theorem aou {a n:Nat} (h:Hd) (za:a≤LINE) (z:n≤LINE):a5t [.int (a:Nat), .int (n:Nat)] h = .ok ⟨(List.range (n - a)).map fun i:Nat=>D.int ((a+i:Nat)),fun _=>True⟩ h:=by
 unfold a5t
 simp only [a8m z,a8m za,and_self,if_true,ara]
 rw [show ((n:Int) - (a:Int)).toNat=n - a by omega]
 congr 2
theorem arb {f:SE} {τ:Sd} {h:Hd} {d:D} (e:f τ h = .ok d h):aj f cj τ h = .ok [d] h:=by unfold aj cj;rw [e];rfl
theorem a1f {f g:SE} {τ:Sd} {h:Hd} {c d:D} (e:f τ h = .ok c h) (e':g τ h = .ok d h):aj f (aj g cj) τ h = .ok [c,d] h:=by unfold aj;rw [e,du,e',du];rfl
theorem a4b {f:SE} {τ:Sd} {h:Hd} {n:Nat} (e:f τ h = .ok (.int (n:Nat)) h) (z:n≤LINE):sRg a0l (aj f cj) τ h = .ok ⟨(List.range n).map fun i:Nat=>D.int (i:Nat),fun _=>True⟩ h:=by
 unfold sRg
 rw [arb e,du]
 exact aot h z
theorem akm {f g:SE} {τ:Sd} {h:Hd} {a n:Nat} (e':g τ h = .ok (.int (a:Nat)) h) (e:f τ h = .ok (.int (n:Nat)) h) (za:a≤LINE) (z:n≤LINE):sRg a5t (aj g (aj f cj)) τ h = .ok ⟨(List.range (n - a)).map fun i:Nat=>D.int ((a+i:Nat)),fun _=>True⟩ h:=by
 unfold sRg
 rw [a1f e' e,du]
 exact aou h za z
theorem bf {i:Nat} {τ:Sd} {h:Hd} {d:D} (e:τ[i]? = some (some d)):sV i τ h = .ok d h:=by unfold sV;rw [e]
theorem a7r {fi:SI} {t:D→Option Sd} {fe:SE} {ix:List Nat} {τ:Sd} {h:Hd} {α:Type} (g F:α→D) (xs:List α) (e:fi τ h = .ok ⟨xs.map g,fun _=>True⟩ h) (z:xs.length≤LINE)
  (st:∀ x∈xs,a4e t fe (frs' ix τ) (g x) h = .ok (F x) h):ud fi t fe ix τ h = .ok (.ref h.length) (h++[.lst (xs.map F)]):=by
 unfold ud
 rw [e,du]
 dsimp only
 rw [if_pos (by rw [List.length_map];exact z),a7h g F st]
 rfl
theorem adg {fi:SI} {t:D→Option Sd} {c:ST} {fe:SE} {ix:List Nat} {τ:Sd} {h:Hd} {α:Type} (g:α→D) (F:α→Option D) (xs:List α) (e:fi τ h = .ok ⟨xs.map g,fun _=>True⟩ h) (z:xs.length≤LINE)
  (st:∀ x∈xs,a8d t c fe (frs' ix τ) (g x) h = .ok (F x) h):a4v fi t c fe ix τ h = .ok (.ref h.length) (h++[.lst (xs.filterMap F)]):=by
 unfold a4v
 rw [e,du]
 dsimp only
 rw [if_pos (by rw [List.length_map];exact z),a7i g F st]
 rfl
theorem a2a (fe:SE) (r:Sd) (x:D) (h:Hd):a4e t1 fe r x h=fe (some x::r) h:=rfl
theorem akn (c:ST) (fe:SE) (r:Sd) (x:D) (h:Hd):a8d t1 c fe r x h=(c (some x::r) h).bind fun b h1=>if b=true then (fe (some x::r) h1).bind fun y h2=>.ok (some y) h2 else .ok none h1:=rfl
theorem a9q (i:Nat) (ix:List Nat) (τ:Sd):frs' (i::ix) τ=(τ[i]?).join::frs' ix τ:=rfl
theorem adh (τ:Sd):frs' [] τ=[]:=rfl
end MI
namespace MI
open PySem PySem.Spec L2
section
variable {f k f1 f2 f3:SE} {c c1 c2:ST} {g p q:SS} {τ τ1:Sd} {h h1 h2 h3 h4:Hd} {a b d v:D} {i:Nat} {t u:Bool}
theorem g8 (d:D) (τ:Sd) (h:Hd):sC d τ h = .ok d h:=rfl
theorem asu {G:List D→Hd→R D} (e3:G [] h = .ok v h1):sA G cj τ h = .ok v h1:=e3
theorem yf {G:List D→Hd→R D} (e1:f τ h = .ok a h1) (e3:G [a] h1 = .ok v h2):sA G (aj f cj) τ h = .ok v h2:=by
 have:aj f cj τ h = .ok [a] h1:=by unfold aj;rw [e1];rfl
 unfold sA
 rw [this,du,e3]
theorem v5 {G:List D→Hd→R D} (e1:f τ h = .ok a h1) (e2:k τ h1 = .ok b h2) (e3:G [a,b] h2 = .ok v h3):sA G (aj f (aj k cj)) τ h = .ok v h3:=by
 have:aj f (aj k cj) τ h = .ok [a,b] h2:=by unfold aj;rw [e1,du,e2];rfl
 unfold sA
 rw [this,du,e3]
theorem a9r {G:List D→Hd→R D} (e0:f1 τ h = .ok d h1) (e1:f τ h1 = .ok a h2) (e2:k τ h2 = .ok b h3) (e3:G [d,a,b] h3 = .ok v h4):sA G (aj f1 (aj f (aj k cj))) τ h = .ok v h4:=by
 have:aj f1 (aj f (aj k cj)) τ h = .ok [d,a,b] h3:=by unfold aj;rw [e0,du,e1,du,e2];rfl
 unfold sA
 rw [this,du,e3]
theorem jf (e:f τ h = .ok d h1):ie (jq i f) g τ h=g (τ.set i (some d)) h1:=by
 rw [qm]
 unfold jq
 rw [e]
 rfl
theorem ako (e:f τ h = .ok d h1):jq i f τ h = .nx (τ.set i (some d)) h1:=by
 unfold jq
 rw [e]
 rfl
theorem zq (e:p τ h = .nx τ1 h1):ie p g τ h=g τ1 h1:=by rw [qm,e];rfl
theorem a2b (e:p τ h = .rt d h1):ie p g τ h = .rt d h1:=by rw [qm,e];rfl
theorem ifT (e:c τ h = .ok true h1):sIf c p q τ h=p τ h1:=by unfold sIf;rw [e];rfl
theorem ifF (e:c τ h = .ok false h1):sIf c p q τ h=q τ h1:=by unfold sIf;rw [e];rfl
theorem ifN (e:c τ h = .ok false h1):ie (sIf c p sNx) g τ h=g τ h1:=by rw [qm,ifF e];rfl
theorem tof (e:f τ h = .ok (.bl t) h1):sT f τ h = .ok t h1:=by unfold sT;rw [e];rfl
theorem a2c (e:f τ h = .ok d h1) (e':tru d h1 = .ok t h2):a5q f τ h = .ok t h2:=by unfold a5q;rw [e,du,e']
theorem orT (e:c1 τ h = .ok true h1):sOr c1 c2 τ h = .ok true h1:=by unfold sOr;rw [e,du,if_pos rfl]
theorem orF (e:c1 τ h = .ok false h1) (e':c2 τ h1 = .ok t h2):sOr c1 c2 τ h = .ok t h2:=by unfold sOr;rw [e,du,if_neg (by simp),e']
theorem aov (e:c τ h = .ok t h1):a6t c τ h = .ok (!t) h1:=by unfold a6t;rw [e];rfl
theorem alo (e:c τ h = .ok true h1):a6t c τ h = .ok false h1:=aov e
theorem auh (e:c τ h = .ok false h1):a6t c τ h = .ok true h1:=aov e
theorem qj (e:f τ h = .ok d h1):uc f τ h = .rt d h1:=by unfold uc;rw [e];rfl
theorem adi (e:f τ h = .ok (.bl true) h1) (e':k τ h1 = .ok d h2):zj f k τ h = .ok d h2:=by unfold zj;rw [e,du];exact e'
theorem a05 {G:D→List D→Hd→R D} {A:SA} {ds:List D} (e1:f τ h = .ok d h1) (l:isL d h1=true) (e2:A τ h1 = .ok ds h2) (e3:G d ds h2 = .ok v h3):qp (sML G f A) τ h = .nx τ h3:=by
 unfold qp sML
 rw [e1,du,if_pos l,e2,du,e3]
 rfl
theorem arc {G:D→List D→Hd→R D} {A:SA} {ds:List D} (e1:f τ h = .ok d h1) (l:isL d h1=true) (e2:A τ h1 = .ok ds h2) (e3:G d ds h2 = .ok v h3):sML G f A τ h = .ok v h3:=by
 unfold sML
 rw [e1,du,if_pos l,e2,du,e3]
theorem arg1 (e:f τ h = .ok d h1):aj f cj τ h = .ok [d] h1:=by unfold aj cj;rw [e];rfl
theorem ig {G:D→D→Hd→R D} (e1:f τ h = .ok a h1) (e2:k τ h1 = .ok b h2) (e3:G a b h2 = .ok v h3):s2 G f k τ h = .ok v h3:=by
 unfold s2
 rw [e1,du,e2,du,e3]
theorem ai7 {G:D→Hd→R D} (e1:f τ h = .ok a h1) (e3:G a h1 = .ok v h2):s1 G f τ h = .ok v h2:=by
 unfold s1
 rw [e1,du,e3]
theorem agk {G:SG} (e:f τ h = .ok d h1) (e2:G d τ h1 = .nx τ1 h2):a5s f G τ h = .nx τ1 h2:=by
 unfold a5s
 rw [e,a1r,e2]
theorem ard (e1:f1 τ h = .ok v h1) (e2:f2 τ h1 = .ok a h2) (e3:f3 τ h2 = .ok b h3) (e4:put a b v h3=some h4):a91 f1 f2 f3 τ h = .nx τ h4:=by
 unfold a91
 rw [e1,a1r,e2,a1r,e3,a1r,e4]
theorem a4k {fi:SI} {G:SG} {b:SS} {xs:List D} {ck:Hd→Prop} (e:fi τ h = .ok ⟨xs,ck⟩ h1):ie (a4u fi G b) g τ h=thn (forL ck G b xs τ h1) g:=by
 rw [qm]
 unfold a4u
 rw [e]
 rfl
theorem aeo {xs:List D} {ck:Hd→Prop} (e:f τ h = .ok d h1) (e2:aab d h1 = .ok ⟨xs,ck⟩ h1):sIt f τ h = .ok ⟨xs,ck⟩ h1:=by
 unfold sIt
 rw [e,du,e2]
theorem a0g {xs:List D} (e:h[i]? = some (.lst xs)) (z:xs.length<LINE):a2s (.ref i) [a] h = .ok .non (h.set i (.lst (xs++[a]))):=by
 unfold a2s
 simp only [e,if_pos z]
theorem arf {xs:List D} {j:Nat} (e:h[i]? = some (.lst xs)) (hj:j<xs.length):put (.ref i) (.int (j:Nat)) v h=some (h.set i (.lst (xs.set j v))):=by
 have:ixN xs.length (j:Int)=some j:=by unfold ixN;rw [if_pos (by omega),if_pos (by omega)];simp
 unfold put
 simp only [e,this]
theorem akp {xs:List D} {j:Nat} {y:D} (e:h[i]? = some (.lst xs)) (hj:xs[j]? = some y) (z:xs.length≤LINE):a7a (.ref i) [.int (j:Nat)] h = .ok y (h.set i (.lst (xs.eraseIdx j))):=by
 have lt:j<xs.length:=(List.getElem?_eq_some_iff.mp hj).1
 have:ixN xs.length (j:Int)=some j:=by unfold ixN;rw [if_pos (by omega),if_pos (by omega)];simp
 unfold a7a
 simp only [e,this,hj,if_pos z]
theorem adk {xs:List D} {j:Nat} {y:D} (e:h[i]? = some (.lst xs)) (hj:xs[j]? = some y):gIx (.ref i) (.int (j:Nat)) h = .ok y h:=by
 rw [a2o]
 unfold zp
 simp only [e,u9 hj]
theorem alp {xs:List D} {j:Nat} {y:D} (hj:xs[j]? = some y):gIx (.rol xs) (.int (j:Nat)) h = .ok y h:=by
 rw [a2n]
 simp only [u9 hj]
theorem zg {xs:List D} {j:Nat} {y:D} (hj:xs[j]? = some y):gIx (.tup xs) (.int (j:Nat)) h = .ok y h:=by
 rw [a0b]
 simp only [u9 hj]
theorem akq {xs:List D} (e:h[i]? = some (.lst xs)):ye [.ref i] h = .ok (.int (xs.length:Nat)) h:=by
 rw [a0p]
 unfold zp
 simp only [e]
theorem aow {x y:Int} (c:0<y):a4f (.int x) (.int y) h = .ok (.int (x % y)) h:=by unfold a4f;exact if_pos c
theorem asv {x y:Int} (c:y<x):gGt (.int x) (.int y) h = .ok (.bl true) h:=by unfold gGt;simp only [c,decide_true]
theorem asw {x y:Int} (c:¬ y<x):gGt (.int x) (.int y) h = .ok (.bl false) h:=by unfold gGt;simp only [c,decide_false]
theorem asx {x y:Int} (c:x<y):gLt (.int x) (.int y) h = .ok (.bl true) h:=by unfold gLt;simp only [c,decide_true]
theorem asy {x y:Int} (c:¬ x<y):gLt (.int x) (.int y) h = .ok (.bl false) h:=by unfold gLt;simp only [c,decide_false]
theorem agl {x y:Int} (c:x=y):hEq (.int x) (.int y) h = .ok (.bl true) h:=by rw [a7p,c,beq_self_eq_true]
theorem agm {x y:Int} (c:¬ x=y):hEq (.int x) (.int y) h = .ok (.bl false) h:=by rw [a7p,beq_eq_false_iff_ne.mpr c]
theorem aox {x y:Int} (c:x=y):hNe (.int x) (.int y) h = .ok (.bl false) h:=by rw [a7q,c,beq_self_eq_true];rfl
theorem arh {x y:Int} (c:¬ x=y):hNe (.int x) (.int y) h = .ok (.bl true) h:=by rw [a7q,beq_eq_false_iff_ne.mpr c];rfl
theorem a7s (x:Int):a2i (.int x) h = .ok (.int (-x)) h:=rfl
theorem ai8 (x y:Int):MI.a8t (.int x) (.int y) h = .ok (.int (x - y)) h:=rfl
theorem jh {n:Nat} (h:n≤1000000):n≤LINE:=by show n≤16777216;omega
theorem a0h {n:Nat} (h:n≤1000000):n<LINE:=by show n<16777216;omega
theorem ai9:MI.sr [a,b] h = .ok (.tup [a,b]) h:=by unfold MI.sr;rw [if_pos (jh (by simp))]
theorem ari:MI.sr [a,b,v] h = .ok (.tup [a,b,v]) h:=by unfold MI.sr;rw [if_pos (jh (by simp))]
end
end MI
namespace EVX
open PySem PySem.Spec L2 MI
section
variable {i:Nat} {cs:Str→Bool} {fb fs p g:SS} {τ τ1 τ2:Sd} {h h1 h2:Hd} {c:Str} {f:SE} {ka:SA} {ds:List D} {F:SF} {n:Nat}
theorem aoy (e:p τ h = .ex c h1):ie p g τ h = .ex c h1:=by unfold ie;rw [e]
theorem akr (e:ka τ h = .ok ds h1) (l:ds.length≤100):a7j c ka τ h = .ex c h1:=by
 unfold a7j
 rw [e]
 show (if ds.length≤LINE then Fl.ex c h1 else .no)=_
 rw [if_pos (jh (by omega))]
theorem adl (hn:ds.length=n) (cd:∀ x∈ds,MI.clo 0 x) (e:F ds [] = .ex c h1):wz n F ds h = .ex c h:=by
 unfold wz
 rw [if_pos cd,e]
 exact if_pos hn
theorem adm {d d':D} (cd:∀ x∈ds,MI.clo 0 x) (e:F ds [] = .ok d h1) (p:Pu F n ds d'):wz n F ds h = .ok d' h:=by
 unfold wz
 rw [if_pos cd,e]
 exact p h
theorem aoz (e:fb τ h = .ex c h1) (hc:cs c=true) (e2:fs (τ.set i (some (.exc c))) h1 = .nx τ2 h2):ao9 i cs fb fs τ h = .nx (τ2.set i none) h2:=by
 unfold ao9
 rw [e]
 show (if cs c=true then _ else _)=_
 rw [if_pos hc,e2]
theorem aia (e:f τ h = .ex c h1):qp f τ h = .ex c h1:=by unfold qp;rw [e];rfl
theorem qof {α:Type} {k:Sd→Hd→R α} {x:α} (e:k τ h = .ok x h1):qA k τ h = .ok x h1:=by unfold qA;rw [e];rfl
theorem aks (e:ka τ h = .ok ds h1):sA F ka τ h=F ds h1:=by unfold sA;rw [e];rfl
theorem akt {x:Str→Option Bool} {b:Bool} (e:τ[i]? = some (some (.exc c))) (e2:x c=some b):aga i x τ h = .ok (.bl b) h:=by unfold aga;rw [e];dsimp only;rw [e2]
theorem ap0 {b:Bool} (e:f τ h = .ok (.bl b) h1):a4d f τ h = .ok (.bl (!b)) h1:=by unfold a4d;rw [e];rfl
theorem bz {d:D} (e:f τ h = .ok d h1) (e2:ka τ h1 = .ok ds h2):aj f ka τ h = .ok (d::ds) h2:=by
 unfold aj
 rw [e,du,e2]
 rfl
end
end EVX
namespace PN
open PySem PySem.Spec L2 MI AT HND EVX
local macro_rules | `(tactic| walk_at "ev") => `(tactic| simp only [qm,v9,a5a,a3w,a5b,jq,alf,aaf,sIf,uc,qp,a91,put,aai,a5s,a2q,ju,a2w,kN,sV,sC,s2,s1,sA,aj,cj,sNx,sT,asB,a5q,qz,a1w,a1x,a1y,a1z,ahm,sOr,a6t,zj,ale,a4d,sCh,aaa,du,a1r,MI.a0b,MI.a2n,MI.a2o,ak4,zp,gLt,gGt,gGe,gLe,a7p,a7q,aaw,aax,a2p,v4,aay,a0a,alj,alk,alm,aln,vf,MI.a8t,a4f,aac,a5c,AT.aau,AT.p18,a04,a0o,a0p,afh,a1v,a2i,a3s,aad,MI.sr,MI.xm,sML,isL,a2s,oN,oS,a0e,xu,sIt,aab,sRg,List.length_map,List.length_cons,List.length_nil,List.length_append,List.getElem?_cons_zero,List.getElem?_cons_succ,List.set_cons_zero,List.set_cons_succ,List.nil_append,List.cons_append,AT.aam,AT.aan,AT.aao,AT.aap,AT.aaq,AT.aar,AT.aas,AT.aat,AT.x10,AT.x20,AT.x21,AT.x30,AT.x31,AT.x32,AT.x40,AT.x41,AT.x42,AT.x43,AT.x50,AT.x51,AT.x52,AT.x53,AT.x54,AT.x60,AT.x61,AT.x62,AT.x63,AT.x64,AT.x65,AT.x70,AT.x71,AT.x72,AT.x73,AT.x74,AT.x75,AT.x76,decide_true,decide_false,reduceIte,Bool.true_and,Bool.and_self,Bool.not_true,Bool.not_false,and_self,true_and,and_true,beq_self_eq_true,Nat.reduceAdd,Nat.reduceLeDiff,Nat.reduceLT,Nat.reducePow,Int.reduceLT,Int.reduceLE,Int.reduceNeg,Int.reduceEq,Int.reduceBEq,Bool.false_eq_true,Bool.true_eq_false,ite_true,ite_false,if_true,if_false, *])
structure Pen (o:O) (N:Nat):Prop where
 ex:∃ (cells:List Int) (a l:Int),o = .lst [.rol (cells.map D.int), .int a, .int l]∧0≤a∧a≤N∧0≤l
theorem Pen.clo {o:O} {N:Nat} (P:Pen o N):zm 0 o:=by
 obtain ⟨cells,a,l,rfl,_⟩:=P.ex
 exact bu (ww (jn fun x _=>fu x)) (bu (fu _) (bu (fu _) jm))
theorem Pen.up {o:O} {N M:Nat} (P:Pen o N) (h:N≤M):Pen o M:=by
 obtain ⟨cells,a,l,e,h1,h2,h3⟩:=P.ex
 exact ⟨cells,a,l,e,h1,by omega,h3⟩
noncomputable def ak:SF:=mq a1s 7
theorem adn {o:O} {N:Nat} {m:Int} (P:Pen o N) (hN:N≤1000000000) (m0:0<m) (m1:m<1073741824):∃ r o',ak [.ref 0, .int m] [o] = .ok (.int r) [o']∧0≤r∧r<m∧Pen o' (N+1):=by
 obtain ⟨cells,a,l,rfl,a0,a1,l0⟩:=P.ex
 unfold ak
 rw [j6]
 unfold a1s zy
 simp only [List.map_cons,List.map_nil,List.length_cons,List.length_nil,Nat.reduceSub,Nat.reduceAdd,List.replicate,List.cons_append,List.nil_append]
 have k3:(0<m∧m<1073741824)=True:=by simp [m0,m1]
 have k3':(0<m)=True:=by simp [m0]
 by_cases hl:0<l
 ·have kl:decide (0<l)=true:=decide_eq_true hl
  refine ⟨l % m,_,?_,Int.emod_nonneg _ (by omega),Int.emod_lt_of_pos _ m0,⟨cells,a,l / m,rfl,a0,by omega,Int.ediv_nonneg (by omega) (by omega)⟩⟩
  walk_at "ev"
 ·have:l=0:=by omega
  subst this
  have last:∀ c:Int,∃ r q q2,0≤r∧r<m∧(c % 2147483587+40709*a+31) ^ (3:Int).toNat % 2147483647=q∧(q*q+48271*q+a) % 2147483629=q2∧q2 / 64 % m=r∧CMul 40709 a∧CMul q q∧CMul 48271 q ∧
    (∀ h,ace (.int (c % 2147483587+40709*a+31)) (.int 3) h = .ok (.int ((c % 2147483587+40709*a+31) ^ (3:Int).toNat)) h):=fun c=>by
   have p0:0≤c % 2147483587:=Int.emod_nonneg _ (by decide)
   have p1:c % 2147483587<2147483587:=Int.emod_lt_of_pos _ (by decide)
   have q0:0≤(c % 2147483587+40709*a+31) ^ (3:Int).toNat % 2147483647:=Int.emod_nonneg _ (by decide)
   have q1:(c % 2147483587+40709*a+31) ^ (3:Int).toNat % 2147483647<2147483647:=Int.emod_lt_of_pos _ (by decide)
   refine ⟨_,_,_,Int.emod_nonneg _ (by omega),Int.emod_lt_of_pos _ m0,rfl,rfl,rfl, .inl ⟨by decide,by decide⟩, .inl ⟨by omega,by omega⟩, .inl ⟨by decide,by decide⟩,fun h=>ar7 ⟨by decide,by decide,by omega⟩⟩
  obtain ⟨n,rfl⟩:=Int.eq_ofNat_of_zero_le a0
  by_cases hc:0<(cells.length:Int)
  ·have kc:decide (0<(cells.length:Int))=true:=decide_eq_true hc
   have ic:(0<(cells.length:Int))=True:=by simpa using hc
   have im:((n:Int) % (cells.length:Int))=((n % cells.length:Nat):Int):=by omega
   have hj:n % cells.length<cells.length:=Nat.mod_lt _ (by omega)
   have hat:atI (cells.map D.int) ((n % cells.length:Nat):Int)=some (.int cells[n % cells.length]):=u9 (by simp [hj])
   generalize cells[n % cells.length]=x at hat
   by_cases hA:(n:Int)<(cells.length:Int)
   ·have ka:decide ((n:Int)<(cells.length:Int))=true:=decide_eq_true hA
    by_cases hB:(1000000000000000000:Int)≤ai5 x
    ·have kb:decide ((1000000000000000000:Int)≤ai5 x)=true:=decide_eq_true hB
     have cm:CMul 2 (ai5 x):=.inl ⟨by decide,by decide⟩
     have g0:0≤2*ai5 x+(if decide (x<0)=true then 1 else 0):=by split<;>omega
     refine ⟨(2*ai5 x+(if decide (x<0)=true then 1 else 0)) % m,_,?_,Int.emod_nonneg _ (by omega),Int.emod_lt_of_pos _ m0,⟨cells,(n:Int)+1,(2*ai5 x+(if decide (x<0)=true then 1 else 0)) / m,rfl,by omega,by omega,Int.ediv_nonneg g0 (by omega)⟩⟩
     walk_at "ev"
    ·have kb:decide ((1000000000000000000:Int)≤ai5 x)=false:=decide_eq_false hB
     obtain ⟨r,q,q2,r0,r1,eq,eq2,er,d1,d2,d3,d4⟩:=last x
     refine ⟨r,_,?_,r0,r1,⟨cells,(n:Int)+1,0,rfl,by omega,by omega,by omega⟩⟩
     walk_at "ev"
   ·have ka:decide ((n:Int)<(cells.length:Int))=false:=decide_eq_false hA
    obtain ⟨r,q,q2,r0,r1,eq,eq2,er,d1,d2,d3,d4⟩:=last x
    refine ⟨r,_,?_,r0,r1,⟨cells,(n:Int)+1,0,rfl,by omega,by omega,by omega⟩⟩
    walk_at "ev"
  ·have kc:decide (0<(cells.length:Int))=false:=decide_eq_false hc
   have ka:decide ((n:Int)<(cells.length:Int))=false:=decide_eq_false (by omega)
   obtain ⟨r,q,q2,r0,r1,eq,eq2,er,d1,d2,d3,d4⟩:=last 5
   refine ⟨r,_,?_,r0,r1,⟨cells,(n:Int)+1,0,rfl,by omega,by omega,by omega⟩⟩
   walk_at "ev"
theorem a8n {o:O} {N:Nat} {m:Int} (P:Pen o N) (hN:N≤1000000000) (m0:0<m) (m1:m<1073741824):∃ r o',Dr ak 2 [.int m] o (.int r) o'∧0≤r∧r<m∧Pen o' (N+1):=by
 obtain ⟨r,o',e,r0,r1,P'⟩:=adn P hN m0 m1
 refine ⟨r,o',Dr.of rfl (by simp [fu]) P.clo e (lz (fu _) ?_) (fu _) P'.clo,r0,r1,P'⟩
 intro u hu
 simp at hu
 subst hu
 exact o6 (by omega) P'.clo
noncomputable def iw:SF:=mq a1b 1
theorem ap1 (ns:List Int) (h:Hd):∃ o,Pen o 0∧m5 true 1 iw [.scr (ns.map D.int)] h = .ok (.ref h.length) (h++[o]):=by
 have cl:clos 0 ((ns.take 63).map D.int):=jn fun x _=>fu x
 have z1:sZ (a0e (sV 0) oN (oS (sC (.int 63)))) [some (.scr (ns.map D.int))] [] = .ok (.rol ((ns.take 63).map D.int)) []:=by
  refine xx (by
   show gSl (.scr (ns.map D.int)) none (some ((63:Nat):Int)) []=_
   unfold gSl
   simp only [ac1,List.map_take]) cl (by simp)
 have e:iw [.scr (ns.map D.int)] [] = .ok (.ref 0) [.lst [.rol ((ns.take 63).map D.int), .int 0, .int 0]]:=by
  unfold iw
  rw [j6]
  show toR (a1b [some (.scr (ns.map D.int))] [])=_
  unfold a1b
  exact congrArg toR (qj (a9r z1 (g8 _ _ _) (g8 _ _ _) rfl))
 have P:Pen (.lst [.rol ((ns.take 63).map D.int), .int 0, .int 0]) 0:=⟨_,0,0,rfl,by decide,by decide,by decide⟩
 exact ⟨_,P,ao3 rfl (by simpa [MI.clo] using (jn fun x _=>fu x:clos 0 (ns.map D.int))) e rfl P.clo h⟩
noncomputable def dj:SF:=mq wy 1
theorem a3c:Pu dj 0 [] (.str (S sig)):=HND.a3c
end PN
namespace SRC
open PySem PySem.Spec L2 MI
end SRC
namespace SRC
open PySem PySem.Spec L2 MI AT
local macro_rules | `(tactic| walk_at "ev") => `(tactic| simp only [qm,v9,a5a,a3w,a5b,jq,alf,aaf,sIf,uc,qp,a91,put,aai,a5s,a2q,ju,a2w,kN,sV,sC,s2,s1,sA,aj,cj,sNx,sT,asB,a5q,qz,a1w,a1x,a1y,a1z,ahm,sOr,a6t,zj,ale,a4d,sCh,aaa,du,a1r,MI.a0b,MI.a2n,MI.a2o,ak4,zp,gLt,gGt,gGe,gLe,a7p,a7q,aaw,aax,a2p,v4,aay,a0a,alj,alk,alm,aln,vf,MI.a8t,a4f,aac,a5c,AT.aau,AT.p18,a04,a0o,a0p,afh,a1v,a2i,a3s,aad,MI.sr,MI.xm,sML,isL,a2s,oN,oS,a0e,xu,sIt,aab,sRg,List.length_map,List.length_cons,List.length_nil,List.length_append,List.getElem?_cons_zero,List.getElem?_cons_succ,List.set_cons_zero,List.set_cons_succ,List.nil_append,List.cons_append,AT.aam,AT.aan,AT.aao,AT.aap,AT.aaq,AT.aar,AT.aas,AT.aat,AT.x10,AT.x20,AT.x21,AT.x30,AT.x31,AT.x32,AT.x40,AT.x41,AT.x42,AT.x43,AT.x50,AT.x51,AT.x52,AT.x53,AT.x54,AT.x60,AT.x61,AT.x62,AT.x63,AT.x64,AT.x65,AT.x70,AT.x71,AT.x72,AT.x73,AT.x74,AT.x75,AT.x76,decide_true,decide_false,reduceIte,Bool.true_and,Bool.and_self,Bool.not_true,Bool.not_false,and_self,true_and,and_true,beq_self_eq_true,Nat.reduceAdd,Nat.reduceLeDiff,Nat.reduceLT,Nat.reducePow,Int.reduceLT,Int.reduceLE,Int.reduceNeg,Int.reduceEq,Int.reduceBEq,Bool.false_eq_true,Bool.true_eq_false,ite_true,ite_false,if_true,if_false, *])
end SRC
namespace SRC
open PySem PySem.Spec L2 MI AT HND EVX
local macro_rules | `(tactic| walk_at "ev") => `(tactic| simp only [qm,v9,a5a,a3w,a5b,jq,alf,aaf,sIf,uc,qp,a91,put,aai,a5s,a2q,ju,a2w,kN,sV,sC,s2,s1,sA,aj,cj,sNx,sT,asB,a5q,qz,a1w,a1x,a1y,a1z,ahm,sOr,a6t,zj,ale,a4d,sCh,aaa,du,a1r,MI.a0b,MI.a2n,MI.a2o,ak4,zp,gLt,gGt,gGe,gLe,a7p,a7q,aaw,aax,a2p,v4,aay,a0a,alj,alk,alm,aln,vf,MI.a8t,a4f,aac,a5c,AT.aau,AT.p18,a04,a0o,a0p,afh,a1v,a2i,a3s,aad,MI.sr,MI.xm,sML,isL,a2s,oN,oS,a0e,xu,sIt,aab,sRg,a4u,a0l,a5t,akb,aka,afx,ajz,anu,srcOf,  List.length_map,List.length_cons,List.length_nil,List.length_append,List.getElem?_cons_zero,List.getElem?_cons_succ,List.set_cons_zero,List.set_cons_succ,List.nil_append,List.cons_append,AT.aam,AT.aan,AT.aao,AT.aap,AT.aaq,AT.aar,AT.aas,AT.aat,AT.x10,AT.x20,AT.x21,AT.x30,AT.x31,AT.x32,AT.x40,AT.x41,AT.x42,AT.x43,AT.x50,AT.x51,AT.x52,AT.x53,AT.x54,AT.x60,AT.x61,AT.x62,AT.x63,AT.x64,AT.x65,AT.x70,AT.x71,AT.x72,AT.x73,AT.x74,AT.x75,AT.x76,decide_true,decide_false,reduceIte,Bool.true_and,Bool.and_self,Bool.not_true,Bool.not_false,and_self,true_and,and_true,beq_self_eq_true,Nat.reduceAdd,Nat.reduceLeDiff,Nat.reduceLT,Nat.reducePow,Int.reduceLT,Int.reduceLE,Int.reduceNeg,Int.reduceEq,Int.reduceBEq,Bool.false_eq_true,Bool.true_eq_false,ite_true,ite_false,if_true,if_false, *])
theorem ints_map:∀ l:List Int,a4h (l.map D.int)=some l
 | []=>rfl
 | a::l=>by rw [List.map_cons];simp only [a4h,ints_map l,Option.map_some]
theorem a8o {g:List D→Hd→R D} {k:SA} {τ:Sd} {h h1 h2:Hd} {ds:List D} {d:D} (e:k τ h = .ok ds h1) (eg:g ds h1 = .ok d h2):sA g k τ h = .ok d h2:=by
 unfold sA
 rw [e,du,eg]
end SRC
namespace HND
open PySem PySem.Spec L2 MI AT
theorem a6g {ck:Hd→Prop} {g:SG} {b:SS} {α:Type} (f:α→D) (I:List α→Sd→Hd→Prop) (c:∀ pre τ h,I pre τ h→ck h):∀ (xs pre:List α) (τ:Sd) (h:Hd),
  (∀ pre' x post τ h,pre++xs=pre'++x::post→I pre' τ h→∃ τ1 h1,g (f x) τ h = .nx τ1 h1∧∃ τ2 h2,b τ1 h1 = .nx τ2 h2∧I (pre'++[x]) τ2 h2)→I pre τ h→∃ τ' h',forL ck g b (xs.map f) τ h = .nx τ' h'∧I (pre++xs) τ' h'
 | [],pre,τ,h,_,i0=>⟨τ,h,by rw [List.map_nil,forL,if_pos (c _ _ _ i0)],by simpa using i0⟩
 | x::xs,pre,τ,h,st,i0=>by
  obtain ⟨τ1,h1,e1,τ2,h2,e2,i2⟩:=st pre x xs τ h rfl i0
  obtain ⟨τ',h',e3,i3⟩:=a6g f I c xs (pre++[x]) τ2 h2 (fun pre' y post τ h e=>st pre' y post τ h (by simpa using e)) i2
  refine ⟨τ',h',?_,by simpa using i3⟩
  rw [List.map_cons,forL,if_pos (c _ _ _ i0),e1]
  dsimp only
  rw [e2]
  exact e3
end HND
namespace HND
open PySem PySem.Spec L2 MI AT
theorem a7t {k i:Nat} {pre post:List Nat} (h:List.range k=pre++i::post):i=pre.length∧i<k:=by
 have h1:=congrArg (fun l=>l[pre.length]?) h
 have h2:=congrArg List.length h
 simp at h1 h2
 have:pre.length<k:=by omega
 rw [List.getElem?_range this] at h1
 simp at h1
 omega
end HND
namespace HND
open PySem PySem.Spec L2 MI AT
end HND
namespace HND
open PySem PySem.Spec L2 MI AT
end HND
namespace HND
open PySem PySem.Spec L2 MI AT
abbrev KOk (k:Int):Prop := -1≤k∧k≤5
end HND
namespace HND
open PySem PySem.Spec L2 MI AT
abbrev bx (i:Nat):D:=.int (i:Nat)
theorem gw {k:Nat} (l:List Nat):clos k (l.map bx):=jn fun x _=>fu _
end HND
namespace HND
open PySem PySem.Spec L2 MI AT
abbrev a7u (r:List Nat):D:=.tup (r.map bx)
abbrev agn (s n:Nat) (r:List Nat):Prop:=r.length=s∧∀ x∈r,x<n
structure Table where
 tg:List Nat
 go:List (List Nat)
 ks:List Int
def Table.d (T:Table):D:=.tup [.str (S T.tg), .tup (T.go.map a7u), .tup (T.ks.map D.int)]
structure Table.Ok (T:Table):Prop where
 tong:Tongue T.tg
 n1:1≤T.go.length
 n32:T.go.length≤32
 row:∀ r∈T.go,agn T.tg.length T.go.length r
 kl:T.ks.length=T.go.length
 k0:T.ks[0]? = some (-1)
 kk:∀ k∈T.ks,KOk k
theorem Table.clo {T:Table}:clo 0 T.d:=jo (bu (gf _) (bu (jo (jn fun x _=>jo (gw _))) (bu (jo (jn fun x _=>fu x)) jm)))
end HND
namespace MI
open PySem PySem.Spec L2
end MI
namespace PAP
open PySem PySem.Spec L2 MI AT HND
theorem ap3 (l:List Nat) (h:Hd):aab (.str (S l)) h = .ok ⟨l.map fun c=>.str (S [c]),fun _=>True⟩ h:=by
 show R.ok (⟨yh (S l),fun _=>True⟩:Itm) _=_
 unfold yh
 rw [a1e]
theorem aui (xs:List D) (lo hi:Option Int) (h:Hd):a9g (.tup xs) lo hi h = .ok (.tup (a2f xs lo hi)) h:=by
 unfold a9g
 dsimp only
 split
 ·rename_i w
  obtain ⟨a,b⟩:=w
  congr 2
  unfold a2f
  rw [a,b,List.drop_zero,List.take_of_length_le (by omega)]
 ·rfl
theorem ap4 {xs ys:List D} {h:Hd} (z:xs.length+ys.length≤1000000):jk (.tup xs) (.tup ys) h = .ok (.tup (xs++ys)) h:=by
 cases xs with
 | nil=>rfl
 | cons x xs =>
  show (if (x::xs).length+ys.length≤LINE then R.ok (D.tup (x::xs++ys)) h else .no)=_
  rw [if_pos (jh z)]
end PAP
namespace SRC
open PySem PySem.Spec L2 MI AT HND EVX
theorem asz {c:ST} {f g:SE} {τ:Sd} {h h1:Hd} {r:R D} (e1:c τ h = .ok true h1) (e2:f τ h1=r):aaa c f g τ h=r:=by unfold aaa;rw [e1,du,if_pos rfl];exact e2
theorem at5 {c:ST} {f g:SE} {τ:Sd} {h h1:Hd} {r:R D} (e1:c τ h = .ok false h1) (e2:g τ h1=r):aaa c f g τ h=r:=by unfold aaa;rw [e1,du,if_neg (by simp)];exact e2
end SRC
namespace BF
def walk (step:Nat→Nat→Nat) (r:Nat):List Nat→Nat
 | []=>r
 | c::p=>step (walk step r p) c
section
variable (s:Nat) (step:Nat→Nat→Nat) (K:Nat→Bool)
def fl:Nat→Nat→Bool
 | 0,r=>K r
 | k+1,r=>(List.range s).any fun c=>fl k (step r c)
def fst (k r:Nat):Nat:=((List.range s).find? fun c=>fl s step K k (step r c)).getD 0
def gre:Nat→Nat→List Nat
 | 0,_=>[]
 | k+1,r=>fst s step K k r::gre k (step r (fst s step K k r))
variable {s step K}
end
theorem a9s:∀ (n:Nat) (l:List Nat),l.Nodup→(∀ x∈l,x<n)→l.length≤n
 | 0,l,_,h=>by
  cases l with
  | nil=>exact Nat.le_refl _
  | cons x l=>exact absurd (h x List.mem_cons_self) (by omega)
 | n+1,l,nd,h=>by
  have:=a9s n (l.erase n) (nd.erase n) fun x hx=>by
   have h1:=h x (List.mem_of_mem_erase hx)
   have h2:x≠n:=fun z=>by subst z;exact (List.Nodup.not_mem_erase nd) hx
   omega
  have:=List.length_erase (a:=n) (l:=l)
  split at this<;>omega
end BF
namespace SRC
open PySem PySem.Spec L2 MI AT HND EVX
theorem at6 {ck:Hd→Prop} {f:D→Hd→R D} {α:Type} (g F:α→D) {h:Hd} (c:ck h):∀ {xs:List α},(∀ x∈xs,f (g x) h = .ok (F x) h)→mapR ck f (xs.map g) h = .ok (xs.map F) h
 | [],_=>by rw [List.map_nil,mapR,if_pos c];rfl
 | x::xs,st=>by
  rw [List.map_cons,mapR,if_pos c,st x List.mem_cons_self]
  show (mapR _ f (xs.map g) h).bind _=_
  rw [at6 g F c fun y hy=>st y (List.mem_cons_of_mem _ hy)];rfl
theorem aku {fi:SI} {t:D→Option Sd} {fe:SE} {ix:List Nat} {τ:Sd} {h:Hd} {α:Type} {ck:Hd→Prop} (g F:α→D) (xs:List α) (c:ck h) (e:fi τ h = .ok ⟨xs.map g,ck⟩ h) (z:xs.length≤LINE)
  (st:∀ x∈xs,a4e t fe (frs' ix τ) (g x) h = .ok (F x) h):ud fi t fe ix τ h = .ok (.ref h.length) (h++[.lst (xs.map F)]):=by
 unfold ud
 rw [e,du]
 dsimp only
 rw [if_pos (by rw [List.length_map];exact z),at6 g F c st]
 rfl
theorem akv {x:Nat} {l:List Nat}:inD (bx x) (l.map bx)=decide (x∈l):=by
 unfold inD
 rw [List.any_map]
 by_cases h:x∈l
 ·rw [decide_eq_true h,List.any_eq_true]
  exact ⟨x,h,by show ((x:Int) == (x:Int))=true;simp⟩
 ·rw [decide_eq_false h,List.any_eq_false]
  intro y hy
  have:x≠y:=fun e=>h (e ▸ hy)
  show ¬ ((y:Int) == (x:Int))=true
  rw [beq_iff_eq]
  omega
theorem a9t {x i:Nat} {l:List Nat} {h:Hd} (e:h[i]? = some (.lst (l.map bx))):gIn true (bx x) (.ref i) h = .ok (.bl (!decide (x∈l))) h:=by
 have fl:a0m (bx x)=true∧(l.map bx).all a0m=true:=⟨rfl,by
  rw [List.all_eq_true]
  intro y hy
  obtain ⟨n,_,rfl⟩:=List.mem_map.mp hy
  rfl⟩
 unfold gIn zp
 simp only [e,if_pos fl,if_true,akv]
abbrev cst (l:List Nat):List Int:=l.map fun x:Nat=>(x:Int)
theorem akx (l:List Nat):l.map bx=(cst l).map D.int:=by unfold cst;rw [List.map_map];rfl
theorem aaz {i:Nat} {l:List Nat} {h:Hd} (e:h[i]? = some (.lst (l.map bx))):a7g (.ref i) h=some (cst l):=by
 unfold a7g
 simp only [e]
 rw [akx,ints_map]
def pos (m:List Nat) (x:Nat):Nat:=(ixI (x:Int) (cst m)).getD 0
theorem aib {m:List Nat} {x:Nat} (h:x∈m):ixI (x:Int) (cst m)=some (pos m x)∧pos m x<m.length:=by
 obtain ⟨j,hj⟩:=a9h (n:=(x:Int)) (l:=cst m) (List.mem_map.mpr ⟨x,h,rfl⟩)
 unfold pos
 rw [hj]
 refine ⟨rfl,?_⟩
 have:=(List.getElem?_eq_some_iff.mp (acz hj).1).1
 simpa using this
structure Met (n:Nat) (met:List Nat):Prop where
 nd:met.Nodup
 lt:∀ x∈met,x<n
 z:0∈met
theorem Met.len {n:Nat} {met:List Nat} (M:Met n met):met.length≤n:=BF.a9s n met M.nd M.lt
theorem Met.add {n x:Nat} {met:List Nat} (M:Met n met) (hx:x<n) (h:x ∉ met):Met n (met++[x]):=by
 refine ⟨?_,fun y hy=>?_,List.mem_append_left _ M.z⟩
 ·rw [List.nodup_append]
  refine ⟨M.nd,by simp,fun a ha b hb=>?_⟩
  rw [List.mem_singleton] at hb
  subst hb
  exact fun e=>h (e ▸ ha)
 ·rcases List.mem_append.mp hy with z | z
  ·exact M.lt y z
  ·rw [List.mem_singleton] at z;subst z;exact hx
section
variable {A B C:SF} {most n:Nat} {tg:List Nat} {many:Int} {rows:List (List Nat)} {ks:List Int}
def Done (rows:List (List Nat)) (met:List Nat) (i:Nat):Prop:=∀ j,j<i→∀ r,met[j]? = some r→∀ x∈(rows[r]?).getD [],x∈met
end
end SRC
namespace SRC
open PySem PySem.Spec L2 MI AT HND EVX
theorem ado {i x:Nat} {m:List Nat} {h:Hd} (e:h[i]? = some (.lst (m.map bx))) (hx:x∈m):a3v (.ref i) [bx x] h = .ok (bx (pos m x)) h:=by
 have q:=aaz e
 unfold a3v
 simp only [q,(aib hx).1]
section
variable {A B C:SF} {most n:Nat} {tg:List Nat} {many:Int} {rows:List (List Nat)} {ks:List Int}
abbrev a7v (rows:List (List Nat)) (m:List Nat):List (List Nat):=m.map fun r=>((rows[r]?).getD []).map (pos m)
abbrev a5d (ks:List Int) (m:List Nat):List Int:=m.map fun r=>(ks[r]?).getD 0
end
end SRC
namespace K21
open PySem PySem.Spec L2 MI
noncomputable def uy:SE :=
 (s2 (gIn false) (sV 0) (sV 1))
noncomputable def qi:SS :=
 (uc (zj (sA uf (aj (sV 1) (aj (sC (.ty "str")) cj))) (sA ahx (aj (sZ (ud (sIt (sV 1)) t1 uy [0])) cj))))
noncomputable def p6 (jw:SF):SS :=
 (ie (sIf (a6t (a5q (sA (m5 false 2 jw) (aj (sV 0) (aj (sV 1) cj)))))
 (a7j "NoText" (aj (sC (.str "no text of the tongue")) cj))
 sNx)
 (uc (sV 1)))
end K21
namespace K23
open PySem PySem.Spec L2 MI
noncomputable def uy:SE :=
 (s2 (gIn false) (sV 0) (sV 1))
noncomputable def qi:SS :=
 (uc (zj (sA uf (aj (sV 1) (aj (sC (.ty "str")) cj))) (sA ahx (aj (sZ (ud (sIt (sV 1)) t1 uy [0])) cj))))
noncomputable def jr:SS :=
 (qp (sML a2s (sV 6) (aj (s2 gIx (s2 gIx (sV 4) (s2 gIx (sV 6) (s1 a2i (sC (.int 1))))) (sMS a4x (sV 3) (aj (sV 7) cj))) cj)))
noncomputable def lq:SS :=
 (ie (a5s (sV 0) (a2q 3 (ju (kN 3) (ju (kN 4) (ju (kN 5) a2w)))))
 (ie (jq 6 (sA xm (aj (sV 1) cj)))
 (ie (a4u (sIt (sV 2)) (kN 7) jr)
 (uc (sV 6)))))
end K23
namespace K22
open PySem PySem.Spec L2 MI
end K22
namespace K22
open PySem PySem.Spec L2 MI AT HND
section
variable (T:Table)
def stp (r c:Nat):Nat:=(((T.go[r]?).getD [])[c]?).getD 0
def knd (r:Nat):Bool:=decide ((T.ks[r]?).getD (-1) ≠ -1)
def tgA (c:Nat):Nat:=(T.tg[c]?).getD 0
def hit (r0:Nat) (w:List Nat):Prop:=w≠[]∧knd T (BF.walk (stp T) r0 w)=true
end
section
variable {T:Table} (h:T.Ok)
theorem ap5 (h:T.Ok) (r c:Nat):stp T r c<T.go.length:=by
 have h1:=h.n1
 unfold stp
 cases e:T.go[r]? with
 | none=>simp;omega
 | some row =>
  simp only [Option.getD_some]
  cases e2:row[c]? with
  | none=>simp;omega
  | some x=>simp only [Option.getD_some];exact (h.row row (List.mem_of_getElem? e)).2 x (List.mem_of_getElem? e2)
theorem ap6 (h:T.Ok) {r:Nat} (hr:r<T.go.length):∃ row:List Nat,T.go[r]? = some row∧row.length=T.tg.length∧(∀ x∈row,x<T.go.length)∧∀ c,c<T.tg.length→row[c]? = some (stp T r c):=by
 refine ⟨T.go[r],List.getElem?_eq_getElem hr,(h.row _ (List.getElem_mem hr)).1,(h.row _ (List.getElem_mem hr)).2,fun c hc=>?_⟩
 have l:=(h.row _ (List.getElem_mem hr)).1
 unfold stp
 rw [List.getElem?_eq_getElem hr,Option.getD_some,List.getElem?_eq_getElem (by omega),Option.getD_some]
theorem aky (h:T.Ok) {r:Nat} (hr:r<T.go.length):∃ k:Int,T.ks[r]? = some k ∧ -1≤k∧knd T r=decide (k ≠ -1):=by
 have l:r<T.ks.length:=by rw [h.kl];exact hr
 refine ⟨T.ks[r],List.getElem?_eq_getElem l,(h.kk _ (List.getElem_mem l)).1,?_⟩
 unfold knd
 rw [List.getElem?_eq_getElem l,Option.getD_some]
end
end K22
namespace K22
open PySem PySem.Spec L2 MI AT HND
section
variable {T:Table}
abbrev FL (T:Table) (k r:Nat):Bool:=BF.fl T.tg.length (stp T) (knd T) k r
theorem arj (h:T.Ok) {r:Nat} (hr:r<T.go.length):T.go[r]? = some ((List.range T.tg.length).map (stp T r)):=by
 obtain ⟨row,e,l,_,at'⟩:=ap6 h hr
 rw [e]
 congr 1
 refine List.ext_getElem? fun i=>?_
 by_cases hi:i<T.tg.length
 ·rw [at' i hi,List.getElem?_map,List.getElem?_range hi];rfl
 ·rw [List.getElem?_eq_none (by omega),List.getElem?_eq_none (by simp;omega)]
def kI (T:Table) (r:Nat):Int:=(T.ks[r]?).getD (-1)
abbrev at7 (T:Table) (r:Nat):D:=a7u ((List.range T.tg.length).map (stp T r))
theorem adp {α:Type} (l:List α) (x:α):atI (l++[x]) (-1)=some x:=by
 have:ixN (l++[x]).length (-1)=some l.length:=by
  unfold ixN
  rw [if_neg (by decide),List.length_append,List.length_singleton]
  rw [if_pos (by omega)]
  congr 1
  omega
 unfold atI
 rw [this]
 simp
end
end K22
namespace K22
open PySem PySem.Spec L2 MI AT HND
section
variable {T:Table}
def auj (T:Table) (r:Nat):Option Nat:=(List.range T.go.length).find? fun i=>FL T (1+i) r
def gtx (T:Table) (k r:Nat):List Nat:=(BF.gre T.tg.length (stp T) (knd T) k r).map (tgA T)
def A (T:Table) (r:Nat):D:=match auj T r with | none=>.non | some i=>.str (S (gtx T (1+i) r))
theorem aic (h:T.Ok) {r:Nat} (hr:r<T.go.length) (hh:Hd):gIx (.tup (T.go.map a7u)) (bx r) hh = .ok (at7 T r) hh:=zg (by rw [List.getElem?_map,arj h hr];rfl)
end
end K22
namespace K23
open PySem PySem.Spec L2 MI AT HND K22
section
variable {T:Table}
def Pln:D→Prop
 | .non=>True | .bl _=>True | .int _=>True | .str x=>x.cps.toList.length≤1000 | .tup xs=>clos 0 xs | .rol xs=>clos 0 xs | .rod _ xs=>clos 0 xs | _=>False
theorem Pln.clo {d:D} (p:Pln d):clo 0 d:=by
 cases d<;>first | (simp only [Pln] at p;done) | (simp only [Pln] at p;simpa [MI.clo] using p) | simp [MI.clo]
def isStr:D→Bool | .str _=>true | _=>false
theorem ap7 {d:D} {h:Hd} (p:Pln d):uf [d, .ty "str"] h = .ok (.bl (isStr d)) h:=by
 cases d<;>first | (simp only [Pln] at p;done) | simp [uf,aem,tyD,a79,isStr]
def psn (T:Table) (c:Nat):Nat:=(a0t (S T.tg) c).toNat
def ldw (T:Table) (r:Nat):List Nat→Nat
 | []=>r
 | c::l=>ldw T (stp T r (psn T c)) l
theorem a9u {c:Nat} (hc:c∈T.tg):a0t (S T.tg) c=(psn T c:Nat)∧psn T c<T.tg.length:=by
 obtain ⟨i,e1,e2,_⟩:=a8z (T:=S T.tg) (c:=c) (by rw [a1e];exact hc)
 rw [a1e] at e2
 unfold psn
 rw [e1]
 exact ⟨by simp,by simpa using (List.getElem?_eq_some_iff.mp e2).1⟩
theorem adq (h:T.Ok):∀ (l:List Nat) {r:Nat},r<T.go.length→ldw T r l<T.go.length
 | [],_,hr=>hr
 | c::l,r,_=>adq h l (ap5 h r _)
theorem a6h (c:Nat):∀ (l:List Nat) (r:Nat),ldw T r (l++[c])=stp T (ldw T r l) (psn T c)
 | [],_=>rfl
 | d::l,r=>a6h c l _
theorem ap3 (l:List Nat) (h:Hd):aab (.str (S l)) h = .ok ⟨l.map fun c=>.str (S [c]),fun _=>True⟩ h:=by
 show R.ok (⟨yh (S l),fun _=>True⟩:Itm) _=_
 unfold yh
 rw [a1e]
theorem ap8 {c:Nat} (hc:c∈T.tg) (h:Hd):acn (.str (S T.tg)) [.str (S [c])] h = .ok (bx (psn T c)) h:=by
 show R.ok (D.int (a0t (S T.tg) c)) h=_
 rw [(a9u hc).1]
theorem akz {c:Nat} (hc:c∈T.tg) (h:Hd):a4x (.str (S T.tg)) [.str (S [c])] h = .ok (bx (psn T c)) h:=by
 show (if c∈(S T.tg).cps.toList then R.ok (D.int (a0t (S T.tg) c)) h else .no)=_
 rw [if_pos (by rw [a1e];exact hc),(a9u hc).1]
theorem ark {g:D→List D→Hd→R D} {f:SE} {k:SA} {τ:Sd} {h h1 h2 h3:Hd} {z:Str} {ds:List D} {v:D} (e1:f τ h = .ok (.str z) h1) (e2:k τ h1 = .ok ds h2) (e3:g (.str z) ds h2 = .ok v h3):sMS g f k τ h = .ok v h3:=by
 unfold sMS
 rw [e1,du]
 dsimp only
 rw [e2,du,e3]
theorem ap9 (h:T.Ok) {r c:Nat} (hc:c<T.tg.length) (hh:Hd):gIx (at7 T r) (bx c) hh = .ok (bx (stp T r c)) hh:=zg (by rw [List.getElem?_map,List.getElem?_map,List.getElem?_range hc];rfl)
theorem arl {d e:D} (hd:clo 0 d) (he:clo 0 e):∀ x∈[T.d,d,e],clo 0 x:=by
 intro x hx
 simp only [List.mem_cons,List.not_mem_nil,or_false] at hx
 rcases hx with rfl | rfl | rfl
 ·exact Table.clo
 ·exact hd
 ·exact he
noncomputable def dw:SF:=mq lq 8
def rms (T:Table) (r:Nat) (l:List Nat):List Nat:=(List.range (l.length+1)).map fun i=>ldw T r (l.take i)
theorem ago (r c:Nat) (l:List Nat):rms T r (l++[c])=rms T r l++[ldw T r (l++[c])]:=by
 unfold rms
 rw [List.length_append,List.length_singleton,List.range_succ (n:=l.length+1),List.map_append,List.map_singleton]
 congr 1
 ·refine List.map_congr_left fun i hi=>?_
  rw [List.mem_range] at hi
  rw [List.take_append_of_le_length (by omega)]
 ·rw [List.take_of_length_le (by simp)]
theorem agp (r:Nat) (l:List Nat):∃ p,rms T r l=p++[ldw T r l]:=by
 unfold rms
 rw [List.range_succ,List.map_append,List.map_singleton]
 exact ⟨_,by rw [List.take_of_length_le (Nat.le_refl _)]⟩
theorem a6i (h:T.Ok) {r:Nat} {l:List Nat} (hr:r<T.go.length) (hl:∀ c∈l,c∈T.tg) (ll:l.length≤1000):Pu dw 3 [T.d,bx r, .str (S l)] (.rol ((rms T r l).map bx)):=by
 refine Pu.of rfl (arl (fu _) (gf _)) (r:=.ok (.ref 0) [.lst ((rms T r l).map bx)]) ?_ (a1a (Nat.le_refl _) rfl (gw _) (by simp)) (ww (gw _))
 unfold dw
 rw [j6]
 show toR (lq [some T.d,some (bx r),some (.str (S l)),none,none,none,none,none] [])=_
 unfold lq
 refine Eq.trans (congrArg toR (zq (agk (bf rfl) rfl))) ?_
 refine Eq.trans (congrArg toR (jf (d:=.ref 0) (h1:=[.lst ((rms T r []).map bx)]) rfl)) ?_
 refine Eq.trans (congrArg toR (a4k (aeo (bf rfl) (ap3 l _)))) ?_
 have lp:=vh (g:=kN 7) (b:=jr) (fun c:Nat=>D.str (S [c]))
  (fun pre τ hh=>∃ t7:Option D,τ=[some T.d,some (bx r),some (.str (S l)),some (.str (S T.tg)),some (.tup (T.go.map a7u)),some (.tup (T.ks.map D.int)),some (.ref 0),t7]∧hh=[.lst ((rms T r pre).map bx)]) l
  [some T.d,some (bx r),some (.str (S l)),some (.str (S T.tg)),some (.tup (T.go.map a7u)),some (.tup (T.ks.map D.int)),some (.ref 0),none] [.lst ((rms T r []).map bx)] ?_ ⟨none,rfl,rfl⟩
 ·obtain ⟨τ',h',e,t7,rfl,rfl⟩:=lp
  refine Eq.trans (congrArg (fun z=>toR (thn z _)) e) ?_
  rfl
 ·rintro pre c post τ hh all ⟨t7,rfl,rfl⟩
  have hc:=hl c (by rw [all];simp)
  have pl:pre.length≤l.length:=by rw [all];simp
  refine ⟨_,_,rfl,[some T.d,some (bx r),some (.str (S l)),some (.str (S T.tg)),some (.tup (T.go.map a7u)),some (.tup (T.ks.map D.int)),some (.ref 0),some (.str (S [c]))],[.lst ((rms T r (pre++[c])).map bx)],?_,_,rfl,rfl⟩
  unfold jr
  obtain ⟨p,ep⟩:=agp (T:=T) r pre
  have last:∀ hh:Hd,hh[0]? = some (.lst ((rms T r pre).map bx))→gIx (.ref 0) (.int (-1)) hh = .ok (bx (ldw T r pre)) hh:=fun hh e0=>by
   rw [a2o]
   unfold zp
   simp only [e0]
   rw [ep,List.map_append,List.map_singleton,adp]
  refine Eq.trans (a05 (v:=.non) (bf rfl) rfl (arg1 (ig (ig (bf rfl) (ig (bf rfl) (ai7 (g8 _ _ _) (a7s _)) (last _ rfl)) (aic h (adq h pre hr) _)) (ark (bf rfl) (arg1 (bf rfl)) (akz hc _)) (ap9 h (a9u hc).2 _))) (a0g (xs:=(rms T r pre).map bx) rfl (a0h (by simp [rms];omega)))) ?_
  rw [ago,List.map_append,a6h]
  rfl
noncomputable def jw:SF:=mq qi 2
def inT (T:Table) (l:List Nat):Bool:=l.all fun c=>decide (c∈T.tg)
theorem apa (bs:List Bool) (h:Hd):ahx [.rol (bs.map D.bl)] h = .ok (.bl (bs.all id)) h:=by
 unfold ahx
 simp only [afk]
theorem agq {l:List Nat} (ll:l.length≤1000) {ce:SE} (hce:∀ c:Nat,ce [some (.str (S [c])),some (.str (S T.tg))] [] = .ok (.bl (decide (c∈T.tg))) []) {τ:Sd} (h1:τ[1]? = some (some (.str (S l)))) (h0:τ[0]? = some (some (.str (S T.tg)))) :
  sA ahx (aj (sZ (ud (sIt (sV 1)) t1 ce [0])) cj) τ [] = .ok (.bl (inT T l)) []:=by
 have cz:sZ (ud (sIt (sV 1)) t1 ce [0]) τ [] = .ok (.rol ((l.map fun c=>decide (c∈T.tg)).map D.bl)) []:=by
  rw [List.map_map]
  refine xx (a7r (fun c:Nat=>D.str (S [c])) (fun c=>.bl (decide (c∈T.tg))) l (aeo (bf h1) (ap3 l _)) (jh (by omega)) fun c _=>?_) (jn fun c _=>a2l _) (by simp)
  rw [a2a,a9q,adh,h0]
  exact hce c
 refine yf cz ?_
 rw [apa]
 congr 2
 unfold inT
 rw [List.all_map]
 rfl
theorem al0 (c:Nat) (h:Hd):gIn false (.str (S [c])) (.str (S T.tg)) h = .ok (.bl (decide (c∈T.tg))) h:=by
 show R.ok (D.bl (decide (c∈(S T.tg).cps.toList))) h=_
 rw [a1e]
theorem adt {l:List Nat} (ll:l.length≤1000):Pu jw 2 [.str (S T.tg), .str (S l)] (.bl (inT T l)):=by
 refine Pu.of rfl (by intro x hx;simp only [List.mem_cons,List.not_mem_nil,or_false] at hx;rcases hx with rfl | rfl<;>exact gf _) (r:=.ok (.bl (inT T l)) []) ?_ (lz (a2l _) (by simp)) (a2l _)
 unfold jw
 rw [j6]
 show toR (qi [some (.str (S T.tg)),some (.str (S l))] [])=_
 unfold qi
 exact congrArg toR (qj (adi (v5 (bf rfl) (g8 _ _ _) (ap7 (d:=.str (S l)) (by simp only [Pln,a1e];exact ll))) (agq ll (fun c=>ig (bf rfl) (bf rfl) (al0 c _)) rfl rfl)))
theorem arn {f k:SE} {τ:Sd} {h h1:Hd} (e:f τ h = .ok (.bl false) h1):zj f k τ h = .ok (.bl false) h1:=by unfold zj;rw [e,du]
theorem adu {d:D} (p:Pln d) (ns:isStr d=false):Pu jw 2 [.str (S T.tg),d] (.bl false):=by
 refine Pu.of rfl (by intro x hx;simp only [List.mem_cons,List.not_mem_nil,or_false] at hx;rcases hx with rfl | rfl;exact gf _;exact p.clo) (r:=.ok (.bl false) []) ?_ (lz (a2l _) (by simp)) (a2l _)
 unfold jw
 rw [j6]
 show toR (qi [some (.str (S T.tg)),some d] [])=_
 unfold qi
 exact congrArg toR (qj (arn (v5 (bf rfl) (g8 _ _ _) (by rw [ap7 p,ns]))))
end
end K23
namespace K21
open PySem PySem.Spec L2 MI AT HND K22 K23 EVX
section
variable {T:Table}
noncomputable def jw:SF:=mq qi 2
def txt (T:Table):D→Bool
 | .str x=>inT T x.cps.toList
 | _=>false
theorem al1 (l:List Nat):txt T (.str (S l))=inT T l:=by simp only [txt,a1e]
theorem ab0 {d:D} (p:Pln d):Pu jw 2 [.str (S T.tg),d] (.bl (txt T d)):=by
 by_cases sd:isStr d=true
 ·obtain ⟨x,rfl⟩:∃ x,d = .str x:=by cases d<;>first | exact ⟨_,rfl⟩ | (simp [isStr] at sd)
  have ll:x.cps.toList.length≤1000:=p
  rw [← agj x] at ll ⊢
  rw [a1e] at ll
  rw [al1]
  exact K23.adt ll
 ·have sd':isStr d=false:=by simpa using sd
  have:txt T d=false:=by cases d<;>first | rfl | (simp [isStr] at sd)
  rw [this]
  exact K23.adu p sd'
theorem a1f {a b:D} (ha:MI.clo 0 a) (hb:MI.clo 0 b):∀ x∈[a,b],MI.clo 0 x:=by
 intro x hx
 simp only [List.mem_cons,List.not_mem_nil,or_false] at hx
 rcases hx with rfl | rfl
 ·exact ha
 ·exact hb
theorem adv {a b c:D} (ha:MI.clo 0 a) (hb:MI.clo 0 b) (hc:MI.clo 0 c):∀ x∈[a,b,c],MI.clo 0 x:=by
 intro x hx
 simp only [List.mem_cons,List.not_mem_nil,or_false] at hx
 rcases hx with rfl | rfl | rfl
 ·exact ha
 ·exact hb
 ·exact hc
noncomputable def dq:SF:=mq (p6 jw) 2
theorem a5e {d:D} (p:Pln d):dq [.str (S T.tg),d] []=if txt T d=true then .ok d [] else .ex "NoText" []:=by
 unfold dq
 rw [j6]
 show toR (p6 jw [some (.str (S T.tg)),some d] [])=_
 unfold p6
 have c:=ab0 (T:=T) p []
 cases e:txt T d with
 | true =>
  rw [e] at c
  rw [if_pos rfl]
  refine Eq.trans (congrArg toR (ifN (alo (a2c (v5 (bf rfl) (bf rfl) c) (qz _))))) ?_
  exact congrArg toR (qj (bf rfl))
 | false =>
  rw [e] at c
  rw [if_neg (by simp)]
  exact congrArg toR (aoy (Eq.trans (ifT (auh (a2c (v5 (bf rfl) (bf rfl) c) (qz _)))) (akr (arg1 (g8 _ _ _)) (by simp))))
theorem a6j {d:D} (p:Pln d) (t:txt T d=true) (h:Hd):wz 2 dq [.str (S T.tg),d] h = .ok d h:=by
 have r:=a5e (T:=T) p
 rw [if_pos t] at r
 exact adm (a1f (gf _) p.clo) r (Pu.of rfl (a1f (gf _) p.clo) r (lz p.clo (by simp)) p.clo)
theorem a6k {d:D} (p:Pln d) (t:txt T d=false) (h:Hd):wz 2 dq [.str (S T.tg),d] h = .ex "NoText" h:=by
 have r:=a5e (T:=T) p
 rw [if_neg (by simp [t])] at r
 exact adl rfl (a1f (gf _) p.clo) r
theorem aro (h:Hd):gIx T.d (.int 2) h = .ok (.tup (T.ks.map D.int)) h:=zg (j:=2) rfl
theorem al2 {l:List Nat} (ll:l.length≤1000):Pln (.str (S l)):=by simp only [Pln,a1e];exact ll
theorem apb {l:List Nat} (hl:∀ c∈l,c∈T.tg):inT T l=true:=by
 unfold inT
 rw [List.all_eq_true]
 exact fun c hc=>decide_eq_true (hl c hc)
theorem aid (h:T.Ok) {r:Nat} (hr:r<T.go.length) (hh:Hd):gIx (.tup (T.ks.map D.int)) (bx r) hh = .ok (.int (kI T r)) hh:=by
 obtain ⟨k,e,_⟩:=aky h hr
 exact zg (by rw [List.getElem?_map,e];simp [kI,e])
end
end K21
namespace K21
open PySem PySem.Spec L2 MI AT HND K22 K23 EVX
section
variable {T:Table}
abbrev ones (t:List Nat):List D:=t.map fun c=>.str (S [c])
theorem join_ones:∀ t:List Nat,Txt.join (S []) (t.map fun c=>S [c])=S t:=by
 have e:∀ zs:List Str,Txt.join (S []) zs=Str.join (S []) zs:=PySem.StrLaws.glued_eq_join (S [])
 have st:∀ (x y:Str) (r:List Str),Str.join (S []) (x::y::r)=x++S []++Str.join (S []) (y::r):=fun _ _ _=>rfl
 intro t
 rw [e]
 induction t with
 | nil=>rfl
 | cons a t ih =>
  cases t with
  | nil=>rfl
  | cons b t =>
   rw [List.map_cons,List.map_cons,st,show S [b]::t.map (fun c=>S [c])=(b::t).map (fun c=>S [c]) from rfl,ih,akl,akl]
   rfl
theorem a7w:∀ t:List Nat,a8f (ones t)=some (t.map fun c=>S [c])
 | []=>rfl
 | a::t=>by
  show (a8f (ones t)).map _=_
  rw [a7w t];rfl
theorem agr (t:List Nat):((t.map fun c=>S [c]).map (·.length)).sum=t.length:=by
 induction t with
 | nil=>rfl
 | cons a t ih=>rw [List.map_cons,List.map_cons,List.sum_cons,ih,a8l,List.length_cons];simp;omega
theorem adw {t:List Nat} {h:Hd} (z:t.length≤1000000):acp (.str (S [])) [.rol (ones t)] h = .ok (.str (S t)) h:=by
 unfold acp
 simp only [a7w,agr,a8l,List.length_nil,Nat.mul_zero,Nat.add_zero,join_ones]
 rw [if_pos (by omega)]
theorem auk {f:SE} {τ:Sd} {h h':Hd} {xs:List D} (hl:h'.length=h.length) (e:f τ h = .ok (.ref h'.length) (h'++[.lst xs])) (cx:clos h.length xs) (c:∀ o∈h',zm h.length o):sZ f τ h = .ok (.rol xs) h':=by
 unfold sZ
 rw [e,a1a (by omega) (by simp) cx (by rw [← hl];simpa [hl] using c)]
 rw [← hl]
 simp
theorem ab1 {f:SE} {τ:Sd} {h h1:Hd} {i:Int} (e:f τ h = .ok (.int i) h1):oS f τ h = .ok (some i) h1:=by unfold oS;rw [e];rfl
theorem a6l {f:SE} {lo hi:SO} {τ:Sd} {h h1 h2 h3 h4:Hd} {d v:D} {a b:Option Int} (e:f τ h = .ok d h1) (e1:lo τ h1 = .ok a h2) (e2:hi τ h2 = .ok b h3) (e3:a9g d a b h3 = .ok v h4):a0e f lo hi τ h = .ok v h4:=by
 unfold a0e
 rw [e,du,e1,du,e2,du,e3]
theorem ags (n:Nat) (l:List Nat):clos n (ones l):=jn fun c _=>gf _
theorem a6m (tg:List Nat):∀ l:List Nat,(l.filterMap fun c=>if (!decide (c∈tg))=true then some (D.str (S [c])) else none)=ones (l.filter fun c => !decide (c∈tg))
 | []=>rfl
 | c::l=>by
  have ih:=a6m tg l
  by_cases h:c∈tg
  ·rw [List.filterMap_cons_none (by rw [decide_eq_true h];rfl),List.filter_cons_of_neg (by simp [h]),ih]
  ·rw [List.filterMap_cons_some (b:=D.str (S [c])) (by rw [decide_eq_false h];rfl),List.filter_cons_of_pos (by simp [h]),ih]
   rfl
theorem apc (c:Nat) (t:List Nat) (h:Hd):gIn true (.str (S [c])) (.str (S t)) h = .ok (.bl (!decide (c∈t))) h:=by
 show R.ok (D.bl (!decide (c∈(S t).cps.toList))) h=_
 rw [a1e]
theorem adx {l:List Nat} {c:Nat} (hc:c∈l) (hn:c ∉ T.tg):txt T (.str (S l))=false:=by
 rw [al1]
 unfold inT
 rw [List.all_eq_false]
 exact ⟨c,hc,by simpa using hn⟩
end
end K21
namespace SRC
open PySem PySem.Spec L2 MI AT HND EVX K22 K23 K21
section
variable {T:Table}
def rm (T:Table) (l:List Nat) (k:Nat):Nat:=ldw T 0 (l.take k)
def best (T:Table) (a:Nat) (l:List Nat):Nat→D
 | 0=>.non
 | k+1=>if kI T (rm T l k) = -1 then best T a l k else .tup [.int (kI T (rm T l k)),bx (a+k)]
theorem ady {a k:Nat} {l:List Nat} (e:kI T (rm T l k) = -1):best T a l (k+1)=best T a l k:=if_pos e
theorem adz {a k:Nat} {l:List Nat} (e:¬ kI T (rm T l k) = -1):best T a l (k+1) = .tup [.int (kI T (rm T l k)),bx (a+k)]:=if_neg e
theorem kI0 (h:T.Ok):kI T 0 = -1:=by unfold kI;rw [h.k0];rfl
theorem arp (h:T.Ok) (a:Nat) (l:List Nat):best T a l 1 = .non:=by
 show (if kI T (rm T l 0) = -1 then best T a l 0 else _)=_
 rw [if_pos (show kI T (rm T l 0) = -1 from kI0 h)]
 rfl
theorem agt (h:T.Ok) (l:List Nat) (k:Nat):rm T l k<T.go.length:=adq h _ h.n1
theorem al3 {l:List Nat} {k c:Nat} (e:l[k]? = some c):rm T l (k+1)=stp T (rm T l k) (psn T c):=by
 unfold rm
 rw [List.take_succ,e]
 exact a6h c _ _
theorem ae0 (a:Nat) (l:List Nat):∀ k,best T a l k = .non∨∃ x y:Int,best T a l k = .tup [.int x, .int y]
 | 0=>.inl rfl
 | k+1=>by
  unfold best
  split
  ·exact ae0 a l k
  ·exact .inr ⟨_,_,rfl⟩
theorem a3d (a:Nat) (l:List Nat) (k:Nat):MI.clo 0 (best T a l k):=by
 rcases ae0 (T:=T) a l k with e | ⟨x,y,e⟩<;>rw [e]
 ·exact a8h
 ·exact jo (bu (fu _) (bu (fu _) jm))
end
end SRC
namespace PN
open PySem PySem.Spec L2 MI AT HND EVX K22 K23 K21
local macro_rules | `(tactic| walk_at "ev") => `(tactic| simp only [qm,v9,a5a,a3w,a5b,jq,alf,aaf,sIf,uc,qp,a91,put,aai,a5s,a2q,ju,a2w,kN,sV,sC,s2,s1,sA,aj,cj,sNx,sT,asB,a5q,qz,a1w,a1x,a1y,a1z,ahm,sOr,a6t,zj,ale,a4d,sCh,aaa,du,a1r,MI.a0b,MI.a2n,MI.a2o,ak4,zp,gLt,gGt,gGe,gLe,a7p,a7q,aaw,aax,a2p,v4,aay,a0a,alj,alk,alm,aln,vf,MI.a8t,a4f,aac,a5c,AT.aau,AT.p18,a04,a0o,a0p,afh,a1v,a2i,a3s,aad,MI.sr,MI.xm,sML,isL,a2s,oN,oS,a0e,xu,sIt,aab,sRg,a4u,a0l,a5t,akb,aka,afx,ajz,anu,srcOf,  List.length_map,List.length_cons,List.length_nil,List.length_append,List.getElem?_cons_zero,List.getElem?_cons_succ,List.set_cons_zero,List.set_cons_succ,List.nil_append,List.cons_append,AT.aam,AT.aan,AT.aao,AT.aap,AT.aaq,AT.aar,AT.aas,AT.aat,AT.x10,AT.x20,AT.x21,AT.x30,AT.x31,AT.x32,AT.x40,AT.x41,AT.x42,AT.x43,AT.x50,AT.x51,AT.x52,AT.x53,AT.x54,AT.x60,AT.x61,AT.x62,AT.x63,AT.x64,AT.x65,AT.x70,AT.x71,AT.x72,AT.x73,AT.x74,AT.x75,AT.x76,decide_true,decide_false,reduceIte,Bool.true_and,Bool.and_self,Bool.not_true,Bool.not_false,and_self,true_and,and_true,beq_self_eq_true,Nat.reduceAdd,Nat.reduceLeDiff,Nat.reduceLT,Nat.reducePow,Int.reduceLT,Int.reduceLE,Int.reduceNeg,Int.reduceEq,Int.reduceBEq,Bool.false_eq_true,Bool.true_eq_false,ite_true,ite_false,if_true,if_false, *])
noncomputable def gh:SF:=mq (a1t ak) 6
theorem al4 {o:O} {N most:Nat} {all:List Nat} (P:Pen o N) (hN:N≤999999000) (m1:1≤most) (m2:most≤all.length) (al:all.length≤95) (nd0:all.Nodup) :
  ∃ l o',1≤l.length∧l.length≤most∧l.Nodup∧(∀ c∈l,c∈all)∧Dr gh 3 [.str (S all),bx most] o (.str (S l)) o'∧Pen o' (N+1+most):=by
 obtain ⟨r0,o1,e1,r0a,r0b,P1⟩:=a8n (m:=(most:Int)) P (by omega) (by omega) (by omega)
 have lo:=vh (g:=kN 4) (b:=vo ak) (fun i:Nat=>D.int (0+(i:Nat)))
  (fun pre τ h=>∃ (rest told:List Nat) (u:O) (t4 t5:Option D),τ=[some (.ref 0),some (.str (S rest)),some (bx most),some (.str (S told)),t4,t5]∧h=[u]∧Pen u (N+1+pre.length)∧told.length=pre.length∧(told++rest).length=all.length∧(told++rest).Nodup∧∀ c∈told++rest,c∈all)
  (List.range (1+r0).toNat) [some (.ref 0),some (.str (S all)),some (bx most),some (.str (S [])),none,none] [o1] ?_
  ⟨all,[],o1,none,none,rfl,rfl,P1,rfl,by simp,by simpa using nd0,by simp⟩
 ·obtain ⟨τ',h',e2,rest,told,u,t4,t5,rfl,rfl,P2,l1,l2,nd,sb⟩:=lo
  rw [List.length_range] at P2 l1
  refine ⟨told,u,by omega,by omega,(List.nodup_append.mp nd).1,fun c hc=>sb c (List.mem_append_left _ hc),Dr.of rfl (a1f (gf _) (fu _)) P.clo (r:=.ok (.str (S told)) [u]) ?_ (lz (gf _) (by simpa using o6 (by omega) P2.clo)) (gf _) P2.clo,P2.up (by omega)⟩
  unfold gh
  rw [j6]
  unfold a1t zy
  simp only [List.map_cons,List.map_nil,List.length_cons,List.length_nil,Nat.reduceSub,Nat.reduceAdd,List.replicate,List.cons_append,List.nil_append]
  have c2:m5 false 2 ak [.ref 0, .int (most:Nat)] [o]=_:=e1 0 [o] rfl
  have em:("" : Str)=S []:=rfl
  have bd:B62 (1+r0):=by unfold B62;omega
  have e2:forL (fun _=>True) (kN 4) (vo ak) (rng 0 (1+r0).toNat) [some (D.ref 0),some (D.str (S all)),some (bx most),some (D.str (S [])),none,none] [o1]=_:=e2
  walk_at "ev"
 ·rintro pre i post τ h al' ⟨rest,told,u,t4,t5,rfl,rfl,P2,l1,l2,nd,sb⟩
  have hlen:pre.length<(1+r0).toNat:=by
   have:=congrArg List.length al'
   simp at this;omega
  rw [List.length_append] at l2
  obtain ⟨r,u',e2,ra,rb,P3⟩:=a8n (m:=(rest.length:Nat)) P2 (by omega) (by omega) (by omega)
  obtain ⟨j,rfl⟩:=Int.eq_ofNat_of_zero_le ra
  have hj:j<rest.length:=by omega
  have gx:rest[j]? = some rest[j]:=List.getElem?_eq_getElem hj
  have pp:=adf told rest j rest[j] gx
  refine ⟨_,_,rfl,_,_,?_,rest.take j++rest.drop (j+1),told++[rest[j]],u',some (.int (0+(i:Nat))),some (.int (j:Nat)),rfl,rfl,by simpa [Nat.add_assoc] using P3,by simp [l1],?_,pp.nodup_iff.mp nd,fun c hc=>sb c (pp.mem_iff.mpr hc)⟩
  ·unfold vo
   have L:∀ n:Nat,n≤95→n≤LINE:=fun n hn=>by show n≤16777216;omega
   have c2:=e2 0 [u] rfl
   have x1:∀ h,gIx (.str (S rest)) (.int (j:Nat)) h = .ok (.str (S [rest[j]])) h:=fun h=>ar8 (L _ (by omega)) gx
   have x2:∀ h,ye [.str (S rest)] h = .ok (.int rest.length) h:=fun h=>aav (L _ (by omega))
   have x3:∀ h,jk (.str (S told)) (.str (S [rest[j]])) h = .ok (.str (S (told++[rest[j]]))) h:=fun h=>adc (L _ (by simp;omega))
   have x4:∀ h,a9g (.str (S rest)) none (some (j:Int)) h = .ok (.str (S (rest.take j))) h:=fun h=>ass j (L _ (by omega))
   have x5:∀ h,a9g (.str (S rest)) (some ((j:Int)+1)) none h = .ok (.str (S (rest.drop (j+1)))) h:=fun h=>ade (j+1) (L _ (by omega))
   have x6:∀ h,jk (.str (S (rest.take j))) (.str (S (rest.drop (j+1)))) h = .ok (.str (S (rest.take j++rest.drop (j+1)))) h:=fun h=>adc (L _ (by simp;omega))
   clear al' hlen
   walk_at "ev"
  ·rw [← pp.length_eq];simpa using l2
end PN
namespace PN
open PySem PySem.Spec L2 MI AT HND EVX K22 K23 K21
abbrev vg (r:List Nat):O:=.lst (r.map bx)
structure Laid (g:Hd) (rows:List (List Nat)) (ks:List Int):Prop where
 go:∃ is:List Nat,g[1]? = some (.lst (is.map D.ref))∧∀ r,r<rows.length→∃ i,is[r]? = some i∧g[i]? = some (vg ((rows[r]?).getD []))
 ks:g[2]? = some (.lst (ks.map D.int))
 clo:∀ o∈g,zm g.length o
theorem a4c {g t:Hd} {i:Nat} {o:O} (e:g[i]? = some o):(g++t)[i]? = some o:=by
 rw [List.getElem?_append_left (List.getElem?_eq_some_iff.mp e).1];exact e
theorem Laid.row {g:Hd} {rows:List (List Nat)} {ks:List Int} (L:Laid g rows ks) {r:Nat} (hr:r<rows.length):∃ i,g[i]? = some (vg ((rows[r]?).getD []))∧∀ t:Hd,gIx (.ref 1) (bx r) (g++t) = .ok (.ref i) (g++t):=by
 obtain ⟨is,e,f⟩:=L.go
 obtain ⟨i,e1,e2⟩:=f r hr
 exact ⟨i,e2,fun t=>adk (a4c e) (by rw [List.getElem?_map,e1];rfl)⟩
theorem qt (g:Hd) (o:O):(g++[o])[g.length]? = some o:=by simp
theorem a6n (g:Hd) (o o':O):(g++[o]).set g.length o'=g++[o']:=by simp
theorem a9v {i:Nat} {xs:List D} {h:Hd} (e:h[i]? = some (.lst xs)):isL (.ref i) h=true:=by unfold isL;simp only [e]
theorem ae1 {i:Nat} {xs:List D} {h:Hd} (e:h[i]? = some (.lst xs)):aab (.ref i) h = .ok ⟨xs,fun h=>h[i]? = some (.lst xs)⟩ h:=by unfold aab;simp only [e]
theorem a6o {i:Nat} {l:List Nat} {h:Hd} (e:h[i]? = some (.lst (l.map bx))):ye [.ref i] h = .ok (bx l.length) h:=by rw [akq e,List.length_map]
abbrev τD (tg:List Nat) (tu:Nat) (m:D) (i:Nat) (t6 t7:Option D):Sd:=[some (.str (S tg)),some (.ref 1),some (.ref 2),some (bx tu),some m,some (bx i),t6,t7]
section
variable {g:Hd} {n tu:Nat} {tg:List Nat} {rows:List (List Nat)} {ks:List Int}
theorem agu {i j:Nat} {t6:Option D} {met row:List Nat} (n32:n≤32) (hj:g[j]? = some (vg row)) (M:SRC.Met n met) (rx:∀ x∈row,x<n) :
  ∃ (met':List Nat) (t6':Option D),forL (fun h=>h[j]? = some (vg row)) (kN 6) o8 (row.map bx) (τD tg tu (.ref g.length) i t6 none) (g++[vg met]) = .nx (τD tg tu (.ref g.length) i t6' none) (g++[vg met'])∧SRC.Met n met'∧(∃ add,met'=met++add)∧∀ x∈row,x∈met':=by
 have lp:=a6g (g:=kN 6) (b:=o8) (ck:=fun h=>h[j]? = some (vg row)) bx
  (fun pre τ h=>∃ (met':List Nat) (t6:Option D),τ=τD tg tu (.ref g.length) i t6 none∧h=g++[vg met']∧SRC.Met n met'∧(∃ add,met'=met++add)∧∀ x∈pre,x∈met')
  (by rintro pre τ h ⟨met',t6,rfl,rfl,_⟩;exact a4c hj)
  row [] (τD tg tu (.ref g.length) i t6 none) (g++[vg met]) ?_ ⟨met,t6,rfl,rfl,M,⟨[],by simp⟩,by simp⟩
 ·obtain ⟨τ',h',e,met',t6',rfl,rfl,M',ad,al⟩:=lp
  exact ⟨met',t6',e,M',ad,by simpa using al⟩
 ·rintro pre x post τ h all ⟨met',t6,rfl,rfl,M',⟨add,rfl⟩,al⟩
  rw [List.nil_append] at all
  have hx:x<n:=rx x (by rw [all];simp)
  unfold o8
  by_cases h:x∈met++add
  ·refine ⟨_,_,rfl,τD tg tu (.ref g.length) i (some (bx x)) none,g++[vg (met++add)],?_,met++add,_,rfl,rfl,M',⟨add,rfl⟩,fun y hy=>?_⟩
   ·refine Eq.trans (ifF (tof (ig (bf rfl) (bf rfl) ((SRC.a9t (l:=met++add) (qt _ _)).trans (by rw [decide_eq_true h];rfl))))) rfl
   ·rcases List.mem_append.mp hy with z | z
    ·exact al y z
    ·rw [List.mem_singleton] at z;subst z;exact h
  ·refine ⟨_,_,rfl,τD tg tu (.ref g.length) i (some (bx x)) none,g++[vg (met++add++[x])],?_,met++add++[x],_,rfl,rfl,M'.add hx h,⟨add++[x],by simp⟩,fun y hy=>?_⟩
   ·have ln:=M'.len
    refine Eq.trans (ifT (tof (ig (bf rfl) (bf rfl) ((SRC.a9t (l:=met++add) (qt _ _)).trans (by rw [decide_eq_false h];rfl))))) ?_
    have ap:=a0g (h:=g++[vg (met++add)]) (a:=bx x) (qt g _) (by rw [List.length_map];exact a0h (by omega))
    rw [a6n] at ap
    unfold vg
    rw [List.map_append (l₁:=met++add)]
    exact a05 (bf rfl) (a9v (qt g _)) (arg1 (bf rfl)) ap
   ·rcases List.mem_append.mp hy with z | z
    ·exact List.mem_append_left _ (al y z)
    ·rw [List.mem_singleton] at z;subst z;simp
theorem al5 {s:Nat} (L:Laid g rows ks) (n1:1≤n) (n32:n≤32) (lr:rows.length=n) (rr:∀ r∈rows,agn s n r) :
  ∃ (met:List Nat) (i:Nat) (t6:Option D),sWh ug o9 100000 (τD tg tu (.ref g.length) 0 none none) (g++[vg [0]]) = .nx (τD tg tu (.ref g.length) i t6 none) (g++[vg met])∧SRC.Met n met∧met[0]? = some 0∧∀ r∈met,∀ x∈(rows[r]?).getD [],x∈met:=by
 have w:=akc (c:=ug) (f:=o9)
  (fun m τ h=>∃ (met:List Nat) (i:Nat) (t6:Option D),τ=τD tg tu (.ref g.length) i t6 none∧h=g++[vg met]∧m=32 - i∧i≤met.length∧SRC.Met n met∧met[0]? = some 0∧SRC.Done rows met i)
  (fun τ h=>∃ (met:List Nat) (i:Nat) (t6:Option D),τ=τD tg tu (.ref g.length) i t6 none∧h=g++[vg met]∧SRC.Met n met∧met[0]? = some 0∧SRC.Done rows met met.length)
  (fun _ _=>False) ?_ 32 100000 (τD tg tu (.ref g.length) 0 none none) (g++[vg [0]]) (by omega)
  ⟨[0],0,none,rfl,rfl,rfl,by simp,⟨by simp,by simp;omega,by simp⟩,rfl,fun j hj=>absurd hj (Nat.not_lt_zero j)⟩
 ·rcases w with ⟨τ',h',e,met,i,t6,rfl,rfl,M,m0,D⟩ | ⟨_,_,_,z⟩
  ·refine ⟨met,i,t6,e,M,m0,fun r hr x hx=>?_⟩
   obtain ⟨j,hj,rfl⟩:=List.getElem_of_mem hr
   exact D j hj _ (List.getElem?_eq_getElem hj) x hx
  ·exact z.elim
 ·rintro m τ h ⟨met,i,t6,rfl,rfl,rfl,il,M,m0,D⟩
  have ln:=M.len
  by_cases lt:i<met.length
  ·refine .inr ⟨_,tof (ig (bf rfl) (yf (bf rfl) (a6o (qt g _))) (asx (by omega))), .inl ?_⟩
   have rl:met[i]<n:=M.lt _ (List.getElem_mem lt)
   have gm:met[i]? = some met[i]:=List.getElem?_eq_getElem lt
   generalize met[i]=r at rl gm
   have gr:rows[r]? = some ((rows[r]?).getD []):=by rw [List.getElem?_eq_getElem (by omega)];rfl
   have rn:=rr _ (List.mem_of_getElem? gr)
   obtain ⟨j,hj,gx⟩:=L.row (r:=r) (by omega)
   obtain ⟨met',t6',e,M',⟨add,ea⟩,al⟩:=agu (tg:=tg) (tu:=tu) (i:=i) (t6:=t6) n32 hj M rn.2
   refine ⟨τD tg tu (.ref g.length) (i+1) t6' none,g++[vg met'],32 - (i+1),?_,by omega,met',i+1,t6',rfl,rfl,rfl,by rw [ea,List.length_append];omega,M',?_,fun k hk q hq x hx=>?_⟩
   ·unfold o9
    refine Eq.trans (a4k (aeo (ig (bf rfl) (ig (bf rfl) (bf rfl) (adk (xs:=met.map bx) (qt g _) (y:=bx r) (by rw [List.getElem?_map,gm];rfl))) (gx _)) (ae1 (a4c hj)))) ?_
    refine Eq.trans (congrArg (fun z=>MI.thn z _) e) ?_
    rw [v9]
    exact ako (ig (bf rfl) (g8 _ _ _) vf)
   ·rw [ea,List.getElem?_append_left (by cases met with | nil=>simp at m0 | cons _ _=>simp)];exact m0
   ·by_cases je:k=i
    ·subst je
     rw [ea,List.getElem?_append_left lt,gm] at hq
     cases hq
     exact al x hx
    ·have jl:k<met.length:=by omega
     rw [ea,List.getElem?_append_left jl] at hq
     rw [ea]
     exact List.mem_append_left _ (D k (by omega) q hq x hx)
  ·refine .inl ⟨_,tof (ig (bf rfl) (yf (bf rfl) (a6o (qt g _))) (asy (by omega))),met,i,t6,rfl,rfl,M,m0,?_⟩
   rw [show met.length=i by omega];exact D
end
end PN
namespace PN
open PySem PySem.Spec L2 MI AT HND EVX K22 K23 K21
noncomputable def fj:SF:=mq uq 8
section
variable {g:Hd} {n tu:Nat} {tg:List Nat} {rows:List (List Nat)} {ks:List Int}
theorem apd {i:Nat} {xs:List D} {lo hi:Option Int} {h:Hd} (e:h[i]? = some (.lst xs)):a9g (.ref i) lo hi h = .ok (.ref h.length) (h++[.lst (a2f xs lo hi)]):=by
 show gSl (.ref i) lo hi h=_
 unfold gSl
 simp only [e]
abbrev turned (t:Nat) (met:List Nat):List Nat:=[0]++met.drop t++(met.drop 1).take (t - 1)
theorem a8p {t:Nat} {met:List Nat} (t1:1≤t) (m0:met[0]? = some 0):(turned t met).Perm met:=by
 cases met with
 | nil=>simp at m0
 | cons a l =>
  have:a=0:=by simpa using m0
  subst this
  obtain ⟨k,rfl⟩:∃ k,t=k+1:=⟨t - 1,by omega⟩
  show ([0]++l.drop k++(l.take k)).Perm (0::l)
  rw [List.append_assoc]
  refine List.Perm.cons 0 ?_
  show (l.drop k++l.take k).Perm l
  have p:(l.drop k++l.take k).Perm (l.take k++l.drop k):=List.perm_append_comm
  rwa [List.take_append_drop] at p
theorem al6 {i:Nat} {t6:Option D} {met:List Nat} (L:Laid g rows ks) (n32:n≤32) (lr:rows.length=n) (lk:ks.length=n) (t6':tg.length≤6) (rr:∀ r∈rows,agn tg.length n r) (M:SRC.Met n met) (m0:met[0]? = some 0) (cl:∀ r∈met,∀ x∈(rows[r]?).getD [],x∈met) :
  ∃ m:List Nat,m.Perm met∧m[0]? = some 0∧toR (ie (jq 3 (s2 jk (sC (.int 1)) (s2 a4f (sV 3) (sA ye (aj (sV 4) cj)))))
   (ie (jq 4 (s2 jk (sZ (s2 jk (sZ (sA xm (aj (sC (.int 0)) cj))) (sZ (a0e (sV 4) (oS (sV 3)) oN)))) (sZ (a0e (sV 4) (oS (sC (.int 1))) (oS (sV 3))))))
   (ie (jq 7 (sA nu (aj (sZ (ud (sIt (sV 4)) t1 oh [1,4])) cj)))
   (uc (sA sr (aj (sV 0) (aj (sV 7) (aj (sA nu (aj (sZ (ud (sIt (sV 4)) t1 ou [2])) cj)) cj))))))) (τD tg tu (.ref g.length) i t6 none) (g++[vg met])) =
   .ok (.tup [.str (S tg), .tup ((SRC.a7v rows m).map a7u), .tup ((SRC.a5d ks m).map D.int)]) (g++[vg met]++[vg m]):=by
 have ln:=M.len
 have lp:1≤met.length:=by cases met with | nil=>simp at m0 | cons _ _=>simp
 let t:Nat:=1+tu % met.length
 have et:(1:Int)+(tu:Int) % (met.length:Int)=((t:Nat):Int):=by show _=((1+tu % met.length:Nat):Int);omega
 let m:=turned t met
 have pm:m.Perm met:=a8p (by show 1≤1+tu % met.length;omega) m0
 have lm:m.length=met.length:=pm.length_eq
 let G:Hd:=g++[vg met]
 let H:Hd:=G++[vg m]
 have gc:∀ o∈G,zm G.length o:=by
  intro o ho
  rcases List.mem_append.mp ho with z | z
  ·exact o6 (by simp [G]) (L.clo o z)
  ·rw [List.mem_singleton] at z;subst z;exact o6 (Nat.zero_le _) (gw _)
 have hc:∀ o∈H,zm H.length o:=by
  intro o ho
  rcases List.mem_append.mp ho with z | z
  ·exact o6 (by simp [H]) (gc o z)
  ·rw [List.mem_singleton] at z;subst z;exact o6 (Nat.zero_le _) (gw _)
 have hm:H[G.length]? = some (vg m):=qt G _
 have rw':∀ r∈m,r<rows.length∧agn tg.length n ((rows[r]?).getD [])∧∀ x∈(rows[r]?).getD [],x∈m:=fun r hr=>by
  have h1:=M.lt r (pm.mem_iff.mp hr)
  have e:rows[r]? = some ((rows[r]?).getD []):=by rw [List.getElem?_eq_getElem (by omega)];rfl
  exact ⟨by omega,rr _ (List.mem_of_getElem? e),fun x hx=>pm.mem_iff.mpr (cl r (pm.mem_iff.mp hr) x hx)⟩
 have s0:∀ τ:Sd,sZ (sA xm (aj (sC (.int 0)) cj)) τ G = .ok (.rol ([0].map bx)) G:=fun τ=>xx (yf (g8 _ _ _) rfl) (gw [0]) gc
 have s1:∀ τ:Sd,τ[4]? = some (some (.ref g.length))→τ[3]? = some (some (bx t))→sZ (a0e (sV 4) (oS (sV 3)) oN) τ G = .ok (.rol ((met.drop t).map bx)) G:=fun τ h4 h3=>by
  refine xx ((a6l (bf h4) (ab1 (bf h3)) rfl (apd (qt g _))).trans ?_) (gw _) gc
  rw [a76,List.map_drop]
 have s2':∀ τ:Sd,τ[4]? = some (some (.ref g.length))→τ[3]? = some (some (bx t))→sZ (s2 jk (sZ (sA xm (aj (sC (.int 0)) cj))) (sZ (a0e (sV 4) (oS (sV 3)) oN))) τ G = .ok (.rol (([0]++met.drop t).map bx)) G:=fun τ h4 h3=>by
  refine xx (ig (s0 τ) (s1 τ h4 h3) ?_) (gw _) gc
  rw [a67 (xs:=[0].map bx) (ys:=(met.drop t).map bx) rfl rfl,if_pos (jh (by simp only [List.length_map,List.length_drop,List.length_singleton];omega)),← List.map_append]
 have s3:∀ τ:Sd,τ[4]? = some (some (.ref g.length))→τ[3]? = some (some (bx t))→sZ (a0e (sV 4) (oS (sC (.int 1))) (oS (sV 3))) τ G = .ok (.rol (((met.drop 1).take (t - 1)).map bx)) G:=fun τ h4 h3=>by
  refine xx ((a6l (bf h4) (ab1 (g8 _ _ _)) (ab1 (bf h3)) (apd (qt g _))).trans ?_) (gw _) gc
  rw [show (1:Int)=((1:Nat):Int) from rfl,aj5,List.map_take,List.map_drop]
 have s4:∀ τ:Sd,τ[4]? = some (some (.ref g.length))→τ[3]? = some (some (bx t))→s2 jk (sZ (s2 jk (sZ (sA xm (aj (sC (.int 0)) cj))) (sZ (a0e (sV 4) (oS (sV 3)) oN)))) (sZ (a0e (sV 4) (oS (sC (.int 1))) (oS (sV 3)))) τ G = .ok (.ref G.length) H:=fun τ h4 h3=>by
  refine ig (s2' τ h4 h3) (s3 τ h4 h3) ?_
  rw [a67 (xs:=([0]++met.drop t).map bx) (ys:=((met.drop 1).take (t - 1)).map bx) rfl rfl,if_pos (jh (by simp only [List.length_map,List.length_append,List.length_take,List.length_drop,List.length_singleton];omega)),← List.map_append]
 have z1:∀ t7:Option D,sZ (ud (sIt (sV 4)) t1 oh [1,4]) (τD tg t (.ref G.length) i t6 t7) H = .ok (.rol ((SRC.a7v rows m).map a7u)) H:=fun t7=>by
  rw [List.map_map]
  refine xx (SRC.aku (ck:=fun h=>h[G.length]? = some (vg m)) bx (a7u ∘ fun r=>((rows[r]?).getD []).map (SRC.pos m)) m hm (aeo (bf rfl) (ae1 hm)) (jh (by omega)) fun r hr=>?_) (jn fun x _=>jo (gw _)) hc
  obtain ⟨e1,⟨e2,_⟩,e3⟩:=rw' r hr
  obtain ⟨j,hj,gx⟩:=L.row e1
  have hj':H[j]? = some (vg ((rows[r]?).getD [])):=a4c (a4c hj)
  have gx':gIx (.ref 1) (bx r) H = .ok (.ref j) H:=by have:=gx ([vg met]++[vg m]);rwa [← List.append_assoc] at this
  rw [a2a]
  unfold oh
  have z2:sZ (ud (sIt (s2 gIx (sV 1) (sV 0))) t1 uh [2]) (some (bx r)::frs' [1,4] (τD tg t (.ref G.length) i t6 t7)) H = .ok (.rol ((((rows[r]?).getD []).map (SRC.pos m)).map bx)) H:=by
   rw [List.map_map]
   refine xx (SRC.aku (ck:=fun h=>h[j]? = some (vg ((rows[r]?).getD []))) bx (bx ∘ SRC.pos m) ((rows[r]?).getD []) hj' (aeo (ig (bf rfl) (bf rfl) gx') (ae1 hj')) (jh (by omega)) fun x hx=>?_) (jn fun x _=>fu _) hc
   rw [a2a]
   unfold uh
   exact arc (bf rfl) (a9v hm) (arg1 (bf rfl)) (SRC.ado hm (e3 x hx))
  exact yf z2 rfl
 have z3:∀ t7:Option D,sZ (ud (sIt (sV 4)) t1 ou [2]) (τD tg t (.ref G.length) i t6 t7) H = .ok (.rol ((SRC.a5d ks m).map D.int)) H:=fun t7=>by
  rw [List.map_map]
  refine xx (SRC.aku (ck:=fun h=>h[G.length]? = some (vg m)) bx (D.int ∘ fun r=>(ks[r]?).getD 0) m hm (aeo (bf rfl) (ae1 hm)) (jh (by omega)) fun r hr=>?_) (jn fun x _=>fu _) hc
  have h1:=M.lt r (pm.mem_iff.mp hr)
  have e:ks[r]? = some ((ks[r]?).getD 0):=by rw [List.getElem?_eq_getElem (by omega)];rfl
  rw [a2a]
  unfold ou
  exact ig (bf rfl) (bf rfl) (adk (a4c (a4c L.ks)) (by rw [List.getElem?_map,e];rfl))
 refine ⟨m,pm,rfl,?_⟩
 refine Eq.trans (congrArg toR (jf (ig (g8 _ _ _) (ig (bf rfl) (yf (bf rfl) (a6o (qt g _))) (aow (by omega))) vf))) ?_
 rw [et]
 refine Eq.trans (congrArg toR (jf (s4 _ rfl rfl))) ?_
 refine Eq.trans (congrArg toR (jf (yf (z1 _) (show nu [.rol ((SRC.a7v rows m).map a7u)] H = .ok (.tup ((SRC.a7v rows m).map a7u)) H from rfl)))) ?_
 exact congrArg toR (qj (a9r (bf rfl) (bf rfl) (yf (z3 _) (show nu [.rol ((SRC.a5d ks m).map D.int)] H = .ok (.tup ((SRC.a5d ks m).map D.int)) H from rfl)) ari))
theorem ape (L:Laid g rows ks) (T1:Tongue tg) (n1:1≤n) (n32:n≤32) (lr:rows.length=n) (lk:ks.length=n) (k0:ks[0]? = some (-1)) (kk:∀ k∈ks,KOk k) (rr:∀ r∈rows,agn tg.length n r) :
  ∃ (T:Table) (x y:O),T.Ok∧T.tg=tg∧T.go.length≤n∧fj [.str (S tg), .ref 1, .ref 2,bx tu] g = .ok T.d (g++[x]++[y]):=by
 obtain ⟨met,i,t6,ew,M,m0,cl⟩:=al5 (tg:=tg) (tu:=tu) L n1 n32 lr rr
 obtain ⟨m,pm,mz,ee⟩:=al6 (tg:=tg) (tu:=tu) (i:=i) (t6:=t6) L n32 lr lk T1.hi rr M m0 cl
 have lm:m.length=met.length:=pm.length_eq
 have ln:=M.len
 have ml:1≤m.length:=by cases m with | nil=>simp at mz | cons _ _=>simp
 let T:Table:=⟨tg,SRC.a7v rows m,SRC.a5d ks m⟩
 have ok:T.Ok:=by
  refine ⟨T1,by simpa [T] using ml,by show (SRC.a7v rows m).length≤32;rw [List.length_map];omega,fun r hr=>?_,by simp [T],?_,fun k hk=>?_⟩
  ·obtain ⟨q,hq,rfl⟩:=List.mem_map.mp hr
   have h1:=M.lt q (pm.mem_iff.mp hq)
   have e:rows[q]? = some ((rows[q]?).getD []):=by rw [List.getElem?_eq_getElem (by omega)];rfl
   obtain ⟨a,b⟩:=rr _ (List.mem_of_getElem? e)
   refine ⟨by rw [List.length_map];exact a,fun x hx=>?_⟩
   obtain ⟨v,hv,rfl⟩:=List.mem_map.mp hx
   show SRC.pos m v<(SRC.a7v rows m).length
   rw [List.length_map]
   exact (SRC.aib (pm.mem_iff.mpr (cl q (pm.mem_iff.mp hq) v hv))).2
  ·show (SRC.a5d ks m)[0]? = _
   rw [List.getElem?_map,mz]
   show some ((ks[0]?).getD 0)=_
   rw [k0];rfl
  ·obtain ⟨q,hq,rfl⟩:=List.mem_map.mp hk
   have h1:=M.lt q (pm.mem_iff.mp hq)
   have e:ks[q]? = some ((ks[q]?).getD 0):=by rw [List.getElem?_eq_getElem (by omega)];rfl
   exact kk _ (List.mem_of_getElem? e)
 refine ⟨T,vg met,vg m,ok,rfl,by show (SRC.a7v rows m).length≤n;rw [List.length_map];omega,?_⟩
 unfold fj
 rw [j6]
 show toR (uq [some (.str (S tg)),some (.ref 1),some (.ref 2),some (bx tu),none,none,none,none] g)=_
 unfold uq
 refine Eq.trans (congrArg toR (jf (d:=.ref g.length) (h1:=g++[vg [0]]) rfl)) ?_
 refine Eq.trans (congrArg toR (jf (g8 _ _ _))) ?_
 refine Eq.trans (congrArg toR (zq ew)) ?_
 exact ee
end
end PN
namespace PN
open PySem PySem.Spec L2 MI AT HND EVX K22 K23 K21
noncomputable def jx:SF:=mq (yq fj ak) 11
abbrev refs (k:Nat):List D:=(List.range k).map fun j=>D.ref (3+j)
abbrev HT (u:O) (is:List D) (ks:List Int) (t:Hd):Hd:=u::.lst is::.lst (ks.map D.int)::t
abbrev τP (tg:List Nat) (most many:Nat) (road often:Int) (i r k:Option D):Sd:=[some (.ref 0),some (.str (S tg)),some (bx most),some (bx many),some (.int road),some (.int often),some (.ref 1),some (.ref 2),i,r,k]
theorem ae2 (u:O) (is:List D) (ks:List Int) (t:Hd) (x:O):(HT u is ks (t++[x]))[3+t.length]? = some x:=by
 rw [show 3+t.length=t.length+1+1+1 by omega]
 simp
theorem apf (u:O) (is:List D) (ks:List Int) (t:Hd) (x y:O):(HT u is ks (t++[x])).set (3+t.length) y=HT u is ks (t++[y]):=by
 rw [show 3+t.length=t.length+1+1+1 by omega]
 simp
section
variable {u:O} {N n most:Nat} {tg:List Nat} {is:List D} {ks:List Int} {t:Hd} {road often:Int}
theorem tk {m:Int} (P:Pen u N) (hN:N≤999999000) (m0:0<m) (m1:m<1073741824):∃ (r:Int) (u':O),0≤r∧r<m∧Pen u' (N+1)∧∀ h:Hd,m5 false 2 ak [.ref 0, .int m] (u::h) = .ok (.int r) (u'::h):=by
 obtain ⟨r,u',e,r0,r1,P'⟩:=a8n P (by omega) m0 m1
 exact ⟨r,u',r0,r1,P',fun h=>e 0 _ rfl⟩
theorem ae3 {i r k:Option D} (P:Pen u N) (hN:N≤999990000) (t6:tg.length≤6) (n1:1≤n) (n32:n≤32) :
  ∃ (u':O) (row:List Nat),agn tg.length n row∧Pen u' (N+6)∧ud (sIt (sV 1)) t1 (ur fj ak) [0,3] (τP tg most n road often i r k) (HT u is ks t) = .ok (.ref (3+t.length)) (HT u' is ks (t++[vg row])):=by
 have mp:=a69 (f:=a4e t1 (ur fj ak) (frs' [0,3] (τP tg most n road often i r k))) (fun c:Nat=>D.str (S [c]))
  (fun pre ys h=>∃ (u':O) (row:List Nat),h=HT u' is ks t∧Pen u' (N+pre.length)∧ys=row.map bx∧row.length=pre.length∧∀ x∈row,x<n)
  tg [] [] (HT u is ks t) ?_ ⟨u,[],rfl,P,rfl,rfl,by simp⟩
 ·obtain ⟨zs,h',em,u',row,rfl,P',ez,rl,rx⟩:=mp
  rw [List.nil_append] at ez rl P'
  subst ez
  refine ⟨u',row,⟨rl,rx⟩,P'.up (by omega),?_⟩
  unfold ud
  rw [aeo (bf rfl) (PAP.ap3 tg _),du]
  dsimp only
  rw [if_pos (by rw [List.length_map];exact jh (by omega)),em,du]
  show R.ok (D.ref (HT u' is ks t).length) (HT u' is ks t++[vg row])=_
  rw [show (HT u' is ks t).length=3+t.length by simp;omega]
  rfl
 ·rintro pre c post ys h all ⟨u',row,rfl,P',rfl,rl,rx⟩
  rw [List.nil_append] at all
  have pl:pre.length<tg.length:=by rw [all];simp
  obtain ⟨x,u2,x0,x1,P2,c1⟩:=tk (m:=(n:Int)) P' (by omega) (by omega) (by omega)
  obtain ⟨j,rfl⟩:=Int.eq_ofNat_of_zero_le x0
  refine ⟨bx j,HT u2 is ks t,?_,u2,row++[j],rfl,P2.up (by rw [List.length_append,List.length_singleton];omega),by rw [List.map_append];rfl,by rw [List.length_append,List.length_append,List.length_singleton,List.length_singleton,rl],fun y hy=>?_⟩
  ·rw [a2a]
   unfold ur
   exact v5 (bf rfl) (bf rfl) (c1 _)
  ·rcases List.mem_append.mp hy with z | z
   ·exact rx y z
   ·rw [List.mem_singleton] at z;subst z;omega
theorem turn {i:Nat} {r k:Option D} (P:Pen u N) (hN:N≤999990000) (t1:1≤tg.length) (t6:tg.length≤6) (n1:1≤n) (n32:n≤32) (hi:i<n) (o2:0<often) (o3:often<10) (il:is.length≤100) (kl:ks.length≤100) (k0:ks.length=i) :
  ∃ (u':O) (row:List Nat) (kd:Int) (r' k':Option D),agn tg.length n row∧KOk kd∧(i=0→kd = -1)∧Pen u' (N+9) ∧
   qg fj ak (τP tg most n road often (some (bx i)) r k) (HT u is ks t) = .nx (τP tg most n road often (some (bx i)) r' k') (HT u' (is++[.ref (3+t.length)]) (ks++[kd]) (t++[vg row])):=by
 obtain ⟨u1,row,⟨l1,x1⟩,P1,e1⟩:=ae3 (most:=most) (road:=road) (often:=often) (i:=some (bx i)) (r:=r) (k:=k) (is:=is) (ks:=ks) (t:=t) P hN t6 n1 n32
 let τ1:Sd:=τP tg most n road often (some (bx i)) (some (.ref (3+t.length))) k
 obtain ⟨u2,row2,⟨l2,x2⟩,P2,e2⟩:∃ (u2:O) (row2:List Nat),agn tg.length n row2∧Pen u2 (N+7)∧∀ g:SS,ie (sIf (sT (s2 hEq (sV 4) (sC (.int 0))))
   (a91 (sA a3s (aj (s2 jk (sV 8) (sC (.int 1))) (aj (s2 a8t (sV 3) (sC (.int 1))) cj))) (sV 9) (sA (m5 false 2 ak) (aj (sV 0) (aj (sA ye (aj (sV 9) cj)) cj))))
   sNx) g τ1 (HT u1 is ks (t++[vg row]))=g τ1 (HT u2 is ks (t++[vg row2])):=by
  by_cases hr:road=0
  ·obtain ⟨x,u2,x0,x1',P2,c1⟩:=tk (m:=(row.length:Int)) P1 (by omega) (by omega) (by omega)
   obtain ⟨j,rfl⟩:=Int.eq_ofNat_of_zero_le x0
   let v:Nat:=if n - 1<i+1 then n - 1 else i+1
   have ev:a3s [.int ((i:Int)+1), .int ((n:Int) - 1)] (HT u1 is ks (t++[vg row])) = .ok (bx v) (HT u1 is ks (t++[vg row])):=by
    show R.ok (D.int (if (n:Int) - 1<(i:Int)+1 then (n:Int) - 1 else (i:Int)+1)) _=_
    have:(if (n:Int) - 1<(i:Int)+1 then (n:Int) - 1 else (i:Int)+1)=((v:Nat):Int):=by show _=((if n - 1<i+1 then n - 1 else i+1:Nat):Int);split<;>split<;>omega
    rw [this]
   have vn:v<n:=by show (if n - 1<i+1 then n - 1 else i+1)<n;split<;>omega
   refine ⟨u2,row.set j v,⟨by rw [List.length_set,l1],fun y hy=>?_⟩,P2,fun g=>?_⟩
   ·rcases List.mem_or_eq_of_mem_set hy with z | z
    ·exact x1 y z
    ·rw [z];exact vn
   ·refine zq (Eq.trans (ifT (tof (ig (bf rfl) (g8 _ _ _) (agl hr)))) (ard (v5 (ig (bf rfl) (g8 _ _ _) vf) (ig (bf rfl) (g8 _ _ _) (ai8 _ _)) ev) (bf rfl) (v5 (bf rfl) (yf (bf rfl) (a6o (ae2 _ _ _ _ _))) (c1 _)) ?_))
    have pu:=arf (v:=bx v) (ae2 u2 is ks t (vg row)) (j:=j) (by rw [List.length_map];omega)
    rw [apf] at pu
    show put (.ref (3+t.length)) (.int (j:Nat)) (bx v) (HT u2 is ks (t++[vg row]))=_
    rw [pu]
    show _=some (HT u2 is ks (t++[.lst ((row.set j v).map bx)]))
    rw [List.map_set]
  ·refine ⟨u1,row,⟨l1,x1⟩,P1.up (by omega),fun g=>?_⟩
   exact ifN (tof (ig (bf rfl) (g8 _ _ _) (agm hr)))
 obtain ⟨a,u3,a0,a1,P3,c3⟩:=tk (m:=6) P2 (by omega) (by omega) (by omega)
 obtain ⟨b,u4,b0,b1,P4,c4⟩:=tk (m:=often) P3 (by omega) (by omega) (by omega)
 let t':Hd:=t++[vg row2]
 have fin:∀ (w:O) (kd:Int),ie (qp (sML a2s (sV 6) (aj (sV 9) cj))) (qp (sML a2s (sV 7) (aj (sV 10) cj))) (τP tg most n road often (some (bx i)) (some (.ref (3+t.length))) (some (.int kd))) (HT w is ks t') = .nx (τP tg most n road often (some (bx i)) (some (.ref (3+t.length))) (some (.int kd))) (HT w (is++[.ref (3+t.length)]) (ks++[kd]) t'):=fun w kd=>by
  refine Eq.trans (zq (a05 (bf rfl) rfl (arg1 (bf rfl)) (a0g (xs:=is) rfl (a0h (by omega))))) ?_
  unfold HT
  rw [List.map_append]
  exact a05 (bf rfl) rfl (arg1 (bf rfl)) (a0g (xs:=ks.map D.int) rfl (by rw [List.length_map];exact a0h (by omega)))
 have start:∀ g:SS,ie (jq 10 (sA (m5 false 2 ak) (aj (sV 0) (aj (sC (.int 6)) cj)))) g τ1 (HT u2 is ks t')=g (τP tg most n road often (some (bx i)) (some (.ref (3+t.length))) (some (.int a))) (HT u3 is ks t'):=fun g=>jf (v5 (bf rfl) (g8 _ _ _) (c3 _))
 have main:∃ (w:O) (kd:Int),KOk kd∧(i=0→kd = -1)∧Pen w (N+9)∧qg fj ak (τP tg most n road often (some (bx i)) r k) (HT u is ks t) = .nx (τP tg most n road often (some (bx i)) (some (.ref (3+t.length))) (some (.int kd))) (HT w (is++[.ref (3+t.length)]) (ks++[kd]) t'):=by
  unfold qg
  by_cases h0:(i:Int)=0
  ·refine ⟨u3, -1,by decide,fun _=>rfl,P3.up (by omega),?_⟩
   refine Eq.trans (jf e1) ?_
   refine Eq.trans (e2 _) ?_
   refine Eq.trans (start _) ?_
   refine Eq.trans (zq (Eq.trans (ifT (orT (tof (ig (bf rfl) (g8 _ _ _) (agl h0))))) (ako (ai7 (g8 _ _ _) (a7s _))))) ?_
   exact fin _ _
  ·by_cases hb:0<b
   ·refine ⟨u4, -1,by decide,fun _=>rfl,P4.up (by omega),?_⟩
    refine Eq.trans (jf e1) ?_
    refine Eq.trans (e2 _) ?_
    refine Eq.trans (start _) ?_
    refine Eq.trans (zq (Eq.trans (ifT (orF (tof (ig (bf rfl) (g8 _ _ _) (agm h0))) (tof (ig (v5 (bf rfl) (bf rfl) (c4 _)) (g8 _ _ _) (asv hb))))) (ako (ai7 (g8 _ _ _) (a7s _))))) ?_
    exact fin _ _
   ·refine ⟨u4,a,by constructor<;>omega,fun z=>absurd (by omega) h0,P4.up (by omega),?_⟩
    refine Eq.trans (jf e1) ?_
    refine Eq.trans (e2 _) ?_
    refine Eq.trans (start _) ?_
    refine Eq.trans (ifN (orF (tof (ig (bf rfl) (g8 _ _ _) (agm h0))) (tof (ig (v5 (bf rfl) (bf rfl) (c4 _)) (g8 _ _ _) (asw hb))))) ?_
    exact fin _ _
 obtain ⟨w,kd,q1,q2,q3,q4⟩:=main
 exact ⟨w,row2,kd,_,_,⟨l2,x2⟩,q1,q2,q3,q4⟩
end
end PN
namespace PN
open PySem PySem.Spec L2 MI AT HND EVX K22 K23 K21
theorem a1g {n x:Nat} {pre post:List Nat} (e:List.range n=pre++x::post):x=pre.length∧pre.length<n:=by
 have h1:(List.range n)[pre.length]? = some x:=by rw [e];simp
 have h2:=List.getElem?_eq_some_iff.mp h1
 obtain ⟨h3,h4⟩:=h2
 rw [List.getElem_range] at h4
 rw [List.length_range] at h3
 exact ⟨h4.symm,h3⟩
theorem ae4 (k:Nat):refs (k+1)=refs k++[.ref (3+k)]:=by unfold refs;rw [List.range_succ,List.map_append];rfl
theorem laid {u:O} {N:Nat} {rows:List (List Nat)} {ks:List Int} (P:Pen u N):Laid (HT u (refs rows.length) ks (rows.map vg)) rows ks:=by
 refine ⟨⟨(List.range rows.length).map fun j=>3+j,?_,fun r hr=>⟨3+r,by rw [List.getElem?_map,List.getElem?_range hr];rfl,?_⟩⟩,rfl,?_⟩
 ·show some (O.lst (refs rows.length))=_
  rw [List.map_map];rfl
 ·rw [show 3+r=r+1+1+1 by omega]
  simp only [List.getElem?_cons_succ]
  rw [List.getElem?_map,List.getElem?_eq_getElem hr];rfl
 ·intro o ho
  simp only [List.mem_cons] at ho
  rcases ho with rfl | rfl | rfl | ho
  ·exact o6 (Nat.zero_le _) P.clo
  ·refine jn fun j hj=>?_
   rw [List.mem_range] at hj
   show 3+j<_
   simp only [List.length_cons,List.length_map]
   omega
  ·exact o6 (Nat.zero_le _) (jn fun x _=>fu x)
  ·obtain ⟨r,_,rfl⟩:=List.mem_map.mp ho
   exact o6 (Nat.zero_le _) (gw _)
theorem agv {o:O} {N most:Nat} {tg:List Nat} (P:Pen o N) (hN:N≤999980000) (T1:Tongue tg) (m1:1≤most) (m32:most≤32) :
  ∃ (T:Table) (o':O),T.Ok∧T.tg=tg∧T.go.length≤most∧Dr jx 3 [.str (S tg),bx most] o T.d o'∧Pen o' (N+400):=by
 obtain ⟨x,o1,x0,x1,P1,c1⟩:=tk (m:=(most:Int)) P (by omega) (by omega) (by omega)
 obtain ⟨road,o2,y0,y1,P2,c2⟩:=tk (m:=3) P1 (by omega) (by omega) (by omega)
 obtain ⟨z,o3,z0,z1,P3,c3⟩:=tk (m:=2) P2 (by omega) (by omega) (by omega)
 obtain ⟨j,rfl⟩:=Int.eq_ofNat_of_zero_le x0
 let n:Nat:=1+j
 have en:(1:Int)+(j:Int)=((n:Nat):Int):=by show _=((1+j:Nat):Int);omega
 have hn1:1≤n:=by show 1≤1+j;omega
 have hnm:n≤most:=by show 1+j≤most;omega
 let often:Int:=2+z
 have lp:=vh (g:=kN 8) (b:=qg fj ak) bx
  (fun pre τ h=>∃ (u:O) (rows:List (List Nat)) (ks:List Int) (i r k:Option D),τ=τP tg most n road often i r k∧h=HT u (refs rows.length) ks (rows.map vg)∧Pen u (N+3+9*pre.length)∧rows.length=pre.length∧ks.length=pre.length∧(∀ r∈rows,agn tg.length n r)∧(∀ k∈ks,KOk k)∧(0<pre.length→ks[0]? = some (-1)))
  (List.range n) (τP tg most n road often none none none) (HT o3 (refs 0) [] []) ?_ ⟨o3,[],[],none,none,none,rfl,rfl,P3,rfl,rfl,by simp,by simp,by simp⟩
 ·obtain ⟨τ',h',e,u,rows,ks,i,r,k,rfl,rfl,Pu,lr,lk,rr,kk,k0⟩:=lp
  rw [List.length_range] at Pu lr lk k0
  obtain ⟨w,u',w0,w1,Pw,c4⟩:=tk (m:=32) Pu (by omega) (by omega) (by omega)
  obtain ⟨tu,rfl⟩:=Int.eq_ofNat_of_zero_le w0
  obtain ⟨T,a,b,ok,et,el,ec⟩:=ape (tu:=tu) (laid (rows:=rows) (ks:=ks) Pw) T1 hn1 (by omega) lr lk (k0 (by omega)) kk rr
  refine ⟨T,u',ok,et,by omega,Dr.of rfl (a1f (gf _) (fu _)) P.clo (r:=.ok T.d (HT u' (refs rows.length) ks (rows.map vg)++[a]++[b])) ?_ (lz (a9i (Nat.zero_le 1) Table.clo) (by intro x hx;rw [show List.take 1 (HT u' (refs rows.length) ks (rows.map vg)++[a]++[b])=[u'] from rfl,List.mem_singleton] at hx;subst hx;exact o6 (by omega) Pw.clo)) Table.clo Pw.clo,Pw.up (by omega)⟩
  unfold jx
  rw [j6]
  show toR (yq fj ak [some (.ref 0),some (.str (S tg)),some (bx most),none,none,none,none,none,none,none,none] [o])=_
  unfold yq
  refine Eq.trans (congrArg toR (jf (ig (g8 _ _ _) (v5 (bf rfl) (bf rfl) (c1 _)) vf))) ?_
  rw [en]
  refine Eq.trans (congrArg toR (jf (v5 (bf rfl) (g8 _ _ _) (c2 _)))) ?_
  refine Eq.trans (congrArg toR (jf (ig (g8 _ _ _) (v5 (bf rfl) (g8 _ _ _) (c3 _)) vf))) ?_
  refine Eq.trans (congrArg toR (jf (d:=.ref 1) (h1:=[o3, .lst []]) rfl)) ?_
  refine Eq.trans (congrArg toR (jf (d:=.ref 2) (h1:=HT o3 (refs 0) [] []) rfl)) ?_
  refine Eq.trans (congrArg toR (a4k (a4b (n:=n) (bf rfl) (jh (by omega))))) ?_
  refine Eq.trans (congrArg (fun z=>toR (MI.thn z _)) e) ?_
  rw [v9]
  refine congrArg toR (qj (SRC.a8o (bz (bf rfl) (bz (bf rfl) (bz (bf rfl) (bz (v5 (bf rfl) (g8 _ _ _) (c4 _)) rfl)))) ?_))
  unfold sN
  exact (if_pos (show [D.str (S tg),D.ref 1,D.ref 2,bx tu].length=4 from rfl)).trans ec
 ·rintro pre x post τ h all ⟨u,rows,ks,i,r,k,rfl,rfl,Pu,lr,lk,rr,kk,k0⟩
  obtain ⟨rfl,hx⟩:=a1g all
  obtain ⟨u',row,kd,r',k',q1,q2,q3,q4,q5⟩:=turn (most:=most) (road:=road) (often:=often) (i:=pre.length) (r:=r) (k:=k) (is:=refs rows.length) (ks:=ks) (t:=rows.map vg) Pu (by omega) T1.lo T1.hi hn1 (by omega) hx (by show 0<2+z;omega) (by show 2+z<10;omega) (by simp;omega) (by omega) lk
  refine ⟨_,_,rfl,τP tg most n road often (some (bx pre.length)) r' k',HT u' (refs (rows++[row]).length) (ks++[kd]) ((rows++[row]).map vg),?_,u',rows++[row],ks++[kd],_,_,_,rfl,rfl,q4.up (by simp;omega),by simp [lr],by simp [lk],fun y hy=>?_,fun y hy=>?_,fun _=>?_⟩
  ·rw [List.length_append,List.length_singleton,ae4,List.map_append]
   rw [List.length_map] at q5
   exact q5
  ·rcases List.mem_append.mp hy with z | z
   ·exact rr y z
   ·rw [List.mem_singleton] at z;subst z;exact q1
  ·rcases List.mem_append.mp hy with z | z
   ·exact kk y z
   ·rw [List.mem_singleton] at z;subst z;exact q2
  ·cases ks with
   | nil=>show some kd=_;rw [q3 (by simpa using lk.symm)]
   | cons a l=>exact k0 (by rw [← lk];simp)
end PN
namespace PN
open PySem PySem.Spec L2 MI AT HND EVX K22 K23 K21
inductive Deed where
 | stay | shut | opn (k:Nat) | trn (k:Nat)
def Deed.d:Deed→D
 | .stay=>.tup [.str "stay"]
 | .shut=>.tup [.str "shut"]
 | .opn k=>.tup [.str "open",bx k]
 | .trn k=>.tup [.str "turn",bx k]
def Deed.Ok (n:Nat):Deed→Prop
 | .opn k=>k<n
 | .trn k=>k<n
 | _=>True
theorem Deed.clo (x:Deed) (n:Nat):MI.clo n x.d:=by
 cases x
 ·exact jo (bu (gf _) jm)
 ·exact jo (bu (gf _) jm)
 ·exact jo (bu (gf _) (bu (fu _) jm))
 ·exact jo (bu (gf _) (bu (fu _) jm))
noncomputable def jy:SF:=mq (yr ak) 7
abbrev six (k:Nat):List Deed:=[.stay, .shut, .opn k, .trn k, .shut, .opn k]
abbrev dsD (ds:List Deed):List D:=ds.map Deed.d
theorem a7x (n:Nat) (ds:List Deed):clos n (dsD ds):=jn fun x _=>x.clo n
abbrev τQ (size many:Nat) (i a b:Option D):Sd:=[some (.ref 0),some (bx size),some (bx many),some (.ref 1),i,a,b]
theorem agw {o:O} {N size many:Nat} (P:Pen o N) (hN:N≤999990000) (s6:size≤6) (m1:1≤many) (m4:many≤4) :
  ∃ (ds:List Deed) (o':O),ds.length=size∧(∀ x∈ds,x.Ok many)∧Dr jy 3 [bx size,bx many] o (.tup (dsD ds)) o'∧Pen o' (N+12):=by
 have lp:=vh (g:=kN 4) (b:=yc ak) bx
  (fun pre τ h=>∃ (u:O) (ds:List Deed) (i a b:Option D),τ=τQ size many i a b∧h=[u, .lst (dsD ds)]∧Pen u (N+2*pre.length)∧ds.length=pre.length∧∀ x∈ds,x.Ok many)
  (List.range size) (τQ size many none none none) [o, .lst []] ?_ ⟨o,[],none,none,none,rfl,rfl,P,rfl,by simp⟩
 ·obtain ⟨τ',h',e,u,ds,i,a,b,rfl,rfl,Pu,ld,dk⟩:=lp
  rw [List.length_range] at Pu ld
  have one:∀ x∈List.take 1 [u,O.lst (dsD ds)],zm 1 x:=by
   intro x hx
   rw [show List.take 1 [u,O.lst (dsD ds)]=[u] from rfl,List.mem_singleton] at hx
   subst hx
   exact o6 (by omega) Pu.clo
  refine ⟨ds,u,ld,dk,Dr.of rfl (a1f (fu _) (fu _)) P.clo (r:=.ok (.tup (dsD ds)) [u, .lst (dsD ds)]) ?_ (lz (jo (a7x _ _)) one) (jo (a7x _ _)) Pu.clo,Pu.up (by omega)⟩
  unfold jy
  rw [j6]
  show toR (yr ak [some (.ref 0),some (bx size),some (bx many),none,none,none,none] [o])=_
  unfold yr
  refine Eq.trans (congrArg toR (jf (d:=.ref 1) (h1:=[o, .lst []]) rfl)) ?_
  refine Eq.trans (congrArg toR (a4k (a4b (n:=size) (bf rfl) (jh (by omega))))) ?_
  refine Eq.trans (congrArg (fun z=>toR (MI.thn z _)) e) ?_
  rw [v9]
  exact congrArg toR (qj (yf (bf rfl) rfl))
 ·rintro pre x post τ h all ⟨u,ds,i,a,b,rfl,rfl,Pu,ld,dk⟩
  obtain ⟨rfl,hx⟩:=a1g all
  obtain ⟨y,u1,y0,y1,P1,c1⟩:=tk (m:=(many:Int)) Pu (by omega) (by omega) (by omega)
  obtain ⟨z,u2,z0,z1,P2,c2⟩:=tk (m:=6) P1 (by omega) (by omega) (by omega)
  obtain ⟨k,rfl⟩:=Int.eq_ofNat_of_zero_le y0
  obtain ⟨j,rfl⟩:=Int.eq_ofNat_of_zero_le z0
  have jl:j<(six k).length:=by show j<6;omega
  have gx:(six k)[j]? = some (six k)[j]:=List.getElem?_eq_getElem jl
  have gm:(six k)[j]∈six k:=List.getElem_mem jl
  generalize (six k)[j]=w at gx gm
  have wk:w.Ok many:=by
   simp only [List.mem_cons,List.not_mem_nil,or_false] at gm
   rcases gm with rfl | rfl | rfl | rfl | rfl | rfl<;>first | trivial | (show k<many;omega)
  refine ⟨_,_,rfl,τQ size many (some (bx pre.length)) (some (bx k)) (some (.rol (dsD (six k)))),[u2, .lst (dsD (ds++[w]))],?_,u2,ds++[w],_,_,_,rfl,rfl,P2.up (by rw [List.length_append,List.length_singleton];omega),by rw [List.length_append,List.length_append,ld];rfl,fun q hq=>?_⟩
  ·unfold yc
   refine Eq.trans (jf (v5 (bf rfl) (bf rfl) (c1 _))) ?_
   have cl:∀ q∈[u1,O.lst (dsD ds)],zm 2 q:=by
    intro q hq
    simp only [List.mem_cons,List.not_mem_nil,or_false] at hq
    rcases hq with rfl | rfl
    ·exact o6 (by omega) P1.clo
    ·exact a7x _ _
   have z:∀ τ:Sd,τ[5]? = some (some (bx k))→sZ (sA xm (aj (sA sr (aj (sC (.str "stay")) cj)) (aj (sA sr (aj (sC (.str "shut")) cj)) (aj (sA sr (aj (sC (.str "open")) (aj (sV 5) cj))) (aj (sA sr (aj (sC (.str "turn")) (aj (sV 5) cj))) (aj (sA sr (aj (sC (.str "shut")) cj)) (aj (sA sr (aj (sC (.str "open")) (aj (sV 5) cj))) cj))))))) τ [u1, .lst (dsD ds)] = .ok (.rol (dsD (six k))) [u1, .lst (dsD ds)]:=fun τ h5 =>
    xx (SRC.a8o (bz (yf (g8 _ _ _) rfl) (bz (yf (g8 _ _ _) rfl) (bz (v5 (g8 _ _ _) (bf h5) ai9) (bz (v5 (g8 _ _ _) (bf h5) ai9) (bz (yf (g8 _ _ _) rfl) (bz (v5 (g8 _ _ _) (bf h5) ai9) rfl)))))) rfl) (a7x _ (six k)) cl
   refine Eq.trans (jf (z _ rfl)) ?_
   unfold dsD
   rw [List.map_append]
   exact a05 (bf rfl) rfl (arg1 (ig (bf rfl) (v5 (bf rfl) (g8 _ _ _) (c2 _)) (alp (by rw [List.getElem?_map,gx];rfl)))) (a0g (xs:=dsD ds) rfl (by rw [List.length_map];exact a0h (by omega)))
  ·rcases List.mem_append.mp hq with z | z
   ·exact dk q z
   ·rw [List.mem_singleton] at z;subst z;exact wk
structure Mach where
 tg:List Nat
 ms:List (Table × List Deed)
abbrev xf (m:Table × List Deed):D:=.tup [.tup (m.1.go.map a7u), .tup (m.1.ks.map D.int), .tup (dsD m.2)]
def Mach.d (M:Mach):D:=.tup [.str (S M.tg), .tup (M.ms.map xf)]
structure ModeOk (tg:List Nat) (n:Nat) (m:Table × List Deed):Prop where
 ok:m.1.Ok
 tg:m.1.tg=tg
 dl:m.2.length≤6
 kd:∀ k∈m.1.ks,k<(m.2.length:Int)
 dk:∀ x∈m.2,x.Ok n
structure Mach.Ok (M:Mach):Prop where
 tong:Tongue M.tg
 n1:1≤M.ms.length
 n4:M.ms.length≤4
 mode:∀ m∈M.ms,ModeOk M.tg M.ms.length m
theorem agx (n:Nat) (m:Table × List Deed):MI.clo n (xf m):=jo (bu (jo (jn fun x _=>jo (gw _))) (bu (jo (jn fun x _=>fu x)) (bu (jo (a7x _ _)) jm)))
theorem ae5 (n:Nat) (ms:List (Table × List Deed)):clos n (ms.map xf):=jn fun m _=>agx n m
theorem Mach.clo (M:Mach) (n:Nat):MI.clo n M.d:=jo (bu (gf _) (bu (jo (ae5 _ _)) jm))
noncomputable def cu:SF:=mq (vp jy jx ak) 8
abbrev τM (tg:List Nat) (most many:Nat) (i a b:Option D):Sd:=[some (.ref 0),some (.str (S tg)),some (bx most),some (bx many),some (.ref 1),i,a,b]
theorem ab2 {o:O} {N most:Nat} {tg:List Nat} (P:Pen o N) (hN:N≤999970000) (T1:Tongue tg) (m1:1≤most) (m32:most≤32) :
  ∃ (M:Mach) (o':O),M.Ok∧M.tg=tg∧Dr cu 3 [.str (S tg),bx most] o M.d o'∧Pen o' (N+2000):=by
 obtain ⟨x,o1,x0,x1,P1,c1⟩:=tk (m:=4) P (by omega) (by omega) (by omega)
 obtain ⟨j,rfl⟩:=Int.eq_ofNat_of_zero_le x0
 let n:Nat:=1+j
 have en:(1:Int)+(j:Int)=((n:Nat):Int):=by show _=((1+j:Nat):Int);omega
 have hn1:1≤n:=by show 1≤1+j;omega
 have hn4:n≤4:=by show 1+j≤4;omega
 have lp:=vh (g:=kN 5) (b:=v7 jy jx ak) bx
  (fun pre τ h=>∃ (u:O) (ms:List (Table × List Deed)) (i a b:Option D),τ=τM tg most n i a b∧h=[u, .lst (ms.map xf)]∧Pen u (N+1+450*pre.length)∧ms.length=pre.length∧∀ m∈ms,ModeOk tg n m)
  (List.range n) (τM tg most n none none none) [o1, .lst []] ?_ ⟨o1,[],none,none,none,rfl,rfl,P1,rfl,by simp⟩
 ·obtain ⟨τ',h',e,u,ms,i,a,b,rfl,rfl,Pu,lm,mk⟩:=lp
  rw [List.length_range] at Pu lm
  have one:∀ x∈List.take 1 [u,O.lst (ms.map xf)],zm 1 x:=by
   intro x hx
   rw [show List.take 1 [u,O.lst (ms.map xf)]=[u] from rfl,List.mem_singleton] at hx
   subst hx
   exact o6 (by omega) Pu.clo
  let M:Mach:=⟨tg,ms⟩
  refine ⟨M,u,⟨T1,by show 1≤ms.length;omega,by show ms.length≤4;omega,fun m hm=>by show ModeOk tg ms.length m;rw [lm];exact mk m hm⟩,rfl,Dr.of rfl (a1f (gf _) (fu _)) P.clo (r:=.ok M.d [u, .lst (ms.map xf)]) ?_ (lz (M.clo 1) one) (M.clo 0) Pu.clo,Pu.up (by omega)⟩
  unfold cu
  rw [j6]
  show toR (vp jy jx ak [some (.ref 0),some (.str (S tg)),some (bx most),none,none,none,none,none] [o])=_
  unfold vp
  refine Eq.trans (congrArg toR (jf (ig (g8 _ _ _) (v5 (bf rfl) (g8 _ _ _) (c1 _)) vf))) ?_
  rw [en]
  refine Eq.trans (congrArg toR (jf (d:=.ref 1) (h1:=[o1, .lst []]) rfl)) ?_
  refine Eq.trans (congrArg toR (a4k (a4b (n:=n) (bf rfl) (jh (by omega))))) ?_
  refine Eq.trans (congrArg (fun z=>toR (MI.thn z _)) e) ?_
  rw [v9]
  exact congrArg toR (qj (v5 (bf rfl) (yf (bf rfl) (show nu [.ref 1] [u, .lst (ms.map xf)] = .ok (.tup (ms.map xf)) [u, .lst (ms.map xf)] from rfl)) ai9))
 ·rintro pre x post τ h all ⟨u,ms,i,a,b,rfl,rfl,Pu,lm,mk⟩
  obtain ⟨rfl,hx⟩:=a1g all
  obtain ⟨T,u1,ok,et,_,e1,P1⟩:=agv (tg:=tg) (most:=most) Pu (by omega) T1 m1 m32
  have ne:T.ks≠[]:=by intro z;have:=ok.k0;rw [z] at this;cases this
  obtain ⟨mi,mx⟩:=ac3 ne
  have mk':=ok.kk _ mi
  obtain ⟨l,hl⟩:=Int.eq_ofNat_of_zero_le (show 0≤mxI T.ks+1 by omega)
  obtain ⟨y,u2,y0,y1,P2,c2⟩:=tk (m:=7 - (l:Int)) P1 (by omega) (by omega) (by omega)
  obtain ⟨q,rfl⟩:=Int.eq_ofNat_of_zero_le y0
  obtain ⟨ds,u3,ld,dk,e3,P3⟩:=agw (size:=l+q) (many:=n) P2 (by omega) (by omega) hn1 hn4
  have d1:m5 false 3 jx [.ref 0, .str (S tg),bx most] [u, .lst (ms.map xf)] = .ok T.d [u1, .lst (ms.map xf)]:=e1 0 _ rfl
  have d3:m5 false 3 jy [.ref 0, .int ((l:Int)+(q:Int)),bx n] [u2, .lst (ms.map xf)] = .ok (.tup (dsD ds)) [u3, .lst (ms.map xf)]:=by
   have:=e3 0 [u2, .lst (ms.map xf)] rfl
   rwa [show bx (l+q)=D.int ((l:Int)+(q:Int)) by show D.int ((l+q:Nat):Int)=_;congr 1] at this
  refine ⟨_,_,rfl,τM tg most n (some (bx pre.length)) (some T.d) (some (bx l)),[u3, .lst ((ms++[(T,ds)]).map xf)],?_,u3,ms++[(T,ds)],_,_,_,rfl,rfl,P3.up (by rw [List.length_append,List.length_singleton];omega),by rw [List.length_append,List.length_append,lm];rfl,fun m hm=>?_⟩
  ·unfold v7
   refine Eq.trans (jf (a9r (bf rfl) (bf rfl) (bf rfl) d1)) ?_
   have i2:∀ hh:Hd,gIx T.d (.int 2) hh = .ok (.tup (T.ks.map D.int)) hh:=fun hh=>zg (j:=2) rfl
   have i1:∀ hh:Hd,gIx T.d (.int 1) hh = .ok (.tup (T.go.map a7u)) hh:=fun hh=>zg (j:=1) rfl
   refine Eq.trans (jf (ig (yf (ig (bf rfl) (g8 _ _ _) (i2 _)) (ao6 ne)) (g8 _ _ _) vf)) ?_
   rw [hl,List.map_append]
   exact a05 (bf rfl) rfl (arg1 (a9r (ig (bf rfl) (g8 _ _ _) (i1 _)) (ig (bf rfl) (g8 _ _ _) (i2 _)) (a9r (bf rfl) (ig (bf rfl) (v5 (bf rfl) (ig (g8 _ _ _) (bf rfl) (ai8 _ _)) (c2 _)) vf) (bf rfl) d3) ari)) (a0g (xs:=ms.map xf) rfl (by rw [List.length_map];exact a0h (by omega)))
  ·rcases List.mem_append.mp hm with z | z
   ·exact mk m z
   ·rw [List.mem_singleton] at z;subst z
    exact ⟨ok,et,by show ds.length≤6;omega,fun k hk=>by have:=mx k hk;show k<(ds.length:Int);rw [ld];omega,dk⟩
end PN
namespace PN
open PySem PySem.Spec L2 MI AT HND EVX K22 K23 K21
noncomputable def dm:SF:=mq (xq ak) 3
theorem ae6 {o:O} {N:Nat} {tg:List Nat} (P:Pen o N) (hN:N≤999990000) (T1:Tongue tg):∃ t o',t.length≤60∧(∀ c∈t,c∈tg)∧Dr dm 2 [.str (S tg)] o (.str (S t)) o'∧Pen o' (N+100):=by
 have lo:=T1.lo
 have hi:=T1.hi
 obtain ⟨x,o1,x0,x1,P1,c1⟩:=tk (m:=6) P (by omega) (by omega) (by omega)
 obtain ⟨j,rfl⟩:=Int.eq_ofNat_of_zero_le x0
 let ws:List Nat:=[17,17,17,17,17,61]
 have jl:j<ws.length:=by show j<6;omega
 have gx:ws[j]? = some ws[j]:=List.getElem?_eq_getElem jl
 have gm:ws[j]∈ws:=List.getElem_mem jl
 generalize ws[j]=w at gx gm
 have wl:0<w∧w≤61:=by
  simp only [ws,List.mem_cons,List.not_mem_nil,or_false] at gm
  omega
 obtain ⟨y,o2,y0,y1,P2,c2⟩:=tk (m:=(w:Int)) P1 (by omega) (by omega) (by omega)
 obtain ⟨n,rfl⟩:=Int.eq_ofNat_of_zero_le y0
 have one:∀ {u:O} {M:Nat},Pen u M→∀ x∈[u],zm 1 x:=fun Pu x hx=>by rw [List.mem_singleton] at hx;subst hx;exact o6 (by omega) Pu.clo
 have zw:∀ τ:Sd,sZ (sA xm (aj (sC (.int 17)) (aj (sC (.int 17)) (aj (sC (.int 17)) (aj (sC (.int 17)) (aj (sC (.int 17)) (aj (sC (.int 61)) cj))))))) τ [o] = .ok (.rol (ws.map bx)) [o]:=fun τ =>
  xx (SRC.a8o (bz (g8 _ _ _) (bz (g8 _ _ _) (bz (g8 _ _ _) (bz (g8 _ _ _) (bz (g8 _ _ _) (bz (g8 _ _ _) rfl)))))) rfl) (gw ws) (one P)
 have mp:=a69 (f:=a4e t1 (qy ak) (frs' [0,1] [some (.ref 0),some (.str (S tg)),some (.int (n:Nat))])) (fun i:Nat=>D.int (i:Nat))
  (fun pre ys h=>∃ (u:O) (t:List Nat),h=[u]∧Pen u (N+2+pre.length)∧ys=ones t∧t.length=pre.length∧∀ c∈t,c∈tg)
  (List.range n) [] [] [o2] ?_ ⟨o2,[],rfl,P2,rfl,rfl,by simp⟩
 ·obtain ⟨zs,h',em,u',t,rfl,P5,ez,tl,tt⟩:=mp
  rw [List.nil_append] at ez tl P5
  rw [List.length_range] at tl P5
  subst ez
  refine ⟨t,u',by omega,tt,Dr.of rfl (by intro x hx;rw [List.mem_singleton] at hx;subst hx;exact gf _) P.clo (r:=.ok (.str (S t)) [u']) ?_ (lz (gf _) (by simpa using one P5)) (gf _) P5.clo,P5.up (by omega)⟩
  unfold dm
  rw [j6]
  show toR (xq ak [some (.ref 0),some (.str (S tg)),none] [o])=_
  unfold xq
  refine Eq.trans (congrArg toR (jf (v5 (bf rfl) (ig (zw _) (v5 (bf rfl) (g8 _ _ _) (c1 _)) (alp (by rw [List.getElem?_map,gx];rfl))) (c2 _)))) ?_
  have cz:sZ (ud (sRg a0l (aj (sV 2) cj)) t1 (qy ak) [0,1]) [some (.ref 0),some (.str (S tg)),some (.int (n:Nat))] [o2] = .ok (.rol (ones t)) [u']:=by
   refine auk rfl ?_ (jn fun l _=>gf _) (one P5)
   unfold ud
   rw [a4b (bf rfl) (jh (by omega)),du]
   dsimp only
   rw [if_pos (by rw [List.length_map,List.length_range];exact jh (by omega)),em]
   rfl
  exact congrArg toR (qj (ark (z:=S []) (g8 _ _ _) (arg1 cz) (adw (by omega))))
 ·rintro pre i post ys h all ⟨u,t,rfl,Pu,rfl,tl,tt⟩
  rw [List.nil_append] at all
  obtain ⟨rfl,hx⟩:=a1g all
  obtain ⟨x,u',x0,x1,P5,c5⟩:=tk (m:=(tg.length:Int)) Pu (by omega) (by omega) (by omega)
  obtain ⟨q,rfl⟩:=Int.eq_ofNat_of_zero_le x0
  have hq:q<tg.length:=by omega
  refine ⟨.str (S [tg[q]]),[u'],?_,u',t++[tg[q]],rfl,by rw [List.length_append,List.length_singleton];exact P5,by simp [ones],by rw [List.length_append,List.length_append,tl];rfl,fun c hc=>?_⟩
  ·rw [a2a]
   unfold qy
   exact ig (bf rfl) (v5 (bf rfl) (yf (bf rfl) (aav (l:=tg) (jh (by omega)))) (c5 _)) (ar8 (jh (by omega)) (List.getElem?_eq_getElem hq))
  ·rcases List.mem_append.mp hc with z | z
   ·exact tt c z
   ·rw [List.mem_singleton] at z;rw [z];exact List.getElem_mem hq
end PN
namespace K35
open PySem PySem.Spec L2 MI
end K35
namespace K34
open PySem PySem.Spec L2 MI
noncomputable def jr:SS :=
 (qp (sML a2s (sV 6) (aj (s2 gIx (s2 gIx (sV 4) (s2 gIx (sV 6) (s1 a2i (sC (.int 1))))) (sMS a4x (sV 3) (aj (sV 7) cj))) cj)))
noncomputable def lq:SS :=
 (ie (a5s (sV 0) (a2q 3 (ju (kN 3) (ju (kN 4) (ju (kN 5) a2w)))))
 (ie (jq 6 (sA xm (aj (sV 1) cj)))
 (ie (a4u (sIt (sV 2)) (kN 7) jr)
 (uc (sV 6)))))
noncomputable def p7 (dw:SF):SS :=
 (sIf (sT (s2 hNe (s2 gIx (sV 3) (sV 6)) (s1 a2i (sC (.int 1)))))
 (jq 4 (sA sr (aj (s2 gIx (sV 3) (sV 6)) (aj (sV 5) cj))))
 sNx)
noncomputable def w6 (dw:SF):SS :=
 (ie (jq 3 (s2 gIx (sV 0) (sC (.int 2))))
 (ie (jq 4 (sC .non))
 (ie (a4u (a7m (sA (m5 false 3 dw) (aj (sV 0) (aj (sC (.int 0)) (aj (a0e (sV 1) (oS (sV 2)) oN) cj)))) (sV 2)) (a2q 2 (ju (kN 5) (ju (kN 6) a2w))) (p7 dw))
 (uc (sV 4)))))
end K34
namespace K34
open PySem PySem.Spec L2 MI AT HND EVX K22 K23 K21
section
variable {T:Table}
noncomputable def dw:SF:=mq K34.lq 8
noncomputable def j5:SF:=mq (w6 K34.dw) 7
theorem a6i (h:T.Ok) {l:List Nat} (hl:∀ c∈l,c∈T.tg) (ll:l.length≤1000):Pu K34.dw 3 [T.d, .int 0, .str (S l)] (.rol ((rms T 0 l).map bx)):=K23.a6i (r:=0) h h.n1 hl ll
theorem ae7 {α β γ:Type} (f:α→β) (g:α × β→γ):∀ l:List α,(l.zip (l.map f)).map g=l.map fun x=>g (x,f x)
 | []=>rfl
 | a::l=>by rw [List.map_cons,List.zip_cons_cons,List.map_cons,List.map_cons,ae7 f g l]
theorem a6p (h:T.Ok) {x:List Nat} {a:Nat} (ht:∀ c∈x,c∈T.tg) (xl:x.length≤1000) (al:a≤x.length):Pu j5 3 [T.d, .str (S x),bx a] (SRC.best T a (x.drop a) (x.length - a+1)):=by
 refine Pu.of rfl (adv Table.clo (gf _) (fu _)) (r:=.ok (SRC.best T a (x.drop a) (x.length - a+1)) []) ?_ (lz (SRC.a3d _ _ _) (by simp)) (SRC.a3d _ _ _)
 unfold j5
 rw [j6]
 show toR (w6 K34.dw [some T.d,some (.str (S x)),some (bx a),none,none,none,none] [])=_
 unfold w6
 refine Eq.trans (congrArg toR (jf (ig (bf rfl) (g8 _ _ _) (aro _)))) ?_
 refine Eq.trans (congrArg toR (jf (g8 _ _ _))) ?_
 have dl:(x.drop a).length=x.length - a:=List.length_drop
 have e1:a7m (sA (m5 false 3 K34.dw) (aj (sV 0) (aj (sC (.int 0)) (aj (a0e (sV 1) (oS (sV 2)) oN) cj)))) (sV 2) [some T.d,some (.str (S x)),some (bx a),some (.tup (T.ks.map D.int)),some .non,none,none] [] = .ok ⟨(List.range (x.length - a+1)).map fun k=>.tup [.int ((a+k:Nat):Int),bx (SRC.rm T (x.drop a) k)],fun _=>True⟩ []:=by
  unfold a7m
  rw [a9r (bf rfl) (g8 _ _ _) (a6l (bf rfl) (ab1 (bf rfl)) rfl (ade a (jh (by omega)))) (a6i h (fun c hc=>ht c (List.mem_of_mem_drop hc)) (by omega) _),du,bf rfl,du]
  show (if 0≤(a:Int)∧(a:Int)≤16777216 then R.ok (⟨((List.range ((rms T 0 (x.drop a)).map bx).length).zip ((rms T 0 (x.drop a)).map bx)).map fun p=>.tup [.int (((a:Int).toNat+p.1:Nat):Int),p.2],fun _=>True⟩:Itm) [] else .no)=_
  rw [if_pos ⟨by omega,by omega⟩]
  congr 2
  have lr:((rms T 0 (x.drop a)).map bx).length=x.length - a+1:=by unfold rms;rw [List.length_map,List.length_map,List.length_range,dl]
  rw [lr]
  unfold rms
  rw [dl,List.map_map,ae7]
  rfl
 refine Eq.trans (congrArg toR (a4k e1)) ?_
 have lp:=vh (g:=a2q 2 (ju (kN 5) (ju (kN 6) a2w))) (b:=p7 K34.dw) (fun k:Nat=>D.tup [.int ((a+k:Nat):Int),bx (SRC.rm T (x.drop a) k)])
  (fun pre τ hh=>∃ t5 t6:Option D,τ=[some T.d,some (.str (S x)),some (bx a),some (.tup (T.ks.map D.int)),some (SRC.best T a (x.drop a) pre.length),t5,t6]∧hh=[])
  (List.range (x.length - a+1)) [some T.d,some (.str (S x)),some (bx a),some (.tup (T.ks.map D.int)),some .non,none,none] [] ?_ ⟨none,none,rfl,rfl⟩
 ·obtain ⟨τ',h',e,t5,t6,rfl,rfl⟩:=lp
  refine Eq.trans (congrArg (fun z=>toR (MI.thn z _)) e) ?_
  rw [v9,List.length_range]
  exact congrArg toR (qj (bf rfl))
 ·rintro pre k post τ hh all ⟨t5,t6,rfl,rfl⟩
  obtain ⟨hi,hk⟩:=a7t all
  subst hi
  rw [List.length_append,List.length_singleton]
  have kg:∀ τ:Sd,τ[3]? = some (some (.tup (T.ks.map D.int)))→τ[6]? = some (some (bx (SRC.rm T (x.drop a) pre.length)))→s2 gIx (sV 3) (sV 6) τ [] = .ok (.int (kI T (SRC.rm T (x.drop a) pre.length))) []:=fun τ h3 h6=>ig (bf h3) (bf h6) (aid h (SRC.agt h _ _) _)
  by_cases hm:kI T (SRC.rm T (x.drop a) pre.length) = -1
  ·refine ⟨_,_,rfl,[some T.d,some (.str (S x)),some (bx a),some (.tup (T.ks.map D.int)),some (SRC.best T a (x.drop a) pre.length),some (.int ((a+pre.length:Nat):Int)),some (bx (SRC.rm T (x.drop a) pre.length))],[],?_,_,_,by rw [SRC.ady hm],rfl⟩
   unfold p7
   exact Eq.trans (ifF (tof (ig (kg _ rfl rfl) (ai7 (g8 _ _ _) (a7s _)) (aox hm)))) rfl
  ·refine ⟨_,_,rfl,[some T.d,some (.str (S x)),some (bx a),some (.tup (T.ks.map D.int)),some (.tup [.int (kI T (SRC.rm T (x.drop a) pre.length)),bx (a+pre.length)]),some (.int ((a+pre.length:Nat):Int)),some (bx (SRC.rm T (x.drop a) pre.length))],[],?_,_,_,by rw [SRC.adz hm],rfl⟩
   unfold p7
   exact Eq.trans (ifT (tof (ig (kg _ rfl rfl) (ai7 (g8 _ _ _) (a7s _)) (arh hm)))) (ako (v5 (kg _ rfl rfl) (bf rfl) ai9))
end
end K34
namespace K34
open PySem PySem.Spec L2 MI AT HND EVX K22 K23 K21
section
variable {T:Table}
theorem sub_len:∀ {l t:List Nat},l.Nodup→(∀ x∈l,x∈t)→l.length≤t.length
 | [],_,_,_=>Nat.zero_le _
 | a::l,t,nd,h=>by
  obtain ⟨na,nl⟩:=List.nodup_cons.mp nd
  have ha:=h a List.mem_cons_self
  have:=sub_len (t:=t.erase a) nl fun x hx=>(List.mem_erase_of_ne (fun e:x=a=>na (e ▸ hx))).mpr (h x (List.mem_cons_of_mem _ hx))
  rw [List.length_erase_of_mem ha] at this
  have:=List.length_pos_of_mem ha
  rw [List.length_cons]
  omega
abbrev others (tg:List Nat):List Nat:=sig.filter fun c => !decide (c∈tg)
theorem ab3 {tg:List Nat} (t6:tg.length≤6):0<(others tg).length:=by
 rcases Nat.eq_zero_or_pos (others tg).length with z | z
 ·have e:=List.length_eq_zero_iff.mp z
  have:=sub_len (l:=sig) (t:=tg) ai6 fun c hc=>by
   have n:¬ c∈others tg:=by rw [e];simp
   rw [List.mem_filter] at n
   simpa [hc] using n
  rw [a4a] at this
  omega
 ·exact z
end
end K34
namespace K35
open PySem PySem.Spec L2 MI AT HND EVX K22 K23 K21
section
variable {T:Table}
abbrev bst (T:Table) (x:List Nat) (a:Nat):D:=SRC.best T a (x.drop a) (x.length - a+1)
end
end K35
namespace K69
open PySem PySem.Spec L2 MI AT HND EVX K22 K23 K21 PN
noncomputable def jw:SF:=mq K69.qi 2
noncomputable def dq:SF:=mq (K69.p6 K69.jw) 2
noncomputable def dw:SF:=mq K69.lq 8
noncomputable def j5:SF:=mq (K69.w6 K69.dw) 7
abbrev bst:=K35.bst
section
variable {T:Table}
theorem a6j {d:D} (p:Pln d) (t:txt T d=true) (h:Hd):wz 2 K69.dq [.str (S T.tg),d] h = .ok d h:=K21.a6j p t h
theorem a6k {d:D} (p:Pln d) (t:txt T d=false) (h:Hd):wz 2 K69.dq [.str (S T.tg),d] h = .ex "NoText" h:=K21.a6k p t h
theorem a6p (h:T.Ok) {x:List Nat} {a:Nat} (ht:∀ c∈x,c∈T.tg) (xl:x.length≤1000) (al:a≤x.length):Pu K69.j5 3 [T.d, .str (S x),bx a] (bst T x a):=K34.a6p h ht xl al
theorem ae8 (h:T.Ok) (a:Nat) (l:List Nat):∀ k,SRC.best T a l k = .non∨∃ (q j:Nat),1≤j∧j<k∧(q:Int)∈T.ks∧SRC.best T a l k = .tup [bx q,bx (a+j)]
 | 0=>.inl rfl
 | k+1=>by
  by_cases e:kI T (SRC.rm T l k) = -1
  ·rw [SRC.ady e]
   rcases ae8 h a l k with z | ⟨q,j,j1,j2,j3,z⟩
   ·exact .inl z
   ·exact .inr ⟨q,j,j1,by omega,j3,z⟩
  ·obtain ⟨kv,ke,k1,_⟩:=aky h (SRC.agt h l k)
   have kx:kI T (SRC.rm T l k)=kv:=by unfold kI;rw [ke];rfl
   obtain ⟨q,hq⟩:=Int.eq_ofNat_of_zero_le (show 0≤kv by omega)
   refine .inr ⟨q,k,?_,by omega,by rw [← hq];exact List.mem_of_getElem? ke,?_⟩
   ·rcases Nat.eq_zero_or_pos k with z | z
    ·subst z
     exact absurd (show kI T (SRC.rm T l 0) = -1 from SRC.kI0 h) e
    ·exact z
   ·rw [SRC.adz e,kx,hq]
theorem apg (h:T.Ok) {x:List Nat} {a:Nat} (al:a≤x.length):bst T x a = .non∨∃ q e:Nat,bst T x a = .tup [bx q,bx e]∧(q:Int)∈T.ks∧a<e∧e≤x.length:=by
 rcases ae8 h a (x.drop a) (x.length - a+1) with z | ⟨q,j,j1,j2,j3,z⟩
 ·exact .inl z
 ·exact .inr ⟨q,a+j,z,j3,by omega,by omega⟩
end
def dec:D→Option (Nat × Nat)
 | .tup [.int q, .int e]=>some (q.toNat,e.toNat)
 | _=>none
section
variable {M:Mach}
def tb (M:Mach) (m:Nat):Table:=((M.ms[m]?).map (·.1)).getD ⟨M.tg,[],[]⟩
def dd (M:Mach) (m:Nat):List Deed:=((M.ms[m]?).map (·.2)).getD []
theorem a8q {m:Nat} (hm:m<M.ms.length):M.ms[m]? = some (tb M m,dd M m):=by
 unfold tb dd
 rw [List.getElem?_eq_getElem hm]
 rfl
theorem a6q (h:M.Ok) {m:Nat} (hm:m<M.ms.length):ModeOk M.tg M.ms.length (tb M m,dd M m):=h.mode _ (List.mem_of_getElem? (a8q hm))
theorem arq (h:M.Ok) {m:Nat} (hm:m<M.ms.length):(tb M m).Ok:=(a6q h hm).ok
theorem aph (h:M.Ok) {m:Nat} (hm:m<M.ms.length):(tb M m).tg=M.tg:=(a6q h hm).tg
theorem a8r (hh:Hd):gIx M.d (.int 0) hh = .ok (.str (S M.tg)) hh:=zg (j:=0) rfl
theorem ae9 (hh:Hd):gIx M.d (.int 1) hh = .ok (.tup (M.ms.map xf)) hh:=zg (j:=1) rfl
theorem agy {m:Nat} (hm:m<M.ms.length) (hh:Hd):gIx (.tup (M.ms.map xf)) (bx m) hh = .ok (xf (tb M m,dd M m)) hh:=zg (by rw [List.getElem?_map,a8q hm];rfl)
def dg (M:Mach) (m k:Nat):Deed:=((dd M m)[k]?).getD .stay
theorem api (h:M.Ok) {m k:Nat} (hm:m<M.ms.length) (hk:(k:Int)∈(tb M m).ks):(dd M m)[k]? = some (dg M m k):=by
 have:=(a6q h hm).kd _ hk
 unfold dg
 rw [List.getElem?_eq_getElem (by show k<(dd M m).length;have:(k:Int)<((dd M m).length:Int):=this;omega)]
 rfl
theorem agz (h:M.Ok) {m k:Nat} (hm:m<M.ms.length) (hk:(k:Int)∈(tb M m).ks):(dg M m k).Ok M.ms.length:=(a6q h hm).dk _ (List.mem_of_getElem? (api h hm hk))
theorem apj (h:M.Ok) {m k:Nat} (hm:m<M.ms.length) (hk:(k:Int)∈(tb M m).ks) (hh:Hd):gIx (.tup (dsD (dd M m))) (bx k) hh = .ok (dg M m k).d hh:=zg (by rw [List.getElem?_map,api h hm hk];rfl)
theorem ars {a:D} (ha:MI.clo 0 a):∀ x∈[a],MI.clo 0 x:=by intro x hx;rw [List.mem_singleton] at hx;subst hx;exact ha
noncomputable def ik:SF:=mq vq 3
theorem aea (h:M.Ok):Pu ik 1 [M.d] (.rol (M.ms.map fun m=>m.1.d)):=by
 have cl:∀ n,clos n (M.ms.map fun m=>m.1.d):=fun n=>jn fun m _=>a9i (Nat.zero_le _) Table.clo
 refine Pu.of rfl (ars (M.clo 0)) (r:=.ok (.ref 0) [.lst (M.ms.map fun m=>m.1.d)]) ?_ (a1a (Nat.zero_le _) rfl (cl _) (by simp)) (ww (cl 0))
 unfold ik
 rw [j6]
 show toR (vq [some M.d,none,none] [])=_
 unfold vq
 have as:a5s (sV 0) (a2q 2 (ju (kN 1) (ju (kN 2) a2w))) [some M.d,none,none] [] = .nx [some M.d,some (.str (S M.tg)),some (.tup (M.ms.map xf))] []:=agk (bf rfl) rfl
 refine Eq.trans (congrArg toR (zq as)) ?_
 have n4:=h.n4
 refine congrArg toR (qj (a7r xf (fun m=>m.1.d) M.ms (aeo (bf rfl) rfl) (jh (by omega)) fun m hm=>?_))
 show v8 [some (.tup (m.1.go.map a7u)),some (.tup (m.1.ks.map D.int)),some (.tup (dsD m.2)),some (.str (S M.tg))] []=_
 unfold v8
 refine (a9r (bf rfl) (bf rfl) (bf rfl) ari).trans ?_
 show R.ok (D.tup [.str (S M.tg), .tup (m.1.go.map a7u), .tup (m.1.ks.map D.int)]) []=R.ok (D.tup [.str (S m.1.tg),_,_]) []
 rw [(h.mode m hm).tg]
theorem aie {m:Nat} (hm:m<M.ms.length) (hh:Hd):gIx (.rol (M.ms.map fun m=>m.1.d)) (bx m) hh = .ok (tb M m).d hh:=alp (by rw [List.getElem?_map,a8q hm];rfl)
noncomputable def jz:SF:=mq a1c 6
theorem al7 (h:M.Ok) {m k:Nat} (hm:m<M.ms.length) (hk:(k:Int)∈(tb M m).ks):Pu jz 3 [M.d,bx m,bx k] (dg M m k).d:=by
 refine Pu.of rfl (adv (M.clo 0) (fu _) (fu _)) (r:=.ok (dg M m k).d []) ?_ (lz (Deed.clo _ _) (by simp)) (Deed.clo _ _)
 unfold jz
 rw [j6]
 show toR (a1c [some M.d,some (bx m),some (bx k),none,none,none] [])=_
 unfold a1c
 have as:a5s (s2 gIx (s2 gIx (sV 0) (sC (.int 1))) (sV 1)) (a2q 3 (ju (kN 3) (ju (kN 4) (ju (kN 5) a2w)))) [some M.d,some (bx m),some (bx k),none,none,none] [] = .nx [some M.d,some (bx m),some (bx k),some (.tup ((tb M m).go.map a7u)),some (.tup ((tb M m).ks.map D.int)),some (.tup (dsD (dd M m)))] []:=agk (ig (ig (bf rfl) (g8 _ _ _) (ae9 _)) (bf rfl) (agy hm _)) rfl
 refine Eq.trans (congrArg toR (zq as)) ?_
 exact congrArg toR (qj (ig (bf rfl) (bf rfl) (apj h hm hk _)))
end
abbrev yx (l:List Nat):D:=.tup (l.map bx)
def behind (l:List Nat):Deed→Option (List Nat)
 | .opn k=>some (l++[k])
 | .trn k=>some (l.take (l.length - 1)++[k])
 | .stay=>some l
 | .shut=>if 1<l.length then some (l.take (l.length - 1)) else none
abbrev aq2:Option (List Nat)→D
 | some l=>yx l
 | none=>.non
theorem a3e (n:Nat) (l:List Nat):MI.clo n (yx l):=jo (gw _)
theorem aeb (o:Option (List Nat)):MI.clo 0 (aq2 o):=by
 cases o
 ·exact a8h
 ·exact a3e _ _
theorem aif {α:Type} (l:List α):a2f l none (some (-1))=l.take (l.length - 1):=by
 unfold a2f
 rw [HT.a5j,List.drop_zero,Nat.sub_zero]
 congr 1
 unfold HT.sIx
 simp
 omega
theorem apk (r:List Nat) (h:Hd):a9g (yx r) none (some (-1)) h = .ok (yx (r.take (r.length - 1))) h:=by
 rw [PAP.aui,aif,List.length_map,← List.map_take]
theorem yz (a b:Str) (h:Hd):hEq (.str a) (.str b) h = .ok (.bl (a == b)) h:=by
 unfold hEq
 rw [if_pos ⟨rfl,rfl⟩]
 rfl
noncomputable def gq:SF:=mq vy 2
theorem aec (l:List Nat) (ll:l.length≤1000) (x:Deed):Pu gq 2 [yx l,x.d] (aq2 (behind l x)):=by
 refine Pu.of rfl (a1f (a3e _ _) (x.clo _)) (r:=.ok (aq2 (behind l x)) []) ?_ (lz (aeb _) (by simp)) (aeb _)
 unfold gq
 rw [j6]
 show toR (vy [some (yx l),some x.d] [])=_
 unfold vy
 have m1:∀ τ:Sd,oS (s1 a2i (sC (.int 1))) τ [] = .ok (some (-1)) []:=fun τ=>rfl
 have tf:∀ s:Str,(show Prop from True)→True:=fun _ _=>trivial
 cases x with
 | opn k =>
  refine congrArg toR (a2b (Eq.trans (ifT (tof (ig (ig (bf rfl) (g8 _ _ _) (zg (j:=0) rfl)) (g8 _ _ _) (yz _ _ _)))) (qj (ig (bf rfl) (yf (ig (bf rfl) (g8 _ _ _) (zg (j:=1) rfl)) rfl) ((PAP.ap4 (by simp;omega)).trans ?_)))))
  show R.ok (D.tup (l.map bx++[bx k])) []=R.ok (D.tup ((l++[k]).map bx)) []
  rw [List.map_append]
  rfl
 | trn k =>
  refine Eq.trans (congrArg toR (ifN (tof (ig (ig (bf rfl) (g8 _ _ _) (zg (j:=0) rfl)) (g8 _ _ _) (yz _ _ _))))) ?_
  refine congrArg toR (a2b (Eq.trans (ifT (tof (ig (ig (bf rfl) (g8 _ _ _) (zg (j:=0) rfl)) (g8 _ _ _) (yz _ _ _)))) (qj (ig (a6l (bf rfl) rfl (m1 _) (apk _ _)) (yf (ig (bf rfl) (g8 _ _ _) (zg (j:=1) rfl)) rfl) ((PAP.ap4 (by simp;omega)).trans ?_)))))
  show R.ok (D.tup ((l.take (l.length - 1)).map bx++[bx k])) []=R.ok (D.tup ((l.take (l.length - 1)++[k]).map bx)) []
  rw [List.map_append]
  rfl
 | stay =>
  refine Eq.trans (congrArg toR (ifN (tof (ig (ig (bf rfl) (g8 _ _ _) (zg (j:=0) rfl)) (g8 _ _ _) (yz _ _ _))))) ?_
  refine Eq.trans (congrArg toR (ifN (tof (ig (ig (bf rfl) (g8 _ _ _) (zg (j:=0) rfl)) (g8 _ _ _) (yz _ _ _))))) ?_
  exact congrArg toR (a2b (Eq.trans (ifT (tof (ig (ig (bf rfl) (g8 _ _ _) (zg (j:=0) rfl)) (g8 _ _ _) (yz _ _ _)))) (qj (bf rfl))))
 | shut =>
  refine Eq.trans (congrArg toR (ifN (tof (ig (ig (bf rfl) (g8 _ _ _) (zg (j:=0) rfl)) (g8 _ _ _) (yz _ _ _))))) ?_
  refine Eq.trans (congrArg toR (ifN (tof (ig (ig (bf rfl) (g8 _ _ _) (zg (j:=0) rfl)) (g8 _ _ _) (yz _ _ _))))) ?_
  refine Eq.trans (congrArg toR (ifN (tof (ig (ig (bf rfl) (g8 _ _ _) (zg (j:=0) rfl)) (g8 _ _ _) (yz _ _ _))))) ?_
  have ln:ye [yx l] [] = .ok (bx l.length) []:=by rw [a04,List.length_map]
  unfold behind
  by_cases h:1<l.length
  ·rw [if_pos h]
   exact congrArg toR (qj (SRC.asz (tof (ig (yf (bf rfl) ln) (g8 _ _ _) (asv (by omega)))) (a6l (bf rfl) rfl (m1 _) (apk _ _))))
  ·rw [if_neg h]
   exact congrArg toR (qj (SRC.at5 (tof (ig (yf (bf rfl) ln) (g8 _ _ _) (asw (by omega)))) (g8 _ _ _)))
end K69
namespace K69
open PySem PySem.Spec L2 MI AT HND EVX K22 K23 K21 PN
abbrev Pc:=Nat × Nat × Nat × Nat
abbrev pcD (p:Pc):D:=.tup [bx p.1,bx p.2.1,bx p.2.2.1,bx p.2.2.2]
theorem apl (n:Nat) (p:Pc):MI.clo n (pcD p):=jo (bu (fu _) (bu (fu _) (bu (fu _) (bu (fu _) jm))))
theorem a06 (n:Nat) (ps:List Pc):clos n (ps.map pcD):=jn fun p _=>apl n p
def wd:Nat→Str
 | 0 => "none"
 | 1 => "end"
 | _ => "low"
abbrev Rs:=List Pc × Nat × Nat × List Nat
abbrev a2d (r:Rs):List D:=[bx r.2.1, .str (wd r.2.2.1),yx r.2.2.2]
abbrev a7y (r:Rs):D:=.tup (.rol (r.1.map pcD)::a2d r)
theorem a6r (n:Nat) (r:Rs):clos n (a2d r):=bu (fu _) (bu (gf _) (bu (a3e _ _) jm))
theorem a6s (r:Rs):MI.clo 0 (a7y r):=jo (bu (ww (a06 _ _)) (a6r _ _))
theorem ah0 {a b c d:D} {h:Hd}:MI.sr [a,b,c,d] h = .ok (.tup [a,b,c,d]) h:=by unfold MI.sr;rw [if_pos (jh (by simp))]
theorem aed {r:Rs}:a9c 0 (.ok (.tup (.ref 0::a2d r)) [.lst (r.1.map pcD)]) = .ok (a7y r) []:=by
 have oc:∀ {k:Nat} {d d':D} {ds ds':List D},a2t 0 [.lst (r.1.map pcD)] k d=some d'→a01 (a2t 0 [.lst (r.1.map pcD)] k) ds=some ds'→a01 (a2t 0 [.lst (r.1.map pcD)] k) (d::ds)=some (d'::ds'):=fun e1 e2=>by unfold a01;rw [e1,e2]
 refine a8j (h1:=[.lst (r.1.map pcD)]) (afz (k:=19) (oc (a9j (k:=17) (by omega) rfl (a06 _ _)) (oc (a0z (k:=18) (fu _)) (oc (a0z (k:=18) (gf _)) (oc (a0z (k:=18) (a3e _ _)) rfl)))) ?_) (by simp)
 intro z
 have:=xn.mp z (.ref 0) List.mem_cons_self
 simp only [MI.clo] at this
 omega
section
variable {M:Mach}
def lst (l:List Nat):Nat:=(l[l.length - 1]?).getD 0
theorem aee {l:List Nat} (ne:l≠[]):l[l.length - 1]? = some (lst l):=by
 have:=List.length_pos_iff.mpr ne
 unfold lst
 rw [List.getElem?_eq_getElem (by omega)]
 rfl
theorem apm {xs:List D} {d:D} (h:xs[xs.length - 1]? = some d):atI xs (-1)=some d:=by
 have hl:0<xs.length:=by cases xs with | nil=>simp at h | cons _ _=>simp
 have e:xs=xs.take (xs.length - 1)++[d]:=by
  have:=List.take_succ (l:=xs) (i:=xs.length - 1)
  rw [h,Nat.sub_add_cancel hl,List.take_length] at this
  exact this
 rw [e]
 exact adp _ _
theorem aef {l:List Nat} (ne:l≠[]) (h:Hd):gIx (yx l) (.int (-1)) h = .ok (bx (lst l)) h:=by
 rw [MI.a0b,apm (d:=bx (lst l)) (by rw [List.length_map,List.getElem?_map,aee ne];rfl)]
theorem ah1 {l:List Nat} (ne:l≠[]) (h:Hd):gIx (.rol (l.map bx)) (.int (-1)) h = .ok (bx (lst l)) h:=by
 rw [MI.a2n,apm (d:=bx (lst l)) (by rw [List.length_map,List.getElem?_map,aee ne];rfl)]
structure Pile (M:Mach) (l:List Nat):Prop where
 ne:l≠[]
 lt:∀ m∈l,m<M.ms.length
theorem Pile.last {l:List Nat} (h:Pile M l):lst l<M.ms.length:=h.lt _ (List.mem_of_getElem? (aee h.ne))
theorem Pile.behind {l l':List Nat} {x:Deed} (h:Pile M l) (hx:x.Ok M.ms.length) (e:K69.behind l x=some l'):Pile M l'∧l'.length≤l.length+1:=by
 have sub:∀ m∈l.take (l.length - 1),m<M.ms.length:=fun m hm=>h.lt m (List.mem_of_mem_take hm)
 cases x with
 | opn k =>
  cases e
  refine ⟨⟨by simp,fun m hm=>?_⟩,by simp⟩
  rcases List.mem_append.mp hm with z | z
  ·exact h.lt m z
  ·rw [List.mem_singleton] at z;subst z;exact hx
 | trn k =>
  cases e
  refine ⟨⟨by simp,fun m hm=>?_⟩,by rw [List.length_append,List.length_take,List.length_singleton];omega⟩
  rcases List.mem_append.mp hm with z | z
  ·exact sub m z
  ·rw [List.mem_singleton] at z;subst z;exact hx
 | stay=>cases e;exact ⟨h,by omega⟩
 | shut =>
  have e:(if 1<l.length then some (l.take (l.length - 1)) else none)=some l':=e
  split at e
  ·cases e
   refine ⟨⟨fun z=>?_,sub⟩,by rw [List.length_take];omega⟩
   have:=congrArg List.length z
   simp at this
   omega
  ·cases e
def a4l (M:Mach) (x:List Nat):Nat→Nat→List Nat→List Pc→Rs
 | 0,p,l,acc=>(acc,p,0,l)
 | n+1,p,l,acc=>match dec (bst (tb M (lst l)) x p) with
  | none=>(acc,p,if p=x.length then 1 else 0,l)
  | some (k,e)=>match K69.behind l (dg M (lst l) k) with
   | none=>(acc,p,2,l)
   | some l'=>a4l M x n e l' (acc++[(lst l,k,p,e)])
abbrev res (M:Mach) (x:List Nat) (s:Nat):Rs:=a4l M x (x.length+1) 0 [s] []
theorem apn (h:M.Ok) {x:List Nat} {m p:Nat} (hm:m<M.ms.length) (pl:p≤x.length):(bst (tb M m) x p = .non∧dec (bst (tb M m) x p)=none)∨∃ q e:Nat,bst (tb M m) x p = .tup [bx q,bx e]∧dec (bst (tb M m) x p)=some (q,e)∧(q:Int)∈(tb M m).ks∧p<e∧e≤x.length:=by
 rcases apg (arq h hm) pl with z | ⟨q,e,z,z1,z2,z3⟩
 ·exact .inl ⟨z,by rw [z];rfl⟩
 ·exact .inr ⟨q,e,z,by rw [z];rfl,z1,z2,z3⟩
theorem more (h:M.Ok) {x:List Nat}:∀ (n k p:Nat) (l:List Nat) (acc:List Pc),p≤x.length→x.length - p+1≤n→Pile M l→a4l M x (n+k) p l acc=a4l M x n p l acc:=by
 intro n
 induction n with
 | zero=>intro k p l acc hp hn;omega
 | succ n ih =>
  intro k p l acc hp hn P
  rw [show n+1+k=(n+k)+1 by omega]
  unfold a4l
  rcases apn h P.last hp with ⟨_,y2⟩ | ⟨q',e',_,y2,yk,pe',el'⟩
  ·rw [y2]
  ·rw [y2]
   dsimp only
   cases hb:K69.behind l (dg M (lst l) q') with
   | none=>rfl
   | some l'=>exact ih k e' l' _ el' (by omega) (P.behind (agz h P.last yk) hb).1
theorem next (h:M.Ok) {x:List Nat} {p q e:Nat} {l l':List Nat} {acc:List Pc} {r:Rs} (P:Pile M l) (el:e≤x.length) (pe:p<e) (z2:dec (bst (tb M (lst l)) x p)=some (q,e)) (hk:(q:Int)∈(tb M (lst l)).ks) (hb:K69.behind l (dg M (lst l) q)=some l') (er:a4l M x (x.length - p+1) p l acc=r) :
  a4l M x (x.length - e+1) e l' (acc++[(lst l,q,p,e)])=r:=by
 rw [← er]
 conv=>rhs;unfold a4l
 rw [z2]
 dsimp only
 rw [hb]
 dsimp only
 have:=more h (x:=x) (x.length - e+1) (x.length - p - (x.length - e+1)) e l' (acc++[(lst l,q,p,e)]) el (Nat.le_refl _) (P.behind (agz h P.last hk) hb).1
 rw [show x.length - e+1+(x.length - p - (x.length - e+1))=x.length - p by omega] at this
 exact this.symm
noncomputable def bj:SF:=mq (ul jz K69.dq ik K69.j5 gq) 12
abbrev τc (M:Mach) (s:Nat) (x:List Nat) (p:Nat) (l:List Nat) (f:D) (a b c d:Option D):Sd:=[some M.d,some (bx s),some (.str (S x)),some (.rol (M.ms.map fun m=>m.1.d)),some (.ref 0),some (bx p),some (yx l),some f,a,b,c,d]
theorem apo (h:M.Ok) {x:List Nat} {m:Nat} (hm:m<M.ms.length) (ht:∀ c∈x,c∈M.tg):∀ c∈x,c∈(tb M m).tg:=by rw [aph h hm];exact ht
theorem aig (h:M.Ok) {x:List Nat} {m p:Nat} (hm:m<M.ms.length) (ht:∀ c∈x,c∈M.tg) (xl:x.length≤900) (pl:p≤x.length) (hh:Hd):m5 false 3 K69.j5 [(tb M m).d, .str (S x),bx p] hh = .ok (bst (tb M m) x p) hh:=a6p (arq h hm) (apo h hm ht) (by omega) pl hh
theorem a8s (h:M.Ok) {x:List Nat} {s:Nat} (hs:s<M.ms.length) (ht:∀ c∈x,c∈M.tg) (xl:x.length≤900):bj [M.d,bx s, .str (S x)] [] = .ok (.tup (.ref 0::a2d (res M x s))) [.lst ((res M x s).1.map pcD)]:=by
 have lts:∀ (p:Nat) (l:List Nat) (acc:List Pc) (w:Nat),(acc,p,w,l)=res M x s→(.tup [.ref 0,bx p, .str (wd w),yx l]:D) = .tup (.ref 0::a2d (res M x s))∧acc.map pcD=(res M x s).1.map pcD:=fun p l acc w e=>by rw [← e];exact ⟨rfl,rfl⟩
 have w:=akc (c:=a0f jz K69.dq ik K69.j5 gq) (f:=uv jz K69.dq ik K69.j5 gq)
  (fun m τ hp=>∃ (p:Nat) (l:List Nat) (acc:List Pc) (a b c d:Option D),τ=τc M s x p l (bst (tb M (lst l)) x p) a b c d∧hp=[.lst (acc.map pcD)]∧m=x.length - p∧p≤x.length∧acc.length≤p∧l.length≤p+1∧Pile M l∧a4l M x (x.length - p+1) p l acc=res M x s)
  (fun τ hp=>∃ (p:Nat) (l:List Nat) (acc:List Pc) (a b c d:Option D),τ=τc M s x p l (bst (tb M (lst l)) x p) a b c d∧hp=[.lst (acc.map pcD)]∧(acc,p,(if p=x.length then 1 else 0),l)=res M x s)
  (fun d hp=>d = .tup (.ref 0::a2d (res M x s))∧hp=[.lst ((res M x s).1.map pcD)]) ?_ x.length 100000 (τc M s x 0 [s] (bst (tb M s) x 0) none none none none) [.lst []] (by omega) ⟨0,[s],[],none,none,none,none,rfl,rfl,rfl,by omega,by simp,by simp,⟨by simp,by simpa using hs⟩,rfl⟩
 ·unfold bj
  rw [j6]
  show toR (ul jz K69.dq ik K69.j5 gq [some M.d,some (bx s),some (.str (S x)),none,none,none,none,none,none,none,none,none] [])=_
  unfold ul
  have lk:=a6j (T:=tb M s) (al2 (l:=x) (by omega)) (by rw [al1];exact apb (apo h hs ht)) []
  rw [aph h hs] at lk
  have dr:qp (sA (wz 2 K69.dq) (aj (s2 gIx (sV 0) (sC (.int 0))) (aj (sV 2) cj))) [some M.d,some (bx s),some (.str (S x)),none,none,none,none,none,none,none,none,none] [] = .nx [some M.d,some (bx s),some (.str (S x)),none,none,none,none,none,none,none,none,none] []:=by
   unfold qp
   rw [(aks (bz (ig (bf rfl) (g8 _ _ _) (a8r _)) (bz (bf rfl) rfl))).trans lk]
   rfl
  refine Eq.trans (congrArg toR (zq dr)) ?_
  refine Eq.trans (congrArg toR (jf (yf (bf rfl) (aea h _)))) ?_
  refine Eq.trans (congrArg toR (jf (d:=.ref 0) (h1:=[.lst []]) rfl)) ?_
  refine Eq.trans (congrArg toR (jf (g8 _ _ _))) ?_
  refine Eq.trans (congrArg toR (jf (yf (bf rfl) (show MI.sr [bx s] _ = .ok (yx [s]) _ by unfold MI.sr;rw [if_pos (jh (by simp))];rfl)))) ?_
  refine Eq.trans (congrArg toR (jf (a9r (ig (bf rfl) (bf rfl) (aie hs _)) (bf rfl) (bf rfl) (aig h (p:=0) hs ht xl (by omega) _)))) ?_
  rcases w with ⟨τ',h',e,p,l,acc,a,b,c,d,rfl,rfl,er⟩ | ⟨d,h',e,rfl,rfl⟩
  ·refine Eq.trans (congrArg toR (zq (au1 e))) ?_
   obtain ⟨q1,q2⟩:=lts _ _ _ _ er
   rw [← q1,← q2]
   have ln:∀ hh:Hd,ye [.str (S x)] hh = .ok (bx x.length) hh:=fun hh=>aav (jh (by omega))
   refine congrArg toR (qj (SRC.a8o (bz (bf rfl) (bz (bf rfl) (bz ?_ (bz (bf rfl) rfl)))) ah0))
   by_cases hp:p=x.length
   ·rw [if_pos hp]
    exact SRC.asz (tof (ig (bf rfl) (yf (bf rfl) (ln _)) (agl (by omega)))) (g8 _ _ _)
   ·rw [if_neg hp]
    exact SRC.at5 (tof (ig (bf rfl) (yf (bf rfl) (ln _)) (agm (by omega)))) (g8 _ _ _)
  ·exact congrArg toR (a2b (au2 e))
 ·rintro m τ hp ⟨p,l,acc,a,b,c,d,rfl,rfl,rfl,pl,al,ll,P,er⟩
  rcases apn h P.last pl with ⟨z1,z2⟩ | ⟨q,e,z1,z2,zk,pe,el⟩
  ·refine .inl ⟨_,tof (ig (bf rfl) (g8 _ _ _) ((v4 _).trans (by rw [z1];rfl))),p,l,acc,a,b,c,d,rfl,rfl,?_⟩
   rw [← er]
   unfold a4l
   rw [z2]
  ·refine .inr ⟨_,tof (ig (bf rfl) (g8 _ _ _) ((v4 _).trans (by rw [z1];rfl))),?_⟩
   have as:a5s (sV 7) (a2q 2 (ju (kN 8) (ju (kN 9) a2w))) (τc M s x p l (bst (tb M (lst l)) x p) a b c d) [.lst (acc.map pcD)] = .nx (τc M s x p l (bst (tb M (lst l)) x p) (some (bx q)) (some (bx e)) c d) [.lst (acc.map pcD)]:=agk (bf rfl) (by rw [z1];rfl)
   have head:∀ g:SS,ie (a5s (sV 7) (a2q 2 (ju (kN 8) (ju (kN 9) a2w)))) (ie (jq 10 (s2 gIx (sV 6) (s1 a2i (sC (.int 1))))) (ie (jq 11 (sA (m5 false 2 gq) (aj (sV 6) (aj (sA (m5 false 3 jz) (aj (sV 0) (aj (sV 10) (aj (sV 8) cj)))) cj)))) g)) (τc M s x p l (bst (tb M (lst l)) x p) a b c d) [.lst (acc.map pcD)]=g (τc M s x p l (bst (tb M (lst l)) x p) (some (bx q)) (some (bx e)) (some (bx (lst l))) (some (aq2 (K69.behind l (dg M (lst l) q))))) [.lst (acc.map pcD)]:=fun g=>by
    refine Eq.trans (zq as) ?_
    refine Eq.trans (jf (ig (bf rfl) (ai7 (g8 _ _ _) (a7s _)) (aef P.ne _))) ?_
    exact jf (v5 (bf rfl) (a9r (bf rfl) (bf rfl) (bf rfl) (al7 h P.last zk _)) (aec l (by omega) _ _))
   cases hb:K69.behind l (dg M (lst l) q) with
   | none =>
    refine .inr ⟨.tup [.ref 0,bx p, .str (wd 2),yx l],[.lst (acc.map pcD)],?_,?_⟩
    ·unfold uv
     refine Eq.trans (head _) ?_
     rw [hb]
     exact a2b (Eq.trans (ifT (tof (ig (bf rfl) (g8 _ _ _) (show gIs .non .non _ = .ok (.bl true) _ from rfl)))) (qj (SRC.a8o (bz (bf rfl) (bz (bf rfl) (bz (g8 _ _ _) (bz (bf rfl) rfl)))) ah0)))
    ·obtain ⟨q1,q2⟩:=lts p l acc 2 (by rw [← er];unfold a4l;rw [z2];dsimp only;rw [hb])
     exact ⟨q1,by rw [q2]⟩
   | some l' =>
    obtain ⟨P',ll'⟩:=P.behind (agz h P.last zk) hb
    refine .inl ⟨τc M s x e l' (bst (tb M (lst l')) x e) (some (bx q)) (some (bx e)) (some (bx (lst l))) (some (yx l')),[.lst ((acc++[(lst l,q,p,e)]).map pcD)],x.length - e,?_,by omega,e,l',acc++[(lst l,q,p,e)],_,_,_,_,rfl,rfl,rfl,el,by rw [List.length_append,List.length_singleton];omega,by omega,P',next h P el pe z2 zk hb er⟩
    unfold uv
    refine Eq.trans (head _) ?_
    rw [hb]
    refine Eq.trans (ifN (tof (ig (bf rfl) (g8 _ _ _) (show gIs (yx l') .non _ = .ok (.bl false) _ from rfl)))) ?_
    rw [List.map_append]
    refine Eq.trans (zq (a05 (bf rfl) rfl (arg1 (SRC.a8o (bz (bf rfl) (bz (bf rfl) (bz (bf rfl) (bz (bf rfl) rfl)))) ah0)) (a0g (xs:=acc.map pcD) rfl (by rw [List.length_map];exact a0h (by omega))))) ?_
    refine Eq.trans (jf (bf rfl)) ?_
    refine Eq.trans (jf (bf rfl)) ?_
    exact ako (a9r (ig (bf rfl) (ig (bf rfl) (ai7 (g8 _ _ _) (a7s _)) (aef P'.ne _)) (aie P'.last _)) (bf rfl) (bf rfl) (aig h P'.last ht xl el _))
end
end K69
namespace K69
open PySem PySem.Spec L2 MI AT HND EVX K22 K23 K21 PN
section
variable {M:Mach}
theorem art {a b c d:D} (ha:MI.clo 0 a) (hb:MI.clo 0 b) (hc:MI.clo 0 c) (hd:MI.clo 0 d):∀ x∈[a,b,c,d],MI.clo 0 x:=by
 intro x hx
 simp only [List.mem_cons,List.not_mem_nil,or_false] at hx
 rcases hx with rfl | rfl | rfl | rfl<;>assumption
theorem ab4 {s:Nat} {d:D} (hd:MI.clo 0 d):∀ x∈[M.d,bx s,d],MI.clo 0 x:=adv (M.clo 0) (fu _) hd
theorem a9w (h:M.Ok) {x:List Nat} {s:Nat} (hs:s<M.ms.length) (ht:∀ c∈x,c∈M.tg) (xl:x.length≤900) (hh:Hd):wz 3 bj [M.d,bx s, .str (S x)] hh = .ok (a7y (res M x s)) hh :=
 adm (ab4 (gf _)) (a8s h hs ht xl) (Pu.of rfl (ab4 (gf _)) (a8s h hs ht xl) aed (a6s _))
theorem ah2 (h:M.Ok) {x:List Nat} {s:Nat} (hs:s<M.ms.length) (ht:∀ c∈x,c∈M.tg) (xl:x.length≤900) (hh:Hd):a7l 3 bj [M.d,bx s, .str (S x)] hh = .ok (.tup (.ref hh.length::a2d (res M x s))) (hh++[.lst ((res M x s).1.map pcD)]) :=
 akj rfl (ab4 (gf _)) (a8s h hs ht xl) rfl (a06 _ _) (a6r _ _)
theorem al8 (h:M.Ok) {d:D} {s:Nat} (hs:s<M.ms.length) (p:Pln d) (t:txt (tb M s) d=false) (hh:Hd):wz 3 bj [M.d,bx s,d] hh = .ex "NoText" hh:=by
 refine adl rfl (ab4 p.clo) (h1:=[]) ?_
 unfold bj
 rw [j6]
 show toR (ul jz K69.dq ik K69.j5 gq [some M.d,some (bx s),some d,none,none,none,none,none,none,none,none,none] [])=_
 unfold ul
 have lk:=a6k (T:=tb M s) p t []
 rw [aph h hs] at lk
 exact congrArg toR (aoy (aia ((aks (bz (ig (bf rfl) (g8 _ _ _) (a8r _)) (bz (bf rfl) rfl))).trans lk)))
noncomputable def j7:SF:=mq PN.yt 7
theorem ah3 (h:M.Ok) {x:List Nat} {a m:Nat} (hm:m<M.ms.length) (ht:∀ c∈x,c∈M.tg) (xl:x.length≤1000) (al:a≤x.length):Pu j7 4 [M.d,bx m, .str (S x),bx a] (bst (tb M m) x a):=by
 have hT:=arq h hm
 have tq:=aph h hm
 let T:=tb M m
 refine Pu.of rfl (art (M.clo 0) (fu _) (gf _) (fu _)) (r:=.ok (bst T x a) []) ?_ (lz (SRC.a3d _ _ _) (by simp)) (SRC.a3d _ _ _)
 unfold j7
 rw [j6]
 show toR (PN.yt [some M.d,some (bx m),some (.str (S x)),some (bx a),none,none,none] [])=_
 unfold PN.yt
 refine Eq.trans (congrArg toR (jf (g8 _ _ _))) ?_
 refine Eq.trans (congrArg toR (jf (g8 _ _ _))) ?_
 refine Eq.trans (congrArg toR (a4k (akm (a:=a) (n:=x.length) (bf rfl) (yf (bf rfl) (aav (jh (by omega)))) (jh (by omega)) (jh (by omega))))) ?_
 have lp:=vh (g:=kN 6) (b:=PN.ut) (fun i:Nat=>D.int ((a+i:Nat)))
  (fun pre τ hh=>∃ t6:Option D,τ=[some M.d,some (bx m),some (.str (S x)),some (bx a),some (bx (SRC.rm T (x.drop a) pre.length)),some (SRC.best T a (x.drop a) (pre.length+1)),t6]∧hh=[])
  (List.range (x.length - a)) [some M.d,some (bx m),some (.str (S x)),some (bx a),some (bx 0),some .non,none] [] ?_ ⟨none,by rw [List.length_nil,SRC.arp hT];rfl,rfl⟩
 ·obtain ⟨τ',h',e,t6,rfl,rfl⟩:=lp
  refine Eq.trans (congrArg (fun z=>toR (MI.thn z _)) e) ?_
  rw [v9,List.length_range]
  exact congrArg toR (qj (bf rfl))
 ·rintro pre i post τ hh all ⟨t6,rfl,rfl⟩
  obtain ⟨hi,hk⟩:=a7t all
  have ek:(x.drop a)[pre.length]? = some (x[a+i]'(by omega)):=by rw [List.getElem?_drop,← hi,List.getElem?_eq_getElem (by omega)]
  have ec:x[a+i]? = some (x[a+i]'(by omega)):=List.getElem?_eq_getElem (by omega)
  have hc:x[a+i]'(by omega)∈T.tg:=by show _∈(tb M m).tg;rw [tq];exact ht _ (List.mem_of_getElem? ec)
  generalize x[a+i]'(by omega)=c at ek ec hc
  have rl:=SRC.agt hT (x.drop a) pre.length
  have r2:=SRC.agt hT (x.drop a) (pre.length+1)
  rw [List.length_append,List.length_singleton]
  have goi:∀ τ:Sd,τ[0]? = some (some M.d)→τ[1]? = some (some (bx m))→s2 gIx (s2 gIx (s2 gIx (sV 0) (sC (.int 1))) (sV 1)) (sC (.int 0)) τ [] = .ok (.tup (T.go.map a7u)) []:=fun τ h0 h1=>ig (ig (ig (bf h0) (g8 _ _ _) (ae9 _)) (bf h1) (agy hm _)) (g8 _ _ _) (zg (j:=0) rfl)
  have ksi:∀ τ:Sd,τ[0]? = some (some M.d)→τ[1]? = some (some (bx m))→s2 gIx (s2 gIx (s2 gIx (sV 0) (sC (.int 1))) (sV 1)) (sC (.int 1)) τ [] = .ok (.tup (T.ks.map D.int)) []:=fun τ h0 h1=>ig (ig (ig (bf h0) (g8 _ _ _) (ae9 _)) (bf h1) (agy hm _)) (g8 _ _ _) (zg (j:=1) rfl)
  have tgx:∀ hh:Hd,gIx M.d (.int 0) hh = .ok (.str (S T.tg)) hh:=fun hh=>by show _=R.ok (D.str (S (tb M m).tg)) hh;rw [tq];exact a8r hh
  have st:s2 gIx (s2 gIx (s2 gIx (s2 gIx (s2 gIx (sV 0) (sC (.int 1))) (sV 1)) (sC (.int 0))) (sV 4)) (sMS acn (s2 gIx (sV 0) (sC (.int 0))) (aj (s2 gIx (sV 2) (sV 6)) cj)) [some M.d,some (bx m),some (.str (S x)),some (bx a),some (bx (SRC.rm T (x.drop a) pre.length)),some (SRC.best T a (x.drop a) (pre.length+1)),some (.int ((a+i:Nat)))] [] = .ok (bx (SRC.rm T (x.drop a) (pre.length+1))) []:=by
   rw [SRC.al3 ek]
   exact ig (ig (goi _ rfl rfl) (bf rfl) (aic hT rl _)) (ark (ig (bf rfl) (g8 _ _ _) (tgx _)) (arg1 (ig (bf rfl) (bf rfl) (ar8 (jh (by omega)) ec))) (ap8 hc _)) (ap9 hT (a9u hc).2 _)
  have kg:∀ τ:Sd,τ[0]? = some (some M.d)→τ[1]? = some (some (bx m))→τ[4]? = some (some (bx (SRC.rm T (x.drop a) (pre.length+1))))→s2 gIx (s2 gIx (s2 gIx (s2 gIx (sV 0) (sC (.int 1))) (sV 1)) (sC (.int 1))) (sV 4) τ [] = .ok (.int (kI T (SRC.rm T (x.drop a) (pre.length+1)))) []:=fun τ h0 h1 h4=>ig (ksi τ h0 h1) (bf h4) (aid hT r2 _)
  obtain ⟨kv,ke,k1,k2⟩:=aky hT r2
  have kx:kI T (SRC.rm T (x.drop a) (pre.length+1))=kv:=by unfold kI;rw [ke];rfl
  by_cases hmn:kI T (SRC.rm T (x.drop a) (pre.length+1)) = -1
  ·refine ⟨_,_,rfl,[some M.d,some (bx m),some (.str (S x)),some (bx a),some (bx (SRC.rm T (x.drop a) (pre.length+1))),some (SRC.best T a (x.drop a) (pre.length+1)),some (.int ((a+i:Nat)))],[],?_,_,by rw [SRC.ady (k:=pre.length+1) hmn],rfl⟩
   unfold PN.ut
   refine Eq.trans (jf st) ?_
   refine Eq.trans (ifF (tof (ig (kg _ rfl rfl rfl) (g8 _ _ _) (show gGe (.int (kI T (SRC.rm T (x.drop a) (pre.length+1)))) (.int 0) [] = .ok (.bl false) [] by rw [hmn];rfl)))) rfl
  ·refine ⟨_,_,rfl,[some M.d,some (bx m),some (.str (S x)),some (bx a),some (bx (SRC.rm T (x.drop a) (pre.length+1))),some (.tup [.int (kI T (SRC.rm T (x.drop a) (pre.length+1))), .int ((a+i:Nat)+1)]),some (.int ((a+i:Nat)))],[],?_,some (.int ((a+i:Nat))),?_,rfl⟩
   ·unfold PN.ut
    refine Eq.trans (jf st) ?_
    refine Eq.trans (ifT (tof (ig (kg _ rfl rfl rfl) (g8 _ _ _) (show gGe (.int (kI T (SRC.rm T (x.drop a) (pre.length+1)))) (.int 0) [] = .ok (.bl true) [] by
     show R.ok (D.bl (decide ((0:Int)≤kI T (SRC.rm T (x.drop a) (pre.length+1))))) []=_
     rw [decide_eq_true (by omega)])))) ?_
    exact ako (v5 (kg _ rfl rfl rfl) (ig (bf rfl) (g8 _ _ _) vf) ai9)
   ·rw [SRC.adz (k:=pre.length+1) hmn,hi]
    rfl
abbrev a4m (l:List Nat):D:=.rol (l.map bx)
def later (l:List Nat):Deed→List Nat
 | .opn k=>l++[k]
 | .trn k=>l.take (l.length - 1)++[k]
 | .stay=>l
 | .shut=>l.take (l.length - 1)
noncomputable def j8:SF:=mq um 2
theorem ah4 (l:List Nat) (ll:l.length≤1000) (x:Deed):Pu j8 2 [a4m l,x.d] (a4m (later l x)):=by
 have go:toR (um [some (a4m l),some x.d] []) = .ok (a4m (later l x)) []∨toR (um [some (a4m l),some x.d] []) = .ok (.ref 0) [.lst ((later l x).map bx)]:=by
  unfold um
  have m1:∀ τ:Sd,oS (s1 a2i (sC (.int 1))) τ [] = .ok (some (-1)) []:=fun τ=>rfl
  have sl:a9g (a4m l) none (some (-1)) [] = .ok (.ref 0) [.lst ((l.take (l.length - 1)).map bx)]:=by
   show gSl (a4m l) none (some (-1)) []=_
   unfold gSl
   dsimp only
   rw [aif,List.length_map,← List.map_take]
   rfl
  have one:∀ (k:Nat) (τ:Sd),τ[1]? = some (some (.tup [.str (show Str from "open"),bx k]))∨τ[1]? = some (some (.tup [.str (show Str from "turn"),bx k]))→sZ (sA xm (aj (s2 gIx (sV 1) (sC (.int 1))) cj)) τ [] = .ok (a4m [k]) []:=fun k τ h1=>by
   rcases h1 with h1 | h1
   ·exact xx (yf (ig (bf h1) (g8 _ _ _) (zg (j:=1) rfl)) rfl) (gw [k]) (by simp)
   ·exact xx (yf (ig (bf h1) (g8 _ _ _) (zg (j:=1) rfl)) rfl) (gw [k]) (by simp)
  have ad:∀ a b:List Nat,a.length+b.length≤2000→jk (a4m a) (a4m b) [] = .ok (.ref 0) [.lst ((a++b).map bx)]:=fun a b hl=>by
   rw [a67 (xs:=a.map bx) (ys:=b.map bx) rfl rfl,if_pos (jh (by rw [List.length_map,List.length_map];omega)),← List.map_append]
   rfl
  cases x with
  | opn k =>
   exact .inr (congrArg toR (a2b (Eq.trans (ifT (tof (ig (ig (bf rfl) (g8 _ _ _) (zg (j:=0) rfl)) (g8 _ _ _) (yz _ _ _)))) (qj (ig (bf rfl) (one k _ (.inl rfl)) (ad _ _ (by simp;omega)))))))
  | trn k =>
   refine .inr (Eq.trans (congrArg toR (ifN (tof (ig (ig (bf rfl) (g8 _ _ _) (zg (j:=0) rfl)) (g8 _ _ _) (yz _ _ _))))) ?_)
   have zs:∀ τ:Sd,τ[0]? = some (some (a4m l))→sZ (a0e (sV 0) oN (oS (s1 a2i (sC (.int 1))))) τ [] = .ok (a4m (l.take (l.length - 1))) []:=fun τ h0=>xx (a6l (bf h0) rfl (m1 _) sl) (gw _) (by simp)
   exact congrArg toR (a2b (Eq.trans (ifT (tof (ig (ig (bf rfl) (g8 _ _ _) (zg (j:=0) rfl)) (g8 _ _ _) (yz _ _ _)))) (qj (ig (zs _ rfl) (one k _ (.inr rfl)) (ad _ _ (by simp;omega))))))
  | shut =>
   refine .inr (Eq.trans (congrArg toR (ifN (tof (ig (ig (bf rfl) (g8 _ _ _) (zg (j:=0) rfl)) (g8 _ _ _) (yz _ _ _))))) ?_)
   refine Eq.trans (congrArg toR (ifN (tof (ig (ig (bf rfl) (g8 _ _ _) (zg (j:=0) rfl)) (g8 _ _ _) (yz _ _ _))))) ?_
   exact congrArg toR (a2b (Eq.trans (ifT (tof (ig (ig (bf rfl) (g8 _ _ _) (zg (j:=0) rfl)) (g8 _ _ _) (yz _ _ _)))) (qj (a6l (bf rfl) rfl (m1 _) sl))))
  | stay =>
   refine .inl (Eq.trans (congrArg toR (ifN (tof (ig (ig (bf rfl) (g8 _ _ _) (zg (j:=0) rfl)) (g8 _ _ _) (yz _ _ _))))) ?_)
   refine Eq.trans (congrArg toR (ifN (tof (ig (ig (bf rfl) (g8 _ _ _) (zg (j:=0) rfl)) (g8 _ _ _) (yz _ _ _))))) ?_
   refine Eq.trans (congrArg toR (ifN (tof (ig (ig (bf rfl) (g8 _ _ _) (zg (j:=0) rfl)) (g8 _ _ _) (yz _ _ _))))) ?_
   exact congrArg toR (qj (bf rfl))
 have un:j8 [a4m l,x.d] []=toR (um [some (a4m l),some x.d] []):=by unfold j8;rw [j6];rfl
 have ca:∀ y∈[a4m l,x.d],MI.clo 0 y:=a1f (ww (gw _)) (x.clo _)
 rcases go with g | g
 ·exact Pu.of rfl ca (un.trans g) (lz (ww (gw _)) (by simp)) (ww (gw _))
 ·exact Pu.of rfl ca (un.trans g) (a1a (Nat.zero_le _) rfl (gw _) (by simp)) (ww (gw _))
theorem ah5 {l:List Nat} (ne:l≠[]) (x:Deed):(behind l x=none∧later l x=[])∨∃ l',l'≠[]∧behind l x=some l'∧later l x=l':=by
 have hp:=List.length_pos_iff.mpr ne
 cases x with
 | opn k=>exact .inr ⟨_,by simp,rfl,rfl⟩
 | trn k=>exact .inr ⟨_,by simp,rfl,rfl⟩
 | stay=>exact .inr ⟨_,ne,rfl,rfl⟩
 | shut =>
  show ((if 1<l.length then some (l.take (l.length - 1)) else none)=none∧l.take (l.length - 1)=[])∨∃ l',l'≠[]∧(if 1<l.length then some (l.take (l.length - 1)) else none)=some l'∧l.take (l.length - 1)=l'
  by_cases h:1<l.length
  ·refine .inr ⟨_,fun z=>?_,by rw [if_pos h],rfl⟩
   have:=congrArg List.length z
   simp at this
   omega
  ·refine .inl ⟨by rw [if_neg h],?_⟩
   rw [show l.length - 1=0 by omega]
   rfl
end
end K69
namespace K69
open PySem PySem.Spec L2 MI AT HND EVX K22 K23 K21 PN
section
variable {M:Mach}
noncomputable def iu:SF:=mq (K69.a1d j7 j8) 9
abbrev τl (M:Mach) (s:Nat) (x:List Nat) (p:Nat) (l:List Nat) (a b c:Option D):Sd:=[some M.d,some (bx s),some (.str (S x)),some (.ref 0),some (a4m l),some (bx p),a,b,c]
theorem aih (l:List Nat) (h:Hd):aof false (a4m l) (.rol []) h = .ok (.bl (decide (l=[]))) h:=by
 unfold aof xu
 dsimp only
 rw [if_pos ⟨by rw [List.all_eq_true];intro x hx;obtain ⟨y,_,rfl⟩:=List.mem_map.mp hx;rfl,rfl⟩]
 cases l<;>rfl
theorem ah6 (h:M.Ok) {x:List Nat} {s:Nat} (hs:s<M.ms.length) (ht:∀ c∈x,c∈M.tg) (xl:x.length≤900):iu [M.d,bx s, .str (S x)] [] = .ok (.tup (.ref 0::a2d (res M x s))) [.lst ((res M x s).1.map pcD)]:=by
 have lts:∀ (p:Nat) (l:List Nat) (acc:List Pc) (w:Nat),(acc,p,w,l)=res M x s→(.tup [.ref 0,bx p, .str (wd w),yx l]:D) = .tup (.ref 0::a2d (res M x s))∧acc.map pcD=(res M x s).1.map pcD:=fun p l acc w e=>by rw [← e];exact ⟨rfl,rfl⟩
 have ln:∀ hh:Hd,ye [.str (S x)] hh = .ok (bx x.length) hh:=fun hh=>aav (jh (by omega))
 have tp:∀ (l:List Nat) (hh:Hd),nu [a4m l] hh = .ok (yx l) hh:=fun l hh=>rfl
 have w:=akc (c:=K69.a2m j7 j8) (f:=K69.uz j7 j8)
  (fun m τ hp=>∃ (p:Nat) (l:List Nat) (acc:List Pc) (a b c:Option D),τ=τl M s x p l a b c∧hp=[.lst (acc.map pcD)]∧m=x.length - p∧p≤x.length∧acc.length≤p∧l.length≤p+1∧Pile M l∧a4l M x (x.length - p+1) p l acc=res M x s)
  (fun τ hp=>∃ (p:Nat) (l:List Nat) (acc:List Pc) (a b c:Option D),τ=τl M s x p l a b c∧hp=[.lst (acc.map pcD)]∧(acc,p,1,l)=res M x s)
  (fun d hp=>d = .tup (.ref 0::a2d (res M x s))∧hp=[.lst ((res M x s).1.map pcD)]) ?_ x.length 100000 (τl M s x 0 [s] none none none) [.lst []] (by omega) ⟨0,[s],[],none,none,none,rfl,rfl,rfl,by omega,by simp,by simp,⟨by simp,by simpa using hs⟩,rfl⟩
 ·unfold iu
  rw [j6]
  show toR (K69.a1d j7 j8 [some M.d,some (bx s),some (.str (S x)),none,none,none,none,none,none] [])=_
  unfold K69.a1d
  have zs:∀ (τ:Sd),τ[1]? = some (some (bx s))→sZ (sA xm (aj (sV 1) cj)) τ [.lst []] = .ok (a4m [s]) [.lst []]:=fun τ h1=>xx (yf (bf h1) rfl) (gw [s]) (by intro o ho;rw [List.mem_singleton] at ho;subst ho;exact a06 1 [])
  refine Eq.trans (congrArg toR (jf (d:=.ref 0) (h1:=[.lst []]) rfl)) ?_
  refine Eq.trans (congrArg toR (jf (zs _ rfl))) ?_
  refine Eq.trans (congrArg toR (jf (g8 _ _ _))) ?_
  rcases w with ⟨τ',h',e,p,l,acc,a,b,c,rfl,rfl,er⟩ | ⟨d,h',e,rfl,rfl⟩
  ·refine Eq.trans (congrArg toR (zq e)) ?_
   obtain ⟨q1,q2⟩:=lts _ _ _ _ er
   rw [← q1,← q2]
   exact congrArg toR (qj (SRC.a8o (bz (bf rfl) (bz (bf rfl) (bz (g8 _ _ _) (bz (yf (bf rfl) (tp l _)) rfl)))) ah0))
  ·exact congrArg toR (a2b e)
 ·rintro m τ hp ⟨p,l,acc,a,b,c,rfl,rfl,rfl,pl,al,ll,P,er⟩
  by_cases hp:p<x.length
  ·refine .inr ⟨_,tof (ig (bf rfl) (yf (bf rfl) (ln _)) (asx (by omega))),?_⟩
   have fo:∀ hh:Hd,m5 false 4 j7 [M.d,bx (lst l), .str (S x),bx p] hh = .ok (bst (tb M (lst l)) x p) hh:=fun hh=>ah3 h P.last ht (by omega) pl hh
   have head:∀ g:SS,ie (jq 6 (s2 gIx (sV 4) (s1 a2i (sC (.int 1))))) (ie (jq 7 (sA (m5 false 4 j7) (aj (sV 0) (aj (sV 6) (aj (sV 2) (aj (sV 5) cj)))))) g) (τl M s x p l a b c) [.lst (acc.map pcD)]=g (τl M s x p l (some (bx (lst l))) (some (bst (tb M (lst l)) x p)) c) [.lst (acc.map pcD)]:=fun g=>by
    refine Eq.trans (jf (ig (bf rfl) (ai7 (g8 _ _ _) (a7s _)) (ah1 P.ne _))) ?_
    exact jf (SRC.a8o (bz (bf rfl) (bz (bf rfl) (bz (bf rfl) (bz (bf rfl) rfl)))) (fo _))
   rcases apn h P.last pl with ⟨z1,z2⟩ | ⟨q,e,z1,z2,zk,pe,el⟩
   ·refine .inr ⟨.tup [.ref 0,bx p, .str (wd 0),yx l],[.lst (acc.map pcD)],?_,?_⟩
    ·unfold K69.uz
     refine Eq.trans (head _) ?_
     exact a2b (Eq.trans (ifT (tof (ig (bf rfl) (g8 _ _ _) ((a2p _).trans (by rw [z1];rfl))))) (qj (SRC.a8o (bz (bf rfl) (bz (bf rfl) (bz (g8 _ _ _) (bz (yf (bf rfl) (tp l _)) rfl)))) ah0)))
    ·obtain ⟨q1,q2⟩:=lts p l acc 0 (by rw [← er];unfold a4l;rw [z2];dsimp only;rw [if_neg (by omega)])
     exact ⟨q1,by rw [q2]⟩
   ·have i0:∀ hh:Hd,gIx (bst (tb M (lst l)) x p) (.int 0) hh = .ok (bx q) hh:=fun hh=>by rw [z1];exact zg (j:=0) rfl
    have i1:∀ hh:Hd,gIx (bst (tb M (lst l)) x p) (.int 1) hh = .ok (bx e) hh:=fun hh=>by rw [z1];exact zg (j:=1) rfl
    have head2:∀ g:SS,ie (sIf (sT (s2 gIs (sV 7) (sC .non)))
      (uc (sA sr (aj (sV 3) (aj (sV 5) (aj (sC (.str "none")) (aj (sA nu (aj (sV 4) cj)) cj))))))
      sNx) (ie (jq 8 (sA (m5 false 2 j8) (aj (sV 4) (aj (s2 gIx (s2 gIx (s2 gIx (s2 gIx (sV 0) (sC (.int 1))) (sV 6)) (sC (.int 2))) (s2 gIx (sV 7) (sC (.int 0)))) cj)))) g) (τl M s x p l (some (bx (lst l))) (some (bst (tb M (lst l)) x p)) c) [.lst (acc.map pcD)]=g (τl M s x p l (some (bx (lst l))) (some (bst (tb M (lst l)) x p)) (some (a4m (later l (dg M (lst l) q))))) [.lst (acc.map pcD)]:=fun g=>by
     refine Eq.trans (ifN (tof (ig (bf rfl) (g8 _ _ _) ((a2p _).trans (by rw [z1];rfl))))) ?_
     exact jf (v5 (bf rfl) (ig (ig (ig (ig (bf rfl) (g8 _ _ _) (ae9 _)) (bf rfl) (agy P.last _)) (g8 _ _ _) (zg (j:=2) rfl)) (ig (bf rfl) (g8 _ _ _) (i0 _)) (apj h P.last zk _)) (ah4 l (by omega) _ _))
    have zn:∀ τ:Sd,sZ (sA xm cj) τ [.lst (acc.map pcD)] = .ok (.rol []) [.lst (acc.map pcD)]:=fun τ=>xx (xs:=[]) rfl jm (by intro o ho;rw [List.mem_singleton] at ho;subst ho;exact a06 _ _)
    rcases ah5 P.ne (dg M (lst l) q) with ⟨b1,b2⟩ | ⟨l',ne',b1,b2⟩
    ·refine .inr ⟨.tup [.ref 0,bx p, .str (wd 2),yx l],[.lst (acc.map pcD)],?_,?_⟩
     ·unfold K69.uz
      refine Eq.trans (head _) ?_
      refine Eq.trans (head2 _) ?_
      rw [b2]
      exact a2b (Eq.trans (ifT (tof (ig (bf rfl) (zn _) (aih [] _)))) (qj (SRC.a8o (bz (bf rfl) (bz (bf rfl) (bz (g8 _ _ _) (bz (yf (bf rfl) (tp l _)) rfl)))) ah0)))
     ·obtain ⟨q1,q2⟩:=lts p l acc 2 (by rw [← er];unfold a4l;rw [z2];dsimp only;rw [b1])
      exact ⟨q1,by rw [q2]⟩
    ·obtain ⟨P',ll'⟩:=P.behind (agz h P.last zk) b1
     refine .inl ⟨τl M s x e l' (some (bx (lst l))) (some (bst (tb M (lst l)) x p)) (some (a4m l')),[.lst ((acc++[(lst l,q,p,e)]).map pcD)],x.length - e,?_,by omega,e,l',acc++[(lst l,q,p,e)],_,_,_,rfl,rfl,rfl,el,by rw [List.length_append,List.length_singleton];omega,by omega,P',next h P el pe z2 zk b1 er⟩
     unfold K69.uz
     refine Eq.trans (head _) ?_
     refine Eq.trans (head2 _) ?_
     rw [b2]
     refine Eq.trans (ifN (tof (ig (bf rfl) (zn _) ((aih l' _).trans (by rw [decide_eq_false ne']))))) ?_
     rw [List.map_append]
     refine Eq.trans (zq (a05 (bf rfl) rfl (arg1 (SRC.a8o (bz (bf rfl) (bz (ig (bf rfl) (g8 _ _ _) (i0 _)) (bz (bf rfl) (bz (ig (bf rfl) (g8 _ _ _) (i1 _)) rfl)))) ah0)) (a0g (xs:=acc.map pcD) rfl (by rw [List.length_map];exact a0h (by omega))))) ?_
     refine Eq.trans (jf (bf rfl)) ?_
     exact ako (ig (bf rfl) (g8 _ _ _) (i1 _))
  ·refine .inl ⟨_,tof (ig (bf rfl) (yf (bf rfl) (ln _)) (asy (by omega))),p,l,acc,a,b,c,rfl,rfl,?_⟩
   rw [← er]
   unfold a4l
   rcases apn h P.last pl with ⟨z1,z2⟩ | ⟨q,e,z1,z2,zk,pe,el⟩
   ·rw [z2]
    dsimp only
    rw [if_pos (by omega)]
   ·omega
theorem al9 (h:M.Ok) {x:List Nat} {s:Nat} (hs:s<M.ms.length) (ht:∀ c∈x,c∈M.tg) (xl:x.length≤900):Pu iu 3 [M.d,bx s, .str (S x)] (a7y (res M x s)):=Pu.of rfl (ab4 (gf _)) (ah6 h hs ht xl) aed (a6s _)
theorem aeg (h:M.Ok) (x:List Nat):∀ (n p:Nat) (l:List Nat) (acc:List Pc),(a4l M x n p l acc).1.length≤acc.length+n∧(a4l M x n p l acc).2.2.2.length≤l.length+n
 | 0,p,l,acc=>⟨Nat.le_refl _,Nat.le_refl _⟩
 | n+1,p,l,acc=>by
  unfold a4l
  split
  ·exact ⟨Nat.le_add_right _ _,Nat.le_add_right _ _⟩
  ·rename_i k e _
   split
   ·exact ⟨Nat.le_add_right _ _,Nat.le_add_right _ _⟩
   ·rename_i l' hb
    have ih:=aeg h x n e l' (acc++[(lst l,k,p,e)])
    rw [List.length_append,List.length_singleton] at ih
    have lb:l'.length≤l.length+1:=by
     generalize dg M (lst l) k=w at hb
     cases w with
     | opn k=>cases hb;simp
     | trn k=>cases hb;rw [List.length_append,List.length_take,List.length_singleton];omega
     | stay=>cases hb;omega
     | shut =>
      have e:(if 1<l.length then some (l.take (l.length - 1)) else none)=some l':=hb
      split at e
      ·cases e;rw [List.length_take];omega
      ·cases e
    exact ⟨by omega,by omega⟩
end
end K69
namespace K69
open PySem PySem.Spec L2 MI AT HND EVX K22 K23 K21 PN
noncomputable def bw:Nat→SF
 | 0=>fun _ _=>.no
 | n+1=>mq (uo (bw n)) 4
theorem ala {n:Nat} {a b:D}:bw (n+1) [a,b] []=toR (uo (bw n) [some a,some b,none,none] []):=by
 show mq (uo (bw n)) 4 [a,b] []=_
 rw [j6]
 rfl
theorem ah7 {F:SF} {n:Nat} {ds:List D} {b:Bool} (hn:ds.length=n) (ca:∀ x∈ds,MI.clo 0 x) (e:F ds [] = .ok (.bl b) []):Pu F n ds (.bl b):=Pu.of hn ca e (lz (a2l _) (by simp)) (a2l _)
theorem tys (τ:Sd) (h:Hd):sA MI.sr (aj (sC (.ty "list")) (aj (sC (.ty "tuple")) cj)) τ h = .ok (.tup [.ty "list", .ty "tuple"]) h:=v5 (g8 _ _ _) (g8 _ _ _) ai9
theorem apq (b:Bool) (h:Hd):hNe (.bl b) (.bl b) h = .ok (.bl false) h:=by
 unfold hNe
 rw [if_pos ⟨rfl,rfl⟩]
 cases b<;>rfl
theorem aii (n:Nat) (i:Int):Pu (bw (n+1)) 2 [.int i, .int i] (.bl true):=by
 refine ah7 rfl (a1f (fu _) (fu _)) ?_
 rw [ala]
 unfold uo
 have i1:a6c [.int i, .tup [.ty "list", .ty "tuple"]] [] = .ok (.bl false) []:=by simp [a6c,tyD,a79,agg,a3z]
 have i2:uf [.int i, .ty "str"] [] = .ok (.bl false) []:=by simp [uf,aem,tyD,a79]
 have i3:uf [.int i, .ty "int"] [] = .ok (.bl true) []:=by simp [uf,aem,tyD,a79]
 have i4:uf [.int i, .ty "bool"] [] = .ok (.bl false) []:=by simp [uf,aem,tyD,a79]
 refine Eq.trans (congrArg toR (ifN (a2c (v5 (bf rfl) (tys _ _) i1) (qz _)))) ?_
 refine Eq.trans (congrArg toR (ifN (tof (ig (bf rfl) (g8 _ _ _) (show gIs (.int i) .non [] = .ok (.bl false) [] from rfl))))) ?_
 refine Eq.trans (congrArg toR (ifN (a2c (v5 (bf rfl) (g8 _ _ _) i2) (qz _)))) ?_
 exact congrArg toR (qj (adi (v5 (bf rfl) (g8 _ _ _) i3) (adi (ap0 (v5 (bf rfl) (g8 _ _ _) i4)) (ig (bf rfl) (bf rfl) (agl rfl)))))
theorem apr (n:Nat) (x:Str):Pu (bw (n+1)) 2 [.str x, .str x] (.bl true):=by
 refine ah7 rfl (a1f (gf _) (gf _)) ?_
 rw [ala]
 unfold uo
 have i1:a6c [.str x, .tup [.ty "list", .ty "tuple"]] [] = .ok (.bl false) []:=by simp [a6c,tyD,a79,agg,a3z]
 have i2:uf [.str x, .ty "str"] [] = .ok (.bl true) []:=by simp [uf,aem,tyD,a79]
 refine Eq.trans (congrArg toR (ifN (a2c (v5 (bf rfl) (tys _ _) i1) (qz _)))) ?_
 refine Eq.trans (congrArg toR (ifN (tof (ig (bf rfl) (g8 _ _ _) (show gIs (.str x) .non [] = .ok (.bl false) [] from rfl))))) ?_
 exact congrArg toR (a2b (Eq.trans (ifT (a2c (v5 (bf rfl) (g8 _ _ _) i2) (qz _))) (qj (adi (v5 (bf rfl) (g8 _ _ _) i2) (ig (bf rfl) (bf rfl) ((yz _ _ _).trans (by rw [beq_self_eq_true])))))))
theorem a9x:∀ xs:List D,(xs.zip xs).map (fun p=>D.tup [p.1,p.2])=xs.map fun x=>.tup [x,x]
 | []=>rfl
 | x::xs=>by rw [List.zip_cons_cons,List.map_cons,List.map_cons,a9x xs]
theorem aeh {n:Nat} {d:D} {xs:List D} (hd:d = .tup xs∨d = .rol xs) (cx:clos 0 xs) (h:∀ x∈xs,Pu (bw n) 2 [x,x] (.bl true)):Pu (bw (n+1)) 2 [d,d] (.bl true):=by
 have cd:MI.clo 0 d:=by rcases hd with rfl | rfl;exact jo cx;exact ww cx
 refine ah7 rfl (a1f cd cd) ?_
 rw [ala]
 unfold uo
 have i1:a6c [d, .tup [.ty "list", .ty "tuple"]] [] = .ok (.bl true) []:=by rcases hd with rfl | rfl<;>simp [a6c,tyD,a79,agg,a3z]
 have i2:∃ b,uf [d, .ty "list"] [] = .ok (.bl b) []:=by rcases hd with rfl | rfl<;>simp [uf,aem,tyD,a79]
 have i3:∃ b,uf [d, .ty "tuple"] [] = .ok (.bl b) []:=by rcases hd with rfl | rfl<;>simp [uf,aem,tyD,a79]
 obtain ⟨b2,i2⟩:=i2
 obtain ⟨b3,i3⟩:=i3
 have ln:ye [d] [] = .ok (bx xs.length) []:=by rcases hd with rfl | rfl<;>rfl
 have zi:ajz (sV 0) (sV 1) [some d,some d,none,none] [] = .ok ⟨xs.map fun x=>.tup [x,x],fun _=>True⟩ []:=by
  unfold ajz
  rw [bf rfl,du,bf rfl,du]
  rcases hd with rfl | rfl
  all_goals
   show R.ok (⟨(xs.zip xs).map fun p=>.tup [p.1,p.2],fun _=>True∧True⟩:Itm) []=_
   rw [a9x]
   congr 2
   funext _
   simp
 have lp:=vh (g:=a2q 2 (ju (kN 2) (ju (kN 3) a2w))) (b:=yw (bw n)) (fun x:D=>.tup [x,x])
  (fun pre τ hh=>∃ t2 t3:Option D,τ=[some d,some d,t2,t3]∧hh=[]) xs [some d,some d,none,none] [] ?_ ⟨none,none,rfl,rfl⟩
 ·obtain ⟨τ',h',e,t2,t3,rfl,rfl⟩:=lp
  refine congrArg toR (a2b (Eq.trans (ifT (a2c (v5 (bf rfl) (tys _ _) i1) (qz _))) ?_))
  refine Eq.trans (ifN (orF (tof (ig (v5 (bf rfl) (g8 _ _ _) i2) (v5 (bf rfl) (g8 _ _ _) i2) (apq _ _))) (tof (ig (v5 (bf rfl) (g8 _ _ _) i3) (v5 (bf rfl) (g8 _ _ _) i3) (apq _ _))))) ?_
  refine Eq.trans (ifN (tof (ig (yf (bf rfl) ln) (yf (bf rfl) ln) (aox rfl)))) ?_
  refine Eq.trans (a4k zi) ?_
  refine Eq.trans (congrArg (fun z=>MI.thn z _) e) ?_
  rw [v9]
  exact qj (g8 _ _ _)
 ·rintro pre x post τ hh all ⟨t2,t3,rfl,rfl⟩
  have hx:x∈xs:=by rw [all];simp
  refine ⟨_,_,rfl,[some d,some d,some x,some x],[],?_,_,_,rfl,rfl⟩
  unfold yw
  exact Eq.trans (ifF (alo (a2c (v5 (bf rfl) (bf rfl) (h x hx _)) (qz _)))) rfl
theorem aei (n:Nat) (l:List Nat):Pu (bw (n+2)) 2 [.tup (l.map bx), .tup (l.map bx)] (.bl true):=aeh (.inl rfl) (gw _) fun x hx=>by obtain ⟨y,_,rfl⟩:=List.mem_map.mp hx;exact aii n _
theorem aej (r:Rs):Pu (bw 4) 2 [a7y r,a7y r] (.bl true):=by
 refine aeh (.inl rfl) (bu (ww (a06 _ _)) (a6r _ _)) fun x hx=>?_
 simp only [List.mem_cons,List.not_mem_nil,or_false] at hx
 rcases hx with rfl | rfl | rfl | rfl
 ·refine aeh (.inr rfl) (a06 _ _) fun y hy=>?_
  obtain ⟨p,_,rfl⟩:=List.mem_map.mp hy
  exact aei 0 [p.1,p.2.1,p.2.2.1,p.2.2.2]
 ·exact aii 2 _
 ·exact apr 2 _
 ·exact aei 1 _
section
variable {M:Mach}
noncomputable def d9:SF:=mq (K69.vz bj) 5
theorem ab5 (h:M.Ok) {d:D} {s:Nat} (hs:s<M.ms.length) (p:Pln d) (t:txt (tb M s) d=false):Pu K69.d9 3 [M.d,bx s,d] (.bl true):=by
 refine ah7 rfl (ab4 p.clo) ?_
 unfold K69.d9
 rw [j6]
 show toR (K69.vz bj [some M.d,some (bx s),some d,none,none] [])=_
 unfold K69.vz
 refine Eq.trans (congrArg toR (jf (g8 _ _ _))) ?_
 refine Eq.trans (congrArg toR (zq (aoz (c := "NoText") (h1:=[]) ?_ (by decide) (Eq.trans (jf (adi (akt (b:=true) rfl (by decide)) (akt (b:=true) rfl (by decide)))) (Eq.trans (ifF (a2c (akt (c := "NoText") rfl (b:=false) (by decide)) (qz _))) rfl))))) ?_
 ·exact aia ((aks (qof (bz (bf rfl) (bz (bf rfl) (bz (bf rfl) rfl))))).trans (al8 h hs p t _))
 ·exact congrArg toR (qj (bf rfl))
end
end K69
namespace K69
open PySem PySem.Spec L2 MI AT HND EVX K22 K23 K21 PN
section
variable {M:Mach}
noncomputable def ah8:SF:=mq (K69.agi iu PN.cu PN.iw K69.d9 (bw 4) PN.dm PN.dj PN.gh PN.ak bj) 14
abbrev pairD (r:Rs):D:=.tup [a7y r,a7y r]
abbrev HL (u:O) (rs:List Rs) (g:Hd):Hd:=u::.lst (rs.map pairD)::g
abbrev τL (sc:D) (M:Mach) (i a b c d e f j:Option D):Sd:=[some sc,some (.ref 0),some (.str (S M.tg)),some M.d,some (.rol (ones (K34.others M.tg))),some (.ref 1),i,a,b,c,d,e,f,j]
theorem ah9 (n:Nat) (r:Rs):MI.clo n (pairD r):=a9i (Nat.zero_le _) (jo (bu (a6s r) (bu (a6s r) jm)))
theorem aij {u:O} {N:Nat} {rs:List Rs} {g:Hd} (P:Pen u N) (cg:∀ o∈g,zm 0 o) (k:Nat):∀ o∈HL u rs g,zm k o:=by
 intro o ho
 simp only [List.mem_cons] at ho
 rcases ho with rfl | rfl | ho
 ·exact o6 (Nat.zero_le _) P.clo
 ·exact jn fun r _=>ah9 _ r
 ·exact o6 (Nat.zero_le _) (cg o ho)
abbrev alb (o t:List Nat):List D:=[.str (S o), .str (S o), .non, .int 7, .rol [.str (S t)], .tup [.str (S t)], .bl true]
theorem alc {T:Table} {o t:List Nat} {c:Nat} (ol:o.length≤1000) (hc:c∈o) (nc:c ∉ T.tg):∀ d∈alb o t,Pln d∧txt T d=false:=by
 intro d hd
 simp only [alb,List.mem_cons,List.not_mem_nil,or_false] at hd
 rcases hd with rfl | rfl | rfl | rfl | rfl | rfl | rfl
 ·exact ⟨al2 ol,adx hc nc⟩
 ·exact ⟨al2 ol,adx hc nc⟩
 ·exact ⟨trivial,rfl⟩
 ·exact ⟨trivial,rfl⟩
 ·exact ⟨bu (gf _) jm,rfl⟩
 ·exact ⟨bu (gf _) jm,rfl⟩
 ·exact ⟨trivial,rfl⟩
theorem turn {sc:D} {u:O} {N s:Nat} {rs:List Rs} {g:Hd} {a0 b0 c0 d0 e0 f0 j0:Option D} (h:M.Ok) (P:Pen u N) (hN:N≤999990000) (cg:∀ o∈g,zm 0 o) (rl:rs.length≤100) (hs:s<M.ms.length) :
  ∃ (u':O) (r:Rs) (g':Hd) (a b c d e f j:Option D),Pen u' (N+110)∧(∀ o∈g',zm 0 o)∧K69.a3b iu PN.cu PN.iw K69.d9 (bw 4) PN.dm PN.dj PN.gh PN.ak bj (τL sc M (some (bx s)) a0 b0 c0 d0 e0 f0 j0) (HL u rs g) = .nx (τL sc M (some (bx s)) a b c d e f j) (HL u' (rs++[r]) g'):=by
 obtain ⟨t,u1,tl,tt,e1,P1⟩:=ae6 (tg:=M.tg) P (by omega) h.tong
 have d1:m5 false 2 PN.dm [.ref 0, .str (S M.tg)] (HL u rs g) = .ok (.str (S t)) (HL u1 rs g):=e1 0 _ rfl
 have d2:∀ hh:Hd,m5 false 3 iu [M.d,bx s, .str (S t)] hh = .ok (a7y (res M t s)) hh:=fun hh=>al9 h hs tt (by omega) hh
 have d3:∀ hh:Hd,wz 3 bj [M.d,bx s, .str (S t)] hh = .ok (a7y (res M t s)) hh:=fun hh=>a9w h hs tt (by omega) hh
 have d4:∀ hh:Hd,a7l 3 bj [M.d,bx s, .str (S t)] hh = .ok (.tup (.ref hh.length::a2d (res M t s))) (hh++[.lst ((res M t s).1.map pcD)]):=fun hh=>ah2 h hs tt (by omega) hh
 have rl':(res M t s).1.length≤61:=by
  have:=(aeg h t (t.length+1) 0 [s] []).1
  simp only [List.length_nil] at this
  show (a4l M t (t.length+1) 0 [s] []).1.length≤61
  omega
 generalize res M t s=r at d2 d3 d4 rl'
 have sm:∀ hh:Hd,m5 false 2 (bw 4) [a7y r,a7y r] hh = .ok (.bl true) hh:=fun hh=>aej r hh
 have op:=K34.ab3 h.tong.hi
 have ol:(K34.others M.tg).length≤95:=by have:=List.length_filter_le (fun c => !decide (c∈M.tg)) sig;rwa [a4a] at this
 obtain ⟨x,u2,x0,x1,P2,c2⟩:=tk (m:=(t.length:Int)+1) P1 (by omega) (by omega) (by omega)
 obtain ⟨y,u3,y0,y1,P3,c3⟩:=tk (m:=((K34.others M.tg).length:Int)) P2 (by omega) (by omega) (by omega)
 obtain ⟨z,u4,z0,z1,P4,c4⟩:=tk (m:=7) P3 (by omega) (by omega) (by omega)
 obtain ⟨p,rfl⟩:=Int.eq_ofNat_of_zero_le x0
 obtain ⟨q,rfl⟩:=Int.eq_ofNat_of_zero_le y0
 obtain ⟨w,rfl⟩:=Int.eq_ofNat_of_zero_le z0
 have ql:q<(K34.others M.tg).length:=by omega
 have ex:(K34.others M.tg)[q]? = some (K34.others M.tg)[q]:=List.getElem?_eq_getElem ql
 have nx:(K34.others M.tg)[q] ∉ M.tg:=by
  have:=(List.mem_filter.mp (List.getElem_mem ql)).2
  simpa using this
 generalize (K34.others M.tg)[q]=c at ex nx
 let odd:List Nat:=t.take p++[c]++t.drop p
 have odl:odd.length≤100:=by
  show (t.take p++[c]++t.drop p).length≤100
  simp only [List.length_append,List.length_take,List.length_drop,List.length_singleton]
  omega
 have wl:w<(alb odd t).length:=by show w<7;omega
 have gx:(alb odd t)[w]? = some (alb odd t)[w]:=List.getElem?_eq_getElem wl
 obtain ⟨pd,td⟩:=alc (T:=tb M s) (o:=odd) (t:=t) (c:=c) (by omega) (by show c∈t.take p++[c]++t.drop p;simp) (by rw [aph h hs];exact nx) _ (List.getElem_mem wl)
 generalize (alb odd t)[w]=bd at gx pd td
 let G:Hd:=HL u4 (rs++[r]) g
 let xs:List D:=r.1.map pcD++[.tup [.int 0, .int 0, .int 0, .int 0]]
 have xc:clos 0 xs:=xn.mpr fun y hy=>by
  rcases List.mem_append.mp hy with q | q
  ·exact xn.mp (a06 0 r.1) y q
  ·rw [List.mem_singleton] at q;subst q
   exact jo (bu (fu _) (bu (fu _) (bu (fu _) (bu (fu _) jm))))
 obtain ⟨y0,pp⟩:∃ y,xs[0]? = some y:=⟨_,List.getElem?_eq_getElem (by simp [xs])⟩
 refine ⟨u4,r,g++[.lst (xs.eraseIdx 0)],some (.str (S t)),some (a7y r),some (a7y r),some (bx p),some (.str (S odd)),some bd,some (.tup (.ref G.length::a2d r)),P4.up (by omega),fun o ho=>?_,?_⟩
 ·rcases List.mem_append.mp ho with q | q
  ·exact cg o q
  ·rw [List.mem_singleton] at q;subst q
   exact xn.mpr fun y hy=>xn.mp xc y (List.mem_of_mem_eraseIdx hy)
 ·unfold K69.a3b
  refine Eq.trans (jf (v5 (bf rfl) (bf rfl) d1)) ?_
  refine Eq.trans (jf (a9r (bf rfl) (bf rfl) (bf rfl) (d2 _))) ?_
  refine Eq.trans (jf ((aks (bz (bf rfl) (bz (bf rfl) (bz (bf rfl) rfl)))).trans (d3 _))) ?_
  have ap:a2s (.ref 1) [pairD r] (HL u1 rs g) = .ok .non (HL u1 (rs++[r]) g):=by
   have:=a0g (h:=HL u1 rs g) (a:=pairD r) (i:=1) (xs:=rs.map pairD) rfl (by rw [List.length_map];exact a0h (by omega))
   rw [this]
   unfold HL
   rw [List.map_append]
   rfl
  refine Eq.trans (zq (a05 (bf rfl) rfl (arg1 (v5 (bf rfl) (bf rfl) ai9)) ap)) ?_
  have ln:∀ hh:Hd,ye [.str (S t)] hh = .ok (bx t.length) hh:=fun hh=>aav (jh (by omega))
  refine Eq.trans (jf (v5 (bf rfl) (ig (yf (bf rfl) (ln _)) (g8 _ _ _) vf) (c2 _))) ?_
  have lr:∀ hh:Hd,ye [.rol (ones (K34.others M.tg))] hh = .ok (bx (K34.others M.tg).length) hh:=fun hh=>by rw [a0o,List.length_map]
  have ix:∀ hh:Hd,gIx (.rol (ones (K34.others M.tg))) (bx q) hh = .ok (.str (S [c])) hh:=fun hh=>alp (by rw [List.getElem?_map,ex];rfl)
  refine Eq.trans (jf (ig (ig (a6l (bf rfl) rfl (ab1 (bf rfl)) (ass (l:=t) p (jh (by omega)))) (ig (bf rfl) (v5 (bf rfl) (yf (bf rfl) (lr _)) (c3 _)) (ix _)) (adc (jh (by simp only [List.length_take,List.length_singleton];omega)))) (a6l (bf rfl) (ab1 (bf rfl)) rfl (ade (l:=t) p (jh (by omega)))) (adc (jh (by simp only [List.length_append,List.length_take,List.length_drop,List.length_singleton];omega))))) ?_
  have hc3:=aij (rs:=rs++[r]) P3 cg (HL u3 (rs++[r]) g).length
  have zb:∀ τ:Sd,τ[7]? = some (some (.str (S t)))→τ[11]? = some (some (.str (S odd)))→sZ (sA xm (aj (sV 11) (aj (sV 11) (aj (sC .non) (aj (sC (.int 7)) (aj (sZ (sA xm (aj (sV 7) cj))) (aj (sA MI.sr (aj (sV 7) cj)) (aj (sC (.bl true)) cj)))))))) τ (HL u3 (rs++[r]) g) = .ok (.rol (alb odd t)) (HL u3 (rs++[r]) g):=fun τ h7 h11 =>
   xx (SRC.a8o (bz (bf h11) (bz (bf h11) (bz (g8 _ _ _) (bz (g8 _ _ _) (bz (xx (yf (bf h7) rfl) (bu (gf _) jm) hc3) (bz (yf (bf h7) rfl) (bz (g8 _ _ _) rfl))))))) rfl) (bu (gf _) (bu (gf _) (bu a8h (bu (fu _) (bu (ww (bu (gf _) jm)) (bu (jo (bu (gf _) jm)) (bu (a2l _) jm))))))) hc3
  refine Eq.trans (jf (ig (zb _ rfl rfl) (v5 (bf rfl) (g8 _ _ _) (c4 _)) (alp gx))) ?_
  refine Eq.trans (ifN (orF (alo (a2c (v5 (bf rfl) (bf rfl) (sm _)) (qz _))) (alo (a2c (a9r (bf rfl) (bf rfl) (bf rfl) (ab5 h hs pd td _)) (qz _))))) ?_
  refine Eq.trans (jf ((aks (bz (bf rfl) (bz (bf rfl) (bz (bf rfl) rfl)))).trans (d4 G))) ?_
  have i0:∀ hh:Hd,gIx (.tup (.ref G.length::a2d r)) (.int 0) hh = .ok (.ref G.length) hh:=fun hh=>zg (j:=0) rfl
  have ap2:=a0g (h:=G++[.lst (r.1.map pcD)]) (a:=.tup [.int 0, .int 0, .int 0, .int 0]) (qt G _) (by rw [List.length_map];exact a0h (by omega))
  rw [a6n] at ap2
  refine Eq.trans (zq (a05 (ig (bf rfl) (g8 _ _ _) (i0 _)) (PN.a9v (qt G _)) (arg1 (SRC.a8o (bz (g8 _ _ _) (bz (g8 _ _ _) (bz (g8 _ _ _) (bz (g8 _ _ _) rfl)))) ah0)) ap2)) ?_
  have po:=akp (h:=G++[.lst xs]) (j:=0) (qt G _) pp (jh (by simp only [xs,List.length_append,List.length_map,List.length_singleton];omega))
  rw [a6n] at po
  refine Eq.trans (zq (a05 (ig (bf rfl) (g8 _ _ _) (i0 _)) (PN.a9v (qt G _)) (arg1 (g8 _ _ _)) po)) ?_
  exact Eq.trans (ifF (alo (a2c (v5 ((aks (bz (bf rfl) (bz (bf rfl) (bz (bf rfl) rfl)))).trans (d3 _)) (bf rfl) (sm _)) (qz _)))) rfl
end
end K69
namespace K69
open PySem PySem.Spec L2 MI AT HND EVX K22 K23 K21 PN
theorem aps (ns:List Int):∃ h',K69.ah8 [.scr (ns.map D.int)] [] = .ok (.bl true) h':=by
 obtain ⟨o,P,e0⟩:=ap1 ns []
 obtain ⟨tg,o1,t1',t6,nd,sb,e1,P1⟩:=al4 (most:=6) (all:=sig) P (by omega) (by omega) (by rw [a4a];omega) (by rw [a4a];omega) ai6
 have T1:Tongue tg:=⟨t1',t6,nd,sb⟩
 have c1:m5 false 3 PN.gh [.ref 0, .str (S sig), .int 6] [o] = .ok (.str (S tg)) [o1]:=e1 0 _ rfl
 obtain ⟨x,o2,x0,x1,P2,c2⟩:=tk (m:=4) P1 (by omega) (by omega) (by omega)
 obtain ⟨j,rfl⟩:=Int.eq_ofNat_of_zero_le x0
 let ws:List Nat:=[8,8,8,16]
 have jl:j<ws.length:=by show j<4;omega
 have gx:ws[j]? = some ws[j]:=List.getElem?_eq_getElem jl
 have gm:ws[j]∈ws:=List.getElem_mem jl
 generalize ws[j]=most at gx gm
 have ml:1≤most∧most≤32:=by
  simp only [ws,List.mem_cons,List.not_mem_nil,or_false] at gm
  omega
 obtain ⟨M,o3,hM,et,e3,P3⟩:=ab2 (most:=most) P2 (by omega) T1 ml.1 ml.2
 have c3:m5 false 3 PN.cu [.ref 0, .str (S tg),bx most] [o2] = .ok M.d [o3]:=e3 0 _ rfl
 subst et
 let sc:D:=.scr (ns.map D.int)
 have one:∀ {u:O} {N:Nat},Pen u N→∀ x∈[u],zm 1 x:=fun Pu x hx=>by rw [List.mem_singleton] at hx;subst hx;exact o6 (by omega) Pu.clo
 have n1:=hM.n1
 have n4:=hM.n4
 have lp:=vh (g:=kN 6) (b:=K69.a3b iu PN.cu PN.iw K69.d9 (bw 4) PN.dm PN.dj PN.gh PN.ak bj) bx
  (fun pre τ hh=>∃ (u:O) (rs:List Rs) (g:Hd) (i a b c d e f k:Option D),τ=τL sc M i a b c d e f k∧hh=HL u rs g∧Pen u (10000+110*pre.length)∧(∀ o∈g,zm 0 o)∧rs.length=pre.length)
  (List.range M.ms.length) (τL sc M none none none none none none none none) (HL o3 [] []) ?_ ⟨o3,[],[],none,none,none,none,none,none,none,none,rfl,rfl,P3.up (by omega),by simp,rfl⟩
 ·obtain ⟨τ',h',e,u,rs,g,i,a,b,c,d,e',f,k,rfl,rfl,Pu,cg,rl⟩:=lp
  have lp2:=a6g (g:=a2q 2 (ju (kN 9) (ju (kN 8) a2w))) (b:=K69.a6e iu PN.cu PN.iw K69.d9 (bw 4) PN.dm PN.dj PN.gh PN.ak bj) (ck:=fun h=>h[1]? = some (.lst (rs.map pairD))) pairD
   (fun pre τ hh=>∃ b c:Option D,τ=τL sc M i a b c d e' f k∧hh=HL u rs g) (by rintro pre τ hh ⟨b,c,rfl,rfl⟩;rfl) rs [] (τL sc M i a b c d e' f k) (HL u rs g) ?_ ⟨b,c,rfl,rfl⟩
  ·obtain ⟨τ',h',e2,b',c',rfl,rfl⟩:=lp2
   refine ⟨HL u rs g,?_⟩
   unfold K69.ah8
   rw [j6]
   show toR (K69.agi iu PN.cu PN.iw K69.d9 (bw 4) PN.dm PN.dj PN.gh PN.ak bj [some sc,none,none,none,none,none,none,none,none,none,none,none,none,none] [])=_
   unfold K69.agi
   refine Eq.trans (congrArg toR (jf (yf (bf rfl) e0))) ?_
   refine Eq.trans (congrArg toR (jf (a9r (bf rfl) (asu (PN.a3c _)) (g8 _ _ _) c1))) ?_
   have zw:∀ τ:Sd,sZ (sA xm (aj (sC (.int 8)) (aj (sC (.int 8)) (aj (sC (.int 8)) (aj (sC (.int 16)) cj))))) τ [o1] = .ok (.rol (ws.map bx)) [o1]:=fun τ =>
    xx (SRC.a8o (bz (g8 _ _ _) (bz (g8 _ _ _) (bz (g8 _ _ _) (bz (g8 _ _ _) rfl)))) rfl) (gw ws) (one P1)
   refine Eq.trans (congrArg toR (jf (a9r (bf rfl) (bf rfl) (ig (zw _) (v5 (bf rfl) (g8 _ _ _) (c2 _)) (alp (by rw [List.getElem?_map,gx];rfl))) c3))) ?_
   have cf:∀ τ:Sd,τ[2]? = some (some (.str (S M.tg)))→sZ (a4v (sIt (sA (m5 false 0 PN.dj) cj)) t1 (K69.a3a iu PN.cu PN.iw K69.d9 (bw 4) PN.dm PN.dj PN.gh PN.ak bj) (K69.a9p iu PN.cu PN.iw K69.d9 (bw 4) PN.dm PN.dj PN.gh PN.ak bj) [2]) τ [o3] = .ok (.rol (ones (K34.others M.tg))) [o3]:=fun τ h0=>by
    rw [← a6m]
    refine xx (adg (fun c:Nat=>D.str (S [c])) (fun c=>if (!decide (c∈M.tg))=true then some (D.str (S [c])) else none) sig (aeo (asu (PN.a3c _)) (ap3 sig _)) (jh (by rw [a4a];omega)) fun c _=>?_) (by rw [a6m];exact ags _ _) (one P3)
    rw [akn,a9q,adh,h0]
    have q:K69.a3a iu PN.cu PN.iw K69.d9 (bw 4) PN.dm PN.dj PN.gh PN.ak bj [some (.str (S [c])),some (.str (S M.tg))] [o3] = .ok (!decide (c∈M.tg)) [o3]:=tof (ig (bf rfl) (bf rfl) (K21.apc c M.tg _))
    show (K69.a3a iu PN.cu PN.iw K69.d9 (bw 4) PN.dm PN.dj PN.gh PN.ak bj [some (.str (S [c])),some (.str (S M.tg))] [o3]).bind _=_
    rw [q,du]
    by_cases hc:c∈M.tg
    ·simp [hc]
    ·simp only [hc,decide_false,Bool.not_false,if_true]
     rfl
   refine Eq.trans (congrArg toR (jf (cf _ rfl))) ?_
   refine Eq.trans (congrArg toR (jf (d:=.ref 1) (h1:=HL o3 [] []) rfl)) ?_
   have lm:∀ hh:Hd,ye [.tup (M.ms.map xf)] hh = .ok (bx M.ms.length) hh:=fun hh=>by rw [a04,List.length_map]
   refine Eq.trans (congrArg toR (a4k (a4b (n:=M.ms.length) (yf (ig (bf rfl) (g8 _ _ _) (ae9 _)) (lm _)) (jh (by omega))))) ?_
   refine Eq.trans (congrArg (fun z=>toR (MI.thn z _)) e) ?_
   rw [v9]
   refine Eq.trans (congrArg toR (a4k (aeo (bf rfl) (ae1 rfl)))) ?_
   refine Eq.trans (congrArg (fun z=>toR (MI.thn z _)) e2) ?_
   rw [v9]
   have rz:res M [] 0=([],0,1,[0]):=by
    show a4l M [] 1 0 [0] []=_
    unfold a4l
    rcases apn hM (x:=[]) (m:=lst [0]) (p:=0) (by show 0<M.ms.length;omega) (by simp) with ⟨_,z2⟩ | ⟨q,e,_,_,_,h1,h2⟩
    ·rw [z2]
     rfl
    ·simp at h2;omega
   have d3:∀ hh:Hd,wz 3 bj [M.d, .int 0, .str (S [])] hh = .ok (a7y ([],0,1,[0])) hh:=fun hh=>by
    have:=a9w hM (x:=[]) (s:=0) (by omega) (by simp) (by simp) hh
    rw [rz] at this
    exact this
   have zn:∀ τ:Sd,sZ (sA xm cj) τ (HL u rs g) = .ok (.rol []) (HL u rs g):=fun τ=>xx (xs:=[]) rfl jm (aij Pu cg _)
   have em:("" : Str)=S []:=rfl
   exact congrArg toR (qj (v5 ((aks (bz (bf rfl) (bz (g8 _ _ _) (bz (g8 _ _ _) rfl)))).trans (d3 _)) (SRC.a8o (bz (zn _) (bz (g8 _ _ _) (bz (g8 _ _ _) (bz (yf (g8 _ _ _) rfl) rfl)))) ah0) (aej ([],0,1,[0]) _)))
  ·rintro pre r post τ hh all ⟨b,c,rfl,rfl⟩
   refine ⟨_,_,rfl,τL sc M i a (some (a7y r)) (some (a7y r)) d e' f k,HL u rs g,?_,_,_,rfl,rfl⟩
   unfold K69.a6e
   exact Eq.trans (ifF (alo (a2c (v5 (bf rfl) (bf rfl) (aej r _)) (qz _)))) rfl
 ·rintro pre x post τ hh all ⟨u,rs,g,i,a,b,c,d,e',f,k,rfl,rfl,Pu,cg,rl⟩
  obtain ⟨rfl,hx⟩:=a1g all
  obtain ⟨u',r,g',a',b',c',d',e2,f',k',q1,q2,q3⟩:=turn (sc:=sc) (a0:=a) (b0:=b) (c0:=c) (d0:=d) (e0:=e') (f0:=f) (j0:=k) (rs:=rs) hM Pu (by omega) cg (by omega) hx
  exact ⟨_,_,rfl,_,_,q3,u',rs++[r],g',_,_,_,_,_,_,_,_,rfl,rfl,q1.up (by rw [List.length_append,List.length_singleton];omega),q2,by rw [List.length_append,List.length_append,rl];rfl⟩
end K69
namespace L2
open PySem PySem.Spec PySem.W PyProof.Rows
theorem ald {K:Frag} {C:Addr} (q:excIn K C [.type "ValueError", .type "Exception", .type "BaseException", .type "object"] "ValueError.__new__" = true):XCls K C:=by
 unfold excIn at q
 split at q
 ·rename_i dd cd sl lo
  split at q
  ·rename_i C' bm k0 k1 k2 k3 n k5 mo ss
   simp only [Bool.and_eq_true,beq_iff_eq,Bool.not_eq_true'] at q
   obtain ⟨⟨⟨⟨⟨e1,e2⟩,nd⟩,tl⟩,no⟩,ni⟩:=q
   subst e1 e2
   cases cd
   dsimp only at mo nd no ni
   subst mo nd
   obtain ⟨l⟩:=sl
   simp only at ss
   subst ss
   exact ⟨_,_,_,_,bm,_,_,_,_,_,dd,k0,k1,k2,k3,k5,lo,no,ni,tl⟩
  ·cases q
 ·cases q
end L2
namespace K69
open PySem PySem.Spec L2 MI
section
variable {P:Program} {w:World} {K:PySem.W.Frag} {mg:Str→Option Value} {base:Heap} {f:Addr} {fd:FuncData}
theorem apt {f_20:Addr} {e_20:FuncData} (Fu_20:Fun K "_law_same" "_law_same" (top 37) f_20 e_20) (mk_20:mg "_law_same" = some (.ref f_20)) (kp_20:PySem.W.keepIn K (.ref f_20)=true) (bd_20:Binds K e_20 ["_law_found", "_law_due"] []) (M:Nm mg):∀ n:Nat,Dn P w K mg base (n+0) "_law_same" ["_law_found", "_law_due"] (u5 K 2 (K69.bw n)) f_20 e_20:=by
 intro n
 induction n with
 | zero=>exact ⟨ar0 (ps:=["_law_found", "_law_due"]),mk_20,kp_20,bd_20⟩
 | succ n ih =>
  have e:n+1+0=n+0+1:=by omega
  rw [e]
  have s_law_same:=ih
  exact ⟨qe Fu_20 aoq (aud M s_law_same (by omega)),mk_20,kp_20,bd_20⟩
end
def aha (K:PySem.W.Frag):Sp:=fun vs H Q _=>∃ (a:Addr) (ns:List Int),vs=[.ref a]∧SqF K H a (ns.map V.int)∧ns.length≤63∧∀ H',Q (.bl true) H'
theorem a7z {K:PySem.W.Frag} {ι:List Addr} {H:Hp}:∀ ns:List Int,Reps K ι H (ns.map V.int) (ns.map D.int)
 | []=>.nil
 | n::ns=>.cons (.int n) (a7z ns)
theorem apu {K:PySem.W.Frag} (vs:List V) (H:Hp) (Q:VK) (E:XK) (h:aha K vs H Q E):u5 K 1 K69.ah8 vs H Q E:=by
 obtain ⟨a,ns,rfl,hS,hl,q⟩:=h
 obtain ⟨h',e⟩:=K69.aps ns
 refine ⟨rfl,[],[.scr (ns.map D.int)],[], .cons (.scr hS (a7z ns)) .nil,⟨List.nodup_nil,rfl,fun i a o z=>by simp at z⟩,?_⟩
 rw [e]
 intro ι' H' b g r hr
 cases r
 exact q H'
theorem apv {K:PySem.W.Frag} {H:Hp} {a:Addr} {vs:List V} (hO:Only H) (hS:SqL K H a vs):SqF K H a vs:=by
 rcases hS with r | r
 ·rcases r with r | ⟨o,r⟩
  ·rcases hO a with z | ⟨o,xs,z⟩<;>rw [z] at r<;>cases r
  ·exact .inl ⟨o,r⟩
 ·exact .inr (.inr r)
abbrev fo (x:Str) (t:Stmt) (kV dc pm:Value) (an:Option Addr) (cd ct:Value):=PySem.W.fnOf x x (a1k t) (iz t) (au t) .none kV dc pm an cd ct
theorem apw {l:PySem.W.OpenLaw} {w:World} {K:PySem.W.Frag} {h:Heap} {mg:Str→Option Value} {fa f1 f2 f3 f4 f5 f6 f7 f8 f9 f10 f11 f12 f13 f14 f15 f16 f17 f18 f19 f20 f21 f22 f23:Addr} (X:K.In h) (G:h.Ns mainGlobals mg) (hfa:mg "law" = some (.ref fa))
  {od1 an1 od2 an2 od3 an3 od4 an4 od5 an5 od6 an6 od7 an7 od8 an8 od9 an9 od10 an10 od11 an11 od12 an12 od13 an13 od14 an14 od15 an15 od16 an16 od17 an17 od18 an18 od19 an19 od20 an20 od21 an21 od22 an22 od23 an23:Option Addr} {sl1 sl2 sl3 sl4 sl5 sl6 sl7 sl8 sl9 sl10 sl11 sl12 sl13 sl14 sl15 sl16 sl17 sl18 sl19 sl20 sl21 sl22 sl23:Array (Option Value)} {oc1 kV1 dc1 pm1 cd1 ct1 oc2 kV2 dc2 pm2 cd2 ct2 oc3 kV3 dc3 pm3 cd3 ct3 oc4 kV4 dc4 pm4 cd4 ct4 oc5 kV5 dc5 pm5 cd5 ct5 oc6 kV6 dc6 pm6 cd6 ct6 oc7 kV7 dc7 pm7 cd7 ct7 oc8 kV8 dc8 pm8 cd8 ct8 oc9 kV9 dc9 pm9 cd9 ct9 oc10 kV10 dc10 pm10 cd10 ct10 oc11 kV11 dc11 pm11 cd11 ct11 oc12 kV12 dc12 pm12 cd12 ct12 oc13 kV13 dc13 pm13 cd13 ct13 oc14 kV14 dc14 pm14 cd14 ct14 oc15 kV15 dc15 pm15 cd15 ct15 oc16 kV16 dc16 pm16 cd16 ct16 oc17 kV17 dc17 pm17 cd17 ct17 oc18 kV18 dc18 pm18 cd18 ct18 oc19 kV19 dc19 pm19 cd19 ct19 oc20 kV20 dc20 pm20 cd20 ct20 oc21 kV21 dc21 pm21 cd21 ct21 oc22 kV22 dc22 pm22 cd22 ct22 oc23 kV23 dc23 pm23 cd23 ct23:Value}
  (a1:PySem.W.nsIn K mainGlobals "is_text" = some (some (.ref f1))) (l1:K.lookup f1=some ⟨oc1,od1, .func (fo "is_text" (top 12) kV1 dc1 pm1 an1 cd1 ct1),sl1⟩) (c1:PySem.W.codeIn K cd1 "is_text" = true) (k1:PySem.W.keepIn K (.ref f1)=true)
  (a2:PySem.W.nsIn K mainGlobals "looked_text" = some (some (.ref f2))) (l2:K.lookup f2=some ⟨oc2,od2, .func (fo "looked_text" (top 14) kV2 dc2 pm2 an2 cd2 ct2),sl2⟩) (c2:PySem.W.codeIn K cd2 "looked_text" = true) (k2:PySem.W.keepIn K (.ref f2)=true)
  (a3:PySem.W.nsIn K mainGlobals "rooms_along" = some (some (.ref f3))) (l3:K.lookup f3=some ⟨oc3,od3, .func (fo "rooms_along" (top 15) kV3 dc3 pm3 an3 cd3 ct3),sl3⟩) (c3:PySem.W.codeIn K cd3 "rooms_along" = true) (k3:PySem.W.keepIn K (.ref f3)=true)
  (a4:PySem.W.nsIn K mainGlobals "piece_at" = some (some (.ref f4))) (l4:K.lookup f4=some ⟨oc4,od4, .func (fo "piece_at" (top 17) kV4 dc4 pm4 an4 cd4 ct4),sl4⟩) (c4:PySem.W.codeIn K cd4 "piece_at" = true) (k4:PySem.W.keepIn K (.ref f4)=true)
  (a5:PySem.W.nsIn K mainGlobals "mode_tables" = some (some (.ref f5))) (l5:K.lookup f5=some ⟨oc5,od5, .func (fo "mode_tables" (top 19) kV5 dc5 pm5 an5 cd5 ct5),sl5⟩) (c5:PySem.W.codeIn K cd5 "mode_tables" = true) (k5:PySem.W.keepIn K (.ref f5)=true)
  (a6:PySem.W.nsIn K mainGlobals "deed_of" = some (some (.ref f6))) (l6:K.lookup f6=some ⟨oc6,od6, .func (fo "deed_of" (top 20) kV6 dc6 pm6 an6 cd6 ct6),sl6⟩) (c6:PySem.W.codeIn K cd6 "deed_of" = true) (k6:PySem.W.keepIn K (.ref f6)=true)
  (a7:PySem.W.nsIn K mainGlobals "pile_behind" = some (some (.ref f7))) (l7:K.lookup f7=some ⟨oc7,od7, .func (fo "pile_behind" (top 21) kV7 dc7 pm7 an7 cd7 ct7),sl7⟩) (c7:PySem.W.codeIn K cd7 "pile_behind" = true) (k7:PySem.W.keepIn K (.ref f7)=true)
  (a8:PySem.W.nsIn K mainGlobals "moded_cut" = some (some (.ref f8))) (l8:K.lookup f8=some ⟨oc8,od8, .func (fo "moded_cut" (top 23) kV8 dc8 pm8 an8 cd8 ct8),sl8⟩) (c8:PySem.W.codeIn K cd8 "moded_cut" = true) (k8:PySem.W.keepIn K (.ref f8)=true)
  (a9:PySem.W.nsIn K mainGlobals "_law_pen" = some (some (.ref f9))) (l9:K.lookup f9=some ⟨oc9,od9, .func (fo "_law_pen" (top 25) kV9 dc9 pm9 an9 cd9 ct9),sl9⟩) (c9:PySem.W.codeIn K cd9 "_law_pen" = true) (k9:PySem.W.keepIn K (.ref f9)=true)
  (a10:PySem.W.nsIn K mainGlobals "_law_take" = some (some (.ref f10))) (l10:K.lookup f10=some ⟨oc10,od10, .func (fo "_law_take" (top 26) kV10 dc10 pm10 an10 cd10 ct10),sl10⟩) (c10:PySem.W.codeIn K cd10 "_law_take" = true) (k10:PySem.W.keepIn K (.ref f10)=true)
  (a11:PySem.W.nsIn K mainGlobals "_law_signs" = some (some (.ref f11))) (l11:K.lookup f11=some ⟨oc11,od11, .func (fo "_law_signs" (top 27) kV11 dc11 pm11 an11 cd11 ct11),sl11⟩) (c11:PySem.W.codeIn K cd11 "_law_signs" = true) (k11:PySem.W.keepIn K (.ref f11)=true)
  (a12:PySem.W.nsIn K mainGlobals "_law_some" = some (some (.ref f12))) (l12:K.lookup f12=some ⟨oc12,od12, .func (fo "_law_some" (top 28) kV12 dc12 pm12 an12 cd12 ct12),sl12⟩) (c12:PySem.W.codeIn K cd12 "_law_some" = true) (k12:PySem.W.keepIn K (.ref f12)=true)
  (a13:PySem.W.nsIn K mainGlobals "_law_cut_down" = some (some (.ref f13))) (l13:K.lookup f13=some ⟨oc13,od13, .func (fo "_law_cut_down" (top 29) kV13 dc13 pm13 an13 cd13 ct13),sl13⟩) (c13:PySem.W.codeIn K cd13 "_law_cut_down" = true) (k13:PySem.W.keepIn K (.ref f13)=true)
  (a14:PySem.W.nsIn K mainGlobals "_law_table" = some (some (.ref f14))) (l14:K.lookup f14=some ⟨oc14,od14, .func (fo "_law_table" (top 30) kV14 dc14 pm14 an14 cd14 ct14),sl14⟩) (c14:PySem.W.codeIn K cd14 "_law_table" = true) (k14:PySem.W.keepIn K (.ref f14)=true)
  (a15:PySem.W.nsIn K mainGlobals "_law_deeds" = some (some (.ref f15))) (l15:K.lookup f15=some ⟨oc15,od15, .func (fo "_law_deeds" (top 31) kV15 dc15 pm15 an15 cd15 ct15),sl15⟩) (c15:PySem.W.codeIn K cd15 "_law_deeds" = true) (k15:PySem.W.keepIn K (.ref f15)=true)
  (a16:PySem.W.nsIn K mainGlobals "_law_machine" = some (some (.ref f16))) (l16:K.lookup f16=some ⟨oc16,od16, .func (fo "_law_machine" (top 32) kV16 dc16 pm16 an16 cd16 ct16),sl16⟩) (c16:PySem.W.codeIn K cd16 "_law_machine" = true) (k16:PySem.W.keepIn K (.ref f16)=true)
  (a17:PySem.W.nsIn K mainGlobals "_law_first" = some (some (.ref f17))) (l17:K.lookup f17=some ⟨oc17,od17, .func (fo "_law_first" (top 33) kV17 dc17 pm17 an17 cd17 ct17),sl17⟩) (c17:PySem.W.codeIn K cd17 "_law_first" = true) (k17:PySem.W.keepIn K (.ref f17)=true)
  (a18:PySem.W.nsIn K mainGlobals "_law_later" = some (some (.ref f18))) (l18:K.lookup f18=some ⟨oc18,od18, .func (fo "_law_later" (top 34) kV18 dc18 pm18 an18 cd18 ct18),sl18⟩) (c18:PySem.W.codeIn K cd18 "_law_later" = true) (k18:PySem.W.keepIn K (.ref f18)=true)
  (a19:PySem.W.nsIn K mainGlobals "_law_cut" = some (some (.ref f19))) (l19:K.lookup f19=some ⟨oc19,od19, .func (fo "_law_cut" (top 35) kV19 dc19 pm19 an19 cd19 ct19),sl19⟩) (c19:PySem.W.codeIn K cd19 "_law_cut" = true) (k19:PySem.W.keepIn K (.ref f19)=true)
  (a20:PySem.W.nsIn K mainGlobals "_law_signed" = some (some (.ref f20))) (l20:K.lookup f20=some ⟨oc20,od20, .func (fo "_law_signed" (top 36) kV20 dc20 pm20 an20 cd20 ct20),sl20⟩) (c20:PySem.W.codeIn K cd20 "_law_signed" = true) (k20:PySem.W.keepIn K (.ref f20)=true)
  (a21:PySem.W.nsIn K mainGlobals "_law_same" = some (some (.ref f21))) (l21:K.lookup f21=some ⟨oc21,od21, .func (fo "_law_same" (top 37) kV21 dc21 pm21 an21 cd21 ct21),sl21⟩) (c21:PySem.W.codeIn K cd21 "_law_same" = true) (k21:PySem.W.keepIn K (.ref f21)=true)
  (a22:PySem.W.nsIn K mainGlobals "_law_refused" = some (some (.ref f22))) (l22:K.lookup f22=some ⟨oc22,od22, .func (fo "_law_refused" (top 38) kV22 dc22 pm22 an22 cd22 ct22),sl22⟩) (c22:PySem.W.codeIn K cd22 "_law_refused" = true) (k22:PySem.W.keepIn K (.ref f22)=true)
  (a23:PySem.W.nsIn K mainGlobals "law" = some (some (.ref f23))) (l23:K.lookup f23=some ⟨oc23,od23, .func (fo "law" (top 39) kV23 dc23 pm23 an23 cd23 ct23),sl23⟩) (c23:PySem.W.codeIn K cd23 "law" = true) (k23:PySem.W.keepIn K (.ref f23)=true)
  {y_NoText y_ReachError y_Closed y_NoBook y_NoModes y_NoPlace y_NoTable y_Stopped y_TooMany y_Unlike:Addr}
  (xg_NoText:PySem.W.nsIn K mainGlobals "NoText" = some (some (.ref y_NoText)))
  (xg_ReachError:PySem.W.nsIn K mainGlobals "ReachError" = some (some (.ref y_ReachError)))
  (xg_Closed:PySem.W.nsIn K mainGlobals "Closed" = some (some (.ref y_Closed)))
  (xg_NoBook:PySem.W.nsIn K mainGlobals "NoBook" = some (some (.ref y_NoBook)))
  (xg_NoModes:PySem.W.nsIn K mainGlobals "NoModes" = some (some (.ref y_NoModes)))
  (xg_NoPlace:PySem.W.nsIn K mainGlobals "NoPlace" = some (some (.ref y_NoPlace)))
  (xg_NoTable:PySem.W.nsIn K mainGlobals "NoTable" = some (some (.ref y_NoTable)))
  (xg_Stopped:PySem.W.nsIn K mainGlobals "Stopped" = some (some (.ref y_Stopped)))
  (xg_TooMany:PySem.W.nsIn K mainGlobals "TooMany" = some (some (.ref y_TooMany)))
  (xg_Unlike:PySem.W.nsIn K mainGlobals "Unlike" = some (some (.ref y_Unlike)))
  (xc_NoText:XCls K y_NoText)
  (xk_NoText:XKit K y_NoText)
  (xe_NoText_ReachError:PySem.W.exmOne K (.ref y_NoText) (.ref y_ReachError)=some true)
  (xi_NoText_ValueError:PySem.W.kitOne K (.ref y_NoText) (.type "ValueError")=some true)
  (xi_NoText_NoText:PySem.W.kitOne K (.ref y_NoText) (.ref y_NoText)=some true)
  (xi_NoText_Closed_NoBook_NoModes_NoPlace_NoTable_Stopped_TooMany_Unlike:PySem.W.kitAny K (.ref y_NoText) [.ref y_Closed, .ref y_NoBook, .ref y_NoModes, .ref y_NoPlace, .ref y_NoTable, .ref y_Stopped, .ref y_TooMany, .ref y_Unlike]=some false)
  (z1:PySem.W.nsIn K mainGlobals "ValueError" = some none) (z2:PySem.W.nsIn K mainGlobals "abs" = some none) (z3:PySem.W.nsIn K mainGlobals "all" = some none) (z4:PySem.W.nsIn K mainGlobals "bool" = some none) (z5:PySem.W.nsIn K mainGlobals "enumerate" = some none) (z6:PySem.W.nsIn K mainGlobals "int" = some none) (z7:PySem.W.nsIn K mainGlobals "isinstance" = some none) (z8:PySem.W.nsIn K mainGlobals "len" = some none) (z9:PySem.W.nsIn K mainGlobals "list" = some none) (z10:PySem.W.nsIn K mainGlobals "max" = some none) (z11:PySem.W.nsIn K mainGlobals "min" = some none) (z12:PySem.W.nsIn K mainGlobals "range" = some none) (z13:PySem.W.nsIn K mainGlobals "str" = some none) (z14:PySem.W.nsIn K mainGlobals "tuple" = some none) (z15:PySem.W.nsIn K mainGlobals "zip" = some none)  :
  ∃ fd:FuncData,(∀ (s:Shared) (v:Value),BindsTo s fd ⟨[v],[]⟩ [("_law_script",v)])∧∀ base:Heap,K.In base→base.Ns mainGlobals mg→FnOk l.prog w K mg base CX0 5 fa fd ["_law_script"] (aha K):=by
 have e:=hfa.symm.trans (PySem.W.mg_of X G a23)
 cases e
 have F1:=nj (st:=top 12) l1 c1 k1
 have b1:=F1.binds (ps:=["tongue", "thing"]) fun _ _ _ _ _ _ us hl=>match us,hl with | [_,_],_=>rfl
 have F2:=nj (st:=top 14) l2 c2 k2
 have b2:=F2.binds (ps:=["tongue", "thing"]) fun _ _ _ _ _ _ us hl=>match us,hl with | [_,_],_=>rfl
 have F3:=nj (st:=top 15) l3 c3 k3
 have b3:=F3.binds (ps:=["table", "room", "word"]) fun _ _ _ _ _ _ us hl=>match us,hl with | [_,_,_],_=>rfl
 have F4:=nj (st:=top 17) l4 c4 k4
 have b4:=F4.binds (ps:=["table", "text", "at"]) fun _ _ _ _ _ _ us hl=>match us,hl with | [_,_,_],_=>rfl
 have F5:=nj (st:=top 19) l5 c5 k5
 have b5:=F5.binds (ps:=["machine"]) fun _ _ _ _ _ _ us hl=>match us,hl with | [_],_=>rfl
 have F6:=nj (st:=top 20) l6 c6 k6
 have b6:=F6.binds (ps:=["machine", "mode", "kind"]) fun _ _ _ _ _ _ us hl=>match us,hl with | [_,_,_],_=>rfl
 have F7:=nj (st:=top 21) l7 c7 k7
 have b7:=F7.binds (ps:=["pile", "deed"]) fun _ _ _ _ _ _ us hl=>match us,hl with | [_,_],_=>rfl
 have F8:=nj (st:=top 23) l8 c8 k8
 have b8:=F8.binds (ps:=["machine", "start", "text"]) fun _ _ _ _ _ _ us hl=>match us,hl with | [_,_,_],_=>rfl
 have F9:=nj (st:=top 25) l9 c9 k9
 have b9:=F9.binds (ps:=["_law_script"]) fun _ _ _ _ _ _ us hl=>match us,hl with | [_],_=>rfl
 have F10:=nj (st:=top 26) l10 c10 k10
 have b10:=F10.binds (ps:=["_law_pen_here", "_law_many"]) fun _ _ _ _ _ _ us hl=>match us,hl with | [_,_],_=>rfl
 have F11:=nj (st:=top 27) l11 c11 k11
 have b11:=F11.binds (ps:=[]) fun _ _ _ _ _ _ us hl=>match us,hl with | [],_=>rfl
 have F12:=nj (st:=top 28) l12 c12 k12
 have b12:=F12.binds (ps:=["_law_pen_here", "_law_rest", "_law_most"]) fun _ _ _ _ _ _ us hl=>match us,hl with | [_,_,_],_=>rfl
 have F13:=nj (st:=top 29) l13 c13 k13
 have b13:=F13.binds (ps:=["_law_tongue", "_law_goes", "_law_kinds", "_law_turn"]) fun _ _ _ _ _ _ us hl=>match us,hl with | [_,_,_,_],_=>rfl
 have F14:=nj (st:=top 30) l14 c14 k14
 have b14:=F14.binds (ps:=["_law_pen_here", "_law_tongue", "_law_most"]) fun _ _ _ _ _ _ us hl=>match us,hl with | [_,_,_],_=>rfl
 have F15:=nj (st:=top 31) l15 c15 k15
 have b15:=F15.binds (ps:=["_law_pen_here", "_law_size", "_law_many"]) fun _ _ _ _ _ _ us hl=>match us,hl with | [_,_,_],_=>rfl
 have F16:=nj (st:=top 32) l16 c16 k16
 have b16:=F16.binds (ps:=["_law_pen_here", "_law_tongue", "_law_most"]) fun _ _ _ _ _ _ us hl=>match us,hl with | [_,_,_],_=>rfl
 have F17:=nj (st:=top 33) l17 c17 k17
 have b17:=F17.binds (ps:=["_law_machine_here", "_law_mode", "_law_text", "_law_start"]) fun _ _ _ _ _ _ us hl=>match us,hl with | [_,_,_,_],_=>rfl
 have F18:=nj (st:=top 34) l18 c18 k18
 have b18:=F18.binds (ps:=["_law_modes", "_law_deed"]) fun _ _ _ _ _ _ us hl=>match us,hl with | [_,_],_=>rfl
 have F19:=nj (st:=top 35) l19 c19 k19
 have b19:=F19.binds (ps:=["_law_machine_here", "_law_start", "_law_text"]) fun _ _ _ _ _ _ us hl=>match us,hl with | [_,_,_],_=>rfl
 have F20:=nj (st:=top 36) l20 c20 k20
 have b20:=F20.binds (ps:=["_law_pen_here", "_law_tongue"]) fun _ _ _ _ _ _ us hl=>match us,hl with | [_,_],_=>rfl
 have F21:=nj (st:=top 37) l21 c21 k21
 have b21:=F21.binds (ps:=["_law_found", "_law_due"]) fun _ _ _ _ _ _ us hl=>match us,hl with | [_,_],_=>rfl
 have F22:=nj (st:=top 38) l22 c22 k22
 have b22:=F22.binds (ps:=["_law_machine_here", "_law_start", "_law_thing"]) fun _ _ _ _ _ _ us hl=>match us,hl with | [_,_,_],_=>rfl
 have F23:=nj (st:=top 39) l23 c23 k23
 have b23:=F23.binds (ps:=["_law_script"]) fun _ _ _ _ _ _ us hl=>match us,hl with | [_],_=>rfl
 have M:Nm mg:=⟨PySem.W.mg_none_of X G z1,PySem.W.mg_none_of X G z2,PySem.W.mg_none_of X G z3,PySem.W.mg_none_of X G z4,PySem.W.mg_none_of X G z5,PySem.W.mg_none_of X G z6,PySem.W.mg_none_of X G z7,PySem.W.mg_none_of X G z8,PySem.W.mg_none_of X G z9,PySem.W.mg_none_of X G z10,PySem.W.mg_none_of X G z11,PySem.W.mg_none_of X G z12,PySem.W.mg_none_of X G z13,PySem.W.mg_none_of X G z14,PySem.W.mg_none_of X G z15⟩
 have Z:Xn K mg y_NoText y_ReachError y_Closed y_NoBook y_NoModes y_NoPlace y_NoTable y_Stopped y_TooMany y_Unlike:=⟨PySem.W.mg_of X G xg_NoText,PySem.W.mg_of X G xg_ReachError,PySem.W.mg_of X G xg_Closed,PySem.W.mg_of X G xg_NoBook,PySem.W.mg_of X G xg_NoModes,PySem.W.mg_of X G xg_NoPlace,PySem.W.mg_of X G xg_NoTable,PySem.W.mg_of X G xg_Stopped,PySem.W.mg_of X G xg_TooMany,PySem.W.mg_of X G xg_Unlike,xg_NoText,xc_NoText,xk_NoText,xe_NoText_ReachError,xi_NoText_ValueError,xi_NoText_NoText,xi_NoText_Closed_NoBook_NoModes_NoPlace_NoTable_Stopped_TooMany_Unlike⟩
 refine ⟨PySem.W.fnOf "law" "law" (a1k (top 39)) (iz (top 39)) (au (top 39)) .none kV23 dc23 pm23 an23 cd23 ct23,fun s v=>.of_eq rfl,fun base _ _=>?_⟩
 have D_0:Dn l.prog w K mg base 1 "is_text" ["tongue", "thing"] (u5 K 2 (K69.jw)) _ _:=⟨qe F1 ash (m_0 M),PySem.W.mg_of X G a1,k1,b1⟩
 have D_1:DnX l.prog w K mg base 2 "looked_text" ["tongue", "thing"] (spX K mg 2 (K69.dq)) _ _:=⟨ad7 F2 asi (m_1 Z D_0 (by decide)),PySem.W.mg_of X G a2,k2,b2⟩
 have D_2:Dn l.prog w K mg base 1 "rooms_along" ["table", "room", "word"] (u5 K 3 (K69.dw)) _ _:=⟨qe F3 asj (m_2 ),PySem.W.mg_of X G a3,k3,b3⟩
 have D_3:Dn l.prog w K mg base 2 "piece_at" ["table", "text", "at"] (u5 K 3 (K69.j5)) _ _:=⟨qe F4 asl (m_3 M D_2 (by decide)),PySem.W.mg_of X G a4,k4,b4⟩
 have D_4:Dn l.prog w K mg base 1 "mode_tables" ["machine"] (u5 K 1 (K69.ik)) _ _:=⟨qe F5 asm (m_4 ),PySem.W.mg_of X G a5,k5,b5⟩
 have D_5:Dn l.prog w K mg base 1 "deed_of" ["machine", "mode", "kind"] (u5 K 3 (K69.jz)) _ _:=⟨qe F6 asn (m_5 ),PySem.W.mg_of X G a6,k6,b6⟩
 have D_6:Dn l.prog w K mg base 1 "pile_behind" ["pile", "deed"] (u5 K 2 (K69.gq)) _ _:=⟨qe F7 aso (m_6 M),PySem.W.mg_of X G a7,k7,b7⟩
 have D_7:DnX l.prog w K mg base 3 "moded_cut" ["machine", "start", "text"] (spX K mg 3 (K69.bj)) _ _:=⟨ad7 F8 asp (m_7 M D_5 (by decide) D_1 (by decide) D_4 (by decide) D_3 (by decide) D_6 (by decide)),PySem.W.mg_of X G a8,k8,b8⟩
 have D_8:Dn l.prog w K mg base 1 "_law_pen" ["_law_script"] (u5 K 1 (PN.iw)) _ _:=⟨qe F9 asq (m_8 ),PySem.W.mg_of X G a9,k9,b9⟩
 have D_9:Dn l.prog w K mg base 1 "_law_take" ["_law_pen_here", "_law_many"] (u5 K 2 (PN.ak)) _ _:=⟨qe F10 asr (m_9 M),PySem.W.mg_of X G a10,k10,b10⟩
 have D_10:Dn l.prog w K mg base 1 "_law_signs" [] (u5 K 0 (PN.dj)) _ _:=⟨qe F11 aog (au3 ),PySem.W.mg_of X G a11,k11,b11⟩
 have D_11:Dn l.prog w K mg base 2 "_law_some" ["_law_pen_here", "_law_rest", "_law_most"] (u5 K 3 (PN.gh)) _ _:=⟨qe F12 aoh (au4 M D_9 (by decide)),PySem.W.mg_of X G a12,k12,b12⟩
 have D_12:Dn l.prog w K mg base 1 "_law_cut_down" ["_law_tongue", "_law_goes", "_law_kinds", "_law_turn"] (u5 K 4 (PN.fj)) _ _:=⟨qe F13 aoi (au5 M),PySem.W.mg_of X G a13,k13,b13⟩
 have D_13:Dn l.prog w K mg base 2 "_law_table" ["_law_pen_here", "_law_tongue", "_law_most"] (u5 K 3 (PN.jx)) _ _:=⟨qe F14 aoj (au6 M D_12 (by decide) D_9 (by decide)),PySem.W.mg_of X G a14,k14,b14⟩
 have D_14:Dn l.prog w K mg base 2 "_law_deeds" ["_law_pen_here", "_law_size", "_law_many"] (u5 K 3 (PN.jy)) _ _:=⟨qe F15 aok (au7 M D_9 (by decide)),PySem.W.mg_of X G a15,k15,b15⟩
 have D_15:Dn l.prog w K mg base 3 "_law_machine" ["_law_pen_here", "_law_tongue", "_law_most"] (u5 K 3 (PN.cu)) _ _:=⟨qe F16 aol (au8 M D_14 (by decide) D_13 (by decide) D_9 (by decide)),PySem.W.mg_of X G a16,k16,b16⟩
 have D_16:Dn l.prog w K mg base 1 "_law_first" ["_law_machine_here", "_law_mode", "_law_text", "_law_start"] (u5 K 4 (K69.j7)) _ _:=⟨qe F17 aom (au9 M),PySem.W.mg_of X G a17,k17,b17⟩
 have D_17:Dn l.prog w K mg base 1 "_law_later" ["_law_modes", "_law_deed"] (u5 K 2 (K69.j8)) _ _:=⟨qe F18 aon (aua ),PySem.W.mg_of X G a18,k18,b18⟩
 have D_18:Dn l.prog w K mg base 2 "_law_cut" ["_law_machine_here", "_law_start", "_law_text"] (u5 K 3 (K69.iu)) _ _:=⟨qe F19 aoo (aub M D_16 (by decide) D_17 (by decide)),PySem.W.mg_of X G a19,k19,b19⟩
 have D_19:Dn l.prog w K mg base 2 "_law_signed" ["_law_pen_here", "_law_tongue"] (u5 K 2 (PN.dm)) _ _:=⟨qe F20 aop (auc M D_9 (by decide)),PySem.W.mg_of X G a20,k20,b20⟩
 have D_20:=apt (P:=l.prog) (w:=w) (base:=base) F21 (PySem.W.mg_of X G a21) k21 b21 M 4
 have D_21:Dn l.prog w K mg base 4 "_law_refused" ["_law_machine_here", "_law_start", "_law_thing"] (u5 K 3 (K69.d9)) _ _:=⟨qe F22 aor (aue M Z D_7 (by decide)),PySem.W.mg_of X G a22,k22,b22⟩
 have D_22:Dn l.prog w K mg base 5 "law" ["_law_script"] (u5 K 1 (K69.ah8)) _ _:=⟨qe F23 aos (auf M D_18 (by decide) D_15 (by decide) D_8 (by decide) D_21 (by decide) D_20 (by decide) D_19 (by decide) D_10 (by decide) D_11 (by decide) D_9 (by decide) D_7 (by decide)),PySem.W.mg_of X G a23,k23,b23⟩
 exact D_22.ok.imp apu
theorem walk {l:PySem.W.OpenLaw} {q:Program} {loose:List Str} {XP:(Str→Option Value)→Heap→Prop} {YP:World→Heap→Prop} {d:DefRec} {K:Params→PySem.W.Frag} (hn:l.most=some 63) (hdf:d.params.defaults=[])
  (hY:∀ (w:World) (h:Heap),YP w h→(K w.params).In h)
  (F:∀ (w:World) (mg:Str→Option Value) (fa:Addr) (h:Heap),(K w.params).In h→h.Ns mainGlobals mg→mg d.name=some (.ref fa) →
   ∃ fd:FuncData,(∀ (s:Shared) (u:Value),BindsTo s fd ⟨[u],[]⟩ [("_law_script",u)])∧∀ base:Heap,(K w.params).In base→base.Ns mainGlobals mg→FnOk l.prog w (K w.params) mg base CX0 5 fa fd ["_law_script"] (aha (K w.params))) :
  PySem.W.WalkO q loose XP YP l.row.toRowW d [] (fun f vs=>PySem.call f vs) :=
 L2.aj4 (n:=63) (k:=5) (x := "_law_script") (CX:=fun _=>CX0) (sp:=fun w=>aha (K w.params)) hn (by decide) hdf ⟨rfl,by decide,by decide,rfl⟩ hY F (fun _ _ a ns hl hO hS=>⟨a,ns,rfl,apv hO hS,hl,fun _=>rfl⟩) fun _ _ _ _ _ z=>z
end K69
open PySem PySem.W PyProof.Rows
theorem K69.said:PySem.Challenge.rw_nearreach_k69_moded_cuts.wellSaid=true:=by kernel_rfl
noncomputable def K69.hq:Program:=view PySem.Challenge.pw_nearreach_k69_moded_cuts [PySem.Challenge.pw_nearreach_k69_moded_cuts.main.body.length - 1]
noncomputable def K69.hl:List Str:=PySem.Challenge.pw_nearreach_k69_moded_cuts.boundNames
local macro_rules | `(tactic| o_head $H) => `(tactic| refine PySem.W.holds_open (q:=K69.hq) (loose:=K69.hl) (Xt:=fun _=>true) (XP:=fun _ _=>True) (Yf:=Hook.obs $H) (Ya:=Hook.val $H) (YP:=Hook.says $H) (N:=20000) ?hl (Hook.of $H) (Hook.keeps $H) (fun _ _=>trivial) (fun _ _ _ _ _=>trivial) (by rfl) (by rfl) (by rfl) (fun _ _=>recFacts_nil rfl) (by rfl) (by assumption) (by decide +kernel) ⟨rfl,rfl,rfl,rfl,rfl,by decide +kernel⟩ ?hw ?hc)
set_option maxRecDepth 100000 in
set_option maxHeartbeats 0 in
theorem PySem.Challenge.cw_nearreach_k69_moded_cuts_holds : PySem.Challenge.rw_nearreach_k69_moded_cuts.Holds := by
 w_on;refine holds_law K69.said fun said=>?_;k_head
 (case hw=>w_witness2)
 (case hl=>intro w;kernel_rfl)
 k_fill
 refine K69.walk (l:=PySem.Challenge.rw_nearreach_k69_moded_cuts) rfl rfl (fun w h Y=>PySem.W.kIn_of Y) ?F
 case F =>
  intro w mg fa h KX G hmg
  refine' K69.apw KX G hmg ?a1 ?l1 ?c1 ?k1 ?a2 ?l2 ?c2 ?k2 ?a3 ?l3 ?c3 ?k3 ?a4 ?l4 ?c4 ?k4 ?a5 ?l5 ?c5 ?k5 ?a6 ?l6 ?c6 ?k6 ?a7 ?l7 ?c7 ?k7 ?a8 ?l8 ?c8 ?k8 ?a9 ?l9 ?c9 ?k9 ?a10 ?l10 ?c10 ?k10 ?a11 ?l11 ?c11 ?k11 ?a12 ?l12 ?c12 ?k12 ?a13 ?l13 ?c13 ?k13 ?a14 ?l14 ?c14 ?k14 ?a15 ?l15 ?c15 ?k15 ?a16 ?l16 ?c16 ?k16 ?a17 ?l17 ?c17 ?k17 ?a18 ?l18 ?c18 ?k18 ?a19 ?l19 ?c19 ?k19 ?a20 ?l20 ?c20 ?k20 ?a21 ?l21 ?c21 ?k21 ?a22 ?l22 ?c22 ?k22 ?a23 ?l23 ?c23 ?k23 ?xg_NoText ?xg_ReachError ?xg_Closed ?xg_NoBook ?xg_NoModes ?xg_NoPlace ?xg_NoTable ?xg_Stopped ?xg_TooMany ?xg_Unlike ?xc_NoText ?xk_NoText ?xe_NoText_ReachError ?xi_NoText_ValueError ?xi_NoText_NoText ?xi_NoText_Closed_NoBook_NoModes_NoPlace_NoTable_Stopped_TooMany_Unlike ?z1 ?z2 ?z3 ?z4 ?z5 ?z6 ?z7 ?z8 ?z9 ?z10 ?z11 ?z12 ?z13 ?z14 ?z15
  (case a1=>k_is);(case l1=>k_is);(case c1=>k_is);(case k1=>k_is)
  (case a2=>k_is);(case l2=>k_is);(case c2=>k_is);(case k2=>k_is)
  (case a3=>k_is);(case l3=>k_is);(case c3=>k_is);(case k3=>k_is)
  (case a4=>k_is);(case l4=>k_is);(case c4=>k_is);(case k4=>k_is)
  (case a5=>k_is);(case l5=>k_is);(case c5=>k_is);(case k5=>k_is)
  (case a6=>k_is);(case l6=>k_is);(case c6=>k_is);(case k6=>k_is)
  (case a7=>k_is);(case l7=>k_is);(case c7=>k_is);(case k7=>k_is)
  (case a8=>k_is);(case l8=>k_is);(case c8=>k_is);(case k8=>k_is)
  (case a9=>k_is);(case l9=>k_is);(case c9=>k_is);(case k9=>k_is)
  (case a10=>k_is);(case l10=>k_is);(case c10=>k_is);(case k10=>k_is)
  (case a11=>k_is);(case l11=>k_is);(case c11=>k_is);(case k11=>k_is)
  (case a12=>k_is);(case l12=>k_is);(case c12=>k_is);(case k12=>k_is)
  (case a13=>k_is);(case l13=>k_is);(case c13=>k_is);(case k13=>k_is)
  (case a14=>k_is);(case l14=>k_is);(case c14=>k_is);(case k14=>k_is)
  (case a15=>k_is);(case l15=>k_is);(case c15=>k_is);(case k15=>k_is)
  (case a16=>k_is);(case l16=>k_is);(case c16=>k_is);(case k16=>k_is)
  (case a17=>k_is);(case l17=>k_is);(case c17=>k_is);(case k17=>k_is)
  (case a18=>k_is);(case l18=>k_is);(case c18=>k_is);(case k18=>k_is)
  (case a19=>k_is);(case l19=>k_is);(case c19=>k_is);(case k19=>k_is)
  (case a20=>k_is);(case l20=>k_is);(case c20=>k_is);(case k20=>k_is)
  (case a21=>k_is);(case l21=>k_is);(case c21=>k_is);(case k21=>k_is)
  (case a22=>k_is);(case l22=>k_is);(case c22=>k_is);(case k22=>k_is)
  (case a23=>k_is);(case l23=>k_is);(case c23=>k_is);(case k23=>k_is)
  (case xg_NoText=>k_is)
  (case xg_ReachError=>k_is)
  (case xg_Closed=>k_is)
  (case xg_NoBook=>k_is)
  (case xg_NoModes=>k_is)
  (case xg_NoPlace=>k_is)
  (case xg_NoTable=>k_is)
  (case xg_Stopped=>k_is)
  (case xg_TooMany=>k_is)
  (case xg_Unlike=>k_is)
  (case xc_NoText=>exact L2.ald (by kernel_rfl))
  (case xk_NoText=>constructor<;>first | k_is | kernel_rfl)
  (case xe_NoText_ReachError=>kernel_rfl)
  (case xi_NoText_ValueError=>kernel_rfl)
  (case xi_NoText_NoText=>kernel_rfl)
  (case xi_NoText_Closed_NoBook_NoModes_NoPlace_NoTable_Stopped_TooMany_Unlike=>kernel_rfl)
  (case z1=>k_is)
  (case z2=>k_is)
  (case z3=>k_is)
  (case z4=>k_is)
  (case z5=>k_is)
  (case z6=>k_is)
  (case z7=>k_is)
  (case z8=>k_is)
  (case z9=>k_is)
  (case z10=>k_is)
  (case z11=>k_is)
  (case z12=>k_is)
  (case z13=>k_is)
  (case z14=>k_is)
  (case z15=>k_is)
