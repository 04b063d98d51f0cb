import PyProof.Rows.All
import Wide.All
import OpenK.AllK
import Wide.FinOn
import Lean
import PyProof.EqAt
import PyProof.EqKinds
import PyProof.TupleCall
import PyProof.ListStr
import PyProof.TupleOfStr
import PyProof.ConsumeWalk
import PyProof.SliceStr2
import PyProof.CompUse
import PyProof.Rows.SetFrom
import PyProof.SetRoads
import PyProof.StrLawsIn
import PyProof.Rows.StrIndexOr
import PyProof.Rows.StrJoin2
import PyProof.Rows.SumAny
import PyProof.WalkInts
import PyProof.SeqI3
import PyProof.Draws
import PyProof.ZipIter
import PyProof.EnumMake
import Wide.Txt2
import PyProof.Rows.SortWalk
import PyProof.ListRange
import PyProof.Rows.Range3
import KE.KStateDown
import PyProof.ReprRoads
import PyProof.CallFns
import PyProof.WalksMore
import KE.KTryDeep
import PyProof.ExcBaseAll.ValueError
import KE.KTryMore
import KE.KIsNot
import PyProof.ExcAttrAll.ValueError
import PyProof.NsDelKeeps
import PySem.SetOps
import PyProof.SetScanFacts
import PyProof.Walks
import PyProof.CollectWalk
import PyProof.SumWalk
import PyProof.SeqWrite
import PySem.Challenge.RW_nearreach_k71_reaches_of_modes
set_option Elab.async false
set_option linter.all false
set_option maxRecDepth 100000
namespace L2
open PySem PySem.Spec PyProof.Rows
abbrev Key:=Sum Int Str
def acx:Key→Value→Bool
 | .inl k,v=>Value.isInt k v
 | .inr x,v=>Value.isStrOf x v
def axk (w:World):Key→Int
 | .inl k=>hashInt k
 | .inr x=>hashStr w x
theorem m8:∀ {k:Key} {v:Value},acx k v=true→(∃ i t,k=Sum.inl i∧v=Value.int i t)∨(∃ x t,k=Sum.inr x∧v=Value.str x t)
 | .inl i,v,h=>by
  obtain ⟨t,e⟩:=Value.isInt_shape (k:=i) (v:=v) h
  exact .inl ⟨i,t,rfl,e⟩
 | .inr x,v,h=>by
  obtain ⟨t,e⟩:=Value.isStrOf_shape (x:=x) (v:=v) h
  exact .inr ⟨x,t,rfl,e⟩
theorem aet (i:Int) (t:Tok):acx (.inl i) (.int i t)=true:=by simp [acx,Value.isInt]
theorem aeu (x:Str) (t:Tok):acx (.inr x) (.str x t)=true:=by simp [acx,Value.isStrOf]
theorem aq2 (a b:Int):decide ((Sum.inl a:Key)=Sum.inl b)=(a == b):=by
 by_cases e:a=b
 ·subst e;simp
 ·have h:¬ (Sum.inl a:Key)=Sum.inl b:=fun q=>e (Sum.inl.inj q)
  rw [decide_eq_false h]
  exact (beq_eq_false_iff_ne.mpr e).symm
theorem aq3 (a b:Str):decide ((Sum.inr a:Key)=Sum.inr b)=decide (a=b):=by
 by_cases e:a=b
 ·subst e;simp
 ·have h:¬ (Sum.inr a:Key)=Sum.inr b:=fun q=>e (Sum.inr.inj q)
  rw [decide_eq_false h,decide_eq_false e]
theorem aq4 (a:Int) (b:Str):decide ((Sum.inl a:Key)=Sum.inr b)=false:=decide_eq_false (fun q=>nomatch q)
theorem aq5 (a:Str) (b:Int):decide ((Sum.inr a:Key)=Sum.inl b)=false:=decide_eq_false (fun q=>nomatch q)
def n6 (prog:Program) (w:World):PySem.KeyKind prog w Key where
 is:=acx
 hash:=axk w
 inj:=fun v a b ha hb=>by
  rcases m8 ha with ⟨i,t,rfl,rfl⟩ | ⟨x,t,rfl,rfl⟩
  ·rcases m8 hb with ⟨j,u,rfl,e⟩ | ⟨y,u,rfl,e⟩
   ·injection e with e1 _;rw [e1]
   ·exact nomatch e
  ·rcases m8 hb with ⟨j,u,rfl,e⟩ | ⟨y,u,rfl,e⟩
   ·exact nomatch e
   ·injection e with e1 _;rw [e1]
 byValue:=fun k v h=>by
  rcases m8 h with ⟨i,t,rfl,rfl⟩ | ⟨x,t,rfl,rfl⟩<;>rfl
 pyHash:=fun hv h=>by
  rcases m8 hv with ⟨i,t,rfl,rfl⟩ | ⟨x,t,rfl,rfl⟩
  ·exact wpAny_pyHash_int h
  ·exact wpAny_pyHash_str h
 eqBool:=fun hu hv h=>by
  rcases m8 hu with ⟨i,t,rfl,rfl⟩ | ⟨x,t,rfl,rfl⟩
  ·rcases m8 hv with ⟨j,u,rfl,rfl⟩ | ⟨y,u,rfl,rfl⟩
   ·rw [aq2] at h;exact wpAny_eqBool_int h
   ·rw [aq4] at h;exact SeqAt.EqAt.int_str i t y u _ _ _ _ h
  ·rcases m8 hv with ⟨j,u,rfl,rfl⟩ | ⟨y,u,rfl,rfl⟩
   ·rw [aq5] at h;exact SeqAt.EqAt.str_int x t j u _ _ _ _ h
   ·rw [aq3] at h;exact wpAny_eqBool_str h
 «strs»:=fun k x t v h=>by
  rcases m8 h with ⟨i,u,rfl,e⟩ | ⟨y,u,rfl,e⟩
  ·exact nomatch e
  ·injection e with e1 _
   subst e1
   cases v<;>rfl
theorem a9q (prog:Program) (w:World) (i:Int) (t:Tok):(n6 prog w).is (.inl i) (.int i t)=true:=aet i t
theorem a9r (prog:Program) (w:World) (x:Str) (t:Tok):(n6 prog w).is (.inr x) (.str x t)=true:=aeu x t
end L2
namespace L2
open PySem PySem.Spec PyProof.Rows
inductive V where
 | non | bl (b:Bool) | int (i:Int) | str (x:Str) | byt (b:Array UInt8) | flt (b:UInt64) | ref (a:Addr) | ty (n:String)
 deriving DecidableEq
def RelV:V→Value→Prop
 | .non,u=>u=Value.none
 | .bl b,u=>u=Value.bool b
 | .int i,u=>∃ t,u=Value.int i t
 | .str x,u=>∃ t,u=Value.str x t
 | .byt b,u=>∃ t,u=Value.bytes b t
 | .flt b,u=>∃ t,u=Value.float b t
 | .ref a,u=>u=Value.ref a
 | .ty n,u=>u=Value.type n
abbrev Vals:List V→List Value→Prop:=Paired RelV
theorem Vals.length {xs:List V} {us:List Value} (r:Vals xs us):xs.length=us.length:=Paired.length r
theorem Vals.get:∀ {xs:List V} {us:List Value} {i:Nat} {x:V},Vals xs us→xs[i]? = some x→∃ u,us[i]? = some u∧RelV x u
 | _,_,_,_, .nil,e=>by simp at e
 | _,_,0,_, .cons r _,e=>by simp at e;subst e;exact ⟨_,rfl,r⟩
 | _,_,i+1,x, .cons _ t,e=>by
  obtain ⟨u,h1,h2⟩:=Vals.get (i:=i) (x:=x) t (by simpa using e)
  exact ⟨u,by simpa using h1,h2⟩
theorem Vals.set {x:V} {u:Value} (r:RelV x u):∀ {xs:List V} {us:List Value} (i:Nat),Vals xs us→Vals (xs.set i x) (us.set i u)
 | _,_,_, .nil=>.nil
 | _,_,0, .cons _ t=>.cons r t
 | _,_,i+1, .cons q t=>.cons q (Vals.set r i t)
theorem Vals.append:∀ {xs ys:List V} {us ws:List Value},Vals xs us→Vals ys ws→Vals (xs++ys) (us++ws)
 | _,_,_,_, .nil,s=>s
 | _,_,_,_, .cons r t,s=>.cons r (Vals.append t s)
theorem Vals.take:∀ {xs:List V} {us:List Value} (n:Nat),Vals xs us→Vals (xs.take n) (us.take n)
 | _,_,0,_=>.nil
 | _,_,_+1, .nil=>.nil
 | _,_,n+1, .cons r t=>.cons r (Vals.take n t)
theorem Vals.drop:∀ {xs:List V} {us:List Value} (n:Nat),Vals xs us→Vals (xs.drop n) (us.drop n)
 | _,_,0,r=>r
 | _,_,_+1, .nil=>.nil
 | _,_,n+1, .cons _ t=>Vals.drop n t
def RelO:Option V→Option Value→Prop
 | some v,some u=>RelV v u
 | none,none=>True
 | _,_=>False
def KV {κ:Type}:List (κ × V)→List (κ × Value)→Prop:=Paired fun (p:κ × V) (q:κ × Value)=>p.1=q.1∧RelV p.2 q.2
def kV:Key→V
 | .inl i=>.int i
 | .inr x=>.str x
inductive HO where
 | lst (xs:List V)
 | tup (xs:List V)
 | dK (kvs:List (Key × V)) | dT (kvs:List (List Key × V))
 | set (S:Int→Bool) (n:Nat)
 | ins (C dx:Addr) (fs:List (Str × V))
 | own (x:Addr)
 | xd (fs:List (Str × V))
 | met (f x:Addr)
 | rng (lo hi:Int)
 | frz (o:Obj) (u:HO)
 | tbl (ps:Array Value)
 | ext (φ:Heap→Prop)
abbrev Hp:=Addr→Option HO
def upd (H:Hp) (a:Addr) (o:HO):Hp:=fun b=>if b=a then some o else H b
theorem jq {H:Hp} {a:Addr} {o:HO}:upd H a o a=some o:=by unfold upd;rw [if_pos rfl]
theorem dw {H:Hp} {a b:Addr} {o:HO} (h:b≠a):upd H a o b=H b:=by unfold upd;rw [if_neg h]
theorem aur {H:Hp} {a b:Addr} {o u:HO} (h:H a=some o) (h':H b=some u) (d:o≠u):a≠b:=by
 intro e;subst e;rw [h] at h';exact d (Option.some.inj h')
theorem d8 {H:Hp} {a b:Addr} {o:HO} (h:H a=some o) (h':H b=none):a≠b:=by
 intro e;subst e;rw [h] at h';cases h'
section
variable (P:Program) (w:World)
def ObjOk (H:Hp) (h:Heap) (a:Addr):HO→Prop
 | .lst xs=>xs.length≤sizeLine∧∃ (its:List Value) (n:Nat),Vals xs its∧h.get? a=some { cls:=.type "list",data:=.seq its.toArray n }
 | .tup xs=>xs.length≤sizeLine∧∃ its:List Value,Vals xs its∧IsTup h a its.toArray
 | .dK kvs=>kvs.length≤sizeLine∧(a == sysModules)=false∧∃ vs,KV kvs vs∧h.DictOf (n6 P w) a vs
 | .dT kvs=>kvs.length≤sizeLine∧(a == sysModules)=false∧∃ xs:List (List Key × Addr × Value),
   Paired (fun (p:List Key × V) (q:List Key × Addr × Value)=>p.1=q.1∧H q.2.1=some (.tup (p.1.map kV))∧RelV p.2 q.2.2) kvs xs ∧
   ∃ o es ep,h.get? a=some o∧o.ExactDict∧o.data = .dict es ep∧es.toList=xs.map (entryOfKey (tupleKind (n6 P w)))∧(xs.map (·.1)).Nodup
 | .set S n=>h.SetOf (intKind P w) a S n
 | .ins C dx fs=>H dx=some (.own a)∧fs.length≤1000∧dx≠a∧h.get? a=some (PySem.W.instObj C dx) ∧
   ∃ mA,h.Ns1 dx mA∧(∀ f,RelO (fs.lookup f) (mA f))∧PySem.Within mA (fs.map (·.1))
 | .own _=>∃ o,h.get? a=some o
 | .xd fs=>∃ mA,h.Ns1 a mA∧∀ f,RelO (fs.lookup f) (mA f)
 | .rng lo hi=>∃ t u v,h.get? a=some { cls:=.type "range",data:=.fields #[.int lo t, .int hi u, .int 1 v] }
 | .frz o u=>h.get? a=some o∧ObjOk H h a u
 | .tbl ps=>h.get? a=some { cls:=.none,data:=.fields ps }
 | .met f x=>h.get? a=some (PySem.W.methodObj (.ref f) (.ref x))
 | .ext φ=>φ h∧(∃ o,h.get? a=some o)∧∀ h1 h2:Heap,φ h1→(∀ o,h1.get? a=some o→h2.get? a=some o)→φ h2
def HOk (H:Hp) (h:Heap):Prop:=∀ a o,H a=some o→ObjOk P w H h a o
end
section
variable {P:Program} {w:World} {H H':Hp} {h h':Heap} {a:Addr} {o:HO}
theorem ObjOk.lt (x:ObjOk P w H h a o):a<h.objs.size:=by
 cases o with
 | lst xs=>obtain ⟨_,_,_,_,e⟩:=x;exact Heap.lt_size e
 | tup xs=>obtain ⟨_,_,_,p⟩:=x;exact p.lt
 | dK kvs=>obtain ⟨_,_,_,_,o,_,_,e,_⟩:=x;exact Heap.lt_size e
 | dT kvs=>obtain ⟨_,_,_,_,o,_,_,e,_⟩:=x;exact Heap.lt_size e
 | set S n=>obtain ⟨o,_,_,_,e,_⟩:=x;exact Heap.lt_size e
 | ins C dx fs=>obtain ⟨_,_,_,e,_⟩:=x;exact Heap.lt_size e
 | own y=>obtain ⟨_,e⟩:=x;exact Heap.lt_size e
 | xd fs=>obtain ⟨_,⟨_,_,_,e,_⟩,_⟩:=x;exact Heap.lt_size e
 | rng lo hi=>obtain ⟨_,_,_,e⟩:=x;exact Heap.lt_size e
 | frz ob u=>obtain ⟨e,_⟩:=x;exact Heap.lt_size e
 | tbl ps=>exact Heap.lt_size (show h.get? a=some _ from x)
 | met f y=>exact Heap.lt_size (show h.get? a=some _ from x)
 | ext φ=>obtain ⟨_,⟨_,e⟩,_⟩:=x;exact Heap.lt_size e
theorem Paired.mapP {α β:Type} {F G:α→β→Prop}:∀ {l₁:List α} {l₂:List β},Paired F l₁ l₂→(∀ a b,F a b→G a b)→Paired G l₁ l₂
 | _,_, .nil,_=>.nil
 | _,_, .cons r t,f=>.cons (f _ _ r) (Paired.mapP t f)
theorem ObjOk.stay (x:ObjOk P w H h a o) (k:∀ b u,(b=a∨H b=some (.own a))→h.get? b=some u→h'.get? b=some u)
  (ho:∀ b,H b=some (.own a)→H' b=some (.own a)) (ht:∀ b xs,H b=some (.tup xs)→H' b=some (.tup xs)):ObjOk P w H' h' a o:=by
 induction o with
 | lst xs=>obtain ⟨z,its,n,r,e⟩:=x;exact ⟨z,its,n,r,k _ _ (.inl rfl) e⟩
 | tup xs=>obtain ⟨z,its,r,ob,e,c⟩:=x;exact ⟨z,its,r,ob,k _ _ (.inl rfl) e,c⟩
 | dK kvs=>obtain ⟨z,y,vs,r,ob,es,ep,e,c⟩:=x;exact ⟨z,y,vs,r,ob,es,ep,k _ _ (.inl rfl) e,c⟩
 | dT kvs =>
  obtain ⟨z,y,xs,r,ob,es,ep,e,c⟩:=x
  exact ⟨z,y,xs,Paired.mapP r fun p q z=>⟨z.1,ht _ _ z.2.1,z.2.2⟩,ob,es,ep,k _ _ (.inl rfl) e,c⟩
 | set S n=>obtain ⟨ob,es,ep,t,e,c⟩:=x;exact ⟨ob,es,ep,t,k _ _ (.inl rfl) e,c⟩
 | ins C dx fs =>
  obtain ⟨d,z,ne,e,mA,⟨od,es,ep,e2,c⟩,r⟩:=x
  exact ⟨ho _ d,z,ne,k _ _ (.inl rfl) e,mA,⟨od,es,ep,k _ _ (.inr d) e2,c⟩,r⟩
 | own y=>obtain ⟨ob,e⟩:=x;exact ⟨ob,k _ _ (.inl rfl) e⟩
 | xd fs=>obtain ⟨mA,⟨od,es,ep,e,c⟩,r⟩:=x;exact ⟨mA,⟨od,es,ep,k _ _ (.inl rfl) e,c⟩,r⟩
 | rng lo hi=>obtain ⟨t,u,v,e⟩:=x;exact ⟨t,u,v,k _ _ (.inl rfl) e⟩
 | frz ob u ih=>obtain ⟨e,q⟩:=x;exact ⟨k _ _ (.inl rfl) e,ih q⟩
 | tbl ps =>
  have e:h.get? a=some { cls:=.none,data:=.fields ps }:=x
  show h'.get? a=some { cls:=.none,data:=.fields ps }
  exact k a _ (.inl rfl) e
 | met f y =>
  have e:h.get? a=some (PySem.W.methodObj (.ref f) (.ref y)):=x
  show h'.get? a=some (PySem.W.methodObj (.ref f) (.ref y))
  exact k a _ (.inl rfl) e
 | ext φ=>obtain ⟨p,⟨o,e⟩,st⟩:=x;exact ⟨st _ _ p fun o q=>k _ _ (.inl rfl) q,⟨o,k _ _ (.inl rfl) e⟩,st⟩
theorem HOk.lt (x:HOk P w H h) (e:H a=some o):a<h.objs.size:=(x a o e).lt
theorem HOk.fresh (x:HOk P w H h) (e:h.objs.size≤a):H a=none:=by
 cases q:H a with
 | none=>rfl
 | some u=>exact absurd (Nat.lt_of_lt_of_le (x.lt q) e) (Nat.lt_irrefl _)
theorem HOk.kept (x:HOk P w H h) (k:∀ b u,h.get? b=some u→h'.get? b=some u):HOk P w H h':=fun a o e =>
 (x a o e).stay (fun b u _ q=>k b u q) (fun _ q=>q) fun _ _ q=>q
theorem HOk.laid (x:HOk P w H h) (k:∀ b u,h.get? b=some u→h'.get? b=some u) (hp:h.objs.size≤a) (new:ObjOk P w (upd H a o) h' a o):HOk P w (upd H a o) h':=fun b u e=>by
 have hn:=x.fresh hp
 by_cases hb:b=a
 ·subst hb;rw [jq] at e;cases e;exact new
 ·rw [dw hb] at e
  exact (x b u e).stay (fun c v _ q=>k c v q) (fun c q=>by rw [dw (d8 q hn)];exact q) fun c xs q=>by rw [dw (d8 q hn)];exact q
end
def Rd (H:Hp) (a:Addr) (u:HO):Prop:=H a=some u∨∃ o,H a=some (.frz o u)
theorem Rd.of {H:Hp} {a:Addr} {u:HO} (h:H a=some u):Rd H a u:=.inl h
theorem Rd.ok {P:Program} {w:World} {H:Hp} {h:Heap} {a:Addr} {u:HO} (r:Rd H a u) (x:HOk P w H h):ObjOk P w H h a u:=by
 rcases r with r | ⟨o,r⟩
 ·exact x a u r
 ·obtain ⟨_,q⟩:=x a _ r
  exact q
def Mut:Option HO→Prop
 | some (.lst _)=>True
 | some (.dK _)=>True
 | some (.dT _)=>True
 | some (.set _ _)=>True
 | some (.ins _ _ _)=>True
 | some (.ext _)=>True
 | _=>False
section
variable {P:Program} {w:World} {H:Hp} {h h':Heap} {x e:Addr} {o':HO}
theorem HOk.write (ok:HOk P w H h) (mu:Mut (H x)) (he:e=x∨H e=some (.own x)) (k:∀ b u,b≠e→h.get? b=some u→h'.get? b=some u) (heo:∃ u,h'.get? e=some u)
  (new:ObjOk P w (upd H x o') h' x o'):HOk P w (upd H x o') h':=fun b u q=>by
 have nown:∀ c y,H c=some (.own y)→c≠x:=fun c y r z=>by subst z;rw [r] at mu;exact mu
 have ntup:∀ c xs,H c=some (.tup xs)→c≠x:=fun c xs r z=>by subst z;rw [r] at mu;exact mu
 by_cases hb:b=x
 ·subst hb;rw [jq] at q;cases q;exact new
 ·rw [dw hb] at q
  by_cases hbe:b=e
  ·have q':H b=some (.own x):=by
    rcases he with z | z
    ·exact absurd (hbe.trans z) hb
    ·rw [hbe];exact z
   rw [q] at q';cases q'
   obtain ⟨v,hv⟩:=heo
   exact ⟨v,by rw [hbe];exact hv⟩
  ·refine (ok b u q).stay (fun c v hc r=>k c v ?_ r) (fun c r=>by rw [dw (nown c b r)];exact r) fun c xs r=>by rw [dw (ntup c xs r)];exact r
   rcases hc with rfl | hc
   ·exact hbe
   ·rintro rfl
    rcases he with z | z
    ·exact nown c b hc z
    ·rw [hc] at z;cases z;exact hb rfl
end
structure Un (fs ex:List Addr) (H H':Hp) (h h':Heap):Prop where
 keep:∀ b o,h.get? b=some o→H b=none→b ∉ fs→b ∉ ex→h'.get? b=some o
 slot:∀ b o,h.get? b=some o→H b=none→b∈fs→b ∉ ex→∃ sl,h'.get? b=some { o with slots:=sl }
 free:∀ b o,h.get? b=some o→H b=none→b ∉ ex→H' b=none
 there:∀ b o,h.get? b=some o→b ∉ ex→∃ o',h'.get? b=some o'
 tups:∀ b xs,H b=some (.tup xs)→H' b=some (.tup xs)
 frzs:∀ b o u,H b=some (.frz o u)→H' b=some (.frz o u)
 tbls:∀ b ps,H b=some (.tbl ps)→∃ more,H' b=some (.tbl (ps++more))
section
variable {fs fs' ex ex':List Addr} {H H1 H2:Hp} {h h1 h2 h':Heap} {a x e:Addr} {o:HO}
theorem Un.any (u:Un fs ex H H1 h h1) {b:Addr} {ob:Obj} (q:h.get? b=some ob) (n:H b=none) (hx:b ∉ ex):∃ sl,h1.get? b=some { ob with slots:=sl }:=by
 by_cases hb:b∈fs
 ·exact u.slot b ob q n hb hx
 ·exact ⟨ob.slots,u.keep b ob q n hb hx⟩
theorem Un.kept (k:∀ b u,h.get? b=some u→h'.get? b=some u):Un fs ex H H h h' :=
 ⟨fun b ob q _ _ _=>k b ob q,fun b ob q _ _ _=>⟨ob.slots,k b ob q⟩,fun _ _ _ n _=>n,fun b ob q _=>⟨ob,k b ob q⟩,fun _ _ q=>q,fun _ _ _ q=>q,fun _ ps q=>⟨#[],by rw [q];simp⟩⟩
theorem Un.refl:Un fs ex H H h h:=Un.kept fun _ _ q=>q
theorem Un.laid (k:∀ b u,h.get? b=some u→h'.get? b=some u) (hp:h.objs.size≤a) (hn:H a=none):Un fs ex H (upd H a o) h h' where
 keep:=fun b u q _ _ _=>k b u q
 slot:=fun b u q _ _ _=>⟨u.slots,k b u q⟩
 free:=fun b u q n _=>by rw [dw (Nat.ne_of_lt (Nat.lt_of_lt_of_le (Heap.lt_size q) hp))];exact n
 there:=fun b u q _=>⟨u,k b u q⟩
 tups:=fun b xs q=>by rw [dw (d8 q hn)];exact q
 frzs:=fun b u xs q=>by rw [dw (d8 q hn)];exact q
 tbls:=fun b ps q=>⟨#[],by rw [dw (d8 q hn),q];simp⟩
theorem Un.write (mu:Mut (H x)) (he:e=x∨H e=some (.own x)) (k:∀ b u,b≠e→h.get? b=some u→h'.get? b=some u) (heo:∃ u,h'.get? e=some u):Un fs ex H (upd H x o) h h':=by
 have hx:∀ b,H b=none→b≠x:=fun b n z=>by subst z;rw [n] at mu;exact mu
 have hb:∀ b,H b=none→b≠e:=fun b n z=>by
  subst z
  rcases he with r | r
  ·exact hx b n r
  ·rw [n] at r;cases r
 have hm:∀ b u,H b=some u→¬ Mut (some u)→b≠x:=fun b u q nm z=>by subst z;rw [q] at mu;exact nm mu
 refine ⟨fun b u q n _ _=>k b u (hb b n) q,fun b u q n _ _=>⟨u.slots,k b u (hb b n) q⟩,fun b u q n _=>by rw [dw (hx b n)];exact n,fun b u q _=>?_,
  fun b xs q=>by rw [dw (hm b _ q fun z=>z)];exact q,fun b u xs q=>by rw [dw (hm b _ q fun z=>z)];exact q,fun b ps q=>⟨#[],by rw [dw (hm b _ q fun z=>z),q];simp⟩⟩
 by_cases hbe:b=e
 ·subst hbe;exact heo
 ·exact ⟨u,k b u hbe q⟩
end
def trk (h:Heap) (H:Hp):List Addr:=(List.range h.objs.size).filter fun a=>(H a).isSome
def aik (h:Heap) (H:Hp):Heap:=PySem.W.hideAll h (trk h H)
theorem aev (h:Heap) (H:Hp):(aik h H).objs.size=h.objs.size:=PySem.W.hideAll_size _ _
theorem ail {h:Heap} {H:Hp} {b:Addr} {o:Obj} (e:h.get? b=some o) (n:H b=none):(aik h H).get? b=some o :=
 PySem.W.hideAll_get _ e fun hm=>by
  have q:(H b).isSome=true:=(List.mem_filter.mp hm).2
  rw [n] at q;simp at q
theorem amh {h:Heap} {H:Hp} {b:Addr} {o:Obj} (e:(aik h H).get? b=some o):h.get? b=some o∧H b=none:=by
 have e':h.get? b=some o:=PySem.W.of_hideAll (trk h H) e
 refine ⟨e',?_⟩
 cases q:H b with
 | none=>rfl
 | some x =>
  have hm:b∈trk h H:=List.mem_filter.mpr ⟨List.mem_range.mpr (Heap.lt_size e'),by simp [q]⟩
  have z:(aik h H).get? b=none:=PySem.W.hideAll_none (trk h H) hm
  rw [z] at e;cases e
end L2
namespace L2
open PySem PySem.Spec PyProof.Rows
structure Mod (K:PySem.W.Frag) (mg:Str→Option Value) (base:Heap):Prop where
 kin:K.In base
 glob:base.Ns mainGlobals mg
 blt:∃ mb,base.Ns builtinsNs mb∧∀ x:Str,x ≠ "__name__"→mb x=bootBuiltins x
 nolimit:base.NoLimit
structure Cx where
 prog:Program
 w:World
 K:PySem.W.Frag
 mg:Str→Option Value
 base:Heap
 A:Around
 N:List Str
 s₀:Shared
 H₀:Hp
 env:Env
 outer:List Env
 stack:List Env
 ex:List Addr
 fn:Str→Bool
 calm:Bool
 pn:List (Addr × Obj)
 xe:Value→Shared→Prop
def frs (l:List Env):List Addr:=l.filterMap (·.frame)
abbrev Cx.fs (X:Cx):List Addr:=frs X.outer
def Vis (sc:Scope) (x:Str):Prop:=sc.names.lookup x=some .local∨sc.names.lookup x=some .cell∨sc.names.lookup x=some .free
def Loc (sc:Scope) (x:Str):Prop:=sc.names.lookup x=some .local∨sc.names.lookup x=some .cell
def Look (env:Env) (h:Heap) (m:Str→Option Value) (x:Str) (u:Value):Prop :=
 (env.kindOf x=some .local∧m x=some u)∨((env.kindOf x=some .cell∨env.kindOf x=some .free)∧∃ c,env.cells.lookup x=some c∧h.IsCell c (some u))
structure Cx.Ok (X:Cx):Prop where
 mod:Mod X.K X.mg X.base
 kind:X.env.scope.kind = .function
 glob:X.env.globals=mainGlobals
 blt:X.env.builtins=builtinsNs
 above:X.s₀.heap.objs.size≤X.env.locals
 inj:∀ x y c,X.env.cells.lookup x=some c→X.env.cells.lookup y=some c→x=y
 has:∀ x,(X.env.kindOf x=some .cell∨X.env.kindOf x=some .free)→∃ c,X.env.cells.lookup x=some c
 cab:∀ x c,X.fn x=true→X.env.cells.lookup x=some c→X.s₀.heap.objs.size≤c
 hd:X.calm=true→X.A.handled=none
 frames:X.A.frames=some X.stack
 stk:X.stack=X.outer∨(X.stack=X.env::X.outer∧X.env.frame=some X.env.locals)
 exf:∀ b∈X.ex,b≠X.env.locals∧∀ x c,X.env.cells.lookup x=some c→c≠b
 bs:∀ b o,X.base.get? b=some o→X.s₀.heap.get? b=some o∧X.H₀ b=none
 bsz:X.base.objs.size≤X.s₀.heap.objs.size
 noex:∀ b o,X.base.get? b=some o→b ∉ X.ex
 exfs:∀ b∈X.ex,b ∉ X.fs
 funs:X.s₀.heap.FunFrames X.base X.outer
 frf:∀ b∈X.fs,X.H₀ b=none
structure Inv (X:Cx) (pins:List (Addr × Obj)) (σ:List (Option V)) (H:Hp) (s:Shared):Prop where
 ok:X.Ok
 os:s.os=X.s₀.os
 bare:AllBare s.gens
 base:Un X.fs X.ex X.H₀ H X.s₀.heap s.heap
 loc:∃ m,s.heap.Ns X.env.locals m∧∀ (i:Nat) (x:Str) (v:V),X.N[i]? = some x→σ[i]? = some (some v)→Vis X.env.scope x→∃ u,RelV v u∧Look X.env s.heap m x u
 cell:∀ x c,X.env.cells.lookup x=some c→∃ v,s.heap.IsCell c v
 free:H X.env.locals=none
 freeC:∀ x c,X.env.cells.lookup x=some c→H c=none
 pin:∀ p∈X.pn++pins,s.heap.get? p.1=some p.2∧H p.1=none∧p.1≠X.env.locals∧p.1 ∉ X.fs∧∀ v,p.2.data≠.cell v
 hok:HOk X.prog X.w H s.heap
 len:σ.length=X.N.length
section
variable {X:Cx} {pins:List (Addr × Obj)} {σ:List (Option V)} {H H':Hp} {s:Shared} {h':Heap}
theorem Cx.Ok.nofr (ok:X.Ok) {b:Addr} {o:Obj} (e:X.base.get? b=some o):b ∉ X.fs:=fun hb=>by
 have:=(ok.funs.mem hb).1
 rw [e] at this;cases this
theorem Inv.bs (I:Inv X pins σ H s):∀ b o,X.base.get? b=some o→s.heap.get? b=some o∧H b=none:=fun b o e =>
 ⟨I.base.keep b o (I.ok.bs b o e).1 (I.ok.bs b o e).2 (I.ok.nofr e) (I.ok.noex b o e),I.base.free b o (I.ok.bs b o e).1 (I.ok.bs b o e).2 (I.ok.noex b o e)⟩
theorem Inv.bk (I:Inv X pins σ H s):∀ b o,X.base.get? b=some o→s.heap.get? b=some o:=fun b o e=>(I.bs b o e).1
theorem Inv.mod (I:Inv X pins σ H s):Mod X.K X.mg X.base:=I.ok.mod
theorem Inv.kIn (I:Inv X pins σ H s):X.K.In s.heap:=I.ok.mod.kin.keeps I.bk
theorem Inv.fr (I:Inv X pins σ H s):∃ m,Fr X.base X.env.locals s.heap m :=
 let ⟨m,hn,_⟩:=I.loc
 ⟨m,hn,I.bk,Nat.le_trans I.ok.bsz I.ok.above⟩
theorem Inv.lt (I:Inv X pins σ H s):X.env.locals<s.heap.objs.size:=let ⟨_,hn,_⟩:=I.loc;hn.lt
theorem Inv.sz (I:Inv X pins σ H s):X.s₀.heap.objs.size≤s.heap.objs.size:=Nat.le_trans I.ok.above (Nat.le_of_lt I.lt)
theorem Inv.nofs (I:Inv X pins σ H s) {a:Addr} (h:s.heap.objs.size≤a):a ∉ X.fs:=fun hb=>by
 obtain ⟨_,o,ho,_⟩:=I.ok.funs.mem hb
 exact absurd (Nat.lt_of_lt_of_le (Heap.lt_size ho) (Nat.le_trans I.sz h)) (Nat.lt_irrefl _)
theorem Inv.cne (I:Inv X pins σ H s):∀ x c,X.env.cells.lookup x=some c→c≠X.env.locals:=fun x c e z=>by
 obtain ⟨v,o,ho,hd⟩:=I.cell x c e
 obtain ⟨m,⟨o',es,ep,ho',hd',_⟩,_⟩:=I.loc
 rw [z,ho'] at ho;cases ho;rw [hd'] at hd;cases hd
theorem Inv.funs (I:Inv X pins σ H s):s.heap.FunFrames X.base X.outer:=by
 have all:∀ (l:List Env),(∀ b∈frs l,b∈X.fs)→X.s₀.heap.FunFrames X.base l→s.heap.FunFrames X.base l:=by
  intro l
  induction l with
  | nil=>intro _ _;trivial
  | cons env r ih =>
   intro hs hl
   obtain ⟨hk,⟨L,o,hf,hn,ho,hd⟩,hr⟩:=hl
   have hL:L∈X.fs:=hs L (by unfold frs;rw [List.filterMap_cons,hf];exact List.mem_cons_self)
   obtain ⟨sl,e⟩:=I.base.slot L o ho (I.ok.frf L hL) hL fun z=>I.ok.exfs L z hL
   exact ⟨hk,⟨L,_,hf,hn,e,hd⟩,ih (fun b hb=>hs b (by unfold frs;rw [List.filterMap_cons,hf];exact List.mem_cons_of_mem _ hb)) hr⟩
 exact all X.outer (fun _ hb=>hb) I.ok.funs
theorem Inv.stack (I:Inv X pins σ H s):s.heap.FunFrames X.base X.stack:=by
 rcases I.ok.stk with e | ⟨e,hf⟩
 ·rw [e];exact I.funs
 ·rw [e]
  obtain ⟨m,hn,_⟩:=I.loc
  refine .cons (by rw [I.ok.kind];decide) hf hn ?_ I.funs
  exact Heap.get?_none_of_le (Nat.le_trans I.ok.bsz I.ok.above)
theorem Inv.stkSub (I:Inv X pins σ H s):∀ b∈frs X.stack,b∈X.env.locals::X.fs:=fun b hb=>by
 rcases I.ok.stk with e | ⟨e,hf⟩
 ·rw [e] at hb;exact List.mem_cons_of_mem _ hb
 ·rw [e] at hb
  unfold frs at hb
  rw [List.filterMap_cons,hf] at hb
  exact hb
theorem Inv.stkFree (I:Inv X pins σ H s):∀ b∈frs X.stack,H b=none:=fun b hb=>by
 rcases List.mem_cons.mp (I.stkSub b hb) with e | hb
 ·rw [e];exact I.free
 ·obtain ⟨_,o,ho,_⟩:=I.ok.funs.mem hb
  exact I.base.free b o ho (I.ok.frf b hb) fun z=>I.ok.exfs b z hb
theorem Inv.step {g':Array GenState} {t':Nat} {d':Drawn} {ch:List Addr} (I:Inv X pins σ H s)
  (hch:∀ b∈ch,(b∈X.ex∨X.s₀.heap.objs.size≤b)∧b≠X.env.locals∧(∀ x c,X.env.cells.lookup x=some c→c≠b)∧∀ p∈X.pn++pins,p.1≠b)
  (keep:∀ b o,b≠X.env.locals→b ∉ X.fs→b ∉ ch→s.heap.get? b=some o→H b=none→h'.get? b=some o)
  (slot:∀ b o,b≠X.env.locals→b∈X.fs→b ∉ ch→s.heap.get? b=some o→H b=none→∃ sl,h'.get? b=some { o with slots:=sl }) (free:∀ b o,b ∉ ch→s.heap.get? b=some o→H b=none→H' b=none)
  (there:∀ b o,b ∉ ch→s.heap.get? b=some o→∃ o',h'.get? b=some o')
  (tups:∀ b xs,H b=some (.tup xs)→H' b=some (.tup xs)) (frzs:∀ b o u,H b=some (.frz o u)→H' b=some (.frz o u)) (tbls:∀ b ps,H b=some (.tbl ps)→∃ more,H' b=some (.tbl (ps++more)))
  (ns:∀ m,s.heap.Ns X.env.locals m→h'.Ns X.env.locals m) (hok:HOk X.prog X.w H' h') (hg:AllBare g') :
  Inv X pins σ H' { s with heap:=h',gens:=g',drawn:=d',toks:=t' }:=by
 have neL:∀ b o,X.s₀.heap.get? b=some o→b≠X.env.locals:=fun b o e=>Nat.ne_of_lt (Nat.lt_of_lt_of_le (Heap.lt_size e) I.ok.above)
 have neC:∀ b o,X.s₀.heap.get? b=some o→b ∉ X.ex→b ∉ ch:=fun b o e hx hb=>by
  rcases (hch b hb).1 with z | z
  ·exact hx z
  ·exact absurd (Nat.lt_of_lt_of_le (Heap.lt_size e) z) (Nat.lt_irrefl _)
 have cellK:∀ x c,X.env.cells.lookup x=some c→∀ v,s.heap.IsCell c v→h'.IsCell c v:=fun x c e v ⟨o,ho,hd⟩=>by
  have nch:c ∉ ch:=fun z=>(hch c z).2.2.1 x c e rfl
  by_cases hc:c∈X.fs
  ·obtain ⟨sl,q⟩:=slot c o (I.cne x c e) hc nch ho (I.freeC x c e)
   exact ⟨_,q,hd⟩
  ·exact ⟨o,keep c o (I.cne x c e) hc nch ho (I.freeC x c e),hd⟩
 refine ⟨I.ok,I.os,hg,⟨fun b o e n hb hx=>?_,fun b o e n hb hx=>?_,fun b o e n hx=>?_,fun b o e hx=>?_,fun b xs e=>tups b xs (I.base.tups b xs e),fun b o xs e=>frzs b o xs (I.base.frzs b o xs e),fun b ps e=>?_⟩,?_,fun x c e=>?_,?_,fun x c e=>?_,fun p hp=>?_,hok,I.len⟩
 ·exact keep b o (neL b o e) hb (neC b o e hx) (I.base.keep b o e n hb hx) (I.base.free b o e n hx)
 ·obtain ⟨sl,e1⟩:=I.base.slot b o e n hb hx
  obtain ⟨sl',e2⟩:=slot b _ (neL b o e) hb (neC b o e hx) e1 (I.base.free b o e n hx)
  exact ⟨sl',e2⟩
 ·obtain ⟨o',e1⟩:=I.base.there b o e hx
  exact free b o' (neC b o e hx) e1 (I.base.free b o e n hx)
 ·obtain ⟨o',e1⟩:=I.base.there b o e hx
  exact there b o' (neC b o e hx) e1
 ·obtain ⟨m1,e1⟩:=I.base.tbls b ps e
  obtain ⟨m2,e2⟩:=tbls b _ e1
  exact ⟨m1++m2,by rw [e2,Array.append_assoc]⟩
 ·obtain ⟨m,hn,hl⟩:=I.loc
  refine ⟨m,ns m hn,fun i x v e1 e2 e3=>?_⟩
  obtain ⟨u,r,l⟩:=hl i x v e1 e2 e3
  refine ⟨u,r,?_⟩
  rcases l with l | ⟨k,c,e,z⟩
  ·exact .inl l
  ·exact .inr ⟨k,c,e,cellK x c e _ z⟩
 ·obtain ⟨v,z⟩:=I.cell x c e
  exact ⟨v,cellK x c e v z⟩
 ·obtain ⟨m,⟨o,_,_,ho,_⟩,_⟩:=I.loc
  exact free _ o (fun z=>(hch _ z).2.1 rfl) ho I.free
 ·obtain ⟨v,o,ho,hd⟩:=I.cell x c e
  exact free c o (fun z=>(hch c z).2.2.1 x c e rfl) ho (I.freeC x c e)
 ·obtain ⟨e,n,ne,nf,d⟩:=I.pin p hp
  have nch:p.1 ∉ ch:=fun z=>(hch p.1 z).2.2.2 p hp rfl
  exact ⟨keep p.1 p.2 ne nf nch e n,free p.1 p.2 nch e n,ne,nf,d⟩
theorem Inv.un {t':Nat} (I:Inv X pins σ H s) (u:Un X.fs [] H H' s.heap h') (hok:HOk X.prog X.w H' h'):Inv X pins σ H' { s with heap:=h',toks:=t' }:=by
 obtain ⟨m,⟨o,es,ep,ho,r⟩,_⟩:=id I.loc
 obtain ⟨sl,hL⟩:=u.any ho I.free (by simp)
 exact I.step (g':=s.gens) (d':=s.drawn) (ch:=[]) (fun _ z=>nomatch z) (fun b o _ hb _ e n=>u.keep b o e n hb (by simp)) (fun b o _ hb _ e n=>u.slot b o e n hb (by simp)) (fun b o _ e n=>u.free b o e n (by simp)) (fun b o _ e=>u.there b o e (by simp)) u.tups u.frzs u.tbls (fun m' hm=>by
  obtain ⟨o',es',ep',ho',r'⟩:=hm
  rw [ho] at ho';cases ho'
  exact ⟨_,es',ep',hL,r'⟩) hok I.bare
theorem Inv.call {g':Array GenState} {t':Nat} {d':Drawn} {ch:List Addr} (I:Inv X pins σ H s) (u:Un (frs X.stack) ch H H' s.heap h') (hok:HOk X.prog X.w H' h') (hg:AllBare g')
  (hch:∀ b∈ch,(b∈X.ex∨X.s₀.heap.objs.size≤b)∧b≠X.env.locals∧(∀ x c,X.env.cells.lookup x=some c→c≠b)∧∀ p∈X.pn++pins,p.1≠b) :
  Inv X pins σ H' { s with heap:=h',gens:=g',drawn:=d',toks:=t' }:=by
 obtain ⟨m,⟨o,es,ep,ho,r⟩,_⟩:=id I.loc
 obtain ⟨sl,hL⟩:=u.any ho I.free fun z=>(hch _ z).2.1 rfl
 exact I.step (ch:=ch) hch (fun b o hL hb hc e n=>u.keep b o e n (fun z=>(List.mem_cons.mp (I.stkSub b z)).elim hL hb) hc) (fun b o _ _ hc e n=>u.any e n hc) (fun b o hc e n=>u.free b o e n hc) (fun b o hc e=>u.there b o e hc) u.tups u.frzs u.tbls (fun m' hm=>by
  obtain ⟨o',es',ep',ho',r'⟩:=hm
  rw [ho] at ho';cases ho'
  exact ⟨_,es',ep',hL,r'⟩) hok hg
theorem Inv.turned {t':Nat} {it:Addr} (I:Inv X pins σ H s) (k:∀ b o,b≠it→s.heap.get? b=some o→h'.get? b=some o) (hn:H it=none) (hL:it≠X.env.locals)
  (h1:it∈X.ex∨X.s₀.heap.objs.size≤it) (h2:∀ x c,X.env.cells.lookup x=some c→c≠it) (h3:∀ p∈X.pn++pins,p.1≠it):Inv X pins σ H { s with heap:=h',toks:=t' }:=by
 have nit:∀ b u,H b=some u→b≠it:=fun b u e z=>by rw [z,hn] at e;cases e
 refine I.step (g':=s.gens) (d':=s.drawn) (ch:=[it]) (fun b hb=>?_) (fun b o _ _ hc e _=>k b o (fun z=>hc (by simp [z])) e) (fun b o _ _ hc e _=>⟨o.slots,k b o (fun z=>hc (by simp [z])) e⟩) (fun _ _ _ _ n=>n)
  (fun b o hc e=>⟨o,k b o (fun z=>hc (by simp [z])) e⟩) (fun _ _ e=>e) (fun _ _ _ e=>e) (fun b ps e=>⟨#[],by rw [e];simp⟩) (fun m hm=>?_) (fun b u e=>?_) I.bare
 ·have e:b=it:=by simpa using hb
  subst e
  exact ⟨h1,hL,h2,h3⟩
 ·obtain ⟨o,es,ep,ho,r⟩:=hm
  exact ⟨o,es,ep,k _ o (Ne.symm hL) ho,r⟩
 ·refine (I.hok b u e).stay (fun c v hc q=>k c v ?_ q) (fun _ q=>q) fun _ _ q=>q
  rcases hc with z | z
  ·rw [z];exact nit b u e
  ·exact nit c _ z
theorem Inv.tok (I:Inv X pins σ H s) (t:Nat):Inv X pins σ H { s with toks:=t }:=I.un (h':=s.heap) (t':=t) Un.refl I.hok
theorem Inv.kept {t':Nat} (I:Inv X pins σ H s) (k:∀ b u,s.heap.get? b=some u→h'.get? b=some u):Inv X pins σ H { s with heap:=h',toks:=t' }:=I.un (Un.kept k) (I.hok.kept k)
theorem Inv.laid {a:Addr} {o:HO} {t':Nat} (I:Inv X pins σ H s) (k:∀ b u,s.heap.get? b=some u→h'.get? b=some u) (hp:s.heap.objs.size≤a) (new:ObjOk X.prog X.w (upd H a o) h' a o) :
  Inv X pins σ (upd H a o) { s with heap:=h',toks:=t' }:=I.un (Un.laid k hp (I.hok.fresh hp)) (I.hok.laid k hp new)
theorem Inv.write {x e:Addr} {o:HO} {t':Nat} (I:Inv X pins σ H s) (mu:Mut (H x)) (he:e=x∨H e=some (.own x)) (k:∀ b u,b≠e→s.heap.get? b=some u→h'.get? b=some u) (heo:∃ u,h'.get? e=some u)
  (new:ObjOk X.prog X.w (upd H x o) h' x o):Inv X pins σ (upd H x o) { s with heap:=h',toks:=t' }:=I.un (Un.write mu he k heo) (I.hok.write mu he k heo new)
theorem Inv.weak {σ':List (Option V)} (I:Inv X pins σ H s) (hl:σ'.length=σ.length) (w:∀ (i:Nat) v,σ'[i]? = some (some v)→σ[i]? = some (some v)):Inv X pins σ' H s :=
 ⟨I.ok,I.os,I.bare,I.base,let ⟨m,hn,hl'⟩:=I.loc; ⟨m,hn,fun i x v e1 e2 e3=>hl' i x v e1 (w i v e2) e3⟩,I.cell,I.free,I.freeC,I.pin,I.hok,hl.trans I.len⟩
theorem Inv.pins_of {pins':List (Addr × Obj)} (I:Inv X pins σ H s) (h:∀ p∈pins',s.heap.get? p.1=some p.2∧H p.1=none∧p.1≠X.env.locals∧p.1 ∉ X.fs∧∀ v,p.2.data≠.cell v):Inv X pins' σ H s :=
 ⟨I.ok,I.os,I.bare,I.base,I.loc,I.cell,I.free,I.freeC,fun p hp=>(List.mem_append.mp hp).elim (fun z=>I.pin p (List.mem_append_left _ z)) (h p),I.hok,I.len⟩
theorem ab1 {N:List Str} (hN:N.Nodup) {i j:Nat} {x:Str} (a:N[i]? = some x) (b:N[j]? = some x):i=j:=by
 obtain ⟨h1,e1⟩:=List.getElem?_eq_some_iff.mp a
 obtain ⟨h2,e2⟩:=List.getElem?_eq_some_iff.mp b
 exact (List.getElem_inj hN).mp (e1.trans e2.symm)
theorem a89 {M:Model} {A:Around} {E:Value→Shared→Prop} {i:Nat} {x:Str} {v:V} {u:Value} {Q:Unit→Shared→Prop} (I:Inv X pins σ H s) (hN:X.N.Nodup) (hi:X.N[i]? = some x) (hx:Loc X.env.scope x) (r:RelV v u)
  (h:∀ s',Inv X pins (σ.set i (some v)) H s'→(∃ a,Heap.SameBut a s.heap s'.heap∧(a=X.env.locals∨X.env.cells.lookup x=some a))→Q () s') (hf:X.fn x=true∨X.env.scope.names.lookup x=some .local:=by first | exact .inl rfl | exact .inr rfl | assumption):wpAny M A (storeName X.env x u) Q E s:=by
 obtain ⟨m,hn,hl⟩:=id I.loc
 have hcls:(X.env.scope.kind == .class || (X.env.scope.kind == .module && X.env.locals != X.env.globals))=false:=by rw [I.ok.kind];rfl
 have hiσ:i<σ.length:=by rw [I.len];exact (List.getElem?_eq_some_iff.mp hi).1
 have cne:=I.cne
 have tracked:∀ {a:Addr} {h':Heap},(∃ o,s.heap.get? a=some o∧H a=none)→Heap.SameBut a s.heap h'→HOk X.prog X.w H h':=fun {a h'} ha hs b ob e=>by
  obtain ⟨_,_,hfree⟩:=ha
  refine (I.hok b ob e).stay (fun c w' hc q=>(hs.2 c ?_).trans q) (fun _ q=>q) fun _ _ q=>q
  rintro rfl
  rcases hc with rfl | hc
  ·rw [hfree] at e;cases e
  ·rw [hfree] at hc;cases hc
 rcases hx with hk | hk
 ·refine wpAny_storeName_local hk hn (fun h' hn' hs=>?_) hcls
  obtain ⟨oL,_,_,hoL,_⟩:=id hn
  refine h _ ⟨I.ok,I.os,I.bare,⟨fun b o e n hb hx=>?_,fun b o e n hb hx=>?_,I.base.free,fun b o e hx=>?_,I.base.tups,I.base.frzs,I.base.tbls⟩,⟨_,hn',fun j y v' e1 e2 e3=>?_⟩,fun y c e=>?_,I.free,I.freeC,fun p hp=>?_,tracked ⟨oL,hoL,I.free⟩ hs,by simpa using I.len⟩ ⟨_,hs, .inl rfl⟩
  ·exact (hs.2 b (Nat.ne_of_lt (Nat.lt_of_lt_of_le (Heap.lt_size e) I.ok.above))).trans (I.base.keep b o e n hb hx)
  ·obtain ⟨sl,e1⟩:=I.base.slot b o e n hb hx
   exact ⟨sl,(hs.2 b (Nat.ne_of_lt (Nat.lt_of_lt_of_le (Heap.lt_size e) I.ok.above))).trans e1⟩
  ·obtain ⟨o',e1⟩:=I.base.there b o e hx
   exact ⟨o',(hs.2 b (Nat.ne_of_lt (Nat.lt_of_lt_of_le (Heap.lt_size e) I.ok.above))).trans e1⟩
  ·by_cases hj:j=i
   ·subst hj
    rw [hi] at e1;cases e1
    rw [List.getElem?_set_self hiσ] at e2
    cases e2
    exact ⟨u,r, .inl ⟨hk,by simp⟩⟩
   ·rw [List.getElem?_set_ne (Ne.symm hj)] at e2
    obtain ⟨u',r',q⟩:=hl j y v' e1 e2 e3
    refine ⟨u',r',?_⟩
    rcases q with ⟨k,e⟩ | ⟨k,c,e,z⟩
    ·refine .inl ⟨k,?_⟩
     have:y≠x:=fun e=>hj (ab1 hN e1 (e ▸ hi))
     simp [this,e]
    ·exact .inr ⟨k,c,e,z.sameBut hs (cne y c e)⟩
  ·obtain ⟨w',z⟩:=I.cell y c e
   exact ⟨w',z.sameBut hs (cne y c e)⟩
  ·obtain ⟨e,n,ne,nf,d⟩:=I.pin p hp
   exact ⟨(hs.2 p.1 ne).trans e,n,ne,nf,d⟩
 ·have hfn:X.fn x=true:=by
   rcases hf with z | z
   ·exact z
   ·rw [z] at hk;cases hk
  obtain ⟨c,hc⟩:=I.ok.has x (.inl hk)
  obtain ⟨w',z⟩:=I.cell x c hc
  refine wpAny_storeName_cell I.ok.kind hk hc z (fun h' hc' hs=>?_)
  obtain ⟨oc,hoc,hocd⟩:=id z
  refine h { s with heap:=h' } ⟨I.ok,I.os,I.bare,⟨fun b o e n hb hx=>?_,fun b o e n hb hx=>?_,I.base.free,fun b o e hx=>?_,I.base.tups,I.base.frzs,I.base.tbls⟩,⟨m,hn.sameBut hs (Ne.symm (cne x c hc)),fun j y v' e1 e2 e3=>?_⟩,fun y c' e=>?_,I.free,I.freeC,fun p hp=>?_,tracked ⟨oc,hoc,I.freeC x c hc⟩ hs,by simpa using I.len⟩ ⟨c,hs, .inr hc⟩
  ·exact (hs.2 b (Nat.ne_of_lt (Nat.lt_of_lt_of_le (Heap.lt_size e) (I.ok.cab x c hfn hc)))).trans (I.base.keep b o e n hb hx)
  ·obtain ⟨sl,e1⟩:=I.base.slot b o e n hb hx
   exact ⟨sl,(hs.2 b (Nat.ne_of_lt (Nat.lt_of_lt_of_le (Heap.lt_size e) (I.ok.cab x c hfn hc)))).trans e1⟩
  ·obtain ⟨o',e1⟩:=I.base.there b o e hx
   exact ⟨o',(hs.2 b (Nat.ne_of_lt (Nat.lt_of_lt_of_le (Heap.lt_size e) (I.ok.cab x c hfn hc)))).trans e1⟩
  ·by_cases hj:j=i
   ·subst hj
    rw [hi] at e1;cases e1
    rw [List.getElem?_set_self hiσ] at e2
    cases e2
    exact ⟨u,r, .inr ⟨.inl hk,c,hc,hc'⟩⟩
   ·rw [List.getElem?_set_ne (Ne.symm hj)] at e2
    obtain ⟨u',r',q⟩:=hl j y v' e1 e2 e3
    refine ⟨u',r',?_⟩
    rcases q with q | ⟨k,c',e,z'⟩
    ·exact .inl q
    ·refine .inr ⟨k,c',e,z'.sameBut hs ?_⟩
     rintro rfl
     exact hj (ab1 hN e1 (I.ok.inj _ _ _ e hc ▸ hi))
  ·by_cases hcc:c'=c
   ·subst hcc;exact ⟨_,hc'⟩
   ·obtain ⟨w2,z2⟩:=I.cell y c' e
    exact ⟨w2,z2.sameBut hs hcc⟩
  ·obtain ⟨e,n,ne,nf,d⟩:=I.pin p hp
   refine ⟨(hs.2 p.1 ?_).trans e,n,ne,nf,d⟩
   intro q
   rw [q,hoc] at e
   have q':oc=p.2:=Option.some.inj e
   exact d w' (by rw [← q'];exact hocd)
theorem a6u {M:Model} {A:Around} {E:Value→Shared→Prop} {i:Nat} {x:Str} {v:V} {u:Value} {Q:Unit→Shared→Prop} (I:Inv X pins σ H s) (hN:X.N.Nodup) (hi:X.N[i]? = some x) (hx:Loc X.env.scope x) (r:RelV v u)
  (h:∀ s',Inv X pins (σ.set i (some v)) H s'→Q () s') (hf:X.fn x=true∨X.env.scope.names.lookup x=some .local:=by first | exact .inl rfl | exact .inr rfl | assumption):wpAny M A (storeName X.env x u) Q E s :=
 a89 I hN hi hx r (fun s' I' _=>h s' I') hf
end
abbrev XK:=Value→Option Addr→Hp→Prop
abbrev St:=List (Option V)
abbrev VK:=V→Hp→Prop
abbrev TE:=St→Hp→VK→Prop
abbrev TT:=St→Hp→(Bool→Hp→Prop)→Prop
abbrev TA:=St→Hp→(List V→Hp→Prop)→Prop
structure Ends where
 nx:St→Hp→Prop
 rt:VK
 bk:St→Hp→Prop:=fun _ _=>False
 ct:St→Hp→Prop:=fun _ _=>False
abbrev TS:=Ends→St→Hp→Prop
def EP (X:Cx) (pins:List (Addr × Obj)) (σ:St) (Q:VK) (u:Value) (s':Shared):Prop:=∃ v H',Inv X pins σ H' s'∧RelV v u∧Q v H'
def TP (X:Cx) (pins:List (Addr × Obj)) (σ:St) (Q:Bool→Hp→Prop) (b:Bool) (s':Shared):Prop:=∃ H',Inv X pins σ H' s'∧Q b H'
def AP (X:Cx) (pins:List (Addr × Obj)) (σ:St) (Q:List V→Hp→Prop) (us:List Value) (s':Shared):Prop:=∃ vs H',Inv X pins σ H' s'∧Vals vs us∧Q vs H'
def SP (X:Cx) (pins:List (Addr × Obj)) (D:Ends) (f:Flow) (s':Shared):Prop :=
 match f with
 | .next=>∃ σ' H',Inv X pins σ' H' s'∧D.nx σ' H'
 | .brk=>∃ σ' H',Inv X pins σ' H' s'∧D.bk σ' H'
 | .cont=>∃ σ' H',Inv X pins σ' H' s'∧D.ct σ' H'
 | .ret u=>∃ v σ' H',Inv X pins σ' H' s'∧RelV v u∧D.rt v H'
def PE (X:Cx) (e:Expr) (t:TE):Prop :=
 ∀ (pins:List (Addr × Obj)) (s:Shared) (σ:St) (H:Hp) (Q:VK),Inv X pins σ H s→t σ H Q→wpAny (model X.prog X.w) X.A (eval e X.env) (EP X pins σ Q) X.xe s
def PT (X:Cx) (e:Expr) (t:TT):Prop :=
 ∀ (pins:List (Addr × Obj)) (s:Shared) (σ:St) (H:Hp) (Q:Bool→Hp→Prop),Inv X pins σ H s→t σ H Q→wpAny (model X.prog X.w) X.A (isTrue e X.env (eval e X.env)) (TP X pins σ Q) X.xe s
def PW (X:Cx) (e:Expr) (t:TT):Prop :=
 ∀ (whole:Sem Value) (pins:List (Addr × Obj)) (s:Shared) (σ:St) (H:Hp) (Q:Bool→Hp→Prop),Inv X pins σ H s→t σ H Q→wpAny (model X.prog X.w) X.A (isTrue e X.env whole) (TP X pins σ Q) X.xe s
theorem PW.pt {X:Cx} {e:Expr} {t:TT} (h:PW X e t):PT X e t:=h _
def PA (X:Cx) (es:List Expr) (t:TA):Prop :=
 ∀ (pos:Pos) (pins:List (Addr × Obj)) (s:Shared) (σ:St) (H:Hp) (Q:List V→Hp→Prop),Inv X pins σ H s→t σ H Q→wpAny (model X.prog X.w) X.A (spliced (backTo pos (starEach es X.env))) (AP X pins σ Q) X.xe s
def PS (X:Cx) (st:Stmt) (t:TS):Prop :=
 ∀ (pins:List (Addr × Obj)) (s:Shared) (σ:St) (H:Hp) (D:Ends),Inv X pins σ H s→t D σ H→wpAny (model X.prog X.w) X.A (exec st X.env) (SP X pins D) X.xe s
def PSs (X:Cx) (st:List Stmt) (t:TS):Prop :=
 ∀ (pins:List (Addr × Obj)) (s:Shared) (σ:St) (H:Hp) (D:Ends),Inv X pins σ H s→t D σ H→wpAny (model X.prog X.w) X.A (execs st X.env) (SP X pins D) X.xe s
theorem thn {α:Type} {t:Sem α} {Q Q':α→Shared→Prop} {M:Model} {A:Around} {E:Value→Shared→Prop} {s:Shared} (h:wpAny M A t Q E s) (hQ:∀ a s,Q a s→Q' a s):wpAny M A t Q' E s:=wpAny_mono h hQ fun _ _ x=>x
end L2
namespace L2
open PySem PySem.Spec PyProof.Rows
section
variable {X:Cx}
def axl (i:Nat):TE:=fun σ H Q=>∃ v,σ[i]? = some (some v)∧Q v H
def tC (v:V):TE:=fun _ H Q=>Q v H
theorem aq6 {i:Nat} {x:Str} {pos:Pos} (hN:X.N[i]? = some x) (hv:Vis X.env.scope x) (hd:(x == ("__debug__" : Str))=false:=by decide) (hcd:(x == ("__classdict__" : Str))=false:=by decide):PE X (.Name x pos) (axl i):=by
 intro pins s σ H Q I h
 obtain ⟨v,e,h⟩:=h
 obtain ⟨m,hn,hl⟩:=I.loc
 obtain ⟨u,r,l⟩:=hl i x v hN e hv
 have fin:EP X pins σ Q u s:=⟨v,H,I,r,h⟩
 rcases l with ⟨hk,hm⟩ | ⟨hk,c,hc,hcell⟩
 ·exact wpAny_Name (wpAny_loadName_local I.ok.kind hk hn hm fin) hd
 ·rcases hk with hk | hk
  ·exact wpAny_Name (wpAny_loadName_cell I.ok.kind hk hc hcell fin) hd
  ·exact wpAny_Name (wpAny_loadName_free I.ok.kind hk hc hcell fin hcd) hd
theorem aq7 {i j pos}:PE X (.Constant (.int i) j pos) (tC (.int i)):=fun _ _ _ H _ I h=>wpAny_Constant_int ⟨.int i,H,I.tok _,⟨_,rfl⟩,h⟩
theorem aus {b j pos}:PE X (.Constant (.bool b) j pos) (tC (.bl b)):=fun _ _ _ H _ I h=>Constant_bool ⟨.bl b,H,I,rfl,h⟩
theorem aq8 {j pos}:PE X (.Constant .none j pos) (tC .non):=fun _ _ _ H _ I h=>Constant_none ⟨.non,H,I,rfl,h⟩
theorem aq9 {x j pos}:PE X (.Constant (.str x) j pos) (tC (.str x)):=fun _ _ _ H _ I h=>Calls.Constant_str ⟨.str x,H,I.tok _,⟨_,rfl⟩,h⟩
def Gl (X:Cx) (x:Str):Prop:=X.env.kindOf x=some .globalImplicit
theorem aew {E:Value→Shared→Prop} {pins:List (Addr × Obj)} {s:Shared} {σ:St} {H:Hp} {x:Str} {u:Value} {pos:Pos} {Q:Value→Shared→Prop} (I:Inv X pins σ H s) (hg:Gl X x) (hm:X.mg x=some u) (h:Q u s)
  (hd:(x == ("__debug__" : Str))=false:=by decide):wpAny (model X.prog X.w) X.A (eval (.Name x pos) X.env) Q E s :=
 Calls.Name_function_global I.ok.kind hg (Calls.loadGlobal_global (by rw [I.ok.glob];exact I.mod.glob.keeps I.bk) hm h) hd
theorem a4d {E:Value→Shared→Prop} {pins:List (Addr × Obj)} {s:Shared} {σ:St} {H:Hp} {x:Str} {u:Value} {pos:Pos} {Q:Value→Shared→Prop} (I:Inv X pins σ H s) (hg:Gl X x) (hm:X.mg x=none) (hv:bootBuiltins x=some u) (h:Q u s)
  (hn:x ≠ "__name__":=by decide) (hd:(x == ("__debug__" : Str))=false:=by decide):wpAny (model X.prog X.w) X.A (eval (.Name x pos) X.env) Q E s:=by
 obtain ⟨mb,h1,h2⟩:=I.mod.blt
 exact Calls.Name_function_global I.ok.kind hg (Calls.loadGlobal_builtin (by rw [I.ok.glob];exact I.mod.glob.keeps I.bk) hm (by rw [I.ok.blt];exact h1.keeps I.bk) ((h2 x hn).trans hv) h) hd
theorem ami {x:Str} {v:V} {u:Value} {pos:Pos} (hg:Gl X x) (hm:X.mg x=none) (hv:bootBuiltins x=some u) (r:RelV v u) (hn:x ≠ "__name__":=by decide) (hd:(x == ("__debug__" : Str))=false:=by decide):PE X (.Name x pos) (tC v) :=
 fun _ _ _ H _ I h=>a4d I hg hm hv ⟨v,H,I,r,h⟩ hn hd
variable {a b:Expr} {ta tb:TE} {pos:Pos}
variable {tA tB':TT} {rest:List Expr}
def axm (t u:TT):TT:=fun σ H Q=>t σ H fun c H1=>if c=true then u σ H1 Q else Q false H1
def tOr (t u:TT):TT:=fun σ H Q=>t σ H fun c H1=>if c=true then Q true H1 else u σ H1 Q
def axn (t:TT):TT:=fun σ H Q=>t σ H fun c H1=>Q (!c) H1
theorem amj (ha:PT X a tA):PW X (.BoolOp .And [a] pos) tA:=by
 intro wh pins s σ H Q I h
 refine isTrue_and (thn (ha pins s σ H Q I h) fun c s1 e=>?_)
 cases c with
 | true=>exact isTrue_and_nil e
 | false=>exact e
theorem aqa (ha:PT X a tA):PW X (.BoolOp .Or [a] pos) tA:=by
 intro wh pins s σ H Q I h
 refine isTrue_or (thn (ha pins s σ H Q I h) fun c s1 e=>?_)
 cases c with
 | false=>exact isTrue_or_nil e
 | true=>exact e
theorem aqb (ha:PT X a tA) (hb:PW X (.BoolOp .And (b::rest) pos) tB'):PW X (.BoolOp .And (a::b::rest) pos) (axm tA tB'):=by
 intro wh pins s σ H Q I h
 refine isTrue_and (thn (ha pins s σ H _ I h) fun c s1 ⟨H1,I1,q1⟩=>?_)
 cases c with
 | true=>exact hb wh pins s1 σ H1 Q I1 q1
 | false=>exact ⟨H1,I1,q1⟩
theorem aut (ha:PT X a tA) (hb:PW X (.BoolOp .Or (b::rest) pos) tB'):PW X (.BoolOp .Or (a::b::rest) pos) (tOr tA tB'):=by
 intro wh pins s σ H Q I h
 refine isTrue_or (thn (ha pins s σ H _ I h) fun c s1 ⟨H1,I1,q1⟩=>?_)
 cases c with
 | true=>exact ⟨H1,I1,q1⟩
 | false=>exact hb wh pins s1 σ H1 Q I1 q1
theorem aqc (ha:PT X a tA):PT X (.UnaryOp .Not a pos) (axn tA):=by
 intro pins s σ H Q I h
 exact isTrue_not (ha pins s σ H (fun c H1=>Q (!c) H1) I h)
def auu (ta tb:TE):TE:=fun σ H Q=>ta σ H fun x H1=>∃ c,x = .bl c∧if c=true then tb σ H1 Q else Q (.bl false) H1
def auv (ta:TE):TE:=fun σ H Q=>ta σ H fun x H1=>∃ c,x = .bl c∧Q (.bl (!c)) H1
theorem aqd {op} {t:TE} (h:PE X a t):PE X (.BoolOp op [a] pos) t:=fun pins s σ H Q I hw=>BoolOp_one (h pins s σ H Q I hw)
theorem aqe (ha:PE X a ta) (hb:PE X (.BoolOp .And (b::rest) pos) tb):PE X (.BoolOp .And (a::b::rest) pos) (auu ta tb):=by
 intro pins s σ H Q I h
 refine BoolOp_and (thn (ha pins s σ H _ I h) fun v s1 ⟨x,H1,I1,r1,q1⟩=>?_)
 obtain ⟨c,rfl,q1⟩:=q1
 cases r1
 refine wpAny_truthy_bool ?_
 cases c with
 | true=>exact hb pins s1 σ H1 Q I1 q1
 | false=>exact ⟨.bl false,H1,I1,rfl,q1⟩
theorem aqf (ha:PE X a ta):PE X (.UnaryOp .Not a pos) (auv ta):=by
 intro pins s σ H Q I h
 refine UnaryOp_ (thn (ha pins s σ H _ I h) fun v s1 ⟨x,H1,I1,r1,q1⟩=>?_)
 obtain ⟨c,rfl,q1⟩:=q1
 cases r1
 exact not_of (wpAny_truthy_bool ⟨.bl (!c),H1,I1,rfl,q1⟩)
def tIf (t:TT) (ta tb:TE):TE:=fun σ H Q=>t σ H fun c H1=>if c=true then ta σ H1 Q else tb σ H1 Q
theorem aim {c:Expr} (hc:PT X c tA) (ha:PE X a ta) (hb:PE X b tb):PE X (.IfExp c a b pos) (tIf tA ta tb):=by
 intro pins s σ H Q I h
 refine wpAny_IfExp (thn (hc pins s σ H _ I h) fun d s1 ⟨H1,I1,q1⟩=>?_)
 cases d with
 | true=>exact ha pins s1 σ H1 Q I1 q1
 | false=>exact hb pins s1 σ H1 Q I1 q1
end
end L2
namespace L2
open PySem PySem.Spec PyProof.Rows
def SqL (K:PySem.W.Frag) (H:Hp) (a:Addr) (xs:List V):Prop :=
 Rd H a (.lst xs) ∨
  ∃ (o:Obj) (its:Array Value) (n:Nat),K.lookup a=some o∧o.cls = .type "list"∧o.dict=none∧o.data = .seq its n∧its.size≤sizeLine∧Vals xs its.toList
def SqT (K:PySem.W.Frag) (H:Hp) (a:Addr) (xs:List V):Prop :=
 Rd H a (.tup xs) ∨
  ∃ (o:Obj) (its:Array Value) (n:Nat),K.lookup a=some o∧o.cls = .type "tuple"∧o.data = .seq its n∧its.size≤sizeLine∧Vals xs its.toList
def axo:Value→Option V
 | .none=>some .non
 | .bool b=>some (.bl b)
 | .int i _=>some (.int i)
 | .str x _=>some (.str x)
 | .bytes b _=>some (.byt b)
 | .float b _=>some (.flt b)
 | .ref a=>some (.ref a)
 | .type n=>some (.ty n)
 | _=>none
theorem RelV.abs {x:V} {u:Value} (r:RelV x u):axo u=some x:=by
 cases x with
 | non=>cases r;rfl
 | bl _=>cases r;rfl
 | int _=>obtain ⟨t,rfl⟩:=r;rfl
 | str _=>obtain ⟨t,rfl⟩:=r;rfl
 | byt _=>obtain ⟨t,rfl⟩:=r;rfl
 | flt _=>obtain ⟨t,rfl⟩:=r;rfl
 | ref _=>cases r;rfl
 | ty _=>cases r;rfl
theorem RelV.inj {x y:V} {u:Value} (r:RelV x u) (q:RelV y u):x=y:=Option.some.inj (r.abs.symm.trans q.abs)
theorem Vals.inj:∀ {xs ys:List V} {us:List Value},Vals xs us→Vals ys us→xs=ys
 | _,_,_, .nil, .nil=>rfl
 | _,_,_, .cons r t, .cons r' t'=>by rw [r.inj r',Vals.inj t t']
section
variable {X:Cx} {pins:List (Addr × Obj)} {σ:St} {H:Hp} {s:Shared} {a:Addr} {xs ys:List V}
theorem SqL.of {K:PySem.W.Frag} (h:H a=some (.lst xs)):SqL K H a xs:=.inl (.inl h)
theorem SqT.of {K:PySem.W.Frag} (h:H a=some (.tup xs)):SqT K H a xs:=.inl (.inl h)
theorem Inv.list (I:Inv X pins σ H s) (h:SqL X.K H a xs):∃ its:List Value,Vals xs its∧PlainL s.heap a its.toArray∧xs.length≤sizeLine:=by
 rcases h with h | ⟨o,its,n,hk,hc,hd,hs,hz,r⟩
 ·obtain ⟨z,its,n,r,e⟩:=h.ok I.hok
  exact ⟨its,r,⟨_,n,e,rfl,rfl,rfl⟩,z⟩
 ·refine ⟨its.toList,r,⟨o,n,I.kIn a o hk,hc,hd,by simpa using hs⟩,?_⟩
  have e:=r.length
  simp only [Array.length_toList] at e
  omega
theorem Inv.tuple (I:Inv X pins σ H s) (h:SqT X.K H a xs):∃ its:List Value,Vals xs its∧IsTup s.heap a its.toArray∧xs.length≤sizeLine:=by
 rcases h with h | ⟨o,its,n,hk,hc,hs,hz,r⟩
 ·obtain ⟨z,its,r,p⟩:=h.ok I.hok
  exact ⟨its,r,p,z⟩
 ·refine ⟨its.toList,r,⟨o,I.kIn a o hk,hc,n,by simpa using hs⟩,?_⟩
  have e:=r.length
  simp only [Array.length_toList] at e
  omega
theorem Inv.list_inj (I:Inv X pins σ H s) (h:SqL X.K H a xs) (h':SqL X.K H a ys):xs=ys:=by
 obtain ⟨its,r,⟨o,n,e,_,_,d⟩,_⟩:=I.list h
 obtain ⟨its',r',⟨o',n',e',_,_,d'⟩,_⟩:=I.list h'
 rw [e] at e';cases e'
 rw [d] at d'
 injection d' with d1 _
 have:its=its':=by simpa using congrArg Array.toList d1
 subst this
 exact r.inj r'
theorem Inv.tuple_inj (I:Inv X pins σ H s) (h:SqT X.K H a xs) (h':SqT X.K H a ys):xs=ys:=by
 obtain ⟨its,r,⟨o,e,_,n,d⟩,_⟩:=I.tuple h
 obtain ⟨its',r',⟨o',e',_,n',d'⟩,_⟩:=I.tuple h'
 rw [e] at e';cases e'
 rw [d] at d'
 injection d' with d1 _
 have:its=its':=by simpa using congrArg Array.toList d1
 subst this
 exact r.inj r'
end
abbrev Cx.wish (X:Cx) (E:Value→Shared→Prop):Cx:={ X with xe:=E }
abbrev Cx.nox (X:Cx):Cx:=X.wish fun _ _=>False
theorem Cx.Ok.wish {X:Cx} (ok:X.Ok) (E:Value→Shared→Prop):(X.wish E).Ok :=
 ⟨ok.mod,ok.kind,ok.glob,ok.blt,ok.above,ok.inj,ok.has,ok.cab,ok.hd,ok.frames,ok.stk,ok.exf,ok.bs,ok.bsz,ok.noex,ok.exfs,ok.funs,ok.frf⟩
theorem Cx.Ok.unwish {X:Cx} {E:Value→Shared→Prop} (ok:(X.wish E).Ok):X.Ok :=
 ⟨ok.mod,ok.kind,ok.glob,ok.blt,ok.above,ok.inj,ok.has,ok.cab,ok.hd,ok.frames,ok.stk,ok.exf,ok.bs,ok.bsz,ok.noex,ok.exfs,ok.funs,ok.frf⟩
section
variable {X:Cx} {pins:List (Addr × Obj)} {σ:St} {H:Hp} {s:Shared} {E:Value→Shared→Prop}
theorem Inv.wish (I:Inv X pins σ H s) (E:Value→Shared→Prop):Inv (X.wish E) pins σ H s:=⟨I.ok.wish E,I.os,I.bare,I.base,I.loc,I.cell,I.free,I.freeC,I.pin,I.hok,I.len⟩
theorem Inv.unwish (I:Inv (X.wish E) pins σ H s):Inv X pins σ H s:=⟨I.ok.unwish,I.os,I.bare,I.base,I.loc,I.cell,I.free,I.freeC,I.pin,I.hok,I.len⟩
theorem SP.unwish {D:Ends} {f:Flow} {s':Shared} (h:SP (X.wish E) pins D f s'):SP X pins D f s':=by
 cases f with
 | next=>obtain ⟨σ',H',I,q⟩:=h;exact ⟨σ',H',I.unwish,q⟩
 | brk=>obtain ⟨σ',H',I,q⟩:=h;exact ⟨σ',H',I.unwish,q⟩
 | cont=>obtain ⟨σ',H',I,q⟩:=h;exact ⟨σ',H',I.unwish,q⟩
 | ret u=>obtain ⟨v,σ',H',I,r,q⟩:=h;exact ⟨v,σ',H',I.unwish,r,q⟩
theorem PSs.nox {st:List Stmt} {t:TS} (h:PSs X.nox st t):PSs X st t:=fun pins s σ H D I hw =>
 wpAny_mono (h pins s σ H D (I.wish _) hw) (fun _ _ q=>q.unwish) fun _ _ z=>False.elim z
end
section
variable {X:Cx} {st:Stmt} {rest:List Stmt} {t u:TS} {e:Expr} {te:TE} {pos:Pos}
def auw:TS:=fun D σ H=>D.nx σ H
def axp (t u:TS):TS:=fun D σ H=>t { D with nx:=u D } σ H
theorem amk:PSs X [] auw:=fun _ _ σ H _ I h=>wpAny_execs_nil ⟨σ,H,I,h⟩
theorem ain (h1:PS X st t) (h2:PSs X rest u):PSs X (st::rest) (axp t u):=by
 intro pins s σ H D I h
 refine wpAny_execs_cons (thn (h1 pins s σ H { D with nx:=u D } I h) fun f s1 q=>?_)
 cases f with
 | next =>
  obtain ⟨σ',H',I',q⟩:=q
  exact h2 pins s1 σ' H' D I' q
 | ret v=>exact q
 | brk=>exact q
 | cont=>exact q
theorem aml (h1:PS X st t):PSs X [st] t:=by
 intro pins s σ H D I h
 refine wpAny_execs_cons (thn (h1 pins s σ H D I h) fun f s1 q=>?_)
 cases f with
 | next=>exact wpAny_execs_nil q
 | ret v=>exact q
 | brk=>exact q
 | cont=>exact q
theorem Inv.quiet {pins:List (Addr × Obj)} {σ:St} {H:Hp} {s:Shared} (I:Inv X pins σ H s):interactive X.env=false:=by simp [interactive,I.ok.kind]
def auy (te:TE):TS:=fun D σ H=>te σ H fun _ H1=>D.nx σ H1
theorem amm (he:PE X e te) (hs:swapsWith e none pos.line X.env=pure false:=by rfl):PS X (.Expr e pos) (auy te):=by
 intro pins s σ H D I h
 exact wpAny_Expr_any (thn (he pins s σ H _ I h) fun v s1 ⟨x,H1,I1,r1,q1⟩=>⟨σ,H1,I1,q1⟩) I.quiet hs
def axq (te:TE):TS:=fun D σ H=>te σ H D.rt
theorem aqg (he:PE X e te):PS X (.Return (some e) pos) (axq te):=by
 intro pins s σ H D I h
 exact wpAny_Return_some (thn (he pins s σ H _ I h) fun v s1 ⟨x,H1,I1,r1,q1⟩=>⟨x,σ,H1,I1,r1,q1⟩)
def axr (c:TT) (t u:TS):TS:=fun D σ H=>c σ H fun b H1=>if b=true then t D σ H1 else u D σ H1
theorem auz {c:Expr} {a b:List Stmt} {tc:TT} (hc:PT X c tc) (ha:PSs X a t) (hb:PSs X b u):PS X (.If c a b pos) (axr tc t u):=by
 intro pins s σ H D I h
 refine wpAny_If (thn (hc pins s σ H _ I h) fun d s1 ⟨H1,I1,q1⟩=>?_)
 cases d with
 | true=>exact ha pins s1 σ H1 D I1 q1
 | false=>exact hb pins s1 σ H1 D I1 q1
end
abbrev TG:=V→St→Hp→(St→Hp→Prop)→Prop
abbrev TGs:=List V→St→Hp→(St→Hp→Prop)→Prop
def PG (X:Cx) (target:Expr) (t:TG):Prop :=
 ∀ (pins:List (Addr × Obj)) (s:Shared) (σ:St) (H:Hp) (v:V) (u:Value) (Q:St→Hp→Prop),Inv X pins σ H s→RelV v u→t v σ H Q →
  wpAny (model X.prog X.w) X.A (assign target X.env u) (fun _ s'=>∃ σ' H',Inv X pins σ' H' s'∧Q σ' H') X.xe s
def PGs (X:Cx) (ts:List Expr) (t:TGs):Prop :=
 ∀ (pins:List (Addr × Obj)) (s:Shared) (σ:St) (H:Hp) (vs:List V) (us:List Value) (Q:St→Hp→Prop),Inv X pins σ H s→Vals vs us→t vs σ H Q →
  wpAny (model X.prog X.w) X.A (assignInOrder ((assignEach ts X.env).map (·.2)) us) (fun _ s'=>∃ σ' H',Inv X pins σ' H' s'∧Q σ' H') X.xe s
abbrev av0:=V→V→V→Hp→(Hp→Prop)→Prop
def awj (X:Cx) (t:av0):Prop :=
 ∀ (pins:List (Addr × Obj)) (s:Shared) (σ:St) (H:Hp) (o i v:V) (ov iv u:Value) (Q:Hp→Prop),Inv X pins σ H s→RelV o ov→RelV i iv→RelV v u→t o i v H Q →
  wpAny (model X.prog X.w) X.A (setItem ov iv u) (fun _ s'=>∃ H',Inv X pins σ H' s'∧Q H') X.xe s
abbrev TIp:=V→V→Hp→VK→Prop
def PIp (X:Cx) (op:Operator) (t:TIp):Prop :=
 ∀ (pins:List (Addr × Obj)) (s:Shared) (σ:St) (H:Hp) (x y:V) (v u:Value) (Q:VK),Inv X pins σ H s→RelV x v→RelV y u→t x y H Q →
  wpAny (model X.prog X.w) X.A (inplaceOp op v u) (EP X pins σ Q) X.xe s
section
variable {X:Cx} {pos:Pos}
def a1c (i:Nat):TG:=fun v σ H Q=>Q (σ.set i (some v)) H
theorem jj {i:Nat} {x:Str} (hN:X.N.Nodup) (hi:X.N[i]? = some x) (hx:Loc X.env.scope x) (hf:X.fn x=true∨X.env.scope.names.lookup x=some .local:=by first | exact .inl rfl | exact .inr rfl | assumption):PG X (.Name x pos) (a1c i):=by
 intro pins s σ H v u Q I r h
 exact wpAny_assign_Name (a6u I hN hi hx r (fun s' I'=>⟨_,H,I',h⟩) hf)
def av1:TGs:=fun vs σ H Q=>vs=[]∧Q σ H
def a9s (t:TG) (u:TGs):TGs:=fun vs σ H Q=>∃ v r,vs=v::r∧t v σ H fun σ' H'=>u r σ' H' Q
theorem a9t:PGs X [] av1:=by
 intro pins s σ H vs us Q I r h
 obtain ⟨e,h⟩:=h
 subst e
 cases r
 exact assignInOrder_nil ⟨σ,H,I,h⟩
theorem a0u {e:Expr} {es:List Expr} {t:TG} {u:TGs} (h1:PG X e t) (h2:PGs X es u)
  (hs:(assignEach (e::es) X.env).map (·.2)=assign e X.env::(assignEach es X.env).map (·.2):=by rfl):PGs X (e::es) (a9s t u):=by
 intro pins s σ H vs us Q I r h
 obtain ⟨v,vr,e1,h⟩:=h
 subst e1
 cases r with
 | cons r rr =>
  rw [hs]
  refine assignInOrder_cons (thn (h1 pins s σ H _ _ _ I r h) fun _ s1 ⟨σ1,H1,I1,q1⟩=>?_)
  exact h2 pins s1 σ1 H1 _ _ Q I1 rr q1
def yc (K:PySem.W.Frag) (n:Nat) (t:TGs):TG:=fun v σ H Q=>∃ a xs,v = .ref a∧SqT K H a xs∧xs.length=n∧t xs σ H Q
theorem aex {es:List Expr} {k:Nat} {t:TGs} {n:Nat} (hc:X.calm=true) (h:PGs X es t)
  (hn:(assignEach es X.env).length=n:=by rfl) (hst:(assignEach es X.env).findIdx? (·.1)=none:=by rfl):PG X (.Tuple es k pos) (yc X.K n t):=by
 intro pins s σ H v u Q I r hw
 obtain ⟨a,xs,e1,hq,hl,hw⟩:=hw
 subst e1
 cases r
 obtain ⟨its,rv,ht,hz⟩:=I.tuple hq
 refine assign_Tuple_tuple (I.ok.hd hc) ht (by simp [hn,← hl,rv.length]) hst fun h' hx=>?_
 have I1:Inv X pins σ H { s with heap:=h' }:=I.kept (t':=s.toks) fun b o e=>hx b o (Nat.ne_of_lt (Heap.lt_size e)) e
 exact h pins _ σ H xs _ Q I1 (by simpa using rv) hw
def ab2 (to ti:TE) (t:av0):TG:=fun v σ H Q=>to σ H fun o H1=>ti σ H1 fun i H2=>t o i v H2 fun H3=>Q σ H3
theorem aqh {o i:Expr} {to ti:TE} {t:av0} (ho:PE X o to) (hi:PE X i ti) (hs:awj X t)
  (ha:∀ v,assign (.Subscript o i pos) X.env v=(do
   let ov ← holding [v] (eval o X.env)
   let iv ← holding [v,ov] (eval i X.env)
   standAt pos
   holding [v,ov,iv] (setItem ov iv v)
   release [v,ov,iv] []):=by intro _;rfl):PG X (.Subscript o i pos) (ab2 to ti t):=by
 intro pins s σ H v u Q I r h
 rw [ha]
 refine wpAny_bind (wpAny_holding (thn (ho pins s σ H _ I h) fun ov s1 ⟨x,H1,I1,r1,q1⟩=>?_))
 refine wpAny_bind (wpAny_holding (thn (hi pins s1 σ H1 _ I1 q1) fun iv s2 ⟨y,H2,I2,r2,q2⟩=>?_))
 refine wpAny_bind (wpAny_standAt (wpAny_bind (wpAny_holding (thn (hs pins s2 σ H2 x y v ov iv u _ I2 r1 r2 r q2) fun _ s3 ⟨H3,I3,q3⟩=>?_))))
 exact wpAny_release ⟨σ,H3,I3,q3⟩
def auj (te:TE) (g:TG):TS:=fun D σ H=>te σ H fun x H1=>g x σ H1 D.nx
theorem aky {tg e:Expr} {te:TE} {g:TG} (he:PE X e te) (hg:PG X tg g) (hs:swapsWithSole [tg] e pos.line X.env=pure false:=by rfl) (hw:swappedStores [tg] e X.env=pure none:=by rfl)
  (h1:(assignEach [tg] X.env).map (·.2)=[assign tg X.env]:=by rfl):PS X (.Assign [tg] e pos) (auj te g):=by
 intro pins s σ H D I h
 refine wpAny_Assign_stores (thn (he pins s σ H _ I h) fun v s1 ⟨x,H1,I1,r1,q1⟩=>?_) hs hw
 rw [h1]
 exact thn (hg pins s1 σ H1 x v _ I1 r1 q1) fun _ s2 q=>q
theorem aqi {i:Nat} {x:Str} {e:Expr} {te:TE} {pos':Pos} (hN:X.N.Nodup) (hi:X.N[i]? = some x) (hx:Loc X.env.scope x) (he:PE X e te) (hs:swapsWith e (some (.Name x pos')) pos.line X.env=pure false:=by rfl) (hf:X.fn x=true∨X.env.scope.names.lookup x=some .local:=by first | exact .inl rfl | exact .inr rfl | assumption) :
  PS X (.Assign [.Name x pos'] e pos) (auj te (a1c i)):=by
 intro pins s σ H D I h
 refine wpAny_Assign_Name (thn (he pins s σ H _ I h) fun v s1 ⟨y,H1,I1,r1,q1⟩=>?_) hs
 exact a6u I1 hN hi hx r1 (fun s2 I2=>⟨_,H1,I2,q1⟩) hf
def axs (i:Nat) (te:TE) (ti:TIp):TS:=fun D σ H=>∃ x,σ[i]? = some (some x)∧te σ H fun y H1=>ti x y H1 fun z H2=>D.nx (σ.set i (some z)) H2
theorem aqj {i:Nat} {x:Str} {e:Expr} {te:TE} {op:Operator} {ti:TIp} {pos':Pos} (hN:X.N.Nodup) (hi:X.N[i]? = some x) (hx:Loc X.env.scope x) (he:PE X e te) (ho:PIp X op ti) (hf:X.fn x=true∨X.env.scope.names.lookup x=some .local:=by first | exact .inl rfl | exact .inr rfl | assumption) :
  PS X (.AugAssign (.Name x pos') op e pos) (axs i te ti):=by
 intro pins s σ H D I h
 obtain ⟨v,e1,h⟩:=h
 obtain ⟨m,hn,hl⟩:=I.loc
 have vis:Vis X.env.scope x:=by rcases hx with k | k;exact .inl k;exact .inr (.inl k)
 obtain ⟨u,r,l⟩:=hl i x v hi e1 vis
 refine wpAny_AugAssign_Name ?_
 have go:wpAny (model X.prog X.w) X.A (eval e X.env) (fun w s₂=>wpAny (model X.prog X.w) X.A (inplaceOp op u w) (fun r s₃=>wpAny (model X.prog X.w) X.A (storeName X.env x r) (fun _=>SP X pins D .next) X.xe s₃) X.xe s₂) X.xe s:=by
  refine thn (he pins s σ H _ I h) fun w s1 ⟨y,H1,I1,r1,q1⟩=>?_
  refine thn (ho pins s1 σ H1 v y u w _ I1 r r1 q1) fun z s2 ⟨zv,H2,I2,r2,q2⟩=>?_
  exact a6u I2 hN hi hx r2 (fun s3 I3=>⟨_,H2,I3,q2⟩) hf
 rcases l with ⟨hk,hm⟩ | ⟨hk,c,hc,hcell⟩
 ·exact wpAny_loadName_local I.ok.kind hk hn hm go
 ·rcases hk with hk | hk
  ·exact wpAny_loadName_cell I.ok.kind hk hc hcell go
  ·rcases hx with k | k
   ·have:X.env.scope.names.lookup x=some .free:=hk
    rw [k] at this;cases this
   ·have:X.env.scope.names.lookup x=some .free:=hk
    rw [k] at this;cases this
end
section
variable {X:Cx} {pos:Pos}
def aqk (c:TT) (tb:TS):TS:=fun D σ H=>∃ W:Nat→St→Hp→Prop,(∃ m,W m σ H)∧∀ m σ H,W m σ H →
 c σ H fun b H1=>if b=true then ∃ N:St→Hp→Prop,(∀ σ' H',N σ' H'→∃ m',m'<m∧W m' σ' H')∧tb { D with nx:=N,ct:=N,bk:=D.nx } σ H1 else D.nx σ H1
theorem aio {c:Expr} {body:List Stmt} {tc:TT} {tb:TS} (hp:PassesOwn (model X.prog X.w) X.A X.env X.xe) (hc:PT X c tc) (hb:PSs X body tb):PS X (.While c body [] pos) (aqk tc tb):=by
 intro pins s σ H D I h
 obtain ⟨W,⟨m0,w0⟩,turn⟩:=h
 refine wpAny_While (codeAny_whileLoop (fun n s'=>∃ σ' H',Inv X pins σ' H' s'∧W n σ' H') ?_ m0 ⟨σ,H,I,w0⟩)
 rintro n s1 ⟨σ1,H1,I1,w1⟩
 refine wpAny_passesOwn hp (thn (hc pins s1 σ1 H1 _ I1 (turn n σ1 H1 w1)) fun b s2 ⟨H2,I2,q2⟩=>?_)
 cases b with
 | true =>
  obtain ⟨N,hN,q2⟩:=q2
  rw [if_pos rfl]
  refine wpAny_passesOwn hp (thn (hb pins s2 σ1 H2 _ I2 q2) fun f s3 q3=>?_)
  cases f with
  | next =>
   obtain ⟨σ3,H3,I3,n3⟩:=q3
   obtain ⟨m',hm,w3⟩:=hN σ3 H3 n3
   exact ⟨m',hm,σ3,H3,I3,w3⟩
  | cont =>
   obtain ⟨σ3,H3,I3,n3⟩:=q3
   obtain ⟨m',hm,w3⟩:=hN σ3 H3 n3
   exact ⟨m',hm,σ3,H3,I3,w3⟩
  | brk=>exact q3
  | ret v=>exact q3
 | false =>
  rw [if_neg Bool.false_ne_true]
  exact wpAny_execs_nil ⟨σ1,H2,I2,q2⟩
end
structure It where
 go:Nat→Hp→Prop
 yld:Nat→Hp→V→Hp→Prop
 stop:Nat→Hp→Prop
def FpOk (X:Cx) (pins:List (Addr × Obj)) (H:Hp) (b:Addr):Prop :=
 H b=none∧b≠X.env.locals∧b ∉ X.fs∧(b∈X.ex∨X.s₀.heap.objs.size≤b)∧(∀ x c,X.env.cells.lookup x=some c→c≠b)∧∀ p∈X.pn++pins,p.1≠b
theorem Inv.fpOk {X:Cx} {pins:List (Addr × Obj)} {σ:St} {H H':Hp} {s:Shared} {b:Addr} (I:Inv X pins σ H s) (hb:s.heap.objs.size≤b) (hn:H' b=none):FpOk X pins H' b:=by
 refine ⟨hn,Nat.ne_of_gt (Nat.lt_of_lt_of_le I.lt hb),I.nofs hb, .inr (Nat.le_trans I.sz hb),fun x c e z=>?_,fun p hp z=>?_⟩
 ·obtain ⟨v,q⟩:=I.cell x c e
  exact absurd (Nat.lt_of_lt_of_le q.lt (by rw [z];exact hb)) (Nat.lt_irrefl _)
 ·exact absurd (Nat.lt_of_lt_of_le (Heap.lt_size (I.pin p hp).1) (by rw [z];exact hb)) (Nat.lt_irrefl _)
structure Turn (P:Program) (w:World) (K:PySem.W.Frag) (tg:Expr) (J:It) (fp:List Addr) (it:Addr) (tn:Nat→Heap→Prop):Prop where
 mem:it∈fp
 obj:∀ i h,tn i h→∀ b∈fp,∃ o,h.get? b=some o∧∀ v,o.data≠.cell v
 keep:∀ i h h',tn i h→(∀ b∈fp,∀ o,h.get? b=some o→h'.get? b=some o)→tn i h'
 item:∀ (X:Cx),X.prog=P→X.w=w→X.K=K→X.calm=true→∀ (i:Nat) (pins:List (Addr × Obj)) (s:Shared) (σ:St) (H:Hp) (E:Value→Shared→Prop),Inv X pins σ H s→(∀ b∈fp,FpOk X pins H b)→tn i s.heap→J.go i H →
  wpAny (model P w) X.A (pyNext (.ref it)) (fun r s1=>∃ u,r=some u ∧
   wpAny (model P w) X.A (letOwnedTupleGo tg (.ref it) u) (fun _ s2=>∃ x H',Inv X pins σ H' s2∧RelV x u∧J.yld i H x H'∧tn (i+1) s2.heap∧∀ b∈fp,H' b=none) E s1) E s
 done:∀ (X:Cx),X.prog=P→X.w=w→X.K=K→X.calm=true→∀ (i:Nat) (pins:List (Addr × Obj)) (s:Shared) (σ:St) (H:Hp) (E:Value→Shared→Prop),Inv X pins σ H s→(∀ b∈fp,FpOk X pins H b)→tn i s.heap→J.stop i H →
  wpAny (model P w) X.A (pyNext (.ref it)) (fun r s1=>r=none∧Inv X pins σ H s1) E s
 self:∀ (A:Around) (i:Nat) (s:Shared) (Q:Value→Shared→Prop) (E:Value→Shared→Prop),tn i s.heap→Q (.ref it) s→wpAny (model P w) A (pyIter (.ref it)) Q E s
abbrev TI:=St→Hp→(It→Hp→Prop)→Prop
def PIE (X:Cx) (pins:List (Addr × Obj)) (σ:St) (tg:Expr) (R:It→Hp→Prop) (itv:Value) (s2:Shared):Prop :=
 ∃ (it:Addr) (fp:List Addr) (tn:Nat→Heap→Prop) (J:It) (H':Hp),itv = .ref it∧Inv X pins σ H' s2∧Turn X.prog X.w X.K tg J fp it tn∧tn 0 s2.heap∧(∀ b∈fp,FpOk X pins H' b)∧R J H'
def PI (X:Cx) (tg iter:Expr) (wi:TI):Prop :=
 ∀ (pins:List (Addr × Obj)) (s:Shared) (σ:St) (H:Hp) (R:It→Hp→Prop),Inv X pins σ H s→wi σ H R →
  wpAny (model X.prog X.w) X.A (eval iter X.env) (fun v s1=>wpAny (model X.prog X.w) X.A (pyIter v) (PIE X pins σ tg R) X.xe s1) X.xe s
theorem aip {M:Model} {A:Around} {E:Value→Shared→Prop} {s:Shared} {tg:Expr} {it:Addr} {u:Value} {o:Obj} {n:String} {vs:Array Value} {Q:Unit→Shared→Prop} (ho:s.heap.get? it=some o) (hc:o.cls = .type n) (hd:o.data = .fields vs)
  (hn:["enumerate", "zip", "dict_itemiterator", "dict_reverseitemiterator", "odict_iterator", "itertools.zip_longest", "itertools.pairwise"].contains n=false) (hQ:Q () s):wpAny M A (letOwnedTupleGo tg (.ref it) u) Q E s:=by
 unfold letOwnedTupleGo
 cases tg<;>first
  | exact wpAny_pure hQ
  | (cases u<;>first
    | exact wpAny_pure hQ
    | (refine wpAny_bind (wpAny_load ho ?_)
       rw [hc,hd]
       show wpAny M A (if (["enumerate", "zip", "dict_itemiterator", "dict_reverseitemiterator", "odict_iterator", "itertools.zip_longest", "itertools.pairwise"].contains n && vs[0]? == some (rawInt _))=true then _ else _) Q E s
       rw [if_neg (by intro h;rw [hn,Bool.false_and] at h;cases h)]
       exact wpAny_pure hQ))
def Itl (K:PySem.W.Frag) (a:Addr):It :=
 ⟨fun i H=>∃ xs x,SqL K H a xs∧xs[i]? = some x,fun i H x H'=>H'=H∧∀ xs,SqL K H a xs→xs[i]? = some x,fun i H=>∃ xs,SqL K H a xs∧xs.length≤i⟩
def Itt (K:PySem.W.Frag) (a:Addr):It :=
 ⟨fun i H=>∃ xs x,SqT K H a xs∧xs[i]? = some x,fun i H x H'=>H'=H∧∀ xs,SqT K H a xs→xs[i]? = some x,fun i H=>∃ xs,SqT K H a xs∧xs.length≤i⟩
def Itr (lo:Int) (n:Nat):It:=⟨fun i _=>i<n,fun i H x H'=>H'=H∧x = .int (lo+i),fun i _=>n≤i⟩
theorem aey {P:Program} {w:World} {K:PySem.W.Frag} {tg:Expr} (a it:Addr):Turn P w K tg (Itl K a) [it] it (fun i h=>h.IsListIter it a i) where
 mem:=by simp
 obj:=fun i h st b hb=>by
  have e:b=it:=by simpa using hb
  subst e
  obtain ⟨o,e,c,d⟩:=st
  exact ⟨o,e,fun v z=>by rw [d] at z;cases z⟩
 keep:=fun i h h' st k=>st.at fun o e=>k it (by simp) o e
 item:=by
  intro X hP hw hK hc i pins s σ H E I hf st hg
  subst hP hw hK
  obtain ⟨xs,x,hq,hx⟩:=hg
  obtain ⟨its,rv,p,hz⟩:=I.list hq
  obtain ⟨u,hu,ru⟩:=rv.get hx
  obtain ⟨f0,f1,f2,f3,f4,f5⟩:=hf it (by simp)
  refine wpAny_pyNext_list_item st p.isList (x:=u) (by simpa using hu) fun h' st' sb=>?_
  have I1:Inv X pins σ H { s with heap:=h' }:=I.turned (t':=s.toks) (fun b o hb e=>(sb.2 b hb).trans e) f0 f1 f3 f4 f5
  obtain ⟨o,e,c,d⟩:=id st'
  exact ⟨u,rfl,aip (s:={ s with heap:=h' }) e c d (by decide) ⟨x,H,I1,ru,⟨rfl,fun ys hy=>by rw [I.list_inj hy hq];exact hx⟩,st',fun b hb=>(hf b hb).1⟩⟩
 done:=by
  intro X hP hw hK hc i pins s σ H E I hf st hg
  subst hP hw hK
  obtain ⟨xs,hq,hx⟩:=hg
  obtain ⟨its,rv,p,hz⟩:=I.list hq
  obtain ⟨f0,f1,f2,f3,f4,f5⟩:=hf it (by simp)
  have hl:=rv.length
  exact wpAny_pyNext_list_end (I.ok.hd hc) st p.isList (by simp;omega) fun h' eb=>⟨rfl,I.turned (t':=s.toks) (fun b o hb e=>eb b o hb e) f0 f1 f3 f4 f5⟩
 self:=fun _ _ _ _ _ st h=>wpAny_pyIter_listiter st h
theorem acy {P:Program} {w:World} {K:PySem.W.Frag} {tg:Expr} (a it:Addr):Turn P w K tg (Itt K a) [it] it (fun i h=>h.IsTupleIter it a i) where
 mem:=by simp
 obj:=fun i h st b hb=>by
  have e:b=it:=by simpa using hb
  subst e
  obtain ⟨o,e,c,d⟩:=st
  exact ⟨o,e,fun v z=>by rw [d] at z;cases z⟩
 keep:=fun i h h' st k=>st.at fun o e=>k it (by simp) o e
 item:=by
  intro X hP hw hK hc i pins s σ H E I hf st hg
  subst hP hw hK
  obtain ⟨xs,x,hq,hx⟩:=hg
  obtain ⟨its,rv,p,hz⟩:=I.tuple hq
  obtain ⟨u,hu,ru⟩:=rv.get hx
  obtain ⟨f0,f1,f2,f3,f4,f5⟩:=hf it (by simp)
  refine wpAny_pyNext_tuple_item st (show s.heap.IsTuple a its.toArray from p) (x:=u) (by simpa using hu) fun h' st' sb=>?_
  have I1:Inv X pins σ H { s with heap:=h' }:=I.turned (t':=s.toks) (fun b o hb e=>(sb.2 b hb).trans e) f0 f1 f3 f4 f5
  obtain ⟨o,e,c,d⟩:=id st'
  exact ⟨u,rfl,aip (s:={ s with heap:=h' }) e c d (by decide) ⟨x,H,I1,ru,⟨rfl,fun ys hy=>by rw [I.tuple_inj hy hq];exact hx⟩,st',fun b hb=>(hf b hb).1⟩⟩
 done:=by
  intro X hP hw hK hc i pins s σ H E I hf st hg
  subst hP hw hK
  obtain ⟨xs,hq,hx⟩:=hg
  obtain ⟨its,rv,p,hz⟩:=I.tuple hq
  obtain ⟨f0,f1,f2,f3,f4,f5⟩:=hf it (by simp)
  have hl:=rv.length
  exact wpAny_pyNext_tuple_end (I.ok.hd hc) st (show s.heap.IsTuple a its.toArray from p) (by simp;omega) fun h' eb=>⟨rfl,I.turned (t':=s.toks) (fun b o hb e=>eb b o hb e) f0 f1 f3 f4 f5⟩
 self:=fun _ _ _ _ _ st h=>wpAny_pyIter_tupleiter st h
theorem acz {P:Program} {w:World} {K:PySem.W.Frag} {tg:Expr} (it:Addr) (lo:Int) (n:Nat):Turn P w K tg (Itr lo n) [it] it (fun i h=>IsRangeIter h it (lo+(i:Nat)*1) ((n:Int) - (i:Nat)) 1) where
 mem:=by simp
 obj:=fun i h st b hb=>by
  have e:b=it:=by simpa using hb
  subst e
  exact ⟨_,st,fun v z=>by
   have z':Data.fields _=Data.cell v:=z
   cases z'⟩
 keep:=fun i h h' st k=>k it (by simp) _ st
 item:=by
  intro X hP hw hK hc i pins s σ H E I hf st hg
  subst hP hw hK
  obtain ⟨f0,f1,f2,f3,f4,f5⟩:=hf it (by simp)
  have W:=Walks.range (prog:=X.prog) (w:=X.w) (I.ok.hd hc) it lo 1 n
  refine W.item i s _ _ hg st fun v h' tk hv st' kk=>?_
  obtain ⟨t,rfl⟩:=hv
  have I1:Inv X pins σ H { s with heap:=h',toks:=tk }:=I.turned (fun b o hb e=>kk b o (by simpa using hb) e) f0 f1 f3 f4 f5
  refine ⟨_,rfl,aip (s:={ s with heap:=h',toks:=tk }) (n := "range_iterator") st' rfl rfl (by decide) ⟨.int (lo+i),H,I1,⟨t,?_⟩,⟨rfl,rfl⟩,st',fun b hb=>(hf b hb).1⟩⟩
  rw [Int.mul_one]
 done:=by
  intro X hP hw hK hc i pins s σ H E I hf st hg
  subst hP hw hK
  obtain ⟨f0,f1,f2,f3,f4,f5⟩:=hf it (by simp)
  exact wpAny_pyNext_range_end (I.ok.hd hc) st (by have:n≤i:=hg;omega) fun h' eb=>⟨rfl,I.turned (t':=s.toks) (fun b o hb e=>eb b o hb e) f0 f1 f3 f4 f5⟩
 self:=fun _ _ _ _ _ st h=>wpAny_pyIter_rangeiter st h
end L2
namespace L2
open PySem PySem.Spec PyProof.Rows
section
variable {X:Cx} {tg:Expr}
def av2 (K:PySem.W.Frag) (tl:TE):TI:=fun σ H R=>tl σ H fun x H1=>∃ a,x = .ref a∧(∃ xs,SqL K H1 a xs)∧R (Itl K a) H1
def axt (K:PySem.W.Frag) (tl:TE):TI:=fun σ H R=>tl σ H fun x H1=>∃ a,x = .ref a∧(∃ xs,SqT K H1 a xs)∧R (Itt K a) H1
theorem aez {l:Expr} {tl:TE} (hl:PE X l tl):PI X tg l (av2 X.K tl):=by
 intro pins s σ H R I h
 refine thn (hl pins s σ H _ I h) fun v s1 ⟨x,H1,I1,r1,q1⟩=>?_
 obtain ⟨a,e,⟨xs,hq⟩,q⟩:=q1
 subst e
 cases r1
 obtain ⟨its,rv,p,hz⟩:=I1.list hq
 refine wpAny_pyIter_list p.isList ?_
 refine ⟨s1.heap.objs.size,[s1.heap.objs.size],_,_,H1,rfl,I1.kept (t':=s1.toks) fun b o e=>Heap.get?_push_of_some _ e,aey a _,⟨_,Heap.get?_push_size _ rfl,rfl,rfl⟩,fun b hb=>?_,q⟩
 have e:b=s1.heap.objs.size:=by simpa using hb
 subst e
 exact I1.fpOk (Nat.le_refl _) (I1.hok.fresh (Nat.le_refl _))
theorem aql {l:Expr} {tl:TE} (hl:PE X l tl):PI X tg l (axt X.K tl):=by
 intro pins s σ H R I h
 refine thn (hl pins s σ H _ I h) fun v s1 ⟨x,H1,I1,r1,q1⟩=>?_
 obtain ⟨a,e,⟨xs,hq⟩,q⟩:=q1
 subst e
 cases r1
 obtain ⟨its,rv,p,hz⟩:=I1.tuple hq
 refine wpAny_pyIter_tuple (show s1.heap.IsTuple a its.toArray from p) ?_
 refine ⟨s1.heap.objs.size,[s1.heap.objs.size],_,_,H1,rfl,I1.kept (t':=s1.toks) fun b o e=>Heap.get?_push_of_some _ e,acy a _,⟨_,Heap.get?_push_size _ rfl,rfl,rfl⟩,fun b hb=>?_,q⟩
 have e:b=s1.heap.objs.size:=by simpa using hb
 subst e
 exact I1.fpOk (Nat.le_refl _) (I1.hok.fresh (Nat.le_refl _))
theorem ab3 {pins:List (Addr × Obj)} {σ:St} {H:Hp} {s:Shared} {R:It→Hp→Prop} {E:Value→Shared→Prop} {lo hi:Int} {t u v:Tok} {tk:Nat} (I:Inv X pins σ H s) (h1 : -(2 ^ 62)≤lo) (h2:lo<2 ^ 62) (h3 : -(2 ^ 62)≤hi) (h4:hi<2 ^ 62)
  (q:R (Itr lo (hi - lo).toNat) H):wpAny (model X.prog X.w) X.A (pyIter (.ref s.heap.objs.size)) (PIE X pins σ tg R) E { s with heap:=s.heap.push { cls:=.type "range",data:=.fields #[.int lo t, .int hi u, .int 1 v] },toks:=tk }:=by
 refine wpAny_pyIter_range (IsRange.new ..) (small_one h1 h2 h3 h4) ?_
 have I1:Inv X pins σ H { s with heap:=s.heap.push { cls:=.type "range",data:=.fields #[.int lo t, .int hi u, .int 1 v] },toks:=tk }:=I.kept fun b o e=>Heap.get?_push_of_some _ e
 refine ⟨(s.heap.push { cls:=.type "range",data:=.fields #[.int lo t, .int hi u, .int 1 v] }).objs.size,[(s.heap.push { cls:=.type "range",data:=.fields #[.int lo t, .int hi u, .int 1 v] }).objs.size],_,_,H,rfl,
  I1.kept (t':=tk) fun b o e=>Heap.get?_push_of_some _ e,acz _ lo (hi - lo).toNat,?_,fun b hb=>?_,q⟩
 ·have e1:lo+((0:Nat):Int)*1=lo:=by simp
  have e2:(((hi - lo).toNat:Nat):Int) - ((0:Nat):Int)=Builtin.Range.rangeSize lo hi 1:=by rw [rangeSize_one];split<;>omega
  show IsRangeIter _ _ (lo+((0:Nat):Int)*1) ((((hi - lo).toNat:Nat):Int) - ((0:Nat):Int)) 1
  rw [e1,e2]
  exact Heap.get?_push_size _ rfl
 ·have e:b=(s.heap.push { cls:=.type "range",data:=.fields #[.int lo t, .int hi u, .int 1 v] }).objs.size:=by simpa using hb
  subst e
  exact I1.fpOk (Nat.le_refl _) (I1.hok.fresh (Nat.le_refl _))
def av3 (ta:TA):TI:=fun σ H R=>ta σ H fun vs H1=>∃ j:Int,vs=[.int j] ∧ -(2 ^ 62)≤j∧j<2 ^ 62∧R (Itr 0 j.toNat) H1
def av4 (ta:TA):TI:=fun σ H R=>ta σ H fun vs H1=>∃ i j:Int,vs=[.int i, .int j]∧(-(2 ^ 62)≤i∧i<2 ^ 62 ∧ -(2 ^ 62)≤j∧j<2 ^ 62)∧R (Itr i (j - i).toNat) H1
theorem af0 {a:Expr} {ta:TA} {p pos:Pos} (hg:Gl X "range") (hm:X.mg "range" = none) (ha:PA X [a] ta) (hs:starEach [a] X.env=[(false,eval a X.env)]:=by rfl):PI X tg (.Call (.Name "range" p) [a] [] pos) (av3 ta):=by
 intro pins s σ H R I h
 refine Call_ (a4d I hg hm boot_range (PyProof.Rows.callWith_type1 (thn (ha pos pins s σ H _ I h) fun us s1 ⟨vs,H1,I1,r1,q1⟩=>?_) hs rfl))
 obtain ⟨j,e,q1,q2,q⟩:=q1
 subst e
 cases r1 with
 | cons r rr =>
  cases rr
  obtain ⟨t,rfl⟩:=r
  exact call_range_1 (ab3 I1 (by omega) (by omega) q1 q2 (by simpa using q))
theorem af1 {a b:Expr} {ta:TA} {p pos:Pos} (hg:Gl X "range") (hm:X.mg "range" = none) (ha:PA X [a,b] ta) (hs:starEach [a,b] X.env=[(false,eval a X.env),(false,eval b X.env)]:=by rfl) (hs2:starEach [b] X.env=[(false,eval b X.env)]:=by rfl) :
  PI X tg (.Call (.Name "range" p) [a,b] [] pos) (av4 ta):=by
 intro pins s σ H R I h
 refine Call_ (a4d I hg hm boot_range (PyProof.Rows.callWith_type1 (thn (ha pos pins s σ H _ I h) fun us s1 ⟨vs,H1,I1,r1,q1⟩=>?_) (by rw [hs,hs2]) (by rw [hs2];rfl)))
 obtain ⟨i,j,e,⟨q1,q2,q3,q4⟩,q⟩:=q1
 subst e
 cases r1 with
 | cons r rr =>
  cases rr with
  | cons r' rr =>
   cases rr
   obtain ⟨t,rfl⟩:=r
   obtain ⟨t',rfl⟩:=r'
   exact call_range_2 (ab3 I1 q1 q2 q3 q4 q)
def axu (wi:TI) (g:TG) (tb:TS):TS:=fun D σ H=>wi σ H fun J H1=>∃ W:Nat→Nat→St→Hp→Prop,(∃ m,W 0 m σ H1)∧∀ i m σ H,W i m σ H →
 (J.stop i H∧D.nx σ H)∨(J.go i H∧∃ N:St→Hp→Prop,(∀ σ' H',N σ' H'→∃ m',m'<m∧W (i+1) m' σ' H')∧∀ x H',J.yld i H x H'→g x σ H' fun σ2 H2=>tb { D with nx:=N,ct:=N,bk:=D.nx } σ2 H2)
def v7 (fp:List Addr) (h:Heap):List (Addr × Obj):=fp.filterMap fun b=>(h.get? b).map fun o=>(b,o)
theorem j4 {fp:List Addr} {h:Heap} {b:Addr} {o:Obj} (hb:b∈fp) (e:h.get? b=some o):(b,o)∈v7 fp h:=List.mem_filterMap.mpr ⟨b,hb,by rw [e];rfl⟩
theorem a8a {fp:List Addr} {h:Heap} {p:Addr × Obj} (hp:p∈v7 fp h):p.1∈fp∧h.get? p.1=some p.2:=by
 obtain ⟨b,hb,e⟩:=List.mem_filterMap.mp hp
 cases q:h.get? b with
 | none=>rw [q] at e;cases e
 | some o =>
  rw [q] at e
  have e':(b,o)=p:=Option.some.inj e
  subst e'
  exact ⟨hb,q⟩
theorem Inv.pinned {pins:List (Addr × Obj)} {σ:St} {H:Hp} {s:Shared} {fp:List Addr} (I:Inv X pins σ H s) (hf:∀ b∈fp,FpOk X pins H b) (ho:∀ b∈fp,∃ o,s.heap.get? b=some o∧∀ v,o.data≠.cell v):Inv X (pins++v7 fp s.heap) σ H s :=
 I.pins_of fun p hp=>(List.mem_append.mp hp).elim (fun z=>I.pin p (List.mem_append_right _ z)) fun z=>by
  obtain ⟨hb,e⟩:=a8a z
  obtain ⟨f0,f1,f2,_⟩:=hf p.1 hb
  obtain ⟨o,e',d⟩:=ho p.1 hb
  rw [e] at e';cases e'
  exact ⟨e,f0,f1,f2,d⟩
theorem Inv.unpinned {pins pl:List (Addr × Obj)} {σ:St} {H:Hp} {s:Shared} (I:Inv X (pins++pl) σ H s):Inv X pins σ H s:=I.pins_of fun p hp=>I.pin p (List.mem_append_right _ (List.mem_append_left _ hp))
theorem aqm {iter:Expr} {body:List Stmt} {wi:TI} {g:TG} {tb:TS} {pos:Pos} (hp:PassesOwn (model X.prog X.w) X.A X.env X.xe) (hc:X.calm=true) (hi:PI X tg iter wi) (hg:PG X tg g) (hb:PSs X body tb)
  (hs:∀ x,foldedSetIterable iter X.env x=pure x:=by intro _;rfl):PS X (.For tg iter body [] pos) (axu wi g tb):=by
 intro pins s σ H D I h
 refine wpAny_For (thn (hi pins s σ H _ I h) fun v s1 h1=>thn h1 fun itv s2 h2=>?_) hs
 obtain ⟨it,fp,tn,J,H2,e,I2,T,st2,f2,W,⟨m0,w0⟩,turn⟩:=h2
 subst e
 have stat:∀ {H':Hp},(∀ b∈fp,H' b=none)→∀ b∈fp,FpOk X pins H' b:=fun hn b hb=>⟨hn b hb,(f2 b hb).2⟩
 refine codeAny_forLoop_any (fun n s'=>∃ i σ' H',Inv X pins σ' H' s'∧tn i s'.heap∧(∀ b∈fp,H' b=none)∧W i n σ' H') ?_ m0 ⟨0,σ,H2,I2,st2,fun b hb=>(f2 b hb).1,w0⟩
 rintro n s3 ⟨i,σ3,H3,I3,st3,fr3,w3⟩
 rcases turn i n σ3 H3 w3 with ⟨stop,qn⟩ | ⟨go,N,hN,step⟩
 ·refine wpAny_passesOwn hp (thn (T.done X rfl rfl rfl hc i pins s3 σ3 H3 X.xe I3 (stat fr3) st3 stop) fun r s4 ⟨hr,I4⟩=>?_)
  subst hr
  exact wpAny_execs_nil ⟨σ3,H3,I4,qn⟩
 ·refine wpAny_passesOwn hp (thn (T.item X rfl rfl rfl hc i pins s3 σ3 H3 X.xe I3 (stat fr3) st3 go) fun r s4 ⟨u,hr,h4⟩=>?_)
  subst hr
  refine wpAny_passesOwn hp (thn h4 fun _ s5 ⟨x,H5,I5,r5,y5,st5,fr5⟩=>?_)
  have I5':=I5.pinned (stat fr5) (T.obj _ _ st5)
  refine wpAny_passesOwn hp (thn (hg _ s5 σ3 H5 x u _ I5' r5 (step x H5 y5)) fun _ s6 ⟨σ6,H6,I6,q6⟩=>?_)
  refine wpAny_passesOwn hp (thn (hb _ s6 σ6 H6 _ I6 q6) fun f s7 q7=>?_)
  have again:∀ {σ7:St} {H7:Hp},Inv X (pins++v7 fp s5.heap) σ7 H7 s7→N σ7 H7→∃ m,m<n∧∃ i σ' H',Inv X pins σ' H' s7∧tn i s7.heap∧(∀ b∈fp,H' b=none)∧W i m σ' H':=fun {σ7 H7} I7 n7=>by
   obtain ⟨m',hm,w7⟩:=hN σ7 H7 n7
   refine ⟨m',hm,i+1,σ7,H7,I7.unpinned,T.keep _ _ _ st5 fun b hb o e=>(I7.pin (b,o) (List.mem_append_right _ (List.mem_append_right _ (j4 hb e)))).1,fun b hb=>?_,w7⟩
   obtain ⟨o,e,d⟩:=T.obj _ _ st5 b hb
   exact (I7.pin (b,o) (List.mem_append_right _ (List.mem_append_right _ (j4 hb e)))).2.1
  cases f with
  | next=>obtain ⟨σ7,H7,I7,n7⟩:=q7;exact again I7 n7
  | cont=>obtain ⟨σ7,H7,I7,n7⟩:=q7;exact again I7 n7
  | brk=>obtain ⟨σ7,H7,I7,q7⟩:=q7;exact ⟨σ7,H7,I7.unpinned,q7⟩
  | ret v=>obtain ⟨x7,σ7,H7,I7,r7,q7⟩:=q7;exact ⟨x7,σ7,H7,I7.unpinned,r7,q7⟩
end
end L2
namespace L2
open PySem PySem.Spec PyProof.Rows
abbrev R2:=V→V→Hp→VK→Prop
def OpR (X:Cx) (f:Value→Value→Sem Value) (r:R2):Prop :=
 ∀ (pins:List (Addr × Obj)) (s:Shared) (σ:St) (H:Hp) (x y:V) (v u:Value) (Q:VK),Inv X pins σ H s→RelV x v→RelV y u→r x y H Q →
  wpAny (model X.prog X.w) X.A (f v u) (EP X pins σ Q) X.xe s
def UnR (X:Cx) (f:Value→Sem Value) (r:V→Hp→VK→Prop):Prop :=
 ∀ (pins:List (Addr × Obj)) (s:Shared) (σ:St) (H:Hp) (x:V) (v:Value) (Q:VK),Inv X pins σ H s→RelV x v→r x H Q →
  wpAny (model X.prog X.w) X.A (f v) (EP X pins σ Q) X.xe s
def CallR (X:Cx) (f:Value) (r:List V→Hp→VK→Prop):Prop :=
 ∀ (pins:List (Addr × Obj)) (s:Shared) (σ:St) (H:Hp) (xs:List V) (us:List Value) (Q:VK),Inv X pins σ H s→Vals xs us→r xs H Q →
  wpAny (model X.prog X.w) X.A (call f us) (EP X pins σ Q) X.xe s
def axv (X:Cx) (r:V→Hp→(Bool→Hp→Prop)→Prop):Prop :=
 ∀ (pins:List (Addr × Obj)) (s:Shared) (σ:St) (H:Hp) (x:V) (v:Value) (Q:Bool→Hp→Prop),Inv X pins σ H s→RelV x v→r x H Q →
  wpAny (model X.prog X.w) X.A (truthy v) (TP X pins σ Q) X.xe s
def tOp (r:R2) (ta tb:TE):TE:=fun σ H Q=>ta σ H fun x H1=>tb σ H1 fun y H2=>r x y H2 Q
def tUn (r:V→Hp→VK→Prop) (ta:TE):TE:=fun σ H Q=>ta σ H fun x H1=>r x H1 Q
def rI (C:Int→Int→Prop) (g:Int→Int→V):R2:=fun x y H Q=>∃ i j,x = .int i∧y = .int j∧C i j∧Q (g i j) H
def rI0 (g:Int→Int→V):R2:=fun x y H Q=>∃ i j,x = .int i∧y = .int j∧Q (g i j) H
def rU (g:Int→V):V→Hp→VK→Prop:=fun x H Q=>∃ i,x = .int i∧Q (g i) H
section
variable {X:Cx} {a b c:Expr} {ta tb tc:TE} {pos:Pos}
theorem av5 (ha:PE X a ta) (hb:PE X b tb) {pins:List (Addr × Obj)} {s:Shared} {σ:St} {H:Hp} {R:V→V→Hp→Prop} (I:Inv X pins σ H s)
  (h:ta σ H fun x H1=>tb σ H1 fun y H2=>R x y H2) {Q:Value→Shared→Prop} {f:Value→Value→Sem Value}
  (hf:∀ v u s2 x y H2,Inv X pins σ H2 s2→RelV x v→RelV y u→R x y H2→wpAny (model X.prog X.w) X.A (f v u) Q X.xe s2) :
  wpAny (model X.prog X.w) X.A (eval a X.env) (fun v s₁=>wpAny (model X.prog X.w) X.A (eval b X.env) (fun u s₂=>wpAny (model X.prog X.w) X.A (f v u) Q X.xe s₂) X.xe s₁) X.xe s:=by
 refine thn (ha pins s σ H _ I h) fun v s1 ⟨x,H1,I1,r1,q1⟩=>?_
 refine thn (hb pins s1 σ H1 _ I1 q1) fun u s2 ⟨y,H2,I2,r2,q2⟩=>?_
 exact hf v u s2 x y H2 I2 r1 r2 q2
theorem av6 {op:Operator} {r:R2} (ho:OpR X (binaryOp op) r) (ha:PE X a ta) (hb:PE X b tb):PE X (.BinOp a op b pos) (tOp r ta tb):=by
 intro pins s σ H Q I h
 exact wpAny_BinOp (av5 ha hb I h fun v u s2 x y H2 I2 rx ry q=>ho pins s2 σ H2 x y v u Q I2 rx ry q)
theorem av7 {op:UnaryOp} {r:V→Hp→VK→Prop} (ho:UnR X (unaryOp op) r) (ha:PE X a ta):PE X (.UnaryOp op a pos) (tUn r ta):=by
 intro pins s σ H Q I h
 exact UnaryOp_ (thn (ha pins s σ H _ I h) fun v s1 ⟨x,H1,I1,r1,q1⟩=>ho pins s1 σ H1 x v Q I1 r1 q1)
theorem opI {f:Value→Value→Sem Value} {C:Int→Int→Prop} {g:Int→Int→Int}
  (rule:∀ (i j:Int) (t u:Tok) (s:Shared) (Q:Value→Shared→Prop) (E:Value→Shared→Prop),C i j→Q (.int (g i j) s.toks) { s with toks:=s.toks+1 }→wpAny (model X.prog X.w) X.A (f (.int i t) (.int j u)) Q E s) :
  OpR X f (rI C fun i j=>.int (g i j)):=by
 intro pins s σ H x y v u Q I rx ry h
 obtain ⟨i,j,rfl,rfl,hc,q⟩:=h
 obtain ⟨t,rfl⟩:=rx
 obtain ⟨t',rfl⟩:=ry
 exact rule i j t t' s _ _ hc ⟨.int (g i j),H,I.tok _,⟨_,rfl⟩,q⟩
theorem av8 {f:Value→Value→Sem Value} {g:Int→Int→Int}
  (rule:∀ (i j:Int) (t u:Tok) (s:Shared) (Q:Value→Shared→Prop) (E:Value→Shared→Prop),Q (.int (g i j) s.toks) { s with toks:=s.toks+1 }→wpAny (model X.prog X.w) X.A (f (.int i t) (.int j u)) Q E s) :
  OpR X f (rI0 fun i j=>.int (g i j)):=by
 intro pins s σ H x y v u Q I rx ry h
 obtain ⟨i,j,rfl,rfl,q⟩:=h
 obtain ⟨t,rfl⟩:=rx
 obtain ⟨t',rfl⟩:=ry
 exact rule i j t t' s _ _ ⟨.int (g i j),H,I.tok _,⟨_,rfl⟩,q⟩
theorem av9 {f:Value→Value→Sem Value} {g:Int→Int→Bool}
  (rule:∀ (i j:Int) (t u:Tok) (s:Shared) (Q:Value→Shared→Prop) (E:Value→Shared→Prop),Q (.bool (g i j)) s→wpAny (model X.prog X.w) X.A (f (.int i t) (.int j u)) Q E s) :
  OpR X f (rI0 fun i j=>.bl (g i j)):=by
 intro pins s σ H x y v u Q I rx ry h
 obtain ⟨i,j,rfl,rfl,q⟩:=h
 obtain ⟨t,rfl⟩:=rx
 obtain ⟨t',rfl⟩:=ry
 exact rule i j t t' s _ _ ⟨.bl (g i j),H,I,rfl,q⟩
def awk (i j:Int):Prop:=0<j∧j<1073741824
def awl (i j:Int):Prop:=0≤j∧j≤1000000∧i.natAbs<2 ^ 64
def CMul (i j:Int):Prop:=(-(2 ^ 64)<i∧i<2 ^ 64)∨(-(2 ^ 64)<j∧j<2 ^ 64)
theorem CMul.ok {i j:Int} (h:CMul i j):IntMulOk i j:=by
 rcases h with ⟨h1,h2⟩ | ⟨h1,h2⟩
 ·exact .of_left (intBits_le_64 h1 h2)
 ·exact .of_right (intBits_le_64 h1 h2)
theorem aqn:OpR X (binaryOp .Add) (rI0 fun i j=>.int (i+j)):=av8 fun _ _ _ _ _ _ _ q=>add_int q
theorem aqo:OpR X (binaryOp .Sub) (rI0 fun i j=>.int (i - j)):=av8 fun _ _ _ _ _ _ _ q=>sub_int q
theorem akz:OpR X (binaryOp .Mult) (rI CMul fun i j=>.int (i*j)):=opI fun _ _ _ _ _ _ _ hc q=>mul_int q hc.ok
theorem amn:OpR X (binaryOp .FloorDiv) (rI awk fun i j=>.int (i / j)):=opI fun i j _ _ _ _ _ hc q=>by
 have h1:(0:Int)<j:=hc.1
 have h2:j<1073741824:=hc.2
 exact floordiv_int (by omega) (by rw [Int.fdiv_eq_ediv_of_nonneg i (by omega)];exact q) (.inl (PyProof.noPylong_small (by omega)))
theorem aqp:OpR X (binaryOp .Mod) (rI (fun _ j=>0<j) fun i j=>.int (i % j)):=opI fun i j _ _ _ _ _ hc q=>by
 have h1:(0:Int)<j:=hc
 exact mod_int' (by omega) (by rw [Int.fmod_eq_emod_of_nonneg i (by omega)];exact q)
theorem aqq:OpR X (binaryOp .Pow) (rI awl fun i j=>.int (i ^ j.toNat)):=opI fun _ _ _ _ _ _ _ hc q=>pow_int_small hc.1 hc.2.1 hc.2.2 q
theorem amo:OpR X (inplaceOp .Add) (rI0 fun i j=>.int (i+j)):=av8 fun _ _ _ _ _ _ _ q=>iadd_int q
theorem unI {f:Value→Sem Value} {g:Int→Int}
  (rule:∀ (i:Int) (t:Tok) (s:Shared) (Q:Value→Shared→Prop) (E:Value→Shared→Prop),Q (.int (g i) s.toks) { s with toks:=s.toks+1 }→wpAny (model X.prog X.w) X.A (f (.int i t)) Q E s) :
  UnR X f (rU fun i=>.int (g i)):=by
 intro pins s σ H x v Q I rx h
 obtain ⟨i,rfl,q⟩:=h
 obtain ⟨t,rfl⟩:=rx
 exact rule i t s _ _ ⟨.int (g i),H,I.tok _,⟨_,rfl⟩,q⟩
theorem aqr:UnR X (unaryOp .USub) (rU fun i=>.int (-i)):=unI fun _ _ _ _ _ q=>neg_int q
end
section
variable {X:Cx} {a b c:Expr} {ta tb tc:TE} {pos:Pos}
theorem a4e {pins:List (Addr × Obj)} {σ:St} {H:Hp} {s:Shared} {Q:VK} {k k':Bool} (I:Inv X pins σ H s) (q:Q (.bl k) H) (e:k=k'):EP X pins σ Q (.bool k') s:=by
 subst e
 exact ⟨.bl k,H,I,rfl,q⟩
theorem af2:OpR X (compareOp .Lt) (rI0 fun i j=>.bl (decide (i<j))):=av9 fun _ _ _ _ _ _ _ q=>lt_int q
theorem amq:OpR X (compareOp .Gt) (rI0 fun i j=>.bl (decide (j<i))):=av9 fun _ _ _ _ _ _ _ q=>gt_int q
theorem aiq:OpR X (compareOp .GtE) (rI0 fun i j=>.bl (decide (j≤i))):=av9 fun _ _ _ _ _ _ _ q=>ge_int q
theorem a0j:OpR X (compareOp .Lt) (fun x y H Q=>∃ i j,x = .str i∧y = .str j∧Q (.bl (decide (i.cps.toList<j.cps.toList))) H):=by
 intro pins s σ H x y v u Q I rx ry h
 obtain ⟨i,j,rfl,rfl,q⟩:=h
 obtain ⟨t,rfl⟩:=rx
 obtain ⟨t',rfl⟩:=ry
 exact lt_str (a4e I q rfl)
theorem af3:OpR X (compareOp .In) (fun x y H Q=>∃ i j,x = .str i∧y = .str j∧Q (.bl (!(Builtin.Str.occurrences j i 0 j.length 1).isEmpty)) H):=by
 intro pins s σ H x y v u Q I rx ry h
 obtain ⟨i,j,rfl,rfl,q⟩:=h
 obtain ⟨t,rfl⟩:=rx
 obtain ⟨t',rfl⟩:=ry
 exact in_str (a4e I q rfl)
theorem al0:OpR X (compareOp .Is) (fun x y H Q=>y = .non∧Q (.bl (decide (x = .non))) H):=by
 intro pins s σ H x y v u Q I rx ry h
 obtain ⟨rfl,q⟩:=h
 cases ry
 refine is_none_gen (a4e I q ?_)
 cases x<;>first
  | (cases rx;rfl)
  | (obtain ⟨t,rfl⟩:=rx;rfl)
theorem amr:OpR X (compareOp .IsNot) (fun x y H Q=>y = .non∧Q (.bl (!decide (x = .non))) H):=by
 intro pins s σ H x y v u Q I rx ry h
 obtain ⟨rfl,q⟩:=h
 cases ry
 refine isnot_none_gen (a4e I q ?_)
 cases x<;>first
  | (cases rx;rfl)
  | (obtain ⟨t,rfl⟩:=rx;rfl)
theorem a8b:OpR X (compareOp .NotIn) (fun x y H Q=>∃ i j,x = .str i∧y = .str j∧Q (.bl (!(!(Builtin.Str.occurrences j i 0 j.length 1).isEmpty))) H):=by
 intro pins s σ H x y v u Q I rx ry h
 obtain ⟨i,j,rfl,rfl,q⟩:=h
 obtain ⟨t,rfl⟩:=rx
 obtain ⟨t',rfl⟩:=ry
 exact notIn_str (a4e I q rfl)
theorem OpR.or {f:Value→Value→Sem Value} {r r':R2} (h:OpR X f r) (h':OpR X f r'):OpR X f (fun x y H Q=>r x y H Q∨r' x y H Q):=by
 intro pins s σ H x y v u Q I rx ry q
 rcases q with q | q
 ·exact h pins s σ H x y v u Q I rx ry q
 ·exact h' pins s σ H x y v u Q I rx ry q
theorem km (b:Expr) {op:CmpOp} (h:op≠.In:=by decide) (h2:op≠.NotIn:=by decide):behindInMarks op b=false:=by
 have e1:(op == CmpOp.In)=false:=by cases op<;>first | rfl | exact absurd rfl h
 have e2:(op == CmpOp.NotIn)=false:=by cases op<;>first | rfl | exact absurd rfl h2
 cases b<;>simp [behindInMarks,e1,e2]
theorem ams {op:CmpOp} {r:R2} (ho:OpR X (compareOp op) r) (ha:PE X a ta) (hb:PE X b tb) (hm:behindInMarks op b=false):PE X (.Compare a [op] [b] pos) (tOp r ta tb):=by
 intro pins s σ H Q I h
 exact wpAny_Compare1 (av5 ha hb I h fun v u s2 x y H2 I2 rx ry q=>ho pins s2 σ H2 x y v u Q I2 rx ry q) hm
def aqs (t:TE):TT:=fun σ H Q=>t σ H fun x H'=>∃ k,x = .bl k∧Q k H'
theorem amt {op:CmpOp} {r:R2} (ho:OpR X (compareOp op) r) (ha:PE X a ta) (hb:PE X b tb) (hm:behindInMarks op b=false):PT X (.Compare a [op] [b] pos) (aqs (tOp r ta tb)):=by
 intro pins s σ H Q I h
 refine wpAny_isTrue_Compare1 (thn (ha pins s σ H _ I h) fun v s1 ⟨x,H1,I1,r1,q1⟩=>thn (hb pins s1 σ H1 _ I1 q1) fun u s2 ⟨y,H2,I2,r2,q2⟩ =>
  thn (ho pins s2 σ H2 x y v u _ I2 r1 r2 q2) fun c s3 ⟨z,H3,I3,r3,k,e,q3⟩=>?_) hm
 subst e
 cases r3
 exact wpAny_truthy_bool ⟨H3,I3,q3⟩
def ava (K:PySem.W.Frag) (x:V) (H:Hp) (k:Bool):Prop :=
 match x with
 | .non=>k=false
 | .bl b=>k=b
 | .int i=>k=(i != 0)
 | .str y=>y.length≤sizeLine∧k=((y.length:Int) != 0)
 | .byt y=>y.size≤sizeLine∧k=((y.size:Int) != 0)
 | .ref p=>(∃ xs,SqL K H p xs∧k = !xs.isEmpty)∨(∃ xs,SqT K H p xs∧k = !xs.isEmpty)∨∃ kvs,H p=some (.dK kvs)∧k = !kvs.isEmpty
 | _=>False
theorem ad0 {κ:Type} {kvs:List (κ × V)} {vs:List (κ × Value)} (r:KV kvs vs):(!vs.isEmpty) = !kvs.isEmpty:=by
 cases r<;>rfl
theorem a65 {xs:List V} {its:List Value} (r:Vals xs its):(!its.toArray.isEmpty) = !xs.isEmpty:=by
 cases r<;>simp
theorem a4f:(sizeLine:Nat)<2 ^ 63:=by rw [sizeLine_eq];decide
theorem aqt:axv X (fun x H Q=>∃ k,ava X.K x H k∧Q k H):=by
 intro pins s σ H x v Q I rx h
 obtain ⟨k,e,q⟩:=h
 have hl:=a4f
 have hs:sizeLine=16777216:=sizeLine_eq
 cases x with
 | non =>
  cases rx
  have e':k=false:=e
  subst e'
  exact truthy_none ⟨H,I,q⟩
 | bl b =>
  cases rx
  have e':k=b:=e
  subst e'
  exact wpAny_truthy_bool ⟨H,I,q⟩
 | int i =>
  obtain ⟨t,rfl⟩:=rx
  have e':k=(i != 0):=e
  subst e'
  exact PySem.P.truthy_int ⟨H,I,q⟩
 | str y =>
  obtain ⟨t,rfl⟩:=rx
  obtain ⟨hy,e'⟩:y.length≤sizeLine∧k=((y.length:Int) != 0):=e
  subst e'
  exact PySem.P.truthy_str (by omega) ⟨H,I.tok _,q⟩
 | byt y =>
  obtain ⟨t,rfl⟩:=rx
  obtain ⟨hy,e'⟩:y.size≤sizeLine∧k=((y.size:Int) != 0):=e
  subst e'
  exact PySem.W.truthy_bytes (by omega) ⟨H,I.tok _,q⟩
 | ref p =>
  cases rx
  have e':(∃ xs,SqL X.K H p xs∧k = !xs.isEmpty)∨(∃ xs,SqT X.K H p xs∧k = !xs.isEmpty)∨∃ kvs,H p=some (.dK kvs)∧k = !kvs.isEmpty:=e
  rcases e' with ⟨xs,hx,e'⟩ | ⟨xs,hx,e'⟩ | ⟨kvs,hx,e'⟩
  ·subst e'
   obtain ⟨its,r,pl,hz⟩:=I.list hx
   have hlen:=r.length
   exact wpAny_truthy_list pl.isList (by simp only [List.size_toArray];omega) ⟨H,I.tok _,by rw [a65 r];exact q⟩
  ·subst e'
   obtain ⟨its,r,pl,hz⟩:=I.tuple hx
   have hlen:=r.length
   exact truthy_tuple pl (by simp only [List.size_toArray];omega) ⟨H,I.tok _,by rw [a65 r];exact q⟩
  ·subst e'
   obtain ⟨hz,hS,vs,r,m⟩:kvs.length≤sizeLine∧(p == sysModules)=false∧∃ vs,KV kvs vs∧s.heap.DictOf (n6 X.prog X.w) p vs:=I.hok p _ hx
   have hlen:kvs.length=vs.length:=Paired.length r
   exact wpAny_truthy_dict hS m (by omega) ⟨H,I.tok _,by rw [ad0 r];exact q⟩
 | _=>exact (show False from e).elim
theorem air (ha:PE X a ta) (he:∀ whole,isTrue a X.env whole=(do let v ← whole;standAt a.pos;holding [v] (truthy v))) :
  PT X a (fun σ H Q=>ta σ H fun x H'=>∃ k,ava X.K x H' k∧Q k H'):=by
 intro pins s σ H Q I h
 exact isTrue_plain (thn (ha pins s σ H _ I h) fun v s1 ⟨x,H1,I1,r1,q1⟩=>aqt pins s1 σ H1 x v Q I1 r1 q1) (he _)
theorem ad1:OpR X (binaryOp .Add) (fun x y H Q=>∃ i j,x = .str i∧y = .str j∧i.length+j.length≤sizeLine∧Q (.str (i++j)) H):=by
 intro pins s σ H x y v u Q I rx ry h
 obtain ⟨i,j,rfl,rfl,hz,q⟩:=h
 obtain ⟨t,rfl⟩:=rx
 obtain ⟨t',rfl⟩:=ry
 exact add_str (fun t' tk=>⟨.str (i++j),H,I.tok _,⟨_,rfl⟩,q⟩) hz
theorem a9u:OpR X (inplaceOp .Add) (fun x y H Q=>∃ i j,x = .str i∧y = .str j∧i.length+j.length≤sizeLine∧Q (.str (i++j)) H):=by
 intro pins s σ H x y v u Q I rx ry h
 obtain ⟨i,j,rfl,rfl,hz,q⟩:=h
 obtain ⟨t,rfl⟩:=rx
 obtain ⟨t',rfl⟩:=ry
 exact iadd_str (fun t' tk=>⟨.str (i++j),H,I.tok _,⟨_,rfl⟩,q⟩) hz
theorem vals1 {x:V} {us:List Value} (r:Vals [x] us):∃ u,us=[u]∧RelV x u:=by
 cases r with
 | cons r1 r2=>cases r2;exact ⟨_,rfl,r1⟩
theorem vals2 {x y:V} {us:List Value} (r:Vals [x,y] us):∃ u w',us=[u,w']∧RelV x u∧RelV y w':=by
 cases r with
 | cons r1 r2 =>
  cases r2 with
  | cons r3 r4=>cases r4;exact ⟨_,_,rfl,r1,r3⟩
theorem ab4:CallR X (.builtin "abs") (fun xs H Q=>∃ i,xs=[.int i]∧Q (.int (if i<0 then -i else i)) H):=by
 intro pins s σ H xs us Q I r h
 obtain ⟨i,rfl,q⟩:=h
 obtain ⟨u,rfl,t,rfl⟩:=vals1 r
 exact call_abs_int fun u tk=>⟨.int (if i<0 then -i else i),H,I.tok _,⟨_,rfl⟩,q⟩
theorem af4 (hc:X.calm=true):CallR X (.builtin "min") (fun xs H Q=>∃ i j,xs=[.int i, .int j]∧Q (.int (if j<i then j else i)) H):=by
 intro pins s σ H xs us Q I r h
 obtain ⟨i,j,rfl,q⟩:=h
 obtain ⟨u,w',rfl,⟨t,rfl⟩,⟨t',rfl⟩⟩:=vals2 r
 refine min_two_ints (I.ok.hd hc) fun h' tk k=>⟨_,H,I.kept k,?_,q⟩
 by_cases hj:j<i
 ·rw [if_pos hj,if_pos hj];exact ⟨_,rfl⟩
 ·rw [if_neg hj,if_neg hj];exact ⟨_,rfl⟩
theorem af5:CallR X (.type "int") (fun xs H Q=>(∃ i,xs=[.int i]∧Q (.int i) H)∨∃ k,xs=[.bl k]∧Q (.int (if k then 1 else 0)) H):=by
 intro pins s σ H xs us Q I r h
 rcases h with ⟨i,rfl,q⟩ | ⟨k,rfl,q⟩
 ·obtain ⟨u,rfl,t,rfl⟩:=vals1 r
  exact call_int_int ⟨.int i,H,I,⟨_,rfl⟩,q⟩
 ·obtain ⟨u,rfl,r1⟩:=vals1 r
  cases r1
  exact call_int_bool ⟨.int (if k then 1 else 0),H,I.tok _,⟨_,rfl⟩,q⟩
end
end L2
namespace L2
open PySem PySem.Spec PyProof.Rows
structure ObjM (h:Heap) (x dx C:Addr) (mA:Str→Option Value):Prop where
 obj:h.get? x=some (PySem.W.instObj C dx)
 ns:h.Ns1 dx mA
 ne:dx≠x
theorem af6 {h:Heap} {dx:Addr} {mA:Str→Option Value} (n:h.Ns1 dx mA):∃ od,h.get? dx=some od∧∀ name,PySem.W.lookIn name od=some (mA name):=by
 obtain ⟨o,es,ep,ho,hd,hk,_,hm⟩:=n
 refine ⟨o,ho,fun name=>?_⟩
 have e:=hm name
 unfold nsFind findBy at e
 rw [← Array.find?_toList] at e
 unfold PySem.W.lookIn
 rw [hd]
 dsimp only
 split
 ·rename_i y q
  rw [q] at e
  exact congrArg some e
 ·rename_i q
  rw [q] at e
  have a:es.toList.any (·.refKey)=false:=by
   rw [List.any_eq_false]
   intro y hy
   obtain ⟨z,t,hkey⟩:=hk y (Array.mem_toList_iff.mp hy)
   simp [DictEntry.refKey,hkey]
  have a':¬ es.toList.any (·.refKey)=true:=by rw [a];exact Bool.false_ne_true
  rw [if_neg a']
  exact congrArg some e
theorem ObjM.look {h:Heap} {x dx C:Addr} {mA:Str→Option Value} (I:ObjM h x dx C mA):∃ od,PySem.W.InstAt h x (PySem.W.instObj C dx) C (some od)∧∀ name,PySem.W.lookIn name od=some (mA name) :=
 let ⟨od,ho,hl⟩:=af6 I.ns
 ⟨od,⟨I.obj,rfl,rfl,ho⟩,hl⟩
theorem RelO.some_of {v:V} {o:Option Value} (r:RelO (some v) o):∃ u,o=some u∧RelV v u:=by
 cases o with
 | none=>exact (show False from r).elim
 | some u=>exact ⟨u,rfl,r⟩
section
variable {P:Program} {w:World} {H H':Hp} {h h':Heap} {a C dx:Addr} {fs fs':List (Str × V)}
theorem amu (hok:HOk P w H h) (e:H a=some (.ins C dx fs)):∃ mA,ObjM h a dx C mA∧(∀ f,RelO (fs.lookup f) (mA f))∧PySem.Within mA (fs.map (·.1))∧fs.length≤1000∧H dx=some (.own a):=by
 obtain ⟨d,z,ne,ob,mA,n,r,q⟩:=(show ObjOk P w H h a (.ins C dx fs) from hok a _ e)
 exact ⟨mA,⟨ob,n,ne⟩,r,q,z,d⟩
end
structure Cls (K:PySem.W.Frag) (C:Addr):Prop where
 pg:PySem.W.plainGet K C Str.empty=true
 hd:PySem.W.hasDictIn K C=true
 po:PySem.W.plainOver K C=true
 sa:PySem.W.findIn K (.ref C) "__setattr__" = some (some (.builtin "object.__setattr__"))
theorem Cls.get {K:PySem.W.Frag} {C:Addr} (c:Cls K C) (f:Str):PySem.W.plainGet K C f=true:=c.pg
section
variable {X:Cx} {pins:List (Addr × Obj)} {σ:St} {H:Hp} {s:Shared} {A:Around} {E:Value→Shared→Prop} {Q:Value→Shared→Prop} {c:Value} {b:Bool}
inductive TyOf (K:PySem.W.Frag) (H:Hp):V→Value→Prop where
 | non:TyOf K H .non (.type "NoneType")
 | bl (x:Bool):TyOf K H (.bl x) (.type "bool")
 | int (i:Int):TyOf K H (.int i) (.type "int")
 | str (x:Str):TyOf K H (.str x) (.type "str")
 | flt (x:UInt64):TyOf K H (.flt x) (.type "float")
 | lst {a:Addr} {xs:List V} (e:H a=some (.lst xs)):TyOf K H (.ref a) (.type "list")
 | frz {a:Addr} {o:Obj} {xs:List V} (e:H a=some (.frz o (.lst xs))):TyOf K H (.ref a) (.type "list")
 | tup {a:Addr} {xs:List V} (e:H a=some (.tup xs)):TyOf K H (.ref a) (.type "tuple")
 | dK {a:Addr} {kvs:List (Key × V)} (e:H a=some (.dK kvs)):TyOf K H (.ref a) (.type "dict")
 | dT {a:Addr} {kvs:List (List Key × V)} (e:H a=some (.dT kvs)):TyOf K H (.ref a) (.type "dict")
 | ins {a C dx:Addr} {fs:List (Str × V)} (e:H a=some (.ins C dx fs)) (cl:Cls K C) (ha:PySem.W.findIn K (.ref C) "__class__" = some (some (.builtin "object.__class__")))
   (hn:PySem.W.specialIn K (.builtin "object.__class__") "__get__" = some (some (.builtin "getset_descriptor.__get__"))) (htk:PySem.W.takesIn K (.builtin "object.__class__")=some true)
   (hm:PySem.W.mroIn K C (.type "object")=some true):TyOf K H (.ref a) (.ref C)
theorem af7 {x:V} {u t:Value} (I:Inv X pins σ H s) (rx:RelV x u) (ty:TyOf X.K H x t) (e:PySem.W.kitOne X.K t c=some b) (h:∀ tk,Q (.bool b) { s with toks:=tk }) :
  wpAny (model X.prog X.w) A (call (.builtin "isinstance") [u,c]) Q E s:=by
 cases ty with
 | non=>cases (show u=Value.none from rx);exact PySem.W.kia_one PySem.W.kitx_none I.kIn True.intro e (fun z=>nomatch z) h
 | bl y=>cases (show u=Value.bool y from rx);exact PySem.W.kia_one PySem.W.kitx_bool I.kIn True.intro e (fun z=>nomatch z) h
 | int i=>obtain ⟨t,q⟩:=(show ∃ t,u=Value.int i t from rx);cases q;exact PySem.W.kia_one PySem.W.kitx_int I.kIn True.intro e (fun z=>nomatch z) h
 | str y=>obtain ⟨t,q⟩:=(show ∃ t,u=Value.str y t from rx);cases q;exact PySem.W.kia_one PySem.W.kitx_str I.kIn True.intro e (fun z=>nomatch z) h
 | flt y=>obtain ⟨t,q⟩:=(show ∃ t,u=Value.float y t from rx);cases q;exact PySem.W.kia_one PySem.W.kitx_float I.kIn True.intro e (fun z=>nomatch z) h
 | @lst a xs ea =>
  cases (show u=Value.ref a from rx)
  obtain ⟨_,_,n,_,h1⟩:=(show ObjOk X.prog X.w H s.heap a (.lst xs) from I.hok a _ ea)
  exact PySem.W.kia_one PySem.W.kitx_list I.kIn ⟨_,h1,rfl⟩ e (fun z=>nomatch z) h
 | @frz a ob xs ea =>
  cases (show u=Value.ref a from rx)
  obtain ⟨_,_,_,n,_,h1⟩:=(show ObjOk X.prog X.w H s.heap a (.frz ob (.lst xs)) from I.hok a _ ea)
  exact PySem.W.kia_one PySem.W.kitx_list I.kIn ⟨_,h1,rfl⟩ e (fun z=>nomatch z) h
 | @tup a xs ea =>
  cases (show u=Value.ref a from rx)
  obtain ⟨_,_,_,p⟩:=(show ObjOk X.prog X.w H s.heap a (.tup xs) from I.hok a _ ea)
  obtain ⟨o,h1,h2,_⟩:=p
  exact PySem.W.kia_one PySem.W.kitx_tuple I.kIn ⟨o,h1,h2⟩ e (fun z=>nomatch z) h
 | @dK a kvs ea =>
  cases (show u=Value.ref a from rx)
  obtain ⟨_,_,vs,_,p⟩:=(show ObjOk X.prog X.w H s.heap a (.dK kvs) from I.hok a _ ea)
  obtain ⟨o,es,ep,h1,h2,_⟩:=p
  exact PySem.W.kia_one PySem.W.kitx_dict I.kIn ⟨o,h1,h2.1⟩ e (fun z=>nomatch z) h
 | @dT a kvs ea =>
  cases (show u=Value.ref a from rx)
  obtain ⟨_,_,xs,_,o,es,ep,h1,h2,_⟩:=(show ObjOk X.prog X.w H s.heap a (.dT kvs) from I.hok a _ ea)
  exact PySem.W.kia_one PySem.W.kitx_dict I.kIn ⟨o,h1,h2.1⟩ e (fun z=>nomatch z) h
 | @ins a C dx fs ea cl ha hn htk hm =>
  cases (show u=Value.ref a from rx)
  obtain ⟨mA,O,_⟩:=amu I.hok ea
  obtain ⟨od,J,_⟩:=O.look
  exact PySem.W.kia_one (PySem.W.kitx_own (cl.get _) cl.hd ha hn htk hm) I.kIn J e (fun z=>nomatch z) h
end
end L2
namespace L2
open PySem PySem.Spec PyProof.Rows
structure Room (k:Nat) (A:Around):Prop where
 hd:A.handled=none
 dp:A.depth+3*k+5<recursionLimit
 un:A.units+16*k+200<cLine
 gd:A.guards=some []
theorem Room.mono {j k:Nat} {A:Around} (r:Room k A) (h:j≤k):Room j A:=⟨r.hd,by have:=r.dp;omega,by have:=r.un;omega,r.gd⟩
theorem Room.deeper {k:Nat} {A:Around} (r:Room (k+1) A) (env:Env):Room k (A.deeper env) :=
 ⟨r.hd,by have:=r.dp;show A.depth+1+3*k+5<_;omega,by have:=r.un;show A.units+3+16*k+200<_;omega,r.gd⟩
theorem Room.depth {k:Nat} {A:Around} (r:Room k A):A.depth<recursionLimit:=by have:=r.dp;omega
theorem Room.units {k:Nat} {A:Around} (r:Room k A):A.units+64<cLine:=by have:=r.un;omega
def awm:TA:=fun _ H Q=>Q [] H
def avb (ta:TE) (tr:TA):TA:=fun σ H Q=>ta σ H fun x H1=>tr σ H1 fun xs H2=>Q (x::xs) H2
section
variable {X:Cx} {e:Expr} {es:List Expr} {te:TE} {t:TA} {pos:Pos}
theorem a66:PA X [] awm:=fun _ _ _ _ H Q I h=>Calls.spliced_nil ⟨[],H,I, .nil,h⟩
theorem a1k (ha:PE X e te) (hr:PA X es t) (hs:starEach (e::es) X.env=(false,eval e X.env)::starEach es X.env:=by rfl):PA X (e::es) (avb te t):=by
 intro pos pins s σ H Q I h
 rw [hs]
 show wpAny _ _ (spliced ((false,eval e X.env)::backTo pos (starEach es X.env))) _ _ s
 refine Calls.spliced_cons (thn (ha pins s σ H _ I h) fun u s1 ⟨x,H1,I1,r1,q1⟩=>?_)
 exact thn (hr pos pins s1 σ H1 _ I1 q1) fun us s2 ⟨xs,H2,I2,r2,q2⟩=>⟨x::xs,H2,I2, .cons r1 r2,q2⟩
def axw (t:TA):TE:=fun σ H Q=>t σ H fun xs H1=>xs.length≤sizeLine∧∀ p,H1 p=none→Q (.ref p) (upd H1 p (.tup xs))
def axx (t:TA):TE:=fun σ H Q=>t σ H fun xs H1=>xs.length≤sizeLine∧∀ p,H1 p=none→Q (.ref p) (upd H1 p (.lst xs))
theorem aqu {x1} (h:PA X es t):PE X (.Tuple es x1 pos) (axw t):=by
 intro pins s σ H Q I hq
 refine wpAny_Tuple_spliced (thn (h pos pins s σ H _ I hq) fun us s1 ⟨xs,H1,I1,r,z,q⟩=>⟨by rw [← r.length];exact z,?_⟩)
 have hf:H1 s1.heap.objs.size=none:=I1.hok.fresh (Nat.le_refl _)
 refine ⟨.ref s1.heap.objs.size,upd H1 s1.heap.objs.size (.tup xs),I1.laid (t':=s1.toks) (fun b u e=>Heap.get?_push_of_some _ e) (Nat.le_refl _) ?_,rfl,q _ hf⟩
 exact ⟨z,us,r,⟨_,Heap.get?_push_size _ rfl,rfl,_,rfl⟩⟩
theorem aqv (h:PA X es t):PE X (.List es pos) (axx t):=by
 intro pins s σ H Q I hq
 refine wpAny_List_spliced (thn (h pos pins s σ H _ I hq) fun us s1 ⟨xs,H1,I1,r,z,q⟩=>⟨by rw [← r.length];exact z,?_⟩)
 have hf:H1 s1.heap.objs.size=none:=I1.hok.fresh (Nat.le_refl _)
 refine ⟨.ref s1.heap.objs.size,upd H1 s1.heap.objs.size (.lst xs),I1.laid (t':=s1.toks) (fun b u e=>Heap.get?_push_of_some _ e) (Nat.le_refl _) ?_,rfl,q _ hf⟩
 exact ⟨z,us,0,r,Heap.get?_push_size _ rfl⟩
end
abbrev Sp:=List V→Hp→VK→XK→Prop
abbrev CXT:=List Env→Hp→Shared→XK→Value→Shared→Prop
structure Env0 (P:Program) (w:World) (K:PySem.W.Frag) (mg:Str→Option Value) (base:Heap) (A:Around) (outer:List Env) (s:Shared) (H:Hp):Prop where
 frames:A.frames=some outer
 mod:Mod K mg base
 bs:∀ b o,base.get? b=some o→s.heap.get? b=some o∧H b=none
 bsz:base.objs.size≤s.heap.objs.size
 funs:s.heap.FunFrames base outer
 frf:∀ b∈frs outer,H b=none
 hok:HOk P w H s.heap
 bare:AllBare s.gens
def CE (outer:List Env) (P:Program) (w:World) (H:Hp) (s:Shared) (Q:VK) (u:Value) (s':Shared):Prop :=
 ∃ v H',s'.os=s.os∧AllBare s'.gens∧Un (frs outer) [] H H' s.heap s'.heap∧HOk P w H' s'.heap∧RelV v u∧Q v H'
def CR (CX:CXT) (outer:List Env) (P:Program) (w:World) (H:Hp) (s:Shared) (Q:VK) (E:XK) (r:Result) (s':Shared):Prop :=
 match r with
 | .ok (.ret u)=>CE outer P w H s Q u s'
 | .ok _=>False
 | .error e=>CX outer H s E e s'
structure FnOk (P:Program) (w:World) (K:PySem.W.Frag) (mg:Str→Option Value) (base:Heap) (CX:CXT) (k:Nat) (f:Addr) (fd:FuncData) (ps:List Str) (sp:Sp):Prop where
 len:∀ vs H Q E,sp vs H Q E→vs.length=ps.length
 run:∀ (A:Around) (outer:List Env) (s:Shared) (H:Hp) (args:Args) (us:List Value) (vs:List V) (Q:VK) (E:XK),Room k A→Env0 P w K mg base A outer s H→BindsTo s fd args (ps.zip us)→Vals vs us→sp vs H Q E →
  codeAny (model P w) A (.call (.ref f) args) (CR CX outer P w H s Q E) s
theorem FnOk.imp {P:Program} {w:World} {K:PySem.W.Frag} {mg:Str→Option Value} {base:Heap} {CX:CXT} {k:Nat} {f:Addr} {fd:FuncData} {ps:List Str} {sp sp':Sp} (F:FnOk P w K mg base CX k f fd ps sp)
  (h:∀ vs H Q E,sp' vs H Q E→sp vs H Q E):FnOk P w K mg base CX k f fd ps sp' :=
 ⟨fun vs H Q E q=>F.len vs H Q E (h _ _ _ _ q),fun A outer s H args us vs Q E hr he hb hv hs=>F.run A outer s H args us vs Q E hr he hb hv (h _ _ _ _ hs)⟩
section
variable {X:Cx} {pins:List (Addr × Obj)} {σ:St} {H:Hp} {s s':Shared}
theorem Inv.env0 (I:Inv X pins σ H s):Env0 X.prog X.w X.K X.mg X.base X.A X.stack s H :=
 ⟨I.ok.frames,I.ok.mod,I.bs,Nat.le_trans I.ok.bsz I.sz,I.stack,I.stkFree,I.hok,I.bare⟩
theorem Inv.after {Q:VK} {u:Value} (I:Inv X pins σ H s) (h:CE X.stack X.prog X.w H s Q u s'):EP X pins σ Q u s':=by
 obtain ⟨v,H',os,bare,un,hok,r,q⟩:=h
 obtain ⟨hh,g,d,t,os'⟩:=s'
 obtain rfl:os'=s.os:=os
 exact ⟨v,H',I.call (h':=hh) (g':=g) (d':=d) (t':=t) (ch:=[]) un hok bare (fun b z=>absurd z (by simp)),r,q⟩
end
def aqw (sp:Sp) (dvs:List V) (E:XK) (t:TA):TE:=fun σ H Q=>t σ H fun vs H1=>sp (vs++dvs) H1 Q E
def Binds (K:PySem.W.Frag) (fd:FuncData) (ps:List Str) (ds:List Value):Prop :=
 ∀ (s:Shared) (us:List Value),K.In s.heap→(us++ds).length=ps.length→BindsTo s fd ⟨us,[]⟩ (ps.zip (us++ds))
theorem Binds.all {K:PySem.W.Frag} {fd:FuncData} {ps:List Str} (h:∀ us:List Value,us.length=ps.length→bindArgs fd ⟨us,[]⟩=pure (ps.zip us)):Binds K fd ps []:=fun s us _ hl=>by
 rw [List.append_nil] at hl ⊢
 exact .of_eq (h us hl)
def ab5 (CX:CXT) (X:Cx) (E:XK):Prop:=∀ (pins:List (Addr × Obj)) (σ:St) (H:Hp) (s:Shared) (e:Value) (s':Shared),Inv X pins σ H s→CX X.stack H s E e s'→X.xe e s'
section
variable {X:Cx} {CX:CXT} {k:Nat} {f C:Addr} {fd:FuncData} {ps:List Str} {sp:Sp} {dvs:List V} {ds:List Value} {E:XK} {x m:Str} {p pos apos:Pos} {e o:Expr} {es:List Expr} {ta:TE} {t:TA}
theorem al3 {pins:List (Addr × Obj)} {σ:St} {H:Hp} {s:Shared} {Q:VK} {us:List Value} {vs:List V} (F:FnOk X.prog X.w X.K X.mg X.base CX k f fd ps sp) (hr:Room k X.A) (hb:Binds X.K fd ps ds) (hd:Vals dvs ds) (hx:ab5 CX X E)
  (I:Inv X pins σ H s) (r:Vals vs us) (h:sp (vs++dvs) H Q E):wpAny (model X.prog X.w) X.A (call (.ref f) us) (EP X pins σ Q) X.xe s:=by
 have r2:Vals (vs++dvs) (us++ds):=r.append hd
 have hl:(us++ds).length=ps.length:=by rw [← r2.length];exact F.len _ _ _ _ h
 refine wpAny_call (codeAny_mono (F.run X.A X.stack s H ⟨us,[]⟩ (us++ds) (vs++dvs) Q E hr I.env0 (hb s us I.kIn hl) r2 h) fun r s' hq=>?_)
 cases r with
 | error e=>exact hx pins σ H s e s' I hq
 | ok fl =>
  cases fl with
  | ret u=>exact I.after hq
  | next=>exact False.elim hq
  | brk=>exact False.elim hq
  | cont=>exact False.elim hq
theorem af8 (F:FnOk X.prog X.w X.K X.mg X.base CX k f fd ps sp) (hr:Room k X.A) (hg:Gl X x) (hm:X.mg x=some (.ref f)) (hk:PySem.W.keepIn X.K (.ref f)=true) (hb:Binds X.K fd ps ds) (hd:Vals dvs ds) (hx:ab5 CX X E)
  (ha:PA X (e::es) t) (hdb:(x == ("__debug__" : Str))=false:=by decide) (he:starEach (e::es) X.env=(false,eval e X.env)::starEach es X.env:=by rfl) (hpl:(backTo pos (starEach es X.env)).any (·.1)=false:=by rfl) :
  PE X (.Call (.Name x p) (e::es) [] pos) (aqw sp dvs E t):=by
 intro pins s σ H Q I h
 refine wpAny_Call_Name_kw (aew I hg hm ?_ hdb)
 refine PySem.W.callWith_K (h₀:=X.base) I.ok.mod.kin hk (thn (ha pos pins s σ H _ I h) fun us s1 ⟨vs,H1,I1,r,q⟩=>⟨I1.kIn,?_⟩) he hpl
 exact al3 F hr hb hd hx I1 r q
theorem ais (F:FnOk X.prog X.w X.K X.mg X.base CX k f fd ps sp) (hr:Room k X.A) (hg:Gl X x) (hm:X.mg x=some (.ref f)) (hk:PySem.W.keepIn X.K (.ref f)=true) (hb:Binds X.K fd ps ds) (hd:Vals dvs ds) (hx:ab5 CX X E)
  (hdb:(x == ("__debug__" : Str))=false:=by decide):PE X (.Call (.Name x p) [] [] pos) (aqw sp dvs E awm):=by
 intro pins s σ H Q I h
 refine wpAny_Call_Name_kw (aew I hg hm ?_ hdb)
 exact PySem.W.callWith_K0 I.kIn hk (al3 (us:=[]) F hr hb hd hx I .nil h)
end
structure FnScope (N P:List Str) (sc:Scope):Prop where
 kind:sc.kind = .function
 co:sc.isCoroutine=false
 gen:sc.isGenerator=false
 nd:N.Nodup
 pre:N.take P.length=P
 par:∀ x∈P,sc.names.lookup x=some .local∨sc.names.lookup x=some .cell
 nofree:∀ y∈sc.names,y.2≠.free
theorem a8c {kindOf:Str→Option NameKind} {x:Str}:∀ {binds:List (Str × Value)} {m:Str→Option Value},(∀ v,(x,v) ∉ binds)→bindL kindOf binds m x=m x
 | [],_,_=>rfl
 | (n,v)::r,m,h=>by
  unfold bindL
  rw [a8c fun w hw=>h w (List.mem_cons_of_mem _ hw)]
  split
  ·have:x≠n:=by rintro rfl;exact h v List.mem_cons_self
   simp [this]
  ·rfl
theorem a8d {kindOf:Str→Option NameKind} {x:Str}:∀ {binds:List (Str × Value)} {m:Str→Option Value},(∀ v,(x,v) ∉ binds)→bindC kindOf binds m x=m x
 | [],_,_=>rfl
 | (n,v)::r,m,h=>by
  unfold bindC
  rw [a8d fun w hw=>h w (List.mem_cons_of_mem _ hw)]
  split
  ·rfl
  ·have:x≠n:=by rintro rfl;exact h v List.mem_cons_self
   simp [this]
theorem a8e {kindOf:Str→Option NameKind} {x:Str} {v:Value}:∀ {P:List Str} {vs:List Value} {i:Nat} {m:Str→Option Value},P.Nodup→P[i]? = some x→vs[i]? = some v→kindOf x=some .local →
  bindL kindOf (P.zip vs) m x=some v
 | [],_,_,_,_,h,_,_=>by simp at h
 | _::_,[],_,_,_,_,h,_=>by simp at h
 | p::P,w::vs,0,m,nd,h1,h2,hk=>by
  simp at h1 h2;subst h1;subst h2
  show bindL kindOf ((p,w)::P.zip vs) m p=_
  unfold bindL
  rw [a8c fun v hv=>(List.nodup_cons.mp nd).1 (List.of_mem_zip hv).1,if_pos hk]
  simp
 | p::P,w::vs,i+1,m,nd,h1,h2,hk=>by
  show bindL kindOf ((p,w)::P.zip vs) m x=_
  unfold bindL
  exact a8e (i:=i) (List.nodup_cons.mp nd).2 (by simpa using h1) (by simpa using h2) hk
theorem a8f {kindOf:Str→Option NameKind} {x:Str} {v:Value}:∀ {P:List Str} {vs:List Value} {i:Nat} {m:Str→Option Value},P.Nodup→P[i]? = some x→vs[i]? = some v→kindOf x≠some .local →
  bindC kindOf (P.zip vs) m x=some v
 | [],_,_,_,_,h,_,_=>by simp at h
 | _::_,[],_,_,_,_,h,_=>by simp at h
 | p::P,w::vs,0,m,nd,h1,h2,hk=>by
  simp at h1 h2;subst h1;subst h2
  show bindC kindOf ((p,w)::P.zip vs) m p=_
  unfold bindC
  rw [a8d fun v hv=>(List.nodup_cons.mp nd).1 (List.of_mem_zip hv).1,if_neg hk]
  simp
 | p::P,w::vs,i+1,m,nd,h1,h2,hk=>by
  show bindC kindOf ((p,w)::P.zip vs) m x=_
  unfold bindC
  exact a8f (i:=i) (List.nodup_cons.mp nd).2 (by simpa using h1) (by simpa using h2) hk
def start (N:List Str) (vs:List V):St:=vs.map some++List.replicate (N.length - vs.length) none
def a2r (CX:CXT) (P:Program) (w:World) (K:PySem.W.Frag) (mg:Str→Option Value) (base:Heap) (N:List Str) (qual:Str) (scope:Scope) (f:Addr) (cd:Value) (A:Around) (outer:List Env) (s:Shared) (H:Hp) (E:XK):Cx where
 prog:=P
 w:=w
 K:=K
 mg:=mg
 base:=base
 A:=A.deeper (envOfC qual scope s.heap.objs.size f cd)
 N:=N
 s₀:=s
 H₀:=H
 env:=envOfC qual scope s.heap.objs.size f cd
 outer:=outer
 stack:=envOfC qual scope s.heap.objs.size f cd::outer
 ex:=[]
 calm:=true
 fn:=fun _=>true
 pn:=[]
 xe:=fun e s'=>wpAny (model P w) (A.deeper (envOfC qual scope s.heap.objs.size f cd)) (leaving (envOfC qual scope s.heap.objs.size f cd) e) (fun _ s''=>CX outer H s E e s'') (fun e' s''=>CX outer H s E e' s'') s'
theorem ab6 {sc:Scope} {n:Nat} {x:Str} (h:sc.names.lookup x=some .cell):∃ c,(cellsFrom n sc.names []).lookup x=some c:=by
 have q:=PySem.W.cellsFrom_some sc.names n [] (.inl h)
 exact Option.isSome_iff_exists.mp q
theorem af9 {CX:CXT} {P:Program} {w:World} {K:PySem.W.Frag} {mg:Str→Option Value} {base:Heap} {N ps:List Str} {qual:Str} {scope:Scope} {f:Addr} {cd:Value} {A:Around} {outer:List Env} {s s1:Shared} {H:Hp} {E:XK} {us:List Value} {vs:List V}
  (S:FnScope N ps scope) (hd:A.handled=none) (e0:Env0 P w K mg base A outer s H) (hl:vs.length=ps.length) (r:Vals vs us)
  (x:InCallC s s.heap.objs.size (bindL (envOfC qual scope s.heap.objs.size f cd).kindOf (ps.zip us) fun _=>none) (cellsFrom (s.heap.objs.size+1) scope.names []) (bindC (envOfC qual scope s.heap.objs.size f cd).kindOf (ps.zip us) fun _=>none) s1) :
  Inv (a2r CX P w K mg base N qual scope f cd A outer s H E) [] (start N vs) H s1:=by
 have hpl:ps.length≤N.length:=by have:=congrArg List.length S.pre;rw [List.length_take] at this;omega
 obtain ⟨h1,tk,rfl,hk⟩:=x.done
 have noA:∀ b:Addr,b ∉ (a2r CX P w K mg base N qual scope f cd A outer s H E).ex:=fun b z=>absurd (show b∈([]:List Addr) from z) (by simp)
 refine ⟨⟨e0.mod,S.kind,rfl,rfl,Nat.le_refl _,fun y z c h1 h2=>?_,fun y hy=>?_,fun y c _ h=>?_,fun _=>hd,Around.frames_deeper e0.frames, .inr ⟨rfl,rfl⟩,fun b z=>absurd z (noA b),e0.bs,e0.bsz,fun b _ _=>noA b,fun b z=>absurd z (noA b),e0.funs,e0.frf⟩,
  rfl,e0.bare,Un.kept hk,⟨_,x.toInCall.ns,fun i y v h1 h2 h3=>?_⟩,fun y c h=>⟨_,x.cell y c h⟩,e0.hok.fresh (Nat.le_refl _),fun y c h=>?_,fun p hp=>absurd (show p∈([]:List (Addr × Obj)) from hp) (by simp),e0.hok.kept hk,?_⟩
 ·exact name_of_addr x.apart (PySem.mem_of_lookup h1) (PySem.mem_of_lookup h2)
 ·have hy:scope.names.lookup y=some .cell∨scope.names.lookup y=some .free:=hy
  rcases hy with hy | hy
  ·exact ab6 hy
  ·exact absurd rfl (S.nofree _ (PySem.mem_of_lookup hy))
 ·exact Nat.le_of_lt (x.above y c (PySem.mem_of_lookup h))
 ·have hi:i<vs.length:=by
   unfold start at h2
   by_cases hi:i<vs.length
   ·exact hi
   ·rw [List.getElem?_append_right (by simpa using hi)] at h2
    rw [List.getElem?_replicate] at h2
    split at h2<;>cases h2
  have ha:vs[i]? = some v:=by
   unfold start at h2
   rw [List.getElem?_append_left (by simpa using hi),List.getElem?_map] at h2
   cases e:vs[i]? with
   | none=>rw [e] at h2;cases h2
   | some a=>rw [e] at h2;cases h2;rfl
  obtain ⟨u,hu,rv⟩:=r.get ha
  have hp:ps[i]? = some y:=by
   rw [← S.pre,List.getElem?_take_of_lt (by omega)];exact h1
  have ndP:ps.Nodup:=by rw [← S.pre];exact S.nd.sublist (List.take_sublist _ _)
  refine ⟨u,rv,?_⟩
  rcases S.par y (List.mem_of_getElem? hp) with k | k
  ·exact .inl ⟨k,a8e ndP hp hu k⟩
  ·obtain ⟨c,e⟩:=ab6 (n:=s.heap.objs.size+1) k
   refine .inr ⟨.inl k,c,e,?_⟩
   have q:=x.cell y c e
   rw [a8f ndP hp hu (by show scope.names.lookup y≠_;rw [k];decide)] at q
   exact q
 ·exact e0.hok.fresh (Nat.le_of_lt (x.above y c (PySem.mem_of_lookup h)))
 ·unfold start
  show _=N.length
  rw [List.length_append,List.length_map,List.length_replicate]
  omega
theorem avc {CX:CXT} {P:Program} {w:World} {K:PySem.W.Frag} {mg:Str→Option Value} {base:Heap} {k:Nat} {f:Addr} {name qual:Str} {params:Arguments} {body:List Stmt} {scope:Scope} {dV kV doc pm cdv ct oc:Value} {an od:Option Addr}
  {osl:Array (Option Value)} {N ps:List Str} {sp:Sp} (lk:K.lookup f=some ⟨oc,od, .func (PySem.W.fnOf name qual params body scope dV kV doc pm an cdv ct),osl⟩) (hcd:PySem.W.codeIn K cdv qual=true) (S:FnScope N ps scope)
  (len:∀ vs H Q E,sp vs H Q E→vs.length=ps.length)
  (hbody:∀ (A:Around) (outer:List Env) (s:Shared) (H:Hp) (vs:List V) (Q:VK) (E:XK),Room k (A.deeper (envOfC qual scope s.heap.objs.size f cdv))→sp vs H Q E →
   ∃ t,PSs (a2r CX P w K mg base N qual scope f cdv A outer s H E) body t∧t { nx:=fun _ H'=>Q .non H',rt:=Q } (start N vs) H) :
  FnOk P w K mg base CX (k+1) f (PySem.W.fnOf name qual params body scope dV kV doc pm an cdv ct) ps sp:=by
 refine ⟨len,fun A outer s H args us vs Q E hr e0 hb r hsp=>?_⟩
 have hl:=len _ _ _ _ hsp
 have KX:K.In s.heap:=e0.mod.kin.keeps fun b o e=>(e0.bs b o e).1
 have lim:s.heap.NoLimit:=e0.mod.nolimit.keeps fun b o e=>(e0.bs b o e).1
 have hkind:∀ y∈ps.zip us,scope.names.lookup y.1=some .local∨(scope.names.lookup y.1=some .cell∧((cellsFrom (s.heap.objs.size+1) scope.names []).lookup y.1).isSome=true):=fun ⟨n,v⟩ hy=>by
  rcases S.par n (List.of_mem_zip hy).1 with q | q
  ·exact .inl q
  ·exact .inr ⟨q,PySem.W.cellsFrom_some _ _ _ (.inl q)⟩
 refine codeAny_call_function hr.depth (KX _ _ lk) rfl S.co S.gen rfl (PySem.W.codeRec_of KX hcd) (hb _ _ _ _ ?_)
 refine wpAny_newFunctionEnv_cells S.kind hkind fun env he s1 x=>?_
 subst he
 refine ⟨lim.keeps x.toInCall.keep,codeAny_func ?_⟩
 obtain ⟨t,ht,hq⟩:=hbody A outer s H vs Q E (hr.deeper _) hsp
 have I:Inv (a2r CX P w K mg base N qual scope f cdv A outer s H E) [] (start N vs) H s1:=af9 S hr.hd e0 hl r x
 refine wpAny_mono (ht [] s1 (start N vs) H _ I hq) (fun fl s' hs=>?_) fun e s' hs=>hs
 have fin:∀ {σ':St} {H':Hp} {v:V} {u:Value},Inv (a2r CX P w K mg base N qual scope f cdv A outer s H E) [] σ' H' s'→RelV v u→Q v H'→CE outer P w H s Q u s' :=
  fun {σ' H' v u} J rv q=>⟨v,H',J.os,J.bare,J.base,J.hok,rv,q⟩
 cases fl with
 | ret u =>
  obtain ⟨v,σ',H',J,rv,q⟩:=hs
  exact fin J rv q
 | next =>
  obtain ⟨σ',H',J,q⟩:=hs
  exact fin (v:=V.non) (u:=Value.none) J rfl q
 | brk =>
  obtain ⟨_,_,_,q⟩:=hs
  exact False.elim q
 | cont =>
  obtain ⟨_,_,_,q⟩:=hs
  exact False.elim q
end L2
namespace L2
open PySem PySem.Spec PyProof.Rows
section
variable {X:Cx} {x:Str} {p pos:Pos} {e:Expr} {es:List Expr} {t:TA} {id T:String} {r:List V→Hp→VK→Prop}
def tCB (r:List V→Hp→VK→Prop) (t:TA):TE:=fun σ H Q=>t σ H fun vs H1=>r vs H1 Q
theorem a6v (hc:CallR X (.builtin id) r) (hg:Gl X x) (hm:X.mg x=none) (hv:bootBuiltins x=some (.builtin id)) (ha:PA X (e::es) t) (hn:x ≠ "__name__":=by decide) (hdb:(x == ("__debug__" : Str))=false:=by decide)
  (he:starEach (e::es) X.env=(false,eval e X.env)::starEach es X.env:=by rfl) (hpl:(backTo pos (starEach es X.env)).any (·.1)=false:=by rfl):PE X (.Call (.Name x p) (e::es) [] pos) (tCB r t):=by
 intro pins s σ H Q I h
 refine wpAny_Call_Name_kw (a4d I hg hm hv ?_ hn hdb)
 exact PyProof.Rows.callWith_builtin1 (thn (ha pos pins s σ H _ I h) fun us s1 ⟨vs,H1,I1,r1,q1⟩=>hc pins s1 σ H1 vs us Q I1 r1 q1) he hpl
theorem a8g (hc:CallR X (.type T) r) (hg:Gl X x) (hm:X.mg x=none) (hv:bootBuiltins x=some (.type T)) (ha:PA X (e::es) t) (hn:x ≠ "__name__":=by decide) (hdb:(x == ("__debug__" : Str))=false:=by decide)
  (he:starEach (e::es) X.env=(false,eval e X.env)::starEach es X.env:=by rfl) (hpl:(backTo pos (starEach es X.env)).any (·.1)=false:=by rfl):PE X (.Call (.Name x p) (e::es) [] pos) (tCB r t):=by
 intro pins s σ H Q I h
 refine wpAny_Call_Name_kw (a4d I hg hm hv ?_ hn hdb)
 exact PyProof.Rows.callWith_type1 (thn (ha pos pins s σ H _ I h) fun us s1 ⟨vs,H1,I1,r1,q1⟩=>hc pins s1 σ H1 vs us Q I1 r1 q1) he hpl
end
end L2
namespace HT
open PySem PyProof.Rows
section
variable {prog:Program} {w:World} {A:Around} {E:Value→Shared→Prop} {s:Shared}
theorem amv {t b:Addr} {vs ws:List Value} {Q:Value→Shared→Prop} (ht:IsTup s.heap t vs.toArray) (hb:IsTup s.heap b ws.toArray) (hv:vs≠[])
  (h1:ws=[]→Q (.ref t) s) (h2:ws≠[]→Q (.ref s.heap.objs.size) { s with heap:=s.heap.push { cls:=.type "tuple",data:=.seq (vs++ws).toArray } })
  (hsz:vs.length+ws.length≤sizeLine):wpAny (model prog w) A (binaryOp .Add (.ref t) (.ref b)) Q E s:=by
 obtain ⟨⟨cls,dd,data,sl⟩,ho,hc,n,hd⟩:=id ht
 obtain ⟨⟨cls2,dd2,data2,sl2⟩,ho2,hc2,n2,hd2⟩:=id hb
 simp only at hc hd hc2 hd2
 subst hc hd hc2 hd2
 have e:vs.toArray++ws.toArray=(vs++ws).toArray:=by simp
 by_cases hw:ws=[]
 ·exact concat_meets ⟨_,ho,rfl⟩ ⟨_,ho2,rfl⟩ noFill_tuple_add seq_tuple_add PySem.F.slot_tuple_add PySem.F.entry_tuple_add (PySem.F.args_tuple_add_2 _ _)
   (tuple_addW1 t b vs.toArray ws.toArray n n2 dd dd2 sl sl2 (by simpa using hv) (by simp [hw])) ⟨ho,ho2,h1 hw⟩
 ·refine concat_meets ⟨_,ho,rfl⟩ ⟨_,ho2,rfl⟩ noFill_tuple_add seq_tuple_add PySem.F.slot_tuple_add PySem.F.entry_tuple_add (PySem.F.args_tuple_add_2 _ _)
   (tuple_addW2 t b vs.toArray ws.toArray n n2 dd dd2 sl sl2 (by simpa using hv) (by simpa using hw) (by rw [List.size_toArray,List.size_toArray];exact hsz)) ⟨ho,ho2,?_⟩
  rw [e]
  exact h2 hw
def sIx (n d:Nat):Option Int→Nat
 | none=>d
 | some v=>if v<0 then (v+(n:Int)).toNat else min v.toNat n
theorem ab7 (n d:Nat):sIx n d none=d:=rfl
theorem a6w (n d k:Nat):sIx n d (some (k:Int))=min k n:=by
 show (if (k:Int)<0 then ((k:Int)+(n:Int)).toNat else min (k:Int).toNat n)=min k n
 rw [if_neg (by omega),Int.toNat_natCast]
theorem afa (n d:Nat) (hd:d≤n) (o:Option Int):sIx n d o≤n:=by
 cases o with
 | none=>exact hd
 | some v =>
  show (if v<0 then (v+(n:Int)).toNat else min v.toNat n)≤n
  by_cases hv:v<0
  ·rw [if_pos hv];omega
  ·rw [if_neg hv];exact Nat.min_le_right _ _
theorem afb (v:Int) (n d:Nat):(if v<0 then max (v+(n:Int)) 0 else min v (n:Int))=((sIx n d (some v):Nat):Int):=by
 show (if v<0 then max (v+(n:Int)) 0 else min v (n:Int))=(((if v<0 then (v+(n:Int)).toNat else min v.toNat n):Nat):Int)
 by_cases hv:v<0
 ·simp only [if_pos hv];omega
 ·simp only [if_neg hv];omega
theorem ad2 (lo hi:Option Int) (n:Nat):Builtin.Slice.sliceAdjust lo hi 1 (n:Int)=(((sIx n 0 lo:Nat):Int),((sIx n n hi:Nat):Int)):=by
 have h1:¬ ((1:Int)<0):=by omega
 unfold Builtin.Slice.sliceAdjust
 simp only [h1,if_false]
 refine Prod.ext ?_ ?_
 ·cases lo with
  | none=>rfl
  | some v=>exact afb v n 0
 ·cases hi with
  | none=>rfl
  | some v=>exact afb v n n
theorem ad3 (i j:Nat):Builtin.Slice.slicePlaces (i:Int) (j:Int) 1=j - i:=by
 unfold Builtin.Slice.slicePlaces
 have h1:(1:Int) > 0:=by omega
 simp only [h1,if_true,Int.ediv_one]
 split<;>omega
theorem a67 {v:Value} {o:Option Int} {Q:Option Int→Shared→Prop} (p:IsPart v o) (h:Q o s):wpAny (model prog w) A (Builtin.Slice.slicePartIndex v) Q E s:=by
 cases p with
 | none=>exact slicePart_none h
 | int i t=>exact slicePart_int h
theorem a0g {sl:Addr} {vl vu:Value} {lo hi:Option Int} {n:Nat} {Q:Int × Int × Nat→Shared→Prop} (hs:s.heap.IsSliceOf sl vl vu .none) (pl:IsPart vl lo) (pu:IsPart vu hi)
  (h:Q (((sIx n 0 lo:Nat):Int),1,sIx n n hi - sIx n 0 lo) s):wpAny (model prog w) A (Builtin.Slice.sliceApplied (.ref sl) (pure (n:Int))) Q E s:=by
 obtain ⟨os,hos,hcs,hds⟩:=id hs
 unfold Builtin.Slice.sliceApplied Builtin.Slice.sliceFields
 refine wpAny_bind (wpAny_bind (wpAny_field hos hds (x:=vl) rfl (wpAny_bind (wpAny_field hos hds (x:=vu) rfl (wpAny_bind (wpAny_field hos hds (x:=.none) rfl (wpAny_pure ?_)))))))
 refine wpAny_bind (slicePart_none ?_)
 show wpAny _ _ (if ((1:Int) == 0)=true then _ else _) _ _ s
 rw [if_neg (by decide)]
 refine wpAny_bind (a67 pl (wpAny_bind (a67 pu (wpAny_bind (wpAny_pure ?_)))))
 show wpAny _ _ (match Builtin.Slice.sliceAdjust lo hi 1 (n:Int) with | (lo,hi)=>pure (lo,(1:Int),Builtin.Slice.slicePlaces lo hi 1)) _ _ s
 rw [ad2 lo hi n]
 show wpAny _ _ (pure (((sIx n 0 lo:Nat):Int),(1:Int),Builtin.Slice.slicePlaces ((sIx n 0 lo:Nat):Int) ((sIx n n hi:Nat):Int) 1)) _ _ s
 rw [ad3]
 exact wpAny_pure h
theorem ait (xs:Array Value) (i k:Nat):((List.range k).filterMap fun (m:Nat)=>xs[((i:Int)+(m:Int)*1).toNat]?).toArray=((xs.toList.drop i).take k).toArray:=by
 have e:(fun (m:Nat)=>xs[((i:Int)+(m:Int)*1).toNat]?)=fun m=>xs[i+m]?:=by
  funext m
  have:((i:Int)+(m:Int)*1).toNat=i+m:=by omega
  rw [this]
 rw [e]
 have:=pick_run xs i k
 rw [List.filterMap_map] at this
 have e2:((fun x=>xs[x]?) ∘ fun x=>i+x)=fun m=>xs[i+m]?:=rfl
 rw [e2] at this
 rw [this]
theorem a2s {t sl:Addr} {items:Array Value} {vl vu:Value} {lo hi:Option Int} {Q:Value→Shared→Prop} (ht:IsTup s.heap t items) (hs:s.heap.IsSliceOf sl vl vu .none) (pl:IsPart vl lo) (pu:IsPart vu hi)
  (hw:¬ (sIx items.size 0 lo=0∧sIx items.size items.size hi=items.size))
  (h:Q (.ref s.heap.objs.size) { s with heap:=s.heap.push { cls:=.type "tuple",data:=.seq ((items.toList.drop (sIx items.size 0 lo)).take (sIx items.size items.size hi - sIx items.size 0 lo)).toArray } })
  (hsz:items.size≤sizeLine):wpAny (model prog w) A (getItem (.ref t) (.ref sl)) Q E s:=by
 have htake:sizeOk (.seq ((items.toList.drop (sIx items.size 0 lo)).take (sIx items.size items.size hi - sIx items.size 0 lo)).toArray):=by
  show ((items.toList.drop (sIx items.size 0 lo)).take (sIx items.size items.size hi - sIx items.size 0 lo)).toArray.size≤sizeLine
  rw [List.size_toArray,List.length_take,List.length_drop,Array.length_toList]
  omega
 have hj:sIx items.size items.size hi≤items.size:=afa _ _ (Nat.le_refl _) hi
 obtain ⟨os,hos,hcs,hds⟩:=id hs
 have hTs:s.TypeIs (.ref sl) "slice":=⟨os,hos,hcs⟩
 unfold getItem
 try with_reducible refine wpAny_holding ?_
 first | refine wpAny_bind (wpAny_pure ?_) | skip
 refine wpAny_bind (wpAny_sequenceKey ht.typeIs (by decide) ?_)
 refine wpAny_bind (wpAny_callSpecial?_slot (name:=Str.ofString "__getitem__") ht.typeIs PyProof.Rows.slot_tuple_getitem
  (wpAny_call_entry PyProof.Rows.slot_tuple_getitem ht.typeIs entry_tuple_getitem ?_ (args_tuple_getitem _ _)))
 show wpAny _ _ (Builtin.Tuple.tupleItemsOf (.ref t)>>=_) _ _ s
 refine wpAny_bind (tupleItemsOf_ ht ?_)
 refine wpAny_bind (wpAny_typeOf hTs ?_)
 rw [if_pos (by decide)]
 refine wpAny_bind (a0g hs pl pu ?_)
 have hno:¬ ((((sIx items.size 0 lo:Nat):Int) == 0 && (1:Int) == 1 && (sIx items.size items.size hi - sIx items.size 0 lo) == items.size)=true):=by
  intro q
  rw [Bool.and_eq_true,Bool.and_eq_true] at q
  have q1:((sIx items.size 0 lo:Nat):Int)=0:=eq_of_beq q.1.1
  have q2:sIx items.size items.size hi - sIx items.size 0 lo=items.size:=eq_of_beq q.2
  exact hw ⟨by omega,by omega⟩
 show wpAny _ _ (if (((sIx items.size 0 lo:Nat):Int) == 0 && (1:Int) == 1 && (sIx items.size items.size hi - sIx items.size 0 lo) == items.size)=true then _ else _) _ _ s
 rw [if_neg hno,ait]
 first
  | exact wpAny_bind (m:=Builtin.Tuple.tupleExact _) (wpAny_newObj_type (wpAny_pure ⟨_,rfl,wpAny_pure h⟩) htake)
  | exact wpAny_bind (m:=Builtin.Tuple.tupleExact _) (wpAny_newObj_type (wpAny_bind (wpAny_pure (wpAny_pure ⟨_,rfl,wpAny_pure h⟩))) htake)
  | exact wpAny_bind (wpAny_bind (m:=Builtin.Tuple.tupleExact _) (wpAny_newObj_type (wpAny_pure (wpAny_pure ⟨_,rfl,wpAny_pure h⟩)) htake))
  | exact wpAny_bind (wpAny_bind (m:=Builtin.Tuple.tupleExact _) (wpAny_newObj_type (wpAny_pure ⟨_,rfl,wpAny_pure h⟩) htake))
end
end HT
namespace L2
open PySem PySem.Spec PyProof.Rows
abbrev TO:=St→Hp→(Option Int→Hp→Prop)→Prop
def PO (X:Cx) (e:Option Expr) (t:TO):Prop :=
 ∀ (pins:List (Addr × Obj)) (s:Shared) (σ:St) (H:Hp) (Q:Option Int→Hp→Prop),Inv X pins σ H s→t σ H Q →
  wpAny (model X.prog X.w) X.A (evalPart e X.env) (fun u s'=>∃ o H',Inv X pins σ H' s'∧IsPart u o∧Q o H') X.xe s
def amw:TO:=fun _ H Q=>Q none H
def avd (t:TE):TO:=fun σ H Q=>t σ H fun x H1=>∃ i,x = .int i∧Q (some i) H1
theorem intsAre_of {ns:List Int}:∀ {us:List Value},Vals (ns.map V.int) us→IntsAre us ns:=by
 induction ns with
 | nil=>intro us r;rw [List.map_nil] at r;cases r;exact .nil
 | cons n ns ih =>
  intro us r
  rw [List.map_cons] at r
  cases r with
  | cons r1 r2 =>
   obtain ⟨t,e⟩:=r1
   subst e
   exact .cons n t (ih r2)
section
variable {X:Cx} {e:Expr} {te:TE} {lo hi:Option Expr} {tl th:TO} {pos p2:Pos}
theorem amx:PO X none amw:=by
 intro pins s σ H Q I h
 rw [evalPart_none]
 exact wpAny_pure ⟨none,H,I, .none,h⟩
theorem amy (h:PE X e te):PO X (some e) (avd te):=by
 intro pins s σ H Q I hw
 rw [evalPart_some]
 refine thn (h pins s σ H _ I hw) fun u s1 ⟨x,H1,I1,r1,q1⟩=>?_
 obtain ⟨i,rfl,q⟩:=q1
 obtain ⟨t,rfl⟩:=r1
 exact ⟨some i,H1,I1, .int i t,q⟩
def SlR (X:Cx) (r:V→Option Int→Option Int→Hp→VK→Prop):Prop :=
 ∀ (pins:List (Addr × Obj)) (s:Shared) (σ:St) (H:Hp) (x:V) (v vl vu:Value) (lo hi:Option Int) (sl:Addr) (Q:VK),Inv X pins σ H s→RelV x v→s.heap.IsSliceOf sl vl vu .none→IsPart vl lo→IsPart vu hi→r x lo hi H Q →
  ∃ T id,typeLookup (.type T) "__getitem__" = pure (some (.builtin id))∧s.TypeIs v T∧wpAny (model X.prog X.w) X.A (getItem v (.ref sl)) (EP X pins σ Q) X.xe s
theorem SlR.or {r r':V→Option Int→Option Int→Hp→VK→Prop} (h:SlR X r) (h':SlR X r'):SlR X (fun x lo hi H Q=>r x lo hi H Q∨r' x lo hi H Q):=by
 intro pins s σ H x v vl vu lo hi sl Q I rx hs pl pu q
 rcases q with q | q
 ·exact h pins s σ H x v vl vu lo hi sl Q I rx hs pl pu q
 ·exact h' pins s σ H x v vl vu lo hi sl Q I rx hs pl pu q
def tSl (r:V→Option Int→Option Int→Hp→VK→Prop) (te:TE) (tl th:TO):TE:=fun σ H Q=>te σ H fun x H1=>tl σ H1 fun l H2=>th σ H2 fun u H3=>r x l u H3 Q
theorem aiu {r:V→Option Int→Option Int→Hp→VK→Prop} (hr:SlR X r) (he:PE X e te) (hl:PO X lo tl) (hu:PO X hi th):PE X (.Subscript e (.Slice lo hi none p2) pos) (tSl r te tl th):=by
 intro pins s σ H Q I h
 refine Subscript_ (thn (he pins s σ H _ I h) fun v s1 ⟨x,H1,I1,r1,q1⟩=>?_)
 refine wpAny_Slice (thn (hl pins s1 σ H1 _ I1 q1) fun vl s2 ⟨l,H2,I2,pl,q2⟩=>thn (hu pins s2 σ H2 _ I2 q2) fun vu s3 ⟨u,H3,I3,pu,q3⟩=>?_)
 rw [evalPart_none]
 refine wpAny_pure ?_
 have I4:Inv X pins σ H3 { s3 with heap:=s3.heap.push { cls:=.type "slice",data:=.fields #[vl,vu, .none] } }:=I3.kept (t':=s3.toks) fun b ob q=>Heap.get?_push_of_some _ q
 obtain ⟨T,id,hT,ht,hg⟩:=hr pins { s3 with heap:=s3.heap.push { cls:=.type "slice",data:=.fields #[vl,vu, .none] } } σ H3 x v vl vu l u s3.heap.objs.size Q I4 r1 (Heap.IsSliceOf.new ..) pl pu q3
 show wpAny (model X.prog X.w) X.A (subscriptTail e (.Slice lo hi none p2) v (.ref s3.heap.objs.size)) (EP X pins σ Q) X.xe { s3 with heap:=s3.heap.push { cls:=.type "slice",data:=.fields #[vl,vu, .none] } }
 exact tail_any (ops:=[.ref s3.heap.objs.size,v]) ht hT hg (by with_unfolding_all rfl)
def al4 (xs:List V) (lo hi:Option Int):List V:=(xs.drop (HT.sIx xs.length 0 lo)).take (HT.sIx xs.length xs.length hi - HT.sIx xs.length 0 lo)
theorem a4g (xs:List V) (lo hi:Option Int):(al4 xs lo hi).length≤xs.length:=by
 unfold al4
 rw [List.length_take,List.length_drop]
 omega
def ave (K:PySem.W.Frag):V→Option Int→Option Int→Hp→VK→Prop:=fun x lo hi H Q=>∃ a xs,x = .ref a∧SqT K H a xs ∧
 ¬ (HT.sIx xs.length 0 lo=0∧HT.sIx xs.length xs.length hi=xs.length)∧∀ p,H p=none→Q (.ref p) (upd H p (.tup (al4 xs lo hi)))
theorem aqx:SlR X (ave X.K):=by
 intro pins s σ H x v vl vu lo hi sl Q I rx hs pl pu h
 obtain ⟨a,xs,rfl,hx,hw,q⟩:=h
 cases rx
 obtain ⟨its,r,ht,hz⟩:=I.tuple hx
 have hlen:its.toArray.size=xs.length:=by rw [List.size_toArray];exact r.length.symm
 refine ⟨"tuple",_,PyProof.Rows.slot_tuple_getitem.lookup,ht.typeIs,?_⟩
 refine HT.a2s ht hs pl pu (by rw [hlen];exact hw) ?_ (by rw [hlen];exact hz)
 rw [hlen]
 refine ⟨.ref s.heap.objs.size,_,I.laid (t':=s.toks) (o:=.tup (al4 xs lo hi)) (fun b ob q=>Heap.get?_push_of_some _ q) (Nat.le_refl _) ?_,rfl,q _ (I.hok.fresh (Nat.le_refl _))⟩
 exact ⟨Nat.le_trans (a4g xs lo hi) hz,_,(r.drop (HT.sIx xs.length 0 lo)).take (HT.sIx xs.length xs.length hi - HT.sIx xs.length 0 lo),IsTup.new _ _⟩
def aqy (K:PySem.W.Frag):R2:=fun x y H Q=>∃ a b xs ys,x = .ref a∧y = .ref b∧SqT K H a xs∧SqT K H b ys∧xs≠[]∧xs.length+ys.length≤sizeLine ∧
 (ys=[]→Q (.ref a) H)∧(ys≠[]→∀ p,H p=none→Q (.ref p) (upd H p (.tup (xs++ys))))
theorem Vals.nil_iff {xs:List V} {us:List Value} (r:Vals xs us):us=[]↔xs=[]:=by
 cases r with
 | nil=>simp
 | cons _ _=>simp
theorem amz:OpR X (binaryOp .Add) (aqy X.K):=by
 intro pins s σ H x y v u Q I rx ry h
 obtain ⟨a,b,xs,ys,rfl,rfl,ha,hb,hx,hz,q1,q2⟩:=h
 cases rx
 cases ry
 obtain ⟨its,r1,p1,_⟩:=I.tuple ha
 obtain ⟨its2,r2,p2,_⟩:=I.tuple hb
 refine HT.amv p1 p2 (fun z=>hx (r1.nil_iff.mp z)) (fun z=>⟨.ref a,H,I,rfl,q1 (r2.nil_iff.mp z)⟩) (fun z=>?_) (by rw [← r1.length,← r2.length];exact hz)
 refine ⟨.ref s.heap.objs.size,_,I.laid (t':=s.toks) (o:=.tup (xs++ys)) (fun b ob q=>Heap.get?_push_of_some _ q) (Nat.le_refl _) ?_,rfl,q2 (fun w=>z (r2.nil_iff.mpr w)) _ (I.hok.fresh (Nat.le_refl _))⟩
 exact ⟨by rw [List.length_append];exact hz,_,r1.append r2,IsTup.new _ _⟩
end
end L2
namespace L2
open PySem PySem.Spec PyProof.Rows
def ixN (n:Nat) (i:Int):Option Nat:=if 0≤i then (if i<n then some i.toNat else none) else if -(n:Int)≤i then some (i+n).toNat else none
def atI {α:Type} (xs:List α) (i:Int):Option α:=(ixN xs.length i).bind fun j=>xs[j]?
theorem afc {n:Nat} {i:Int} {j:Nat} (h:ixN n i=some j):seqIndex? i n=some j∧j<n ∧ -(n:Int)≤i∧i<n:=by
 unfold ixN at h
 by_cases h0:0≤i
 ·rw [if_pos h0] at h
  by_cases h1:i<n
  ·rw [if_pos h1] at h
   have e:i.toNat=j:=Option.some.inj h
   exact ⟨by rw [seqIndex_of h0 h1,e],by omega,by omega,h1⟩
  ·rw [if_neg h1] at h;cases h
 ·rw [if_neg h0] at h
  by_cases h1 : -(n:Int)≤i
  ·rw [if_pos h1] at h
   have e:(i+n).toNat=j:=Option.some.inj h
   exact ⟨by rw [seqIndex_neg (by omega) h1,e],by omega,h1,by omega⟩
  ·rw [if_neg h1] at h;cases h
theorem a9v {α:Type} {xs:List α} {i:Int} {v:α} (h:atI xs i=some v):∃ j,seqIndex? i xs.length=some j∧xs[j]? = some v∧j<xs.length ∧ -(xs.length:Int)≤i∧i<xs.length:=by
 unfold atI at h
 cases e:ixN xs.length i with
 | none=>rw [e] at h;cases h
 | some j =>
  rw [e] at h
  obtain ⟨h1,h2,h3,h4⟩:=afc e
  exact ⟨j,h1,h,h2,h3,h4⟩
theorem uo {α:Type} {xs:List α} {j:Nat} {v:α} (h:xs[j]? = some v):atI xs (j:Int)=some v:=by
 have hj:j<xs.length:=(List.getElem?_eq_some_iff.mp h).1
 have e:ixN xs.length (j:Int)=some j:=by
  unfold ixN
  rw [if_pos (by omega),if_pos (by omega)];simp
 unfold atI;rw [e];exact h
def a9w (b:Expr):Prop:=∀ o i,subscripted b false o i=operate [o,i] (getItem o i)
def IxR (X:Cx) (r:R2):Prop :=
 ∀ (value slice:Expr) (pins:List (Addr × Obj)) (s:Shared) (σ:St) (H:Hp) (x y:V) (v u:Value) (Q:VK),Inv X pins σ H s→RelV x v→RelV y u→r x y H Q →
  subscripted slice false v u=operate [v,u] (getItem v u)→wpAny (model X.prog X.w) X.A (subscriptTail value slice v u) (EP X pins σ Q) X.xe s
def MtR (X:Cx) (id:String) (r:V→List V→Hp→VK→Prop):Prop :=
 ∀ (pins:List (Addr × Obj)) (s:Shared) (σ:St) (H:Hp) (x:V) (xs:List V) (v:Value) (us:List Value) (Q:VK),Inv X pins σ H s→RelV x v→Vals xs us→r x xs H Q →
  wpAny (model X.prog X.w) X.A (call (.builtin id) (v::us)) (EP X pins σ Q) X.xe s
section
variable {X:Cx} {a b:Expr} {ta tb:TE} {pos:Pos}
theorem IxR.or {r r':R2} (h:IxR X r) (h':IxR X r'):IxR X (fun x y H Q=>r x y H Q∨r' x y H Q):=by
 intro value slice pins s σ H x y v u Q I rx ry q hs
 rcases q with q | q
 ·exact h value slice pins s σ H x y v u Q I rx ry q hs
 ·exact h' value slice pins s σ H x y v u Q I rx ry q hs
theorem avf {r:R2} (hr:IxR X r) (ha:PE X a ta) (hb:PE X b tb) (hs:a9w b):PE X (.Subscript a b pos) (tOp r ta tb):=by
 intro pins s σ H Q I h
 exact Subscript_ (av5 ha hb I h fun v u s2 x y H2 I2 rx ry q=>hr a b pins s2 σ H2 x y v u Q I2 rx ry q (hs _ _))
def awn (K:PySem.W.Frag):R2:=fun x y H Q=>∃ p xs i v,x = .ref p∧y = .int i∧SqL K H p xs∧atI xs i=some v∧Q v H
def awo (K:PySem.W.Frag):R2:=fun x y H Q=>∃ p xs i v,x = .ref p∧y = .int i∧SqT K H p xs∧atI xs i=some v∧Q v H
def awp:R2:=fun x y H Q=>∃ z i c,x = .str z∧y = .int i∧z.length≤sizeLine∧atI z.cps.toList i=some c∧Q (.str ⟨#[c]⟩) H
theorem an0:IxR X (awn X.K):=by
 intro value slice pins s σ H x y v u Q I rx ry h hs
 obtain ⟨p,xs,i,z,rfl,rfl,hq,he,q⟩:=h
 cases rx
 obtain ⟨t,rfl⟩:=ry
 obtain ⟨its,r,pl,hz⟩:=I.list hq
 obtain ⟨j,h1,h2,h3,h4,h5⟩:=a9v he
 obtain ⟨w,ew,rw'⟩:=r.get h2
 have hl:=r.length
 have hn:=a4f
 have fin:EP X pins σ Q w s:=⟨z,H,I,rw',q⟩
 by_cases h0:0≤i
 ·have hj:i.toNat=j:=by
   rw [seqIndex_of h0 h5] at h1
   exact Option.some.inj h1
  exact item_listR pl.isList h0 (by omega) (by rw [hj];simpa using ew) fin hs
 ·have hj:(i+(its.toArray.size:Int)).toNat=j:=by
   rw [seqIndex_neg (by omega) h4] at h1
   rw [List.size_toArray,← hl]
   exact Option.some.inj h1
  exact subscriptTail_builtinR (x:=w) pl.isList.typeIs slot_list_getitem.lookup
   (wpAny_getItem_list_neg (Q:=fun r s'=>r=w∧EP X pins σ Q r s') pl.isList (by omega) (by rw [List.size_toArray]<;>omega) (by omega) (by rw [hj];simpa using ew) ⟨rfl,fin⟩) hs
theorem a1y:IxR X (awo X.K):=by
 intro value slice pins s σ H x y v u Q I rx ry h hs
 obtain ⟨p,xs,i,z,rfl,rfl,hq,he,q⟩:=h
 cases rx
 obtain ⟨t,rfl⟩:=ry
 obtain ⟨its,r,pl,hz⟩:=I.tuple hq
 obtain ⟨j,h1,h2,h3,h4,h5⟩:=a9v he
 obtain ⟨w,ew,rw'⟩:=r.get h2
 have hl:=r.length
 have hn:=a4f
 have fin:EP X pins σ Q w s:=⟨z,H,I,rw',q⟩
 exact subscriptTail_builtinR (x:=w) pl.typeIs slot_tuple_getitem.lookup
  (getItem_tuple (j:=j) (Q:=fun r s'=>r=w∧EP X pins σ Q r s') pl (by omega) (by omega) (by rw [List.size_toArray,← hl];exact h1) (by simpa using ew) ⟨rfl,fin⟩) hs
theorem aqz:IxR X awp:=by
 intro value slice pins s σ H x y v u Q I rx ry h hs
 obtain ⟨z,i,c,rfl,rfl,hz,he,q⟩:=h
 obtain ⟨t,rfl⟩:=rx
 obtain ⟨t',rfl⟩:=ry
 obtain ⟨j,h1,h2,h3,h4,h5⟩:=a9v he
 have hl:z.cps.toList.length=z.length:=by simp [Str.length]
 rw [hl] at h1 h4 h5
 have hn:=a4f
 exact tail_any (typeIs_str s z t) slot_str_getitem.lookup (getItem_str (c:=c) (by
  have e1:decide (i < -(2 ^ 63:Int))=false:=decide_eq_false (by omega)
  have e2:decide (i≥2 ^ 63)=false:=decide_eq_false (by omega)
  rw [e1,e2,Bool.or_false]) (by rw [h1];simpa using h2) ⟨.str ⟨#[c]⟩,H,I.tok _,⟨_,rfl⟩,q⟩) hs
def rIx (K:PySem.W.Frag):R2:=fun x y H Q=>awn K x y H Q∨awo K x y H Q∨awp x y H Q
theorem ar0:IxR X (rIx X.K):=an0.or (a1y.or aqz)
theorem ad4 (its:List Value) (n j:Nat) (u:Value):Obj.mapSeq (·.setIfInBounds j u) { cls:=.type "list",data:=.seq its.toArray n }={ cls:=.type "list",data:=.seq (its.set j u).toArray n }:=by
 simp [Obj.mapSeq]
theorem Inv.lst {pins:List (Addr × Obj)} {σ:St} {H:Hp} {s:Shared} {p:Addr} {xs:List V} (I:Inv X pins σ H s) (h:H p=some (.lst xs)) :
  ∃ (its:List Value) (n:Nat),Vals xs its∧s.heap.get? p=some { cls:=.type "list",data:=.seq its.toArray n }∧xs.length≤sizeLine:=by
 obtain ⟨z,its,n,r,e⟩:=I.hok p _ h
 exact ⟨its,n,r,e,z⟩
theorem Inv.lstUpd {pins:List (Addr × Obj)} {σ:St} {H:Hp} {s:Shared} {p:Addr} {xs ys:List V} {its its':List Value} {n n':Nat} {f:Obj→Obj} (I:Inv X pins σ H s) (h:H p=some (.lst xs))
  (ho:s.heap.get? p=some { cls:=.type "list",data:=.seq its.toArray n }) (hf:f { cls:=.type "list",data:=.seq its.toArray n }={ cls:=.type "list",data:=.seq its'.toArray n' }) (r:Vals ys its') (hz:ys.length≤sizeLine) (t:Nat) :
  Inv X pins σ (upd H p (.lst ys)) { s with heap:=s.heap.update p f,toks:=t }:=by
 have e:(s.heap.update p f).get? p=some { cls:=.type "list",data:=.seq its'.toArray n' }:=by
  rw [Heap.get?_update_self f ho (by rw [hf]<;>rfl),hf]
 refine I.write (x:=p) (e:=p) (by rw [h];trivial) (.inl rfl) (fun b u hb q=>(Heap.get?_update_other _ _ (Ne.symm hb)).trans q) ⟨_,e⟩ ?_
 exact ⟨hz,its',n',r,e⟩
def ar3:V→V→V→Hp→(Hp→Prop)→Prop:=fun o i v H Q=>∃ p xs k j,o = .ref p∧i = .int k∧H p=some (.lst xs)∧ixN xs.length k=some j∧Q (upd H p (.lst (xs.set j v)))
theorem set_list:awj X ar3:=by
 intro pins s σ H o i v ov iv u Q I ro ri rv h
 obtain ⟨p,xs,k,j,rfl,rfl,hp,hj,q⟩:=h
 cases ro
 obtain ⟨t,rfl⟩:=ri
 obtain ⟨its,n,r,ho,hz⟩:=I.lst hp
 obtain ⟨h1,h2,h3,h4⟩:=afc hj
 have hl:=r.length
 have hn:=a4f
 have I':Inv X pins σ (upd H p (.lst (xs.set j v))) { s with heap:=s.heap.update p (Obj.mapSeq (·.setIfInBounds j u)) } :=
  I.lstUpd hp ho (ad4 its n j u) (r.set rv j) (by rw [List.length_set];exact hz) s.toks
 by_cases h0:0≤k
 ·have hk:k.toNat=j:=by
   rw [seqIndex_of h0 h4] at h1
   exact Option.some.inj h1
  exact PySem.W.ki_setAt ho h0 (by omega) (by rw [List.size_toArray,← hl];exact h4) (by rw [hk];exact ⟨_,I',q⟩)
 ·have hk:(k+(its.toArray.size:Int)).toNat=j:=by
   rw [seqIndex_neg (by omega) h3] at h1
   rw [List.size_toArray,← hl]
   exact Option.some.inj h1
  exact PySem.W.ki_setBack ho (by omega) (by rw [List.size_toArray,← hl];exact h3) (by omega) (by rw [hk];exact ⟨_,I',q⟩)
theorem a8h (lo hi:Option Int) (n:Nat):(sliceBounds lo hi none n).1=((HT.sIx n 0 lo:Nat):Int)∧(sliceBounds lo hi none n).2.1=((HT.sIx n n hi:Nat):Int)∧(sliceBounds lo hi none n).2.2=1:=by
 refine ⟨?_,?_,rfl⟩
 ·cases lo with
  | none=>simp [sliceBounds,HT.sIx]
  | some i =>
   simp only [sliceBounds,HT.sIx,Option.getD_none,show (1:Int) > 0 by decide,if_true]
   by_cases h:i<0
   ·simp only [h,if_true]<;>omega
   ·simp only [h,if_false]<;>omega
 ·cases hi with
  | none=>simp [sliceBounds,HT.sIx]
  | some i =>
   simp only [sliceBounds,HT.sIx,Option.getD_none,show (1:Int) > 0 by decide,if_true]
   by_cases h:i<0
   ·simp only [h,if_true]<;>omega
   ·simp only [h,if_false]<;>omega
theorem a6x (its:List Value) (lo hi:Option Int):slicePick its.toArray lo hi none=((its.drop (HT.sIx its.length 0 lo)).take (HT.sIx its.length its.length hi - HT.sIx its.length 0 lo)).toArray:=by
 obtain ⟨h1,h2,h3⟩:=a8h lo hi its.toArray.size
 unfold slicePick
 rw [h1,h2,h3]
 simp only [sliceRange_one,pick_run,List.size_toArray]<;>rfl
def avh (K:PySem.W.Frag):V→Option Int→Option Int→Hp→VK→Prop:=fun x lo hi H Q=>∃ a xs,x = .ref a∧SqL K H a xs∧∀ p,H p=none→Q (.ref p) (upd H p (.lst (al4 xs lo hi)))
theorem ana:SlR X (avh X.K):=by
 intro pins s σ H x v vl vu lo hi sl Q I rx hs pl pu h
 obtain ⟨a,xs,rfl,hx,q⟩:=h
 cases rx
 obtain ⟨its,r,ht,hz⟩:=I.list hx
 have hlen:=r.length
 refine ⟨"list",_,slot_list_getitem.lookup,ht.isList.typeIs,?_⟩
 refine wpAny_getItem_list_slice ht.isList hs pl pu .none (by simp) ?_ (by rw [List.size_toArray]<;>omega)
 rw [a6x,← hlen]
 refine ⟨.ref s.heap.objs.size,_,I.laid (t':=s.toks) (o:=.lst (al4 xs lo hi)) (fun b ob q=>Heap.get?_push_of_some _ q) (Nat.le_refl _) ?_,rfl,q _ (I.hok.fresh (Nat.le_refl _))⟩
 exact ⟨Nat.le_trans (a4g xs lo hi) hz,_,0,(r.drop (HT.sIx xs.length 0 lo)).take (HT.sIx xs.length xs.length hi - HT.sIx xs.length 0 lo),Heap.get?_push_size _ rfl⟩
def a1l:V→Bool
 | .non=>true
 | .bl _=>true
 | .int _=>true
 | .str _=>true
 | _=>false
def eqV:V→V→Bool
 | .non, .non=>true
 | .bl a, .bl b=>a == b
 | .bl a, .int b=>(if a then 1 else 0) == b
 | .int a, .bl b=>a == (if b then 1 else 0)
 | .int a, .int b=>a == b
 | .str a, .str b=>a == b
 | _,_=>false
theorem afd {A:Around} {s:Shared} {y x:V} {u v:Value} (ry:RelV y u) (rx:RelV x v) (fy:a1l y=true) (fx:a1l x=true):SeqAt.EqAt A s u v (eqV y x):=by
 cases y with
 | non =>
  cases ry
  cases x with
  | non=>cases rx;exact SeqAt.EqAt.same _
  | bl b=>cases rx;exact SeqAt.EqAt.none_bool b
  | int b=>obtain ⟨t,rfl⟩:=rx;exact SeqAt.EqAt.none_int b t
  | str b=>obtain ⟨t,rfl⟩:=rx;exact SeqAt.EqAt.none_str b t
  | _=>exact absurd (show false=true from fx) Bool.false_ne_true
 | bl a =>
  cases ry
  cases x with
  | non=>cases rx;exact SeqAt.EqAt.bool_none a
  | bl b=>cases rx;exact SeqAt.EqAt.bool_bool a b
  | int b=>obtain ⟨t,rfl⟩:=rx;exact SeqAt.EqAt.bool_int a b t
  | str b=>obtain ⟨t,rfl⟩:=rx;exact SeqAt.EqAt.bool_str a b t
  | _=>exact absurd (show false=true from fx) Bool.false_ne_true
 | int a =>
  obtain ⟨t',rfl⟩:=ry
  cases x with
  | non=>cases rx;exact SeqAt.EqAt.int_none a t'
  | bl b=>cases rx;exact SeqAt.EqAt.int_bool a t' b
  | int b=>obtain ⟨t,rfl⟩:=rx;exact SeqAt.EqAt.int_int a t' b t
  | str b=>obtain ⟨t,rfl⟩:=rx;exact SeqAt.EqAt.int_str a t' b t
  | _=>exact absurd (show false=true from fx) Bool.false_ne_true
 | str a =>
  obtain ⟨t',rfl⟩:=ry
  cases x with
  | non=>cases rx;exact SeqAt.EqAt.str_none a t'
  | bl b=>cases rx;exact SeqAt.EqAt.str_bool a t' b
  | int b=>obtain ⟨t,rfl⟩:=rx;exact SeqAt.EqAt.str_int a t' b t
  | str b=>obtain ⟨t,rfl⟩:=rx;exact SeqAt.EqAt.str_str a t' b t
  | _=>exact absurd (show false=true from fx) Bool.false_ne_true
 | _=>exact absurd (show false=true from fy) Bool.false_ne_true
def eqU (x:V) (u:Value):Bool:=match u with
 | .none=>eqV .non x
 | .bool b=>eqV (.bl b) x
 | .int i _=>eqV (.int i) x
 | .str z _=>eqV (.str z) x
 | _=>false
theorem al5 {x y:V} {u:Value} (r:RelV y u) (f:a1l y=true):eqU x u=eqV y x:=by
 cases y with
 | non=>cases r;rfl
 | bl b=>cases r;rfl
 | int i=>obtain ⟨t,rfl⟩:=r;rfl
 | str z=>obtain ⟨t,rfl⟩:=r;rfl
 | _=>exact absurd (show false=true from f) Bool.false_ne_true
theorem a4h {x:V}:∀ {xs:List V} {us:List Value},Vals xs us→xs.all a1l=true→us.any (eqU x)=xs.any fun y=>eqV y x
 | _,_, .nil,_=>rfl
 | y::xs,u::us, .cons r t,f=>by
  rw [List.all_cons,Bool.and_eq_true] at f
  rw [List.any_cons,List.any_cons,al5 r f.1,a4h t f.2]
theorem a1z {A:Around} {s:Shared} {x:V} {v:Value} (rx:RelV x v) (fx:a1l x=true):∀ {xs:List V} {us:List Value},Vals xs us→xs.all a1l=true→∀ u∈us,SeqAt.EqAt A s u v (eqU x u)
 | _,_, .nil,_=>fun u hu=>by cases hu
 | y::xs,u::us, .cons r t,f=>fun u' hu=>by
  rw [List.all_cons,Bool.and_eq_true] at f
  rcases List.mem_cons.mp hu with rfl | hu
  ·rw [al5 r f.1];exact afd r rx f.1 fx
  ·exact a1z rx fx t f.2 u' hu
def inV (x:V) (xs:List V):Bool:=xs.any fun y=>eqV y x
def rIn (K:PySem.W.Frag) (neg:Bool):R2:=fun x y H Q=>∃ p xs,y = .ref p∧(SqL K H p xs∨SqT K H p xs)∧a1l x=true∧xs.all a1l=true∧Q (.bl (if neg then !inV x xs else inV x xs)) H
theorem afe:OpR X (compareOp .In) (rIn X.K false):=by
 intro pins s σ H x y v u Q I rx ry h
 obtain ⟨p,xs,rfl,hq,fx,fs,q⟩:=h
 cases ry
 rcases hq with hq | hq
 ·obtain ⟨its,r,pl,hz⟩:=I.list hq
  refine SeqAt.in_listAt (eqU x) pl.isList (fun w hw=>a1z rx fx r fs w (by simpa using hw)) ⟨.bl _,H,I,rfl,?_⟩
  rw [show its.toArray.any (eqU x)=its.any (eqU x) by simp,a4h r fs]
  exact q
 ·obtain ⟨its,r,pl,hz⟩:=I.tuple hq
  refine SeqAt.in_tupleAt (eqU x) pl (fun w hw=>a1z rx fx r fs w (by simpa using hw)) ⟨.bl _,H,I,rfl,?_⟩
  rw [show its.toArray.any (eqU x)=its.any (eqU x) by simp,a4h r fs]
  exact q
theorem a3o:OpR X (compareOp .NotIn) (rIn X.K true):=by
 intro pins s σ H x y v u Q I rx ry h
 obtain ⟨p,xs,rfl,hq,fx,fs,q⟩:=h
 cases ry
 rcases hq with hq | hq
 ·obtain ⟨its,r,pl,hz⟩:=I.list hq
  refine SeqAt.notIn_listAt (eqU x) pl.isList (fun w hw=>a1z rx fx r fs w (by simpa using hw)) ⟨.bl _,H,I,rfl,?_⟩
  rw [show its.toArray.any (eqU x)=its.any (eqU x) by simp,a4h r fs]
  exact q
 ·obtain ⟨its,r,pl,hz⟩:=I.tuple hq
  refine SeqAt.notIn_tupleAt (eqU x) pl (fun w hw=>a1z rx fx r fs w (by simpa using hw)) ⟨.bl _,H,I,rfl,?_⟩
  rw [show its.toArray.any (eqU x)=its.any (eqU x) by simp,a4h r fs]
  exact q
theorem g8:CallR X (.builtin "len") (fun xs H Q=>∃ p ys,xs=[.ref p]∧(SqL X.K H p ys∨SqT X.K H p ys)∧Q (.int ys.length) H):=by
 intro pins s σ H xs us Q I r h
 obtain ⟨p,ys,rfl,hq,q⟩:=h
 obtain ⟨u,rfl,rx⟩:=vals1 r
 cases rx
 have hn:=a4f
 rcases hq with hq | hq
 ·obtain ⟨its,r',pl,hz⟩:=I.list hq
  have hlen:=r'.length
  exact Calls.call_len_list pl.isList (by simp only [List.size_toArray]<;>omega) ⟨.int ys.length,H,I.tok _,⟨s.toks+1,by rw [List.size_toArray,hlen]⟩,q⟩
 ·obtain ⟨its,r',pl,hz⟩:=I.tuple hq
  have hlen:=r'.length
  exact len_tuple pl (by simp only [List.size_toArray]<;>omega) ⟨.int ys.length,H,I.tok _,⟨s.toks+1,by rw [List.size_toArray,hlen]⟩,q⟩
theorem gf:CallR X (.builtin "len") (fun xs H Q=>∃ z,xs=[.str z]∧z.length≤sizeLine∧Q (.int z.length) H):=by
 intro pins s σ H xs us Q I r h
 obtain ⟨z,rfl,hz,q⟩:=h
 obtain ⟨u,rfl,t,rfl⟩:=vals1 r
 have hn:=a4f
 exact len_str (by omega) ⟨.int z.length,H,I.tok _,⟨_,rfl⟩,q⟩
theorem CallR.or {f:Value} {r r':List V→Hp→VK→Prop} (h:CallR X f r) (h':CallR X f r'):CallR X f (fun xs H Q=>r xs H Q∨r' xs H Q):=by
 intro pins s σ H xs us Q I rs q
 rcases q with q | q
 ·exact h pins s σ H xs us Q I rs q
 ·exact h' pins s σ H xs us Q I rs q
theorem a8i:CallR X (.type "list") (fun xs H Q=>∃ p ys,xs=[.ref p]∧(SqL X.K H p ys∨SqT X.K H p ys)∧∀ l,H l=none→Q (.ref l) (upd H l (.lst ys))):=by
 intro pins s σ H xs us Q I r h
 obtain ⟨p,ys,rfl,hq,q⟩:=h
 obtain ⟨u,rfl,rx⟩:=vals1 r
 cases rx
 have fin:∀ (its:List Value),Vals ys its→ys.length≤sizeLine→∀ (h':Heap) (c':Nat),(∀ b o',s.heap.get? b=some o'→h'.get? b=some o') →
   h'.get? s.heap.objs.size=some { cls:=.type "list",dict:=none,data:=.seq its.toArray c',slots := #[] }→EP X pins σ Q (.ref s.heap.objs.size) { s with heap:=h' }:=fun its r' hz h' c' kp e =>
  ⟨.ref s.heap.objs.size,_,I.laid (t':=s.toks) kp (Nat.le_refl _) (show ObjOk X.prog X.w _ h' _ (.lst ys) from ⟨hz,its,c',r',e⟩),rfl,q _ (I.hok.fresh (Nat.le_refl _))⟩
 rcases hq with hq | hq
 ·obtain ⟨its,r',pl,hz⟩:=I.list hq
  have hlen:=r'.length
  obtain ⟨o,ho,hc,n,hd⟩:=pl.isList
  exact call_list_seq p (.inl rfl) ho hc hd (fun h' c' kp e=>fin its r' hz h' c' kp e) (by simp only [List.size_toArray]<;>omega)
 ·obtain ⟨its,r',pl,hz⟩:=I.tuple hq
  have hlen:=r'.length
  obtain ⟨o,ho,hc,n,hd⟩:=pl
  exact call_list_seq p (.inr rfl) ho hc hd (fun h' c' kp e=>fin its r' hz h' c' kp e) (by simp only [List.size_toArray]<;>omega)
theorem j6:CallR X (.type "tuple") (fun xs H Q=>∃ p ys,xs=[.ref p]∧((SqL X.K H p ys∧∀ l,H l=none→Q (.ref l) (upd H l (.tup ys)))∨(SqT X.K H p ys∧Q (.ref p) H))):=by
 intro pins s σ H xs us Q I r h
 obtain ⟨p,ys,rfl,h⟩:=h
 obtain ⟨u,rfl,rx⟩:=vals1 r
 cases rx
 rcases h with ⟨hq,q⟩ | ⟨hq,q⟩
 ·obtain ⟨its,r',pl,hz⟩:=I.list hq
  have hlen:=r'.length
  refine call_tuple_list pl.isList (fun h' kp=>?_) (by simp only [List.size_toArray]<;>omega)
  have I1:Inv X pins σ H { s with heap:=h' }:=I.kept (t':=s.toks) kp
  have I2:Inv X pins σ (upd H h'.objs.size (.tup ys)) { s with heap:=h'.push { cls:=.type "tuple",data:=.seq its.toArray } } :=
   I1.laid (t':=s.toks) (fun b o e=>Heap.get?_push_of_some _ e) (Nat.le_refl _) (show ObjOk X.prog X.w _ _ _ (.tup ys) from ⟨hz,its,r',IsTup.new _ _⟩)
  exact ⟨.ref h'.objs.size,_,I2,rfl,q _ (I1.hok.fresh (Nat.le_refl _))⟩
 ·obtain ⟨its,r',pl,hz⟩:=I.tuple hq
  exact call_tuple_same pl ⟨.ref p,H,I,rfl,q⟩
def tyV (K:PySem.W.Frag) (T:String) (x:V) (H:Hp):Prop:=match x with
 | .str _=>T = "str"
 | .int _=>T = "int"
 | .ref p=>(T = "list"∧∃ xs,SqL K H p xs)∨(T = "tuple"∧∃ o,K.lookup p=some o∧o.cls = .type "tuple"∧o.dict=none) ∨
   (T = "dict"∧((∃ kvs,H p=some (.dK kvs))∨∃ kvs,H p=some (.dT kvs)))∨(T = "set"∧∃ S n,H p=some (.set S n))
 | _=>False
theorem ar4 {pins:List (Addr × Obj)} {σ:St} {H:Hp} {s:Shared} {T:String} {x:V} {v:Value} (I:Inv X pins σ H s) (r:RelV x v) (ty:tyV X.K T x H) :
  s.TypeIs v T∧∀ a,v = .ref a→∃ ob,s.heap.get? a=some ob∧ob.dict=none:=by
 cases x with
 | str z =>
  obtain ⟨t,rfl⟩:=r
  cases (show T = "str" from ty)
  exact ⟨typeIs_str s z t,fun _ e=>nomatch e⟩
 | int i =>
  obtain ⟨t,rfl⟩:=r
  cases (show T = "int" from ty)
  exact ⟨typeIs_int s i t,fun _ e=>nomatch e⟩
 | ref p =>
  cases r
  rcases ty with ⟨rfl,xs,hq⟩ | ⟨rfl,o,hk,hc,hd⟩ | ⟨rfl,hk⟩ | ⟨rfl,S,n,hk⟩
  ·obtain ⟨its,_,pl,_⟩:=I.list hq
   refine ⟨pl.isList.typeIs,fun a e=>?_⟩
   cases e
   obtain ⟨o,n,e,c,hd,_⟩:=pl
   exact ⟨o,e,hd⟩
  ·refine ⟨⟨o,I.kIn p o hk,hc⟩,fun a e=>?_⟩
   cases e
   exact ⟨o,I.kIn _ o hk,hd⟩
  ·have z:∃ o,s.heap.get? p=some o∧o.ExactDict:=by
    rcases hk with ⟨kvs,hk⟩ | ⟨kvs,hk⟩
    ·obtain ⟨_,_,_,_,o,_,_,e,ex,_⟩:=I.hok p _ hk
     exact ⟨o,e,ex⟩
    ·obtain ⟨_,_,_,_,o,_,_,e,ex,_⟩:=I.hok p _ hk
     exact ⟨o,e,ex⟩
   obtain ⟨o,e,ex⟩:=z
   refine ⟨⟨o,e,ex.1⟩,fun a e2=>?_⟩
   cases e2
   exact ⟨o,e,ex.2.1⟩
  ·obtain ⟨o,_,_,_,e,ex,_⟩:=I.hok p _ hk
   refine ⟨⟨o,e,ex.1⟩,fun a e2=>?_⟩
   cases e2
   exact ⟨o,e,ex.2.1⟩
 | _=>exact False.elim ty
def tBM (K:PySem.W.Frag) (T:String) (r:V→List V→Hp→VK→Prop) (to:TE) (t:TA):TE:=fun σ H Q=>to σ H fun x H1=>tyV K T x H1∧t σ H1 fun xs H2=>r x xs H2 Q
variable {o e:Expr} {es:List Expr} {to:TE} {t:TA} {name:Str} {apos cpos:Pos} {T id:String} {r:V→List V→Hp→VK→Prop}
theorem avi (pa:PlainAttrs T) (slot:Slot T name id) (hty:typeOf (.builtin id)=pure (.type "method_descriptor")) (hm:MtR X id r) (ho:PE X o to) (ha:PA X (e::es) t)
  (hbase:attributeBase o name X.env (eval o X.env)=eval o X.env:=by rfl)
  (hfew:((backTo cpos (starEach (e::es) X.env)).all (fun x => !x.1) && (backToKw cpos (keywordEach [] X.env)).all (fun x=>x.1.isSome)
   && decide ((e::es).length+([]:List Keyword).length+(if ([]:List Keyword).isEmpty then 0 else 1)<30))=true:=by rfl)
  (hline:(apos.endLine == cpos.line)=true:=by rfl) (hs:starEach (e::es) X.env=(false,eval e X.env)::starEach es X.env:=by rfl) (hplain:(backTo cpos (starEach es X.env)).any (·.1)=false:=by rfl) :
  PE X (.Call (.Attribute o name apos) (e::es) [] cpos) (tBM X.K T r to t):=by
 intro pins s σ H Q I h
 refine wpAny_Call_method_late hbase hfew hline rfl (thn (ho pins s σ H _ I h) fun v s1 ⟨x,H1,I1,r1,ty,q1⟩=>?_)
 obtain ⟨h1,h2⟩:=ar4 I1 r1 ty
 refine ⟨T,id,pa,slot,hty,h1,h2,?_⟩
 have hA:=ha cpos pins s1 σ H1 _ I1 q1
 rw [hs] at hA ⊢
 refine Calls.callWith_builtin (by show (false || (backTo cpos (starEach es X.env)).any (·.1))=false;rw [hplain]<;>rfl) (Calls.evalArgs_plain ?_)
 exact thn hA fun us s2 ⟨vs,H2,I2,r2,q2⟩=>hm pins s2 σ H2 x vs v us Q I2 r1 r2 q2
end
end L2
namespace L2
open PySem PySem.Spec PyProof.Rows
def MtM (X:Cx) (id:String) (r:V→List V→Hp→VK→Prop):Prop :=
 ∀ (pins:List (Addr × Obj)) (s:Shared) (σ:St) (H:Hp) (x:V) (xs:List V) (v:Value) (us:List Value) (Q:VK),Inv X pins σ H s→RelV x v→Vals xs us→r x xs H Q →
  wpAny (model X.prog X.w) X.A (call (.builtin id) (v::us)) (EP X pins σ Q) X.xe s
theorem Vals.one:∀ {x:V} {us:List Value},Vals [x] us→∃ u,us=[u]∧RelV x u
 | _,_, .cons r .nil=>⟨_,rfl,r⟩
theorem Vals.rep {xs:List V} {us:List Value} (h:Vals xs us):∀ k:Nat,Vals (List.replicate k xs).flatten (List.replicate k us).flatten
 | 0=>.nil
 | k+1=>by
  rw [List.replicate_succ,List.replicate_succ,List.flatten_cons,List.flatten_cons]
  exact Vals.append h (Vals.rep h k)
theorem foldl_rep (its:List Value):∀ (k:Nat) (acc:List Value),
  List.foldl (fun x1 x2=>x1++x2) acc.toArray (List.replicate k its.toArray)=(acc++(List.replicate k its).flatten).toArray
 | 0,acc=>by simp
 | k+1,acc=>by
  have e:acc.toArray++its.toArray=(acc++its).toArray:=by simp
  have e2:(acc++its)++(List.replicate k its).flatten=acc++(List.replicate (k+1) its).flatten:=by
   rw [List.replicate_succ,List.flatten_cons,List.append_assoc]
  rw [← e2,← foldl_rep its k (acc++its),← e,List.replicate_succ,List.foldl_cons]
section
variable {X:Cx} {pins:List (Addr × Obj)} {σ:St} {H:Hp} {s:Shared} {l b:Addr} {xs ys zs:List V}
theorem Inv.lset {its its':List Value} {n:Nat} {f:Array Value→Array Value} {t':Nat} (I:Inv X pins σ H s) (hH:H l=some (.lst xs))
  (e:s.heap.get? l=some { cls:=.type "list",data:=.seq its.toArray n }) (hf:f its.toArray=its'.toArray) (hv:Vals ys its') (hz:ys.length≤sizeLine) :
  Inv X pins σ (upd H l (.lst ys)) { s with heap:=s.heap.update l (Obj.mapSeq f),toks:=t' }:=by
 have q:=PySem.IsL.update e f
 rw [hf] at q
 refine I.write (x:=l) (e:=l) (by rw [hH];exact trivial) (.inl rfl) (fun b' u hb hu=>(Heap.get?_update_other s.heap (Obj.mapSeq f) (Ne.symm hb)).trans hu) ⟨_,q⟩ ?_
 exact ⟨hz,its',_,hv,q⟩
theorem Inv.lnew {its:List Value} {t':Nat} (I:Inv X pins σ H s) (hv:Vals ys its) (hz:ys.length≤sizeLine) :
  Inv X pins σ (upd H s.heap.objs.size (.lst ys)) { s with heap:=s.heap.push { cls:=.type "list",data:=.seq its.toArray },toks:=t' } :=
 I.laid (fun _ _ q=>Heap.get?_push_of_some _ q) (Nat.le_refl _) ⟨hz,its,0,hv,Heap.get?_push_size _ rfl⟩
theorem Inv.fresh (I:Inv X pins σ H s):H s.heap.objs.size=none:=I.hok.fresh (Nat.le_refl _)
theorem Inv.lstM (I:Inv X pins σ H s) (hH:H l=some (.lst xs)):xs.length≤sizeLine∧∃ (its:List Value) (n:Nat),Vals xs its∧xs.length=its.length∧s.heap.get? l=some { cls:=.type "list",data:=.seq its.toArray n }:=by
 obtain ⟨z,its,n,r,e⟩:=I.hok l _ hH
 exact ⟨z,its,n,r,r.length,e⟩
theorem ab8 {n:Nat} (h:n≤sizeLine):Builtin.List.listTooLong n=false:=by
 unfold Builtin.List.listTooLong
 exact decide_eq_false (by omega)
end
section
variable {X:Cx}
def afg:V→List V→Hp→VK→Prop:=fun x vs H Q=>∃ l xs y,x = .ref l∧vs=[y]∧H l=some (.lst xs)∧xs.length<sizeLine∧Q .non (upd H l (.lst (xs++[y])))
theorem zq:MtM X "list.append" afg:=by
 intro pins s σ H x vs v us Q I rx rv h
 obtain ⟨l,xs,y,rfl,rfl,hH,hz,q⟩:=h
 cases rx
 obtain ⟨u,rfl,ru⟩:=rv.one
 obtain ⟨z,its,n,r,hl,e⟩:=I.lstM hH
 refine call_meets F.slot_list_append ⟨_,e,rfl⟩ F.entry_list_append (F.args_list_append_2 _ _) (PySem.list_append l its.toArray n u (by rw [List.size_toArray];omega)) ⟨e,?_⟩
 refine ⟨.non,_,I.lset (its':=its++[u]) hH e (by simp) (r.append (.cons ru .nil)) ?_,rfl,q⟩
 rw [List.length_append,List.length_singleton]
 omega
def auk:R2:=fun x y H Q=>∃ l k xs,x = .ref l∧y = .int k∧H l=some (.lst xs) ∧ -(2 ^ 63)≤k∧k<2 ^ 63∧xs.length*k.toNat≤sizeLine ∧
 ∀ p,H p=none→Q (.ref p) (upd H p (.lst (List.replicate k.toNat xs).flatten))
theorem len_rep {α:Type} (xs:List α) (k:Nat):(List.replicate k xs).flatten.length=k*xs.length:=by
 induction k with
 | zero=>simp
 | succ k ih=>rw [List.replicate_succ,List.flatten_cons,List.length_append,ih,Nat.succ_mul,Nat.add_comm]
theorem ar5:OpR X (binaryOp .Mult) auk:=by
 intro pins s σ H x y v u Q I rx ry h
 obtain ⟨l,k,xs,rfl,rfl,hH,h1,h2,hz,q⟩:=h
 cases rx
 obtain ⟨t,rfl⟩:=ry
 obtain ⟨z,its,n,r,hl,e⟩:=I.lstM hH
 have hlen:its.toArray.size*k.toNat≤sizeLine:=by rw [List.size_toArray,← hl];exact hz
 have hcap:¬ its.toArray.size*k.toNat > (2 ^ 63 - 1) / 8:=by
  have:(sizeLine:Nat)≤(2 ^ 63 - 1) / 8:=by decide
  omega
 have hfit:¬ (!Builtin.List.listFitsIndex k)=true:=by
  rw [fitsIndex_both h1 h2]
  exact Bool.false_ne_true
 have hlong:¬ Builtin.List.listTooLong (its.toArray.size*k.toNat)=true:=by
  rw [ab8 hlen]
  exact Bool.false_ne_true
 have hnew:List.foldl (fun x1 x2=>x1++x2) #[] (List.replicate (if its.toArray.isEmpty=true then 0 else k.toNat) its.toArray)=(List.replicate k.toNat its).flatten.toArray:=by
  have f0:∀ m:Nat,List.foldl (fun x1 x2=>x1++x2) #[] (List.replicate m its.toArray)=(List.replicate m its).flatten.toArray:=fun m=>by
   have:=foldl_rep its m []
   rw [List.nil_append] at this
   exact this
  rw [f0]
  cases its with
  | nil=>simp
  | cons a r'=>rw [if_neg (by simp)]
 refine wpAny_binaryOp_repeat_ref (T := "list") (U := "int") (by decide) ⟨_,e,rfl⟩ (fun s'=>typeIs_int s' k t) noFill_list_mul F.fills_int_mul F.slot_int_rmul repeat_list F.slot_int_index.lookup
  (call_meets F.slot_int_rmul (typeIs_int s k t) F.entry_int_rmul (F.args_int_rmul_2 _ _) (int___rmul___int_list k t l its.toArray n)
   ⟨e,rfl,⟨_,e,rfl⟩,call_meets F.slot_list_mul ⟨_,e,rfl⟩ F.entry_list_mul (F.args_list_mul_2 _ _) (AutoListH.list___mul___list_int_3 l its.toArray n k t hfit hcap hlong) ⟨e,?_⟩⟩)
 rw [hnew]
 exact ⟨.ref _,_,I.lnew (t':=s.toks) (r.rep k.toNat) (by rw [len_rep,Nat.mul_comm];exact hz),rfl,q _ I.fresh⟩
end
end L2
namespace Att
open PySem PySem.W PySem.Calls PyProof.Rows
theorem a4i {P:Params} {h:Heap}:∀ (ns:List Int) (vs:List Value),WellAll P h vs (ns.map WData.int)→IntsAre vs ns:=by
 intro ns
 induction ns with
 | nil =>
  intro vs w
  rw [List.map_nil] at w
  cases w
  exact .nil
 | cons n ns ih =>
  intro vs w
  rw [List.map_cons] at w
  cases w with
  | cons a b =>
   cases a
   exact .cons _ _ (ih _ b)
theorem afh {l:OpenLaw} {n:Nat} (hn:l.most=some n) {P:Params} {h:Heap} {args:List WData} {vals:List Value}
  (hpre:l.row.toRowW.claim.pre args=true) (hwl:WellAll P h vals args) :
  ∃ a vs ns,vals=[Value.ref a]∧args=[WData.list (ns.map WData.int)]∧h.get? a=some { cls:=.type "list",data:=.seq vs.toArray }∧IntsAre vs ns∧ns.length≤n:=by
 have hsh:WShape.hasAll [] args [.list .int]=true:=(pre_splitW hpre).1
 have hc:l.pre.holds [] { args:=args }=true:=(pre_splitW hpre).2
 obtain ⟨d,r,rfl,h1,h2⟩:=hasAllW_cons hsh
 obtain rfl:=hasAllW_nil h2
 obtain ⟨xs,rfl,h3⟩:=hasW_list h1
 obtain ⟨ns,rfl⟩:=items_int h3
 have hlen:ns.length≤n:=by
  unfold OpenLaw.pre at hc
  have h4:(WTm.not (.lt (.lit (.int (n:Int))) (.len (.arg 0)))).holds [] { args:=[.list (ns.map .int)] }=true:=by
   have h4:=(holds_andW hc).1
   rw [hn] at h4
   exact h4
  have h5:=condW_of h4 (w_not (w_lt w_lit (w_len_list (w_arg rfl))))
  rw [List.length_map] at h5
  refine Nat.le_of_not_lt fun q=>?_
  have q':(n:Int)<((ns.length:Nat):Int):=by omega
  first
   | (rw [decide_eq_true q'] at h5;exact absurd h5 (by decide))
   | (simp at h5;omega)
 cases hwl with
 | cons w1 w2 =>
  cases w2
  cases w1 with
  | list ho hall=>exact ⟨_,_,ns,rfl,rfl,ho,a4i ns _ hall,hlen⟩
theorem afi (l:OpenLaw) (args:List WData):l.row.toRowW.claim.post args (.bool true) args=true :=
 postW_of (r:=l.row.toRowW) (X:=(true == true))
  (show WShape.has [] (.bool true) .bool=true by first | rfl | decide | simp [WShape.has,WShape.arms,WShape.armsAll])
  (show (WTm.eq .res (.lit (.bool true))).value [] { args:=args,res:=some (.bool true),after:=args }=some (.bool (true == true)) from w_eq_bool (w_res rfl) w_lit) rfl
theorem a9x {l:OpenLaw} {n:Nat} {q:Program} {loose:List Str} {XP:(Str→Option Value)→Heap→Prop} {YP:World→Heap→Prop} {d:DefRec}
  (hn:l.most=some n) (hdf:d.params.defaults=[])
  (call:∀ (w:World) (s₀ s₁:Shared) (mg mb:Str→Option Value) (fa:Addr) (o:Obj) (pm cd doc:Value) (a:Addr) (vs:List Value) (ns:List Int),
   Ground q loose [] XP w s₀ mg mb s₁.heap→YP w s₁.heap →
   s₁.heap.get? fa=some o→o.data = .func (docDef d.name d.params d.body d.scope pm cd doc)→s₁.heap.CodeRec cd d.name→mg d.name=some (.ref fa) →
   s₁.heap.get? a=some { cls:=.type "list",data:=.seq vs.toArray }→IntsAre vs ns→ns.length≤n→s₁.gens = #[] →
   codeAny (model l.prog w) callerA (.call (.ref fa) ⟨[.ref a],[]⟩) (fun r s'=>r = .ok (.ret (.bool true))∧OldK s₁.heap s'.heap∧s'.os=s₁.os∧AllBare s'.gens) s₁) :
  WalkO q loose XP YP l.row.toRowW d [] (fun f vs=>PySem.call f vs):=by
 intro w s₀ s₁ mg mb G Y fa o pm cd doc dV kV ho hd hcd hD hmg hg args vals as hpre hlay hrd hwl hlo
 obtain rfl:dV = .none:=Dflts.none hD hdf
 obtain rfl:kV = .none:=Dflts.noKw hD
 obtain ⟨a,vs,ns,rfl,rfl,hobj,hints,hlen⟩:=afh hn hpre hwl
 refine enter_call (codeAny_mono (call w s₀ s₁ mg mb fa o pm cd doc a vs ns G Y ho (fd_plain hd) hcd hmg hobj hints hlen hg) fun r s' hq=>?_)
 obtain ⟨rfl,h2,h3,h4⟩:=hq
 exact ⟨.inl ⟨.bool true, .bool true,[],rfl,fun _=>rfl, .bool true,afi l _,fun _=>⟨List.Pairwise.nil,fun _ hm=>(nomatch hm)⟩⟩,h2,h3,h4⟩
end Att
namespace L2
open PySem PySem.Spec PyProof.Rows
theorem a4j:∀ {vs:List Value} {ns:List Int},IntsAre vs ns→Vals (ns.map V.int) vs
 | _,_, .nil=>.nil
 | _,_, .cons n t h=>.cons ⟨t,rfl⟩ (a4j h)
def Only (H:Hp):Prop:=∀ b,H b=none∨∃ o xs,H b=some (.frz o (.lst xs))
theorem aiv {P:Program} {w:World} {K:PySem.W.Frag} {mg mb:Str→Option Value} {CX:CXT} {k:Nat} {fa a:Addr} {fd:FuncData} {x:Str} {sp:Sp} {s₁:Shared} {vs:List Value} {ns:List Int}
  (KX:K.In s₁.heap) (hns:s₁.heap.Ns mainGlobals mg) (hb:s₁.heap.Ns builtinsNs mb) (hbb:∀ x:Str,x ≠ "__name__"→mb x=bootBuiltins x) (hlim:s₁.heap.NoLimit) (hg:s₁.gens = #[])
  (ha:s₁.heap.get? a=some { cls:=.type "list",data:=.seq vs.toArray }) (hi:IntsAre vs ns) (hl:ns.length≤sizeLine) (hr:Room k callerA)
  (F:∀ base:Heap,K.In base→base.Ns mainGlobals mg→FnOk P w K mg base CX k fa fd [x] sp) (hbind:∀ (s:Shared) (u:Value),BindsTo s fd ⟨[u],[]⟩ [(x,u)])
  (hsp:∀ H:Hp,Only H→SqL K H a (ns.map V.int)→sp [.ref a] H (fun v _=>v = .bl true) fun _ _ _=>False)
  (hCX:∀ H e s',CX [] H s₁ (fun _ _ _=>False) e s'→False) :
  codeAny (model P w) callerA (.call (.ref fa) ⟨[.ref a],[]⟩) (fun r s'=>r = .ok (.ret (.bool true))∧OldK s₁.heap s'.heap∧s'.os=s₁.os∧AllBare s'.gens) s₁:=by
 have rv:=a4j hi
 have lenV:=hi.length
 have core:∀ H:Hp,Only H→SqL K H a (ns.map V.int)→HOk P w H s₁.heap→(∀ b,H b≠none→b=a)→(H a≠none→K.lookup a=none) →
   codeAny (model P w) callerA (.call (.ref fa) ⟨[.ref a],[]⟩) (fun r s'=>r = .ok (.ret (.bool true))∧OldK s₁.heap s'.heap∧s'.os=s₁.os∧AllBare s'.gens) s₁:=by
  intro H hO hS hok hA hK
  have base_of:∀ {b:Addr} {o:Obj},s₁.heap.get? b=some o→H b=none→(aik s₁.heap H).get? b=some o:=fun e n=>ail e n
  have noA:∀ {b:Addr} {o:Obj} {es:Array DictEntry} {ep:Nat},s₁.heap.get? b=some o→o.data = .dict es ep→H b=none:=fun {b o es ep} e d=>by
   cases q:H b with
   | none=>rfl
   | some u =>
    have e':b=a:=hA b (by rw [q];simp)
    subst e'
    rw [ha] at e;cases e
    have d':Data.seq vs.toArray _=Data.dict es ep:=d
    cases d'
  have nsK:∀ {b:Addr} {m:Str→Option Value},s₁.heap.Ns b m→(aik s₁.heap H).Ns b m:=fun {b m} ⟨o,es,ep,e,d,r⟩=>⟨o,es,ep,base_of e (noA e d),d,r⟩
  have hKb:K.In (aik s₁.heap H):=fun b o e=>base_of (KX b o e) (by
   cases q:H b with
   | none=>rfl
   | some u =>
    have e':b=a:=hA b (by rw [q];simp)
    subst e'
    rw [hK (by rw [q];simp)] at e;cases e)
  have hM:Mod K mg (aik s₁.heap H):=⟨hKb,nsK hns,⟨mb,nsK hb,hbb⟩,let ⟨mc,h1,h2⟩:=hlim; ⟨mc,nsK h1,h2⟩⟩
  have e0:Env0 P w K mg (aik s₁.heap H) callerA [] s₁ H:=⟨rfl,hM,fun b o e=>amh e,Nat.le_of_eq (aev _ _),trivial,fun b hb=>absurd (show b∈([]:List Addr) from hb) (by simp),hok, .of_eq hg⟩
  refine codeAny_mono ((F _ hKb (nsK hns)).run callerA [] s₁ H ⟨[.ref a],[]⟩ [.ref a] [.ref a] _ _ hr e0 (hbind s₁ (.ref a)) (.cons rfl .nil) (hsp H hO hS)) fun r s' h=>?_
  cases r with
  | error e=>exact (hCX H e s' h).elim
  | ok fl =>
   cases fl with
   | next=>exact False.elim h
   | brk=>exact False.elim h
   | cont=>exact False.elim h
   | ret u =>
    obtain ⟨v,H',os,bare,un,hok',r',q⟩:=h
    have q':v = .bl true:=q
    subst q'
    obtain rfl:u=Value.bool true:=r'
    refine ⟨rfl,OldK.of_keep fun b o e=>?_,os,bare⟩
    cases q:H b with
    | none=>exact un.keep b o e q (by intro z;exact absurd (show b∈([]:List Addr) from z) (by simp)) (by simp)
    | some u =>
     rcases hO b with z | ⟨ob,xs,z⟩
     ·rw [q] at z;cases z
     ·have z2:=un.frzs b ob _ z
      obtain ⟨e1,_⟩:=hok b _ z
      obtain ⟨e2,_⟩:=hok' b _ z2
      rw [e] at e1;cases e1
      exact e2
 cases hk:K.lookup a with
 | some o =>
  have e:=KX a o hk
  rw [ha] at e
  cases e
  refine core (fun _=>none) (fun _=>.inl rfl) (.inr ⟨_,vs.toArray,_,hk,rfl,rfl,rfl,by rw [List.size_toArray,lenV];exact hl,by simpa using rv⟩) (fun b u z=>by have z':(none:Option HO)=some u:=z;cases z') (fun b z=>absurd rfl z) fun z=>absurd rfl z
 | none =>
  refine core (fun b=>if b=a then some (.frz { cls:=.type "list",data:=.seq vs.toArray } (.lst (ns.map V.int))) else none) (fun b=>?_) (.inl (.inr ⟨{ cls:=.type "list",data:=.seq vs.toArray },if_pos rfl⟩)) (fun b u z=>?_) (fun b z=>?_) fun _=>hk
  ·by_cases hb:b=a
   ·exact .inr ⟨_,_,if_pos hb⟩
   ·exact .inl (if_neg hb)
  ·by_cases hb:b=a
   ·have z':=(if_pos hb).symm.trans z
    cases z'
    subst hb
    exact ⟨ha,by rw [List.length_map];exact hl,vs,_,rv,ha⟩
   ·have z':=(if_neg hb).symm.trans z
    cases z'
  ·by_cases hb:b=a
   ·exact hb
   ·exact absurd (if_neg hb) z
end L2
namespace L2
open PySem PySem.Spec PyProof.Rows
theorem anb {l:PySem.W.OpenLaw} {n k:Nat} {q:Program} {loose:List Str} {XP:(Str→Option Value)→Heap→Prop} {YP:World→Heap→Prop} {d:DefRec} {K:Params→PySem.W.Frag} {CX:World→CXT} {sp:World→Sp} {x:Str}
  (hn:l.most=some n) (hn2:n≤sizeLine) (hdf:d.params.defaults=[]) (hr:Room k callerA)
  (hY:∀ (w:World) (h:Heap),YP w h→(K w.params).In h)
  (F:∀ (w:World) (mg:Str→Option Value) (fa:Addr) (h:Heap),(K w.params).In h→h.Ns mainGlobals mg→mg d.name=some (.ref fa) →
   ∃ fd:FuncData,(∀ (s:Shared) (u:Value),BindsTo s fd ⟨[u],[]⟩ [(x,u)]) ∧
    ∀ base:Heap,(K w.params).In base→base.Ns mainGlobals mg→FnOk l.prog w (K w.params) mg base (CX w) k fa fd [x] (sp w))
  (hsp:∀ (w:World) (H:Hp) (a:Addr) (ns:List Int),ns.length≤n→Only H→SqL (K w.params) H a (ns.map V.int)→sp w [.ref a] H (fun v _=>v = .bl true) fun _ _ _=>False)
  (hCX:∀ (w:World) (H:Hp) (s:Shared) (e:Value) (s':Shared),CX w [] H s (fun _ _ _=>False) e s'→False) :
  PySem.W.WalkO q loose XP YP l.row.toRowW d [] (fun f vs=>PySem.call f vs):=by
 refine Att.a9x hn hdf fun w s₀ s₁ mg mb fa o pm cd doc a vs ns G Y ho hd hcd hmg hobj hints hlen hg=>?_
 have KX:=hY w _ Y
 obtain ⟨fd,hb,hF⟩:=F w mg fa _ KX G.T.g hmg
 exact aiv KX G.T.g G.T.b G.T.builtins G.T.nolimit hg hobj hints (Nat.le_trans hlen hn2) hr hF hb (fun H hO hS=>hsp w H a ns hlen hO hS) fun H e s'=>hCX w H s₁ e s'
end L2
namespace L2
open PySem PySem.Spec PyProof.Rows
def a2t (s:Stmt):Arguments:=match s with
 | .FunctionDef _ a _ _ _ _ _ _ _ _=>a
 | _=>{ posonlyargs:=[],args:=[],vararg:=none,kwonlyargs:=[],kw_defaults:=[],kwarg:=none,defaults:=[] }
def iy (s:Stmt):List Stmt:=match s with
 | .FunctionDef _ _ b _ _ _ _ _ _ _=>b
 | _=>[]
def bc (s:Stmt):Scope:=match s with
 | .FunctionDef _ _ _ _ _ _ sc _ _ _=>sc
 | _=>{ kind:=.function,names:=[],isGenerator:=false,isCoroutine:=false }
abbrev CX0:CXT:=fun _ _ _ _ _ _=>False
abbrev E0:XK:=fun _ _ _=>False
theorem anc {X:Cx}:ab5 CX0 X E0:=fun _ _ _ _ _ _ _ h=>h.elim
structure Fun (K:PySem.W.Frag) (x qual:Str) (st:Stmt) (f:Addr) (fd:FuncData):Prop where
 ex:∃ (oc:Value) (od:Option Addr) (kV doc pm:Value) (an:Option Addr) (cdv ct:Value) (osl:Array (Option Value)),
  fd=PySem.W.fnOf x qual (a2t st) (iy st) (bc st) .none kV doc pm an cdv ct∧K.lookup f=some ⟨oc,od, .func fd,osl⟩∧PySem.W.codeIn K cdv qual=true
 kp:PySem.W.keepIn K (.ref f)=true
section
variable {P:Program} {w:World} {K:PySem.W.Frag} {mg:Str→Option Value} {base:Heap}
theorem Fun.ok {x qual:Str} {st:Stmt} {f:Addr} {fd:FuncData} {N ps:List Str} {k:Nat} {sp:Sp} (F:Fun K x qual st f fd) (S:FnScope N ps (bc st)) (len:∀ vs H Q E,sp vs H Q E→vs.length=ps.length)
  (hbody:∀ (cdv:Value) (A:Around) (outer:List Env) (s:Shared) (H:Hp) (vs:List V) (Q:VK) (E:XK),Room k (A.deeper (envOfC qual (bc st) s.heap.objs.size f cdv))→sp vs H Q E →
   ∃ t,PSs (a2r CX0 P w K mg base N qual (bc st) f cdv A outer s H E).nox (iy st) t∧t { nx:=fun _ H'=>Q .non H',rt:=Q } (start N vs) H):FnOk P w K mg base CX0 (k+1) f fd ps sp:=by
 obtain ⟨oc,od,kV,doc,pm,an,cdv,ct,osl,rfl,lk,hcd⟩:=F.ex
 refine avc lk hcd S len fun A outer s H vs Q E hr hsp=>?_
 obtain ⟨t,h,q⟩:=hbody cdv A outer s H vs Q E hr hsp
 exact ⟨t,h.nox,q⟩
theorem Fun.binds {x qual:Str} {st:Stmt} {f:Addr} {fd:FuncData} {ps:List Str} (F:Fun K x qual st f fd)
  (h:∀ (kV doc pm:Value) (an:Option Addr) (cdv ct:Value) (us:List Value),us.length=ps.length→bindArgs (PySem.W.fnOf x qual (a2t st) (iy st) (bc st) .none kV doc pm an cdv ct) ⟨us,[]⟩=pure (ps.zip us)):Binds K fd ps []:=by
 obtain ⟨oc,od,kV,doc,pm,an,cdv,ct,osl,rfl,lk,hcd⟩:=F.ex
 exact .all (h kV doc pm an cdv ct)
theorem qw {x qual:Str} {st:Stmt} {f:Addr} {oc:Value} {od an:Option Addr} {osl:Array (Option Value)} {kV doc pm cdv ct:Value} (l:K.lookup f=some ⟨oc,od, .func (PySem.W.fnOf x qual (a2t st) (iy st) (bc st) .none kV doc pm an cdv ct),osl⟩)
  (c:PySem.W.codeIn K cdv qual=true) (k:PySem.W.keepIn K (.ref f)=true):Fun K x qual st f (PySem.W.fnOf x qual (a2t st) (iy st) (bc st) .none kV doc pm an cdv ct):=⟨⟨oc,od,kV,doc,pm,an,cdv,ct,osl,rfl,l,c⟩,k⟩
end
def Same (H H':Hp):Prop:=∀ b o,H b=some o→H' b=some o
theorem Same.seq {K:PySem.W.Frag} {H H':Hp} {a:Addr} {xs:List V} (e:Same H H') (h:SqL K H a xs):SqL K H' a xs:=by
 rcases h with (h | ⟨o,h⟩) | h
 ·exact .inl (.inl (e _ _ h))
 ·exact .inl (.inr ⟨o,e _ _ h⟩)
 ·exact .inr h
end L2
namespace L2
open PySem PySem.Spec PyProof.Rows
section
variable {κ:Type} [DecidableEq κ]
def ab9 (kvs:List (κ × V)) (k:κ):Option V:=(kvs.find? fun kv=>decide (kv.1=k)).map (·.2)
def putK (kvs:List (κ × V)) (k:κ) (v:V):List (κ × V) :=
 if (kvs.any fun kv=>decide (kv.1=k))=true then kvs.map (fun kv=>if kv.1=k then (kv.1,v) else kv) else kvs++[(k,v)]
theorem a6y {p:κ × V} {r:List (κ × V)} {k:κ} (e:p.1=k):ab9 (p::r) k=some p.2:=by simp [ab9,List.find?_cons,e]
theorem a6z {p:κ × V} {r:List (κ × V)} {k:κ} (e:¬ p.1=k):ab9 (p::r) k=ab9 r k:=by simp [ab9,List.find?_cons,e]
theorem aba (k:κ):∀ kvs:List (κ × V),(kvs.any fun kv=>decide (kv.1=k))=(ab9 kvs k).isSome
 | []=>rfl
 | p::r=>by
  rw [List.any_cons]
  by_cases e:p.1=k
  ·simp only [a6y e,decide_eq_true e,Bool.true_or,Option.isSome_some]
  ·rw [a6z e,decide_eq_false e,Bool.false_or];exact aba k r
theorem a1m (kvs:List (κ × V)) (k:κ) (v:V):(putK kvs k v).length≤kvs.length+1:=by
 unfold putK
 split
 ·rw [List.length_map];omega
 ·rw [List.length_append,List.length_cons,List.length_nil];omega
theorem RelO.isSome_eq {o:Option V} {u:Option Value} (r:RelO o u):o.isSome=u.isSome:=by
 cases o with
 | none=>cases u with
  | none=>rfl
  | some _=>exact (show False from r).elim
 | some _=>cases u with
  | none=>exact (show False from r).elim
  | some _=>rfl
theorem RelO.getD {o:Option V} {u:Option Value} {d:V} {d':Value} (r:RelO o u) (rd:RelV d d'):RelV (o.getD d) (u.getD d'):=by
 cases o with
 | none=>cases u with
  | none=>exact rd
  | some _=>exact (show False from r).elim
 | some _=>cases u with
  | none=>exact (show False from r).elim
  | some _=>exact r
theorem KV.val {kvs:List (κ × V)} {vs:List (κ × Value)} (r:KV kvs vs) (k:κ):RelO (ab9 kvs k) (valueAt vs k):=by
 unfold KV at r
 induction r with
 | nil=>exact True.intro
 | @cons p q ps qs h t ih =>
  obtain ⟨h1,h2⟩:=h
  by_cases e:p.1=k
  ·have e':q.1=k:=h1.symm.trans e
   have b:valueAt (q::qs) k=some q.2:=by simp [valueAt,List.find?_cons,e']
   rw [a6y e,b];exact h2
  ·have e':¬ q.1=k:=fun z=>e (h1.trans z)
   have b:valueAt (q::qs) k=valueAt qs k:=by simp [valueAt,List.find?_cons,e']
   rw [a6z e,b];exact ih
theorem KV.any {kvs:List (κ × V)} {vs:List (κ × Value)} (r:KV kvs vs) (k:κ):(kvs.any fun kv=>decide (kv.1=k))=vs.any fun kv=>decide (kv.1=k):=by
 unfold KV at r
 induction r with
 | nil=>rfl
 | cons h t ih=>rw [List.any_cons,List.any_cons,ih,h.1]
theorem KV.repl {kvs:List (κ × V)} {vs:List (κ × Value)} (r:KV kvs vs) (k:κ) {y:V} {u:Value} (ry:RelV y u) :
  KV (kvs.map fun kv=>if kv.1=k then (kv.1,y) else kv) (vs.map fun kv=>if kv.1=k then (kv.1,u) else kv):=by
 unfold KV at r ⊢
 induction r with
 | nil=>exact .nil
 | @cons p q ps qs h t ih =>
  rw [List.map_cons,List.map_cons]
  refine .cons ?_ ih
  obtain ⟨h1,h2⟩:=h
  by_cases e:p.1=k
  ·rw [if_pos e,if_pos (h1.symm.trans e)];exact ⟨h1,ry⟩
  ·rw [if_neg e,if_neg (fun z=>e (h1.trans z))];exact ⟨h1,h2⟩
theorem KV.put {kvs:List (κ × V)} {vs:List (κ × Value)} (r:KV kvs vs) (k:κ) {y:V} {u:Value} (ry:RelV y u):KV (putK kvs k y) (stored vs k u):=by
 unfold putK stored
 rw [r.any k]
 by_cases e:(vs.any fun kv=>decide (kv.1=k))=true
 ·rw [if_pos e,if_pos e];exact r.repl k ry
 ·rw [if_neg e,if_neg e];exact Paired.snoc r ⟨rfl,ry⟩
theorem KV.length {kvs:List (κ × V)} {vs:List (κ × Value)} (r:KV kvs vs):kvs.length=vs.length:=Paired.length r
end
theorem aiw {P:Program} {w:World} {k:Key} {u:Value} (r:RelV (kV k) u):(n6 P w).is k u=true:=by
 cases k with
 | inl i=>obtain ⟨t,e⟩:=(show ∃ t,u=Value.int i t from r);subst e;exact a9q P w i t
 | inr x=>obtain ⟨t,e⟩:=(show ∃ t,u=Value.str x t from r);subst e;exact a9r P w x t
theorem a8j {P:Program} {w:World}:∀ {ks:List Key} {us:List Value},Vals (ks.map kV) us→ItemsAre (n6 P w) ks us
 | [],_,r=>by rw [List.map_nil] at r;cases r;exact .nil
 | k::ks,_,r=>by
  rw [List.map_cons] at r
  cases r with
  | cons h t=>exact .cons (aiw h) (a8j t)
abbrev KT (H:Hp):List (List Key × V)→List (List Key × Addr × Value)→Prop:=Paired fun p q=>p.1=q.1∧H q.2.1=some (.tup (p.1.map kV))∧RelV p.2 q.2.2
theorem KT.val {H:Hp} {kvs:List (List Key × V)} {xs:List (List Key × Addr × Value)} (r:KT H kvs xs) (k:List Key):RelO (ab9 kvs k) ((atKey xs k).map (·.2)):=by
 induction r with
 | nil=>exact True.intro
 | @cons p q ps qs h t ih =>
  obtain ⟨h1,_,h2⟩:=h
  by_cases e:p.1=k
  ·have e':q.1=k:=h1.symm.trans e
   have b:atKey (q::qs) k=some q.2:=by simp [atKey,List.find?_cons,e']
   rw [a6y e,b];exact h2
  ·have e':¬ q.1=k:=fun z=>e (h1.trans z)
   have b:atKey (q::qs) k=atKey qs k:=by simp [atKey,List.find?_cons,e']
   rw [a6z e,b];exact ih
theorem KT.repl {H:Hp} {kvs:List (List Key × V)} {xs:List (List Key × Addr × Value)} (r:KT H kvs xs) (k:List Key) {y:V} {u:Value} (ry:RelV y u) :
  KT H (kvs.map fun kv=>if kv.1=k then (kv.1,y) else kv) (xs.map (putAt k u)):=by
 induction r with
 | nil=>exact .nil
 | @cons p q ps qs h t ih =>
  rw [List.map_cons,List.map_cons]
  refine .cons ?_ ih
  obtain ⟨h1,h2,h3⟩:=h
  unfold putAt
  by_cases e:p.1=k
  ·rw [if_pos e,if_pos (h1.symm.trans e)];exact ⟨h1,h2,ry⟩
  ·rw [if_neg e,if_neg (fun z=>e (h1.trans z))];exact ⟨h1,h2,h3⟩
theorem KT.put {H:Hp} {kvs:List (List Key × V)} {xs:List (List Key × Addr × Value)} (r:KT H kvs xs) (k:List Key) {b:Addr} {y:V} {u:Value} (hb:H b=some (.tup (k.map kV))) (ry:RelV y u) :
  KT H (putK kvs k y) (storedH xs k b u):=by
 have e:(kvs.any fun kv=>decide (kv.1=k))=(atKey xs k).isSome:=by
  rw [aba,(r.val k).isSome_eq,Option.isSome_map]
 unfold putK storedH
 rw [e]
 by_cases q:(atKey xs k).isSome=true
 ·rw [if_pos q,if_pos q];exact r.repl k ry
 ·rw [if_neg q,if_neg q];exact Paired.snoc r ⟨rfl,hb,ry⟩
theorem KT.keeps {H H':Hp} {kvs:List (List Key × V)} {xs:List (List Key × Addr × Value)} (r:KT H kvs xs) (ht:∀ b ys,H b=some (.tup ys)→H' b=some (.tup ys)):KT H' kvs xs :=
 Paired.mapP r fun _ _ z=>⟨z.1,ht _ _ z.2.1,z.2.2⟩
section
variable {P:Program} {w:World} {H:Hp} {h:Heap} {a:Addr}
theorem ar6 {u:HO} (ok:HOk P w H h) (e:Rd H a u):ObjOk P w H h a u:=e.ok ok
theorem ar7 {kvs:List (Key × V)} (ok:HOk P w H h) (e:Rd H a (.dK kvs)):kvs.length≤sizeLine∧(a == sysModules)=false∧∃ vs,KV kvs vs∧h.DictOf (n6 P w) a vs :=
 show ObjOk P w H h a (.dK kvs) from ar6 ok e
theorem ar8 {kvs:List (Key × V)} (ok:HOk P w H h) (e:H a=some (.dK kvs)):kvs.length≤sizeLine∧(a == sysModules)=false∧∃ vs,KV kvs vs∧h.DictOf (n6 P w) a vs:=ar7 ok (.inl e)
theorem afj {ks:List Key} (ok:HOk P w H h) (e:H a=some (.tup (ks.map kV))):(tupleKind (n6 P w)).is h ks a:=by
 obtain ⟨_,its,r,o,h1,h2,n,h3⟩:=(show ObjOk P w H h a (.tup (ks.map kV)) from ok a _ e)
 exact ⟨o,its.toArray,n,h1,h2,h3,by simpa using a8j r⟩
theorem ar9 {kvs:List (List Key × V)} (ok:HOk P w H h) (e:Rd H a (.dT kvs)):kvs.length≤sizeLine∧(a == sysModules)=false ∧
  ∃ xs,KT H kvs xs∧h.DictOfH (tupleKind (n6 P w)) a xs:=by
 obtain ⟨z,y,xs,r,o,es,ep,h1,h2,h3,h4,h5⟩:=(show ObjOk P w H h a (.dT kvs) from ar6 ok e)
 refine ⟨z,y,xs,r,o,es,ep,h1,h2,h3,h4,fun x hx=>?_,h5⟩
 have all:∀ {l:List (List Key × V)} {m:List (List Key × Addr × Value)},KT H l m→∀ x∈m,(tupleKind (n6 P w)).is h x.1 x.2.1:=by
  intro l m q
  induction q with
  | nil=>intro x hx;exact nomatch hx
  | @cons p q ps qs hq t ih =>
   intro x hx
   rcases List.mem_cons.mp hx with e | hx
   ·subst e
    exact afj ok (by rw [← hq.1];exact hq.2.1)
   ·exact ih x hx
 exact all r x hx
theorem avj {kvs:List (List Key × V)} (ok:HOk P w H h) (e:H a=some (.dT kvs)):kvs.length≤sizeLine∧(a == sysModules)=false ∧
  ∃ xs,KT H kvs xs∧h.DictOfH (tupleKind (n6 P w)) a xs:=ar9 ok (.inl e)
end
def aul (H:Hp) (a:Addr) (y:V) (r:Option V):Prop :=
 (∃ kvs k,Rd H a (.dK kvs)∧y=kV k∧r=ab9 kvs k)∨∃ kvs k b,Rd H a (.dT kvs)∧y = .ref b∧H b=some (.tup (k.map kV))∧r=ab9 kvs k
def avk (H:Hp) (a:Addr) (y v:V) (H':Hp):Prop :=
 (∃ kvs k,H a=some (.dK kvs)∧y=kV k∧kvs.length<sizeLine∧H'=upd H a (.dK (putK kvs k v))) ∨
 ∃ kvs k b,H a=some (.dT kvs)∧y = .ref b∧H b=some (.tup (k.map kV))∧kvs.length<sizeLine∧H'=upd H a (.dT (putK kvs k v))
section
variable {X:Cx} {pins:List (Addr × Obj)} {σ:St} {H:Hp} {s:Shared} {a:Addr} {y v:V} {u r:Value} {o:Option V} {A:Around} {E:Value→Shared→Prop}
theorem Inv.big (I:Inv X pins σ H s):sysModules<s.heap.objs.size:=by
 have h:mainGlobals<s.heap.objs.size:=(I.mod.glob.keeps I.bk).lt
 exact Nat.lt_trans (by decide) h
theorem ane {Q:Value→Shared→Prop} (hu:A.units+1<cLine) (I:Inv X pins σ H s) (g:aul H a y o) (ry:RelV y u) (h:∀ s',Inv X pins σ H s'→Q (.bool (!o.isSome)) s') :
  wpAny (model X.prog X.w) A (compareOp .NotIn u (.ref a)) Q E s:=by
 rcases g with ⟨kvs,k,e,ey,l⟩ | ⟨kvs,k,b,e,ey,eb,l⟩
 ·subst ey
  obtain ⟨z,hd,vs,rel,dd⟩:=ar7 I.hok e
  refine wpAny_notIn_of (aiw ry) hd dd.mapOf ?_
  rw [← (rel.val k).isSome_eq,← l]
  exact h _ (I.tok _)
 ·subst ey
  cases (show u=Value.ref b from ry)
  obtain ⟨z,hd,xs,rel,dd⟩:=ar9 I.hok e
  refine wpAny_notIn_heap (tupleKind_room_in1 hu) (afj I.hok eb) hd dd ?_
  have q:=(rel.val k).isSome_eq
  rw [Option.isSome_map] at q
  rw [← q,← l]
  exact h _ (I.tok _)
theorem a9y {h':Heap} {t':Nat} {ob:HO} (I:Inv X pins σ H s) (mu:Mut (H a)) (hs:Heap.SameBut a s.heap h') (he:∃ q,h'.get? a=some q) (new:ObjOk X.prog X.w (upd H a ob) h' a ob) :
  Inv X pins σ (upd H a ob) { s with heap:=h',toks:=t' } :=
 I.write (x:=a) (e:=a) mu (.inl rfl) (fun b q hb z=>(hs.2 b hb).trans z) he new
theorem al6 {P:Program} {w:World} {H':Hp} {h':Heap} {kvs:List (Key × V)} {vs:List (Key × Value)} (z:kvs.length≤sizeLine) (hd:(a == sysModules)=false) (rel:KV kvs vs) (dd:h'.DictOf (n6 P w) a vs) :
  ObjOk P w H' h' a (.dK kvs):=⟨z,hd,vs,rel,dd⟩
theorem afk {H':Hp} {Q:Unit→Shared→Prop} (hu:A.units+1<cLine) (I:Inv X pins σ H s) (g:avk H a y v H') (ry:RelV y u) (rv:RelV v r) (h:∀ s',Inv X pins σ H' s'→Q () s') :
  wpAny (model X.prog X.w) A (setItem (.ref a) u r) Q E s:=by
 rcases g with ⟨kvs,k,e,ey,l,eH⟩ | ⟨kvs,k,b,e,ey,eb,l,eH⟩
 ·subst ey eH
  obtain ⟨z,hd,vs,rel,dd⟩:=ar8 I.hok e
  have hz:vs.length≤sizeLine:=by rw [← rel.length];exact z
  have hl:(putK kvs k v).length≤sizeLine:=by have:=a1m kvs k v;omega
  refine wpAny_setItem_pairs (hsz:=hz) (aiw ry) dd fun h' dd' hs=>h _ ?_
  have he:∃ q,h'.get? a=some q:=let ⟨q,_,_,hq,_⟩:=dd'; ⟨q,hq⟩
  exact a9y I (by rw [e];exact True.intro) hs he (al6 hl hd (rel.put k rv) dd')
 ·subst ey eH
  cases (show u=Value.ref b from ry)
  obtain ⟨z,hd,xs,rel,dd⟩:=avj I.hok e
  have hz:xs.length≤sizeLine:=by rw [← Paired.length rel];exact z
  have hl:(putK kvs k v).length≤sizeLine:=by have:=a1m kvs k v;omega
  refine wpAny_setItem_heap (hsz:=hz) (tupleKind_room_in1 hu) (afj I.hok eb) dd fun h' dd' hs=>h _ ?_
  obtain ⟨q,es,ep,hq,h2,h3,h4,_,h5⟩:=dd'
  refine a9y I (by rw [e];exact True.intro) hs ⟨q,hq⟩ ⟨hl,hd,_,(rel.put k eb rv).keeps fun c ys ec=>?_,q,es,ep,hq,h2,h3,h4,h5⟩
  rw [dw (aur ec e (fun z=>nomatch z))]
  exact ec
end
def avl (td ty tv:TE):TS:=fun D σ H=>tv σ H fun v H1=>td σ H1 fun x H2=>ty σ H2 fun y H3=>∃ a H4,x = .ref a∧avk H3 a y v H4∧D.nx σ H4
section
variable {X:Cx} {o i e value:Expr} {pos pos' tpos:Pos} {td ty tv:TE}
theorem anf (hu:X.A.units+1<cLine) (ho:PE X o td) (hi:PE X i ty) (hv:PE X value tv) (hs:swapsWith value (some (.Subscript o i pos')) pos.line X.env=pure false) :
  PS X (.Assign [.Subscript o i pos'] value pos) (avl td ty tv):=by
 intro pins s σ H D I h
 refine wpAny_Assign_Subscript (thn (hv pins s σ H _ I h) fun r s1 ⟨v,H1,I1,rv,q1⟩=>thn (ho pins s1 σ H1 _ I1 q1) fun u s2 ⟨x,H2,I2,rx,q2⟩=>thn (hi pins s2 σ H2 _ I2 q2) fun iv s3 ⟨y,H3,I3,ry,a,H4,ex,g,q3⟩=>?_) hs
 subst ex
 obtain rfl:u=Value.ref a:=rx
 exact afk hu I3 g ry rv fun s4 I4=>⟨σ,H4,I4,q3⟩
end
theorem aix {P:Program} {w:World} {H:Hp} (h:Heap) (hb:sysModules<h.objs.size):ObjOk P w H (h.push { cls:=.type "dict",data:=.dict #[] }) h.objs.size (.dK []) :=
 ⟨Nat.zero_le _,beq_eq_false_iff_ne.mpr (Ne.symm (Nat.ne_of_lt hb)),[], .nil,Heap.DictOf.new h⟩
def afl:List (TE × TE)→St→Hp→(List (V × V)→Hp→Prop)→Prop
 | [],_,H,Q=>Q [] H
 | (tk,tv)::r,σ,H,Q=>tk σ H fun x H1=>tv σ H1 fun y H2=>afl r σ H2 fun ps H3=>Q ((x,y)::ps) H3
abbrev VV:List (V × V)→List (Value × Value)→Prop:=Paired fun p q=>RelV p.1 q.1∧RelV p.2 q.2
def PPs (X:Cx) (pos:Pos) (keys:List (Option Expr)) (values:List Expr) (trs:List (TE × TE)):Prop :=
 ∀ (pins:List (Addr × Obj)) (s:Shared) (σ:St) (H:Hp) (Q:List (V × V)→Hp→Prop),Inv X pins σ H s→afl trs σ H Q →
  wpAny (model X.prog X.w) X.A (evalPairs (pairTrees keys values X.env pos)) (fun vs s'=>∃ ps H',Inv X pins σ H' s'∧VV ps vs∧Q ps H') X.xe s
theorem ang {X:Cx} {pos:Pos}:PPs X pos [] [] []:=fun pins s σ H Q I h=>pairTrees_nil_walk ⟨[],H,I, .nil,h⟩
theorem aiy {X:Cx} {pos:Pos} {k v:Expr} {ks:List (Option Expr)} {vs:List Expr} {tk tv:TE} {trs:List (TE × TE)} (hk:PE X k tk) (hv:PE X v tv) (hr:PPs X pos ks vs trs) :
  PPs X pos (some k::ks) (v::vs) ((tk,tv)::trs):=fun pins s σ H Q I h =>
 pairTrees_cons_walk (thn (hk pins s σ H _ I h) fun u s1 ⟨x,H1,I1,rx,q1⟩=>thn (hv pins s1 σ H1 _ I1 q1) fun w2 s2 ⟨y,H2,I2,ry,q2⟩ =>
  thn (hr pins s2 σ H2 _ I2 q2) fun ws s3 ⟨ps,H3,I3,rel,q3⟩=>⟨(x,y)::ps,H3,I3, .cons ⟨rx,ry⟩ rel,q3⟩)
def a8k (kvs more:List (Key × V)):List (Key × V):=more.foldl (fun acc kv=>putK acc kv.1 kv.2) kvs
theorem KV.merge:∀ {more:List (Key × V)} {rs:List (Key × Value)} {kvs:List (Key × V)} {vs:List (Key × Value)},KV more rs→KV kvs vs→KV (a8k kvs more) (merged vs rs):=by
 intro more rs kvs vs r
 unfold KV at r
 induction r generalizing kvs vs with
 | nil=>intro q;exact q
 | @cons p q ps qs h t ih =>
  intro r0
  have e:KV (putK kvs p.1 p.2) (stored vs q.1 q.2):=by
   have:=r0.put p.1 h.2
   rw [← h.1];exact this
  exact ih e
theorem a2a:∀ (more kvs:List (Key × V)),(a8k kvs more).length≤kvs.length+more.length
 | [],kvs=>by show kvs.length≤kvs.length+0;omega
 | p::r,kvs=>by
  have h1:=a2a r (putK kvs p.1 p.2)
  have h2:=a1m kvs p.1 p.2
  show (a8k (putK kvs p.1 p.2) r).length≤_
  rw [List.length_cons];omega
theorem a68 {P:Program} {w:World}:∀ {kvs:List (Key × V)} {ws:List (Value × Value)},VV (kvs.map fun kv=>(kV kv.1,kv.2)) ws→∃ rs,Carries (n6 P w) ws rs∧KV kvs rs
 | [],_,r=>by rw [List.map_nil] at r;cases r;exact ⟨[],True.intro, .nil⟩
 | p::kvs,_,r=>by
  rw [List.map_cons] at r
  cases r with
  | @cons a b as bs h t =>
   obtain ⟨rs,c,q⟩:=a68 (P:=P) (w:=w) t
   obtain ⟨b1,b2⟩:=b
   exact ⟨(p.1,b2)::rs,⟨aiw h.1,rfl,c⟩, .cons ⟨rfl,h.2⟩ q⟩
def avm (trs:List (TE × TE)):TE:=fun σ H Q=>∀ p,H p=none→afl trs σ (upd H p (.dK [])) fun ps H2=>H2 p=some (.dK [])∧∃ kvs:List (Key × V),ps=kvs.map (fun kv=>(kV kv.1,kv.2))∧kvs.length≤15∧Q (.ref p) (upd H2 p (.dK (a8k [] kvs)))
theorem anh {X:Cx} {pos:Pos} {keys:List (Option Expr)} {values:List Expr} {trs:List (TE × TE)} (h:PPs X pos keys values trs) (hall:keys.all (·.isSome)=true) (hl:keys.length=values.length) (h0:keys≠[])
  (h15:keys.length≤15):PE X (.Dict keys values pos) (avm trs):=by
 intro pins s σ H Q I q
 have hn:=I.hok.fresh (Nat.le_refl s.heap.objs.size)
 have I1:=I.laid (a:=s.heap.objs.size) (o:=.dK []) (h':=s.heap.push { cls:=.type "dict",data:=.dict #[] }) (t':=s.toks) (fun _ _ q=>Heap.get?_push_of_some _ q) (Nat.le_refl _) (aix s.heap I.big)
 refine wpAny_Dict_walk (knd:=n6 X.prog X.w) hall hl h0 h15 (thn (h pins _ σ _ _ I1 (q _ hn)) fun ws s2 ⟨ps,H2,I2,rel,e,kvs,ep,lk,q2⟩=>?_)
 subst ep
 obtain ⟨rs,c,rk⟩:=a68 (P:=X.prog) (w:=X.w) rel
 obtain ⟨z,hd,vs0,r0,dd⟩:=ar8 I2.hok e
 cases r0
 refine ⟨rs,c,dd,fun h' dd' hs=>⟨.ref s.heap.objs.size,_,?_,rfl,q2⟩⟩
 have hz:(a8k [] kvs).length≤sizeLine:=by
  have h1:=a2a kvs []
  rw [List.length_nil] at h1
  rw [sizeLine_eq];omega
 have he:∃ q,h'.get? s.heap.objs.size=some q:=let ⟨q,_,_,hq,_⟩:=dd'; ⟨q,hq⟩
 exact a9y I2 (by rw [e];exact True.intro) hs he (al6 hz hd (rk.merge .nil) dd')
end L2
set_option maxHeartbeats 4000000
namespace L2
open PySem PySem.Spec PyProof.Rows
section
variable {X:Cx}
theorem abb:OpR X (compareOp .Is) (fun x y H Q=>∃ i j,x = .bl i∧y = .bl j∧Q (.bl (i == j)) H):=by
 intro pins s σ H x y v u Q I rx ry h
 obtain ⟨i,j,rfl,rfl,q⟩:=h
 cases rx
 cases ry
 exact is_bool (a4e I q rfl)
theorem a9z:OpR X (compareOp .IsNot) (fun x y H Q=>∃ i j,x = .bl i∧y = .bl j∧Q (.bl (i != j)) H):=by
 intro pins s σ H x y v u Q I rx ry h
 obtain ⟨i,j,rfl,rfl,q⟩:=h
 cases rx
 cases ry
 exact isnot_bool (a4e I q rfl)
def a5r {α:Type} (xs:List α) (lo hi:Option Int):List α:=(xs.drop (HT.sIx xs.length 0 lo)).take (HT.sIx xs.length xs.length hi - HT.sIx xs.length 0 lo)
def avn:V→Option Int→Option Int→Hp→VK→Prop:=fun x lo hi H Q=>∃ z,x = .str z∧z.length≤sizeLine∧Q (.str ⟨(a5r z.cps.toList lo hi).toArray⟩) H
theorem ara (lo hi:Option Int) (n:Nat):Builtin.Str.strSliceIndices lo hi 1 n=(List.range (HT.sIx n n hi - HT.sIx n 0 lo)).map fun k=>HT.sIx n 0 lo+k:=by
 have e1:Builtin.Str.strSliceIndices lo hi 1 n=sliceRange ((HT.sIx n 0 lo:Nat):Int) ((HT.sIx n n hi:Nat):Int) 1:=by
  unfold Builtin.Str.strSliceIndices
  dsimp only
  congr 1
  ·cases lo with
   | none=>simp [HT.sIx]
   | some i=>simp only [HT.sIx,show (1:Int) > 0 by decide,if_true];split<;>omega
  ·cases hi with
   | none=>simp [HT.sIx]
   | some i=>simp only [HT.sIx,show (1:Int) > 0 by decide,if_true];split<;>omega
 rw [e1]
 exact sliceRange_one _ _
theorem arb {α:Type} (xs:List α) (a:Nat):∀ k,a+k≤xs.length→((List.range k).map fun j=>a+j).filterMap (xs[·]?)=(xs.drop a).take k
 | 0,_=>by simp
 | k+1,h=>by
  rw [List.range_succ,List.map_append,List.filterMap_append,arb xs a k (by omega)]
  have hk:a+k<xs.length:=by omega
  rw [List.take_succ]
  congr 1
  simp [List.getElem?_drop,hk]
theorem arc:SlR X avn:=by
 intro pins s σ H x v vl vu lo hi sl Q I rx hs pl pu h
 obtain ⟨z,rfl,hz,q⟩:=h
 obtain ⟨t,rfl⟩:=rx
 refine ⟨"str",_,PyProof.Rows.slot_str_getitem.lookup,typeIs_str s z t,?_⟩
 have hl:z.cps.toList.length=z.length:=by simp [Str.length]
 have fin:∀ (l u:Option (Int × Tok)),vl=partValue l→vu=partValue u→l.map (·.1)=lo→u.map (·.1)=hi→wpAny (model X.prog X.w) X.A (getItem (.str z t) (.ref sl)) (EP X pins σ Q) X.xe s:=by
  intro l u e1 e2 e3 e4
  subst e1 e2
  refine wpAny_getItem_str_slice (l:=l) (u:=u) (st:=none) hs rfl ?_
  have hp:slicePicked z l u none=(List.range (HT.sIx z.length z.length hi - HT.sIx z.length 0 lo)).map fun k=>HT.sIx z.length 0 lo+k:=by
   unfold slicePicked
   rw [e3,e4]
   exact ara lo hi z.length
  have hb1:HT.sIx z.length z.length hi≤z.length:=HT.afa _ _ (Nat.le_refl _) _
  have hb2:HT.sIx z.length 0 lo≤z.length:=HT.afa _ _ (Nat.zero_le _) _
  unfold sliceMade
  split
  ·rename_i c
   simp only [Bool.and_eq_true,beq_iff_eq] at c
   obtain ⟨_,c⟩:=c
   rw [hp,List.length_map,List.length_range] at c
   have e:(⟨(a5r z.cps.toList lo hi).toArray⟩:Str)=z:=by
    unfold a5r
    rw [hl]
    have z1:HT.sIx z.length 0 lo=0:=by omega
    have z2:HT.sIx z.length z.length hi=z.length:=by omega
    rw [z1,z2,List.drop_zero,Nat.sub_zero,List.take_of_length_le (by omega)]
   rw [e] at q
   exact ⟨.str z,H,I,⟨_,rfl⟩,q⟩
  ·have e:(⟨(a5r z.cps.toList lo hi).toArray⟩:Str)=⟨((slicePicked z l u none).filterMap (z.cps[·]?)).toArray⟩:=by
    rw [hp]
    unfold a5r
    rw [hl]
    by_cases hc:HT.sIx z.length 0 lo≤HT.sIx z.length z.length hi
    ·rw [← arb z.cps.toList _ _ (by omega)]
     simp only [Array.getElem?_toList]
    ·rw [show HT.sIx z.length z.length hi - HT.sIx z.length 0 lo=0 by omega]
     simp
   rw [e] at q
   refine ⟨?_, .str _,H,I.tok _,⟨_,rfl⟩,q⟩
   rw [← e]
   show (a5r z.cps.toList lo hi).toArray.size≤sizeLine
   rw [List.size_toArray]
   unfold a5r
   rw [List.length_take,List.length_drop,hl]
   omega
 cases pl with
 | none=>cases pu with
  | none=>exact fin none none rfl rfl rfl rfl
  | int j t'=>exact fin none (some (j,t')) rfl rfl rfl rfl
 | int i t'=>cases pu with
  | none=>exact fin (some (i,t')) none rfl rfl rfl rfl
  | int j t''=>exact fin (some (i,t')) (some (j,t'')) rfl rfl rfl rfl
theorem qt:CallR X (.builtin "isinstance") (fun xs H Q=>∃ x T t b,xs=[x, .ty T]∧TyOf X.K H x t∧PySem.W.kitOne X.K t (.type T)=some b∧Q (.bl b) H):=by
 intro pins s σ H xs us Q I r h
 obtain ⟨x,T,t,b,rfl,ty,e,q⟩:=h
 obtain ⟨u,w',rfl,rx,rt⟩:=vals2 r
 cases rt
 exact af7 I rx ty e fun tk=>⟨.bl b,H,I.tok tk,rfl,q⟩
def wg (x:Str):List V:=x.cps.toList.map fun c=>V.str ⟨#[c]⟩
theorem a69 {x:Str} {acc:Array Value} (h:ItemsOf (SignAt x) acc x.cps.size):Vals (wg x) acc.toList:=by
 obtain ⟨hs,ha⟩:=h
 have key:∀ (cs:List Nat) (us:List Value),us.length=cs.length→(∀ (j:Nat) (v:Value),us[j]? = some v→∃ c u,cs[j]? = some c∧v = .str ⟨#[c]⟩ u)→Vals (cs.map fun c=>V.str ⟨#[c]⟩) us:=by
  intro cs
  induction cs with
  | nil=>intro us hl _;cases us with | nil=>exact .nil | cons _ _=>simp at hl
  | cons c cs ih =>
   intro us hl hp
   cases us with
   | nil=>simp at hl
   | cons u us =>
    refine .cons ?_ (ih us (by simpa using hl) fun j v e=>hp (j+1) v (by simpa using e))
    obtain ⟨c',t,e1,e2⟩:=hp 0 u rfl
    simp at e1
    subst e1
    exact ⟨t,e2⟩
 refine key _ _ (by simp [hs]) fun j v e=>?_
 obtain ⟨c,u,e1,e2⟩:=ha j v (by simpa using e)
 exact ⟨c,u,by simpa using e1,e2⟩
theorem aa0 (hc:X.calm=true):CallR X (.type "list") (fun xs H Q=>∃ z,xs=[.str z]∧z.length≤sizeLine∧∀ l,H l=none→Q (.ref l) (upd H l (.lst (wg z)))):=by
 intro pins s σ H xs us Q I r h
 obtain ⟨z,rfl,hz,q⟩:=h
 obtain ⟨u,rfl,t,rfl⟩:=vals1 r
 refine PySem.call_list_str (I.ok.hd hc) z t (fun h' tk acc c kp e hi=>?_) (by simpa [Str.length] using hz)
 refine ⟨.ref s.heap.objs.size,_,I.laid (t':=tk) kp (Nat.le_refl _) (show ObjOk X.prog X.w _ h' _ (.lst (wg z)) from ⟨by simpa [wg,Str.length] using hz,acc.toList,c,a69 hi,by simpa using e⟩),rfl,q _ (I.hok.fresh (Nat.le_refl _))⟩
theorem jk (hc:X.calm=true):CallR X (.type "tuple") (fun xs H Q=>∃ z,xs=[.str z]∧z.length≤sizeLine∧∀ l,H l=none→Q (.ref l) (upd H l (.tup (wg z)))):=by
 intro pins s σ H xs us Q I r h
 obtain ⟨z,rfl,hz,q⟩:=h
 obtain ⟨u,rfl,t,rfl⟩:=vals1 r
 refine PySem.call_tuple_str (I.ok.hd hc) z t (fun h' tk acc kp hi=>?_) (by simpa [Str.length] using hz)
 have I1:Inv X pins σ H { s with heap:=h',toks:=tk }:=I.kept kp
 have I2:Inv X pins σ (upd H h'.objs.size (.tup (wg z))) { s with heap:=h'.push { cls:=.type "tuple",data:=.seq acc },toks:=tk } :=
  I1.laid (t':=tk) (fun b o e=>Heap.get?_push_of_some _ e) (Nat.le_refl _) (show ObjOk X.prog X.w _ _ _ (.tup (wg z)) from ⟨by simpa [wg,Str.length] using hz,acc.toList,a69 hi,by simpa using IsTup.new h' acc⟩)
 exact ⟨.ref h'.objs.size,_,I2,rfl,q _ (I1.hok.fresh (Nat.le_refl _))⟩
end
def Its (x:Str):It:=⟨fun i _=>i<x.cps.size,fun i H v H'=>H'=H∧∃ c,x.cps.toList[i]? = some c∧v = .str ⟨#[c]⟩,fun i _=>i=x.cps.size⟩
theorem abd {P:Program} {w:World} {K:PySem.W.Frag} {tg:Expr} (it:Addr) (x:Str) (t:Tok) (ty:String)
  (hty:["enumerate", "zip", "dict_itemiterator", "dict_reverseitemiterator", "odict_iterator", "itertools.zip_longest", "itertools.pairwise"].contains ty=false)
  (W:∀ A':Around,A'.handled=none→Walks P w A' it [it] [it] x.cps.size (SignAt x) (fun i h=>h.IsStrIter it ty x t i))
  (slf:∀ (A:Around) (i:Nat) (s:Shared) (Q:Value→Shared→Prop) (E:Value→Shared→Prop),s.heap.IsStrIter it ty x t i→Q (.ref it) s→wpAny (model P w) A (pyIter (.ref it)) Q E s) :
  Turn P w K tg (Its x) [it] it (fun i h=>h.IsStrIter it ty x t i) where
 mem:=by simp
 obj:=fun i h st b hb=>by
  have e:b=it:=by simpa using hb
  subst e
  obtain ⟨o,e,c,d⟩:=st
  exact ⟨o,e,fun v z=>by rw [d] at z;cases z⟩
 keep:=fun i h h' st k=>by
  obtain ⟨o,e,c,d⟩:=st
  exact ⟨o,k it (by simp) o e,c,d⟩
 item:=by
  intro X hP hw hK hc i pins s σ H E I hf st hg
  subst hP hw hK
  obtain ⟨f0,f1,f2,f3,f4,f5⟩:=hf it (by simp)
  refine (W X.A (I.ok.hd hc)).item i s _ _ hg st fun v h' tk hv st' kk=>?_
  obtain ⟨c,u,hx,rfl⟩:=hv
  have I1:Inv X pins σ H { s with heap:=h',toks:=tk }:=I.turned (fun b o hb e=>kk b o (by simpa using hb) e) f0 f1 f3 f4 f5
  obtain ⟨o,e,oc,d⟩:=id st'
  exact ⟨_,rfl,aip (s:={ s with heap:=h',toks:=tk }) e oc d hty ⟨.str ⟨#[c]⟩,H,I1,⟨_,rfl⟩,⟨rfl,c,by simpa using hx,rfl⟩,st',fun b hb=>(hf b hb).1⟩⟩
 done:=by
  intro X hP hw hK hc i pins s σ H E I hf st hg
  subst hP hw hK
  obtain ⟨f0,f1,f2,f3,f4,f5⟩:=hf it (by simp)
  have hg':i=x.cps.size:=hg
  subst hg'
  exact (W X.A (I.ok.hd hc)).done s _ _ st fun h' tk eb=>⟨rfl,I.turned (fun b o hb e=>eb b o (by simpa using hb) e) f0 f1 f3 f4 f5⟩
 self:=slf
section
variable {X:Cx} {tg:Expr}
def axy (tl:TE):TI:=fun σ H R=>tl σ H fun x H1=>∃ z,x = .str z∧R (Its z) H1
theorem al7 {l:Expr} {tl:TE} (hl:PE X l tl):PI X tg l (axy tl):=by
 intro pins s σ H R I h
 refine thn (hl pins s σ H _ I h) fun v s1 ⟨x,H1,I1,r1,q1⟩=>?_
 obtain ⟨z,e,q⟩:=q1
 subst e
 obtain ⟨t,rfl⟩:=r1
 have fp:∀ b∈[s1.heap.objs.size],FpOk X pins H1 b:=fun b hb=>by
  have e:b=s1.heap.objs.size:=by simpa using hb
  subst e
  exact I1.fpOk (Nat.le_refl _) (I1.hok.fresh (Nat.le_refl _))
 cases ha:z.cps.all (· < 128)
 ·exact wpAny_pyIter_wide ha ⟨s1.heap.objs.size,[s1.heap.objs.size],_,_,H1,rfl,I1.kept (t':=s1.toks) fun b o e=>Heap.get?_push_of_some _ e,
   abd _ z t "str_iterator" (by decide) (fun A' hA=>Walks.strWide hA _ z t) (fun _ _ _ _ _ st h=>wpAny_pyIter_striter_wide st h),⟨_,Heap.get?_push_size _ rfl,rfl,rfl⟩,fp,q⟩
 ·exact wpAny_pyIter_ascii ha ⟨s1.heap.objs.size,[s1.heap.objs.size],_,_,H1,rfl,I1.kept (t':=s1.toks) fun b o e=>Heap.get?_push_of_some _ e,
   abd _ z t "str_ascii_iterator" (by decide) (fun A' hA=>Walks.strAscii hA _ z t) (fun _ _ _ _ _ st h=>wpAny_pyIter_striter_ascii st h),⟨_,Heap.get?_push_size _ rfl,rfl,rfl⟩,fp,q⟩
end
end L2
namespace L2
open PySem PySem.Spec PyProof.Rows
def cxC (X:Cx) (N:List Str) (scope:Scope) (cl:List (Str × Addr)) (C:Addr) (fp:List Addr) (s:Shared) (H:Hp):Cx where
 prog:=X.prog
 w:=X.w
 K:=X.K
 mg:=X.mg
 base:=X.base
 A:=X.A
 N:=N
 s₀:=s
 H₀:=H
 env:=compEnvC scope cl C X.env
 outer:=X.stack
 stack:=X.stack
 ex:=fp
 fn:=fun _=>false
 calm:=X.calm
 pn:=[]
 xe:=fun _ _=>False
structure CSc (X:Cx) (scope:Scope) (cl:List (Str × Addr)) (ts fr:List Str) (ix:List Nat):Prop where
 clos:closureFor scope X.env=pure cl
 kind:scope.kind = .function
 nocell:∀ y∈scope.names,y.2≠.cell
 names:∀ y∈scope.names,y.2 = .local→scope.names.lookup y.1=some .local
 sub:∀ y c,cl.lookup y=some c→X.env.cells.lookup y=some c
 has:∀ y,((relabel scope X.env).names.lookup y=some .cell∨(relabel scope X.env).names.lookup y=some .free)→∃ c,cl.lookup y=some c
 nofn:∀ y∈ts,(relabel scope X.env).names.lookup y=some .local
 len:ix.length=fr.length
 vis:∀ (j:Nat) (y:Str),fr[j]? = some y→∃ i:Nat,ix[j]? = some i∧X.N[i]? = some y∧(X.env.kindOf y=some .cell∨X.env.kindOf y=some .free)∧((relabel scope X.env).names.lookup y=some .cell∨(relabel scope X.env).names.lookup y=some .free)
def Ext (a b:St):Prop:=b.length=a.length∧∀ (i:Nat) v,a[i]? = some (some v)→b[i]? = some (some v)
def ju (nt:Nat) (ix:List Nat) (σ:St):St:=List.replicate nt none++ix.map fun i=>(σ[i]?).join
def ard (J:It) (s0:St) (g:TG) (te:TE) (Q:VK) (H1:Hp):Prop:=∃ W:Nat→Nat→List V→Hp→Prop,(∃ m,W 0 m [] H1)∧∀ i m ys H,W i m ys H →
 (J.stop i H∧∀ p,H p=none→Q (.ref p) (upd H p (.lst ys))) ∨
 (J.go i H∧ys.length<sizeLine∧∀ x H',J.yld i H x H'→g x s0 H' fun σ2 H2=>Ext s0 σ2∧te σ2 H2 fun y H3=>∃ m',m'<m∧W (i+1) m' (ys++[y]) H3)
def aiz (wi:TI) (s0:St→St) (g:TG) (te:TE):TE:=fun σ H Q=>wi σ H fun J H1=>ard J (s0 σ) g te Q H1
theorem afm {prog:Program} {w:World} {A:Around} {R:Result→Shared→Prop} {s:Shared} {elt target iter:Expr} {scope:Scope} {pos:Pos} {it acc:Value} {env:Env} (J:Nat→Shared→Prop)
  (step:∀ m z,J m z→wpAny (model prog w) A (pyNext it) (fun got z1=>match got with
   | none=>R (.ok .next) z1
   | some v=>wpAny (model prog w) A (letOwnedTupleGo target it v) (fun _ z2=>wpAny (model prog w) A (assign target env v) (fun _ z3=>wpAny (model prog w) A (eval elt env) (fun x z4 =>
     wpAny (model prog w) A (call (.builtin "list.append") [acc,x]) (fun _ z5=>∃ m',m'<m∧J m' z5) (fun _ _=>False) z4)
     (fun _ _=>False) z3) (fun _ _=>False) z2) (fun _ _=>False) z1) (fun _ _=>False) z)
  (m:Nat) (j0:J m s):codeAny (model prog w) A (.compLoop (.ListComp elt [⟨target,iter,[],0⟩] scope pos) 0 it acc env) R s:=by
 refine codeAny_loop rfl J (fun m z hj=>(wpAny_noted ?_:wpAny _ _ ((compTurn (.ListComp elt [⟨target,iter,[],0⟩] scope pos) 0 it acc env).onRaise _) _ _ z)) m j0
 rw [compTurn_list1]
 refine wpAny_bind (wpAny_standAt (wpAny_bind (wpAny_mono (step m z hj) (fun got z1 h1=>?_) fun _ _ no=>no.elim)))
 match got,h1 with
 | none,h1=>exact wpAny_pure h1
 | some v,h1 =>
  refine wpAny_bind (wpAny_mono h1 (fun _ z2 h2=>wpAny_bind (wpAny_mono h2 (fun _ z3 h3=>?_) fun _ _ no=>no.elim)) fun _ _ no=>no.elim)
  refine wpAny_bind (wpAny_bind (wpAny_mono h3 (fun x z4 h4=>?_) fun _ _ no=>no.elim))
  exact wpAny_bind (wpAny_mono h4 (fun _ z5 h5=>wpAny_pure (wpAny_pure ⟨rfl,h5⟩)) fun _ _ no=>no.elim)
section
variable {X:Cx}
theorem a4k {pins:List (Addr × Obj)} {σ:St} {H:Hp} {s:Shared} {scope:Scope} {cl:List (Str × Addr)} {ts fr:List Str} {ix:List Nat} {C:Addr} {fp:List Addr} (S:CSc X scope cl ts fr ix) (I:Inv X pins σ H s)
  (hf:∀ b∈fp,FpOk X pins H b) (hb:∀ b∈fp,b<s.heap.objs.size) (hC:s.heap.objs.size≤C):(cxC X (ts++fr) scope cl C fp s H).Ok where
 mod:=I.ok.mod
 kind:=S.kind
 glob:=I.ok.glob
 blt:=I.ok.blt
 above:=hC
 inj:=fun x y c h1 h2=>I.ok.inj x y c (S.sub x c h1) (S.sub y c h2)
 has:=S.has
 cab:=fun _ _ z=>nomatch z
 hd:=I.ok.hd
 frames:=I.ok.frames
 stk:=.inl rfl
 exf:=fun b hb'=>⟨Nat.ne_of_lt (Nat.lt_of_lt_of_le (hb b hb') hC),fun x c e=>(hf b hb').2.2.2.2.1 x c (S.sub x c e)⟩
 bs:=fun b o e=>I.bs b o e
 bsz:=Nat.le_trans I.ok.bsz I.sz
 noex:=fun b o e hb'=>by
  rcases (hf b hb').2.2.2.1 with z | z
  ·exact I.ok.noex b o e z
  ·exact absurd (Nat.lt_of_lt_of_le (Heap.lt_size e) (Nat.le_trans I.ok.bsz z)) (Nat.lt_irrefl _)
 exfs:=fun b hb' z=>by
  rcases List.mem_cons.mp (I.stkSub b z) with e | e
  ·exact (hf b hb').2.1 e
  ·exact (hf b hb').2.2.1 e
 funs:=I.stack
 frf:=fun b hb'=>I.stkFree b hb'
theorem ad5 {nt:Nat} {ix:List Nat} {σ:St}:(ju nt ix σ).length=nt+ix.length:=by
 unfold ju;rw [List.length_append,List.length_replicate,List.length_map]
theorem aa1 {pins:List (Addr × Obj)} {σ:St} {H:Hp} {s s4:Shared} {scope:Scope} {cl:List (Str × Addr)} {ts fr:List Str} {ix:List Nat} {C:Addr} {fp:List Addr} {m:Str→Option Value} (S:CSc X scope cl ts fr ix) (I:Inv X pins σ H s)
  (hf:∀ b∈fp,FpOk X pins H b) (hb:∀ b∈fp,b<s.heap.objs.size) (hC:s.heap.objs.size≤C)
  (k:∀ b o,s.heap.get? b=some o→s4.heap.get? b=some o) (hn:s4.heap.Ns C m) (ho:s4.os=s.os) (hg:s4.gens=s.gens) :
  Inv (cxC X (ts++fr) scope cl C fp s H) [] (ju ts.length ix σ) H s4 where
 ok:=a4k S I hf hb hC
 os:=ho
 bare:=by rw [hg];exact I.bare
 base:=Un.kept k
 loc:=by
  refine ⟨m,hn,fun i x v e1 e2 e3=>?_⟩
  have e1:(ts++fr)[i]? = some x:=e1
  by_cases hi:i<ts.length
  ·unfold ju at e2
   rw [List.getElem?_append_left (by simpa using hi),List.getElem?_replicate,if_pos hi] at e2
   cases e2
  ·rw [List.getElem?_append_right (by omega)] at e1
   unfold ju at e2
   rw [List.getElem?_append_right (by simpa using hi),List.length_replicate,List.getElem?_map] at e2
   obtain ⟨j,h1,h2,h3,h4⟩:=S.vis _ x e1
   rw [h1] at e2
   have e2':(σ[j]?).join=some v:=Option.some.inj e2
   have e5:σ[j]? = some (some v):=by
    cases q:σ[j]? with
    | none=>rw [q] at e2';cases e2'
    | some o=>rw [q] at e2';simp at e2';rw [e2']
   obtain ⟨m0,_,hl⟩:=I.loc
   have vis:Vis X.env.scope x:=h3.elim (fun z=>.inr (.inl z)) fun z=>.inr (.inr z)
   obtain ⟨u,ru,l⟩:=hl j x v h2 e5 vis
   refine ⟨u,ru,?_⟩
   rcases l with ⟨z,_⟩ | ⟨_,c,hc,hcell⟩
   ·rcases h3 with h3 | h3<;>rw [h3] at z<;>cases z
   ·obtain ⟨c',hc'⟩:=S.has x h4
    have e6:c'=c:=Option.some.inj ((S.sub x c' hc').symm.trans hc)
    subst e6
    obtain ⟨o,ho,hd⟩:=hcell
    exact .inr ⟨h4,c',hc',o,k _ _ ho,hd⟩
 cell:=fun x c e=>by
  obtain ⟨v,o,ho,hd⟩:=I.cell x c (S.sub x c e)
  exact ⟨v,o,k _ _ ho,hd⟩
 free:=I.hok.fresh hC
 freeC:=fun x c e=>I.freeC x c (S.sub x c e)
 pin:=fun p hp=>absurd (show p∈([]:List (Addr × Obj)) from hp) (by simp)
 hok:=I.hok.kept k
 len:=by
  rw [ad5]
  show _=(ts++fr).length
  rw [List.length_append,S.len]
theorem Inv.unpinned' {pins:List (Addr × Obj)} {σ:St} {H:Hp} {s:Shared} (I:Inv X pins σ H s):Inv X [] σ H s:=I.pins_of fun _ hp=>nomatch hp
theorem comp_back {pins:List (Addr × Obj)} {σ σ':St} {H H':Hp} {s s':Shared} {scope:Scope} {cl:List (Str × Addr)} {N:List Str} {C acc:Addr} {fp:List Addr} {h':Heap} {ys:List V} {its:List Value} {n:Nat} (I:Inv X pins σ H s)
  (hf:∀ b∈fp,FpOk X pins H b) (hC:s.heap.objs.size≤C) (hacc:s.heap.objs.size≤acc) (hCa:C≠acc)
  (J:Inv (cxC X N scope cl C fp s H) [] σ' H' s') (hn:H' acc=none) (ha:s'.heap.get? acc=some { cls:=.type "list",data:=.seq its.toArray n }) (rv:Vals ys its) (hz:ys.length≤sizeLine) (sb:Heap.SameBut C s'.heap h') :
  Inv X pins σ (upd H' acc (.lst ys)) { s' with heap:=h' }:=by
 have k:∀ b o,b≠C→s'.heap.get? b=some o→h'.get? b=some o:=fun b o hb e=>sb.extBut b o hb e
 have old:∀ b o,s.heap.get? b=some o→b≠C∧b≠acc:=fun b o e=>⟨Nat.ne_of_lt (Nat.lt_of_lt_of_le (Heap.lt_size e) hC),Nat.ne_of_lt (Nat.lt_of_lt_of_le (Heap.lt_size e) hacc)⟩
 have u0:Un (frs X.stack) fp H H' s.heap s'.heap:=J.base
 have fC:H' C=none:=J.free
 have u:Un (frs X.stack) fp H (upd H' acc (.lst ys)) s.heap h':=by
  refine ⟨fun b o e n' hb hx=>k b o (old b o e).1 (u0.keep b o e n' hb hx),fun b o e n' hb hx=>?_,fun b o e n' hx=>?_,fun b o e hx=>?_,fun b xs e=>?_,fun b o v e=>?_,fun b ps e=>?_⟩
  ·obtain ⟨sl,e1⟩:=u0.slot b o e n' hb hx
   exact ⟨sl,k b _ (old b o e).1 e1⟩
  ·rw [dw (old b o e).2];exact u0.free b o e n' hx
  ·obtain ⟨o',e1⟩:=u0.there b o e hx
   exact ⟨o',k b _ (old b o e).1 e1⟩
  ·rw [dw (d8 (u0.tups b xs e) hn)];exact u0.tups b xs e
  ·rw [dw (d8 (u0.frzs b o v e) hn)];exact u0.frzs b o v e
  ·obtain ⟨more,e1⟩:=u0.tbls b ps e
   exact ⟨more,by rw [dw (d8 e1 hn)];exact e1⟩
 have hok:HOk X.prog X.w (upd H' acc (.lst ys)) h':=fun b o e=>by
  by_cases hb:b=acc
  ·subst hb;rw [jq] at e;cases e
   exact ⟨hz,its,n,rv,k _ _ (Ne.symm hCa) ha⟩
  ·rw [dw hb] at e
   refine (J.hok b o e).stay (fun c v hc q=>k c v ?_ q) (fun c q=>by rw [dw (d8 q hn)];exact q) fun c xs q=>by rw [dw (d8 q hn)];exact q
   rcases hc with z | z
   ·rw [z];exact d8 e fC
   ·exact d8 z fC
 have J':=I.call (g':=s'.gens) (t':=s'.toks) (d':=s'.drawn) (ch:=fp) u hok J.bare fun b hb=>⟨(hf b hb).2.2.2.1,(hf b hb).2.1,(hf b hb).2.2.2.2.1,(hf b hb).2.2.2.2.2⟩
 have eo:s'.os=s.os:=J.os
 obtain ⟨hp,g,d,t,o⟩:=s'
 have eo':o=s.os:=eo
 subst eo'
 exact J'
def a70 (X:Cx) (pins:List (Addr × Obj)) (σ:St) (use:Option (Value→Sem Unit)) (Q:VK) (Qf:Value→Shared→Prop):Prop :=
 ∀ (acc C:Addr) (s6:Shared) (H6:Hp) (m6:Str→Option Value),s6.heap.Ns C m6→FpOk X pins H6 C→(∀ h',Heap.SameBut C s6.heap h'→Inv X pins σ H6 { s6 with heap:=h' })→Q (.ref acc) H6 →
  compPost (model X.prog X.w) X.A X.xe use Qf (.ref acc) C (.ok .next) s6
theorem a71 {pins:List (Addr × Obj)} {σ:St} {Q:VK}:a70 X pins σ none Q (EP X pins σ Q):=fun acc C s6 H6 m6 hn _ k q=>⟨m6,hn,fun h' sb=>⟨.ref acc,H6,k h' sb,rfl,q⟩⟩
theorem abe {pins:List (Addr × Obj)} {σ:St} {D:Ends} {i:Nat} {x:Str} {pos':Pos} (hN:X.N.Nodup) (hi:X.N[i]? = some x) (hx:Loc X.env.scope x) (hf:X.fn x=true∨X.env.scope.names.lookup x=some .local) :
  a70 X pins σ (some (assign (.Name x pos') X.env)) (fun v H1=>a1c i v σ H1 D.nx) (fun _ s'=>SP X pins D .next s'):=by
 intro acc C s6 H6 m6 hn fp k q
 obtain ⟨f1,f2,f3,f4,f5,f6⟩:=fp
 have I6:Inv X pins σ H6 s6:=k s6.heap (Heap.SameBut.refl _ _)
 refine wpAny_assign_Name (a89 (v:=.ref acc) I6 hN hi hx rfl (fun s' I' ⟨a,sb,ha⟩=>⟨m6,hn.sameBut sb ?_,fun h' sb'=>⟨_,H6,I'.turned (t':=s'.toks) (it:=C) (fun b o hb e=>sb'.extBut b o hb e) f1 f2 f4 f5 f6,q⟩⟩) hf)
 rcases ha with ha | ha
 ·rw [ha];exact f2
 ·exact fun z=>f5 x a ha z.symm
theorem a8l {elt tg iter:Expr} {scope:Scope} {pos ppos:Pos} {cl:List (Str × Addr)} {ts fr:List Str} {ix:List Nat} {wi:TI} {g:TG} {te:TE} (hc:X.calm=true) (S:CSc X scope cl ts fr ix) (hi:PI X tg iter wi)
  (hg:∀ C fp s H,PG (cxC X (ts++fr) scope cl C fp s H) tg g) (he:∀ C fp s H,PE (cxC X (ts++fr) scope cl C fp s H) elt te) (hs:∀ x,foldedSetIterable iter X.env x=pure x)
  (use:Option (Value→Sem Unit)) {pins:List (Addr × Obj)} {s:Shared} {σ:St} {H:Hp} {Q:VK} {Qf:Value→Shared→Prop} (I:Inv X pins σ H s) (h:aiz wi (ju ts.length ix) g te σ H Q) (fin:a70 X pins σ use Q Qf) :
  wpAny (model X.prog X.w) X.A (comprehension (.ListComp elt [⟨tg,iter,[],0⟩] scope pos) scope X.env ppos (newList []) false (eval iter X.env) use) Qf X.xe s:=by
 refine wpAny_comprehension_free (use:=use) rfl hs S.clos S.kind S.names (thn (hi pins s σ H _ I h) fun v s1 h1=>thn h1 fun itv s2 h2=>?_)
 obtain ⟨it,fp,tn,J,H2,e,I2,T,st2,f2,W,⟨m0,w0⟩,turn⟩:=h2
 subst e
 have hob:∀ b∈fp,b<s2.heap.objs.size:=fun b hb=>let ⟨o,e,_⟩:=T.obj _ _ st2 b hb;Heap.lt_size e
 refine wpAny_newObj_type (wpAny_newFunctionEnv S.nocell (by intro y hy;simp at hy) (fun h4 hns4 hsb4=>?_) S.kind)
 dsimp only at hns4 hsb4 ⊢
 generalize hH2:s2.heap.push { cls:=.type "list",dict:=none,data:=.seq ([]:List Value).toArray }=G at hns4 hsb4 ⊢
 have hCs:G.objs.size=s2.heap.objs.size+1:=by rw [← hH2,Heap.size_push]
 have hCle:s2.heap.objs.size≤G.objs.size:=by omega
 have hne:G.objs.size≠s2.heap.objs.size:=by omega
 have old:∀ b o,s2.heap.get? b=some o→h4.get? b=some o:=fun b o e=>by
  have hlt:=Heap.lt_size e
  exact hsb4.extBut b o (Nat.ne_of_lt (Nat.lt_of_lt_of_le hlt hCle)) (Heap.get?_push_of_some _ (hH2 ▸ Heap.get?_push_of_some _ e))
 have hacc:h4.get? s2.heap.objs.size=some { cls:=.type "list",data:=.seq ([]:List Value).toArray 0 } :=
  hsb4.extBut _ _ (Ne.symm hne) (Heap.get?_push_of_some _ (hH2 ▸ Heap.get?_push_size _ rfl))
 have K0:Inv (cxC X (ts++fr) scope cl G.objs.size fp s2 H2) [] (ju ts.length ix σ) H2 { s2 with heap:=h4,toks:=s2.toks+([]:List (Str × Value)).length } :=
  aa1 S I2 f2 hob hCle old hns4 rfl rfl
 have st4:tn 0 h4:=T.keep _ _ _ st2 fun b _ o e=>old b o e
 have accF:s2.heap.objs.size ∉ fp:=fun z=>Nat.lt_irrefl _ (hob _ z)
 have stat:∀ {H':Hp},(∀ b∈fp,H' b=none)→∀ b∈fp,FpOk (cxC X (ts++fr) scope cl G.objs.size fp s2 H2) [] H' b:=fun hn b hb =>
  ⟨hn b hb,fun z=>by have h1:=hob b hb;have z':b=G.objs.size:=z;exact Nat.ne_of_lt (Nat.lt_of_lt_of_le h1 hCle) z',fun z=>(a4k S I2 f2 hob hCle).exfs b hb z, .inl hb,fun x c e=>(f2 b hb).2.2.2.2.1 x c (S.sub x c e),fun p hp=>absurd (show p∈([]:List (Addr × Obj)) from hp) (by simp)⟩
 have statA:∀ {H':Hp},H' s2.heap.objs.size=none→FpOk (cxC X (ts++fr) scope cl G.objs.size fp s2 H2) [] H' s2.heap.objs.size:=fun hn =>
  ⟨hn,fun z=>hne (show G.objs.size=s2.heap.objs.size from z.symm),fun z=>by
   obtain ⟨_,o,ho,_⟩:=(a4k S I2 f2 hob hCle).funs.mem z
   exact Nat.lt_irrefl _ (Heap.lt_size ho), .inr (Nat.le_refl _),fun x c e z=>by
   obtain ⟨v,o,ho,_⟩:=I2.cell x c (S.sub x c e)
   rw [z] at ho
   exact Nat.lt_irrefl _ (Heap.lt_size ho),fun p hp=>absurd (show p∈([]:List (Addr × Obj)) from hp) (by simp)⟩
 have loop:∀ s4:Shared,s4={ s2 with heap:=h4,toks:=s2.toks+([]:List (Str × Value)).length } →
   codeAny (model X.prog X.w) X.A (.compLoop (.ListComp elt [⟨tg,iter,[],0⟩] scope pos) 0 (.ref it) (.ref s2.heap.objs.size) (compEnvC scope cl G.objs.size X.env))
    (compPost (model X.prog X.w) X.A X.xe use Qf (.ref s2.heap.objs.size) G.objs.size) s4:=by
  rintro s4 rfl
  refine afm (fun n s'=>∃ i σ' H' ys its k,Inv (cxC X (ts++fr) scope cl G.objs.size fp s2 H2) [] σ' H' s'∧Ext (ju ts.length ix σ) σ'∧tn i s'.heap∧(∀ b∈fp,H' b=none)∧H' s2.heap.objs.size=none ∧
   s'.heap.get? s2.heap.objs.size=some { cls:=.type "list",data:=.seq its.toArray k }∧Vals ys its∧ys.length≤sizeLine∧W i n ys H') ?_ m0
   ⟨0,_,H2,[],[],0,K0,⟨rfl,fun _ _ z=>z⟩,st4,fun b hb=>(f2 b hb).1,I2.hok.fresh (Nat.le_refl _),hacc, .nil,Nat.zero_le _,w0⟩
  rintro n s5 ⟨i,σ5,H5,ys,its,k5,I5,x5,st5,fr5,fa5,ac5,rv5,hz5,w5⟩
  have I5':Inv (cxC X (ts++fr) scope cl G.objs.size fp s2 H2) [] (ju ts.length ix σ) H5 s5:=I5.weak x5.1.symm x5.2
  rcases turn i n ys H5 w5 with ⟨stop,qn⟩ | ⟨go,hlt,step⟩
  ·refine thn (T.done (cxC X (ts++fr) scope cl G.objs.size fp s2 H2) rfl rfl rfl hc i [(s2.heap.objs.size,{ cls:=.type "list",data:=.seq its.toArray k5 })] s5 _ H5 _ (I5'.pins_of fun p hp=>?_) (fun b hb=>?_) st5 stop) fun r s6 ⟨hr,I6⟩=>?_
   ·have e:p=(s2.heap.objs.size,{ cls:=.type "list",data:=.seq its.toArray k5 }):=by simpa using hp
    subst e
    obtain ⟨a0,a1,a2,_⟩:=statA fa5
    exact ⟨ac5,a0,a1,a2,fun v z=>by cases z⟩
   ·obtain ⟨b0,b1,b2,b3,b4,b5⟩:=stat fr5 b hb
    refine ⟨b0,b1,b2,b3,b4,fun p hp=>?_⟩
    have e:p=(s2.heap.objs.size,{ cls:=.type "list",data:=.seq its.toArray k5 }):=by
     have hp':p∈[(s2.heap.objs.size,_)]:=hp
     simpa using hp'
    subst e
    exact fun z=>accF (by have z':s2.heap.objs.size=b:=z;rw [z'];exact hb)
   ·subst hr
    have e6:=(I6.pin (s2.heap.objs.size,{ cls:=.type "list",data:=.seq its.toArray k5 }) (by show _∈[]++[_];simp)).1
    obtain ⟨m6,hn6,_⟩:=I6.loc
    exact fin _ _ s6 _ m6 hn6 (I2.fpOk hCle (by rw [dw hne];exact I6.free)) (fun h' sb=>comp_back I2 f2 hCle (Nat.le_refl _) hne I6.unpinned' fa5 e6 rv5 hz5 sb) (qn _ fa5)
  ·refine thn (T.item (cxC X (ts++fr) scope cl G.objs.size fp s2 H2) rfl rfl rfl hc i [(s2.heap.objs.size,{ cls:=.type "list",data:=.seq its.toArray k5 })] s5 _ H5 _ (I5'.pins_of fun p hp=>?_) (fun b hb=>?_) st5 go) fun r s6 ⟨u,hr,h6⟩=>?_
   ·have e:p=(s2.heap.objs.size,{ cls:=.type "list",data:=.seq its.toArray k5 }):=by simpa using hp
    subst e
    obtain ⟨a0,a1,a2,_⟩:=statA fa5
    exact ⟨ac5,a0,a1,a2,fun v z=>by cases z⟩
   ·obtain ⟨b0,b1,b2,b3,b4,b5⟩:=stat fr5 b hb
    refine ⟨b0,b1,b2,b3,b4,fun p hp=>?_⟩
    have e:p=(s2.heap.objs.size,{ cls:=.type "list",data:=.seq its.toArray k5 }):=by
     have hp':p∈[(s2.heap.objs.size,_)]:=hp
     simpa using hp'
    subst e
    exact fun z=>accF (by have z':s2.heap.objs.size=b:=z;rw [z'];exact hb)
   ·subst hr
    refine thn h6 fun _ s7 ⟨x,H7,I7,r7,y7,st7,fr7⟩=>?_
    have fa7:H7 s2.heap.objs.size=none:=(I7.pin (s2.heap.objs.size,{ cls:=.type "list",data:=.seq its.toArray k5 }) (by show _∈[]++[_];simp)).2.1
    have ac7:=(I7.pin (s2.heap.objs.size,{ cls:=.type "list",data:=.seq its.toArray k5 }) (by show _∈[]++[_];simp)).1
    have I7':Inv (cxC X (ts++fr) scope cl G.objs.size fp s2 H2) ([]++v7 (s2.heap.objs.size::fp) s7.heap) (ju ts.length ix σ) H7 s7:=by
     refine Inv.pinned I7.unpinned' (fun b hb=>?_) fun b hb=>?_
     ·rcases List.mem_cons.mp hb with e | e
      ·subst e;exact statA fa7
      ·exact stat fr7 b e
     ·rcases List.mem_cons.mp hb with e | e
      ·subst e;exact ⟨_,ac7,fun v z=>by cases z⟩
      ·exact T.obj _ _ st7 b e
    refine thn (hg G.objs.size fp s2 H2 _ s7 _ H7 x u _ I7' r7 (step x H7 y7)) fun _ s8 ⟨σ8,H8,I8,x8,q8⟩=>?_
    refine thn (he G.objs.size fp s2 H2 _ s8 _ H8 _ I8 q8) fun yv s9 ⟨y,H9,I9,r9,m',hm',w9⟩=>?_
    obtain ⟨ac9,fa9,_⟩:=I9.pin (s2.heap.objs.size,{ cls:=.type "list",data:=.seq its.toArray k5 }) (by show _∈[]++([]++_);simp;exact j4 List.mem_cons_self ac7)
    have keep9:∀ b∈fp,∀ o,s7.heap.get? b=some o→s9.heap.get? b=some o∧H9 b=none:=fun b hb o e=>by
     obtain ⟨z1,z2,_⟩:=I9.pin (b,o) (by show _∈[]++([]++_);simp;exact j4 (List.mem_cons_of_mem _ hb) e)
     exact ⟨z1,z2⟩
    have hl:=rv5.length
    refine call_meets F.slot_list_append ⟨_,ac9,rfl⟩ F.entry_list_append (F.args_list_append_2 _ _) (PySem.list_append s2.heap.objs.size its.toArray k5 yv (by rw [List.size_toArray];omega)) ⟨ac9,?_⟩
    have q:=PySem.IsL.update ac9 (fun a=>a.push yv)
    have qo:∀ b o,b≠s2.heap.objs.size→s9.heap.get? b=some o→(s9.heap.update s2.heap.objs.size (Obj.mapSeq (fun a=>a.push yv))).get? b=some o:=fun b o hb e=>(Heap.get?_update_other s9.heap _ (Ne.symm hb)).trans e
    have q':∃ k,(s9.heap.update s2.heap.objs.size (Obj.mapSeq (fun a=>a.push yv))).get? s2.heap.objs.size=some { cls:=.type "list",data:=.seq (its++[yv]).toArray k }:=⟨_,by rw [q];simp;rfl⟩
    obtain ⟨k9,q9⟩:=q'
    obtain ⟨a0,a1,a2,a3,a4,a5⟩:=statA (show H9 s2.heap.objs.size=none from fa9)
    refine ⟨m',hm',i+1,σ8,H9,ys++[y],its++[yv],k9,(I9.unpinned').turned qo a0 a1 a3 a4 a5,x8,?_,?_,fa9,q9,rv5.append (.cons r9 .nil),?_,w9⟩
    ·refine T.keep _ _ _ st7 fun b hb o e=>qo b o (fun z=>accF (z ▸ hb)) (keep9 b hb o e).1
    ·intro b hb
     obtain ⟨o,e,_⟩:=T.obj _ _ st7 b hb
     exact (keep9 b hb o e).2
    ·rw [List.length_append,List.length_singleton];omega
 exact codeAny_compStart_list (loop _ rfl) (T.self _ 0 _ _ _ st4 (loop _ rfl))
theorem aj0 {elt tg iter:Expr} {scope:Scope} {pos:Pos} {cl:List (Str × Addr)} {ts fr:List Str} {ix:List Nat} {wi:TI} {g:TG} {te:TE} (hc:X.calm=true) (S:CSc X scope cl ts fr ix) (hi:PI X tg iter wi)
  (hg:∀ C fp s H,PG (cxC X (ts++fr) scope cl C fp s H) tg g) (he:∀ C fp s H,PE (cxC X (ts++fr) scope cl C fp s H) elt te)
  (hs:∀ x,foldedSetIterable iter X.env x=pure x:=by intro _;rfl) :
  PE X (.ListComp elt [⟨tg,iter,[],0⟩] scope pos) (aiz wi (ju ts.length ix) g te):=by
 intro pins s σ H Q I h
 rw [eval_ListComp]
 exact a8l hc S hi hg he hs none I h a71
theorem aj1 {elt tg iter:Expr} {scope:Scope} {pos:Pos} {cl:List (Str × Addr)} {ts fr:List Str} {ix:List Nat} {wi:TI} {g:TG} {te:TE} {i:Nat} {x:Str} {pos' spos:Pos} (hN:X.N.Nodup) (hi':X.N[i]? = some x) (hx:Loc X.env.scope x) (hc:X.calm=true) (S:CSc X scope cl ts fr ix) (hi:PI X tg iter wi)
  (hg:∀ C fp s H,PG (cxC X (ts++fr) scope cl C fp s H) tg g) (he:∀ C fp s H,PE (cxC X (ts++fr) scope cl C fp s H) elt te)
  (hs:∀ x,foldedSetIterable iter X.env x=pure x:=by intro _;rfl) (hsw:swapsWith (.ListComp elt [⟨tg,iter,[],0⟩] scope pos) (some (.Name x pos')) spos.line X.env=pure true:=by rfl) (hf:X.fn x=true∨X.env.scope.names.lookup x=some .local:=by first | exact .inl rfl | exact .inr rfl | assumption) :
  PS X (.Assign [.Name x pos'] (.ListComp elt [⟨tg,iter,[],0⟩] scope pos) spos) (auj (aiz wi (ju ts.length ix) g te) (a1c i)):=by
 intro pins s σ H D I h
 rw [exec_Assign_Name_used _ _ _ _ hsw]
 refine wpAny_bind (wpAny_standAt (wpAny_bind ?_))
 refine wpAny_bind (wpAny_mono (a8l hc S hi hg he hs (some (assign (.Name x pos') X.env)) I h (abe hN hi' hx hf)) (fun _ s' hq=>wpAny_pure (wpAny_pure hq)) fun _ _ e=>e)
end
end L2
namespace L2
open PySem PySem.Spec PyProof.Rows
section
variable {K:Type} [DecidableEq K]
def stepK (l:List K) (v:K):List K:=if v∈l then l else l++[v]
end
end L2
namespace L2
open PySem PySem.Spec
theorem wj:bootBuiltins "len" = some (.builtin "len"):=PySem.boot_len
theorem jw:bootBuiltins "isinstance" = some (.builtin "isinstance"):=by first | exact PySem.boot_isinstance | exact PyProof.Rows.boot_isinstance
theorem arf:bootBuiltins "str" = some (.type "str"):=by first | exact PySem.boot_str | exact PyProof.Rows.boot_str
theorem al8:bootBuiltins "abs" = some (.builtin "abs"):=by first | exact PySem.boot_abs | exact PyProof.Rows.boot_abs
theorem al9:bootBuiltins "int" = some (.type "int"):=by first | exact PySem.boot_int | exact PyProof.Rows.boot_int
theorem a72:bootBuiltins "list" = some (.type "list"):=by first | exact PySem.boot_list | exact PyProof.Rows.boot_list
theorem nu:bootBuiltins "tuple" = some (.type "tuple"):=by first | exact PySem.boot_tuple | exact PyProof.Rows.boot_tuple
structure Dn (P:Program) (w:World) (K:PySem.W.Frag) (mg:Str→Option Value) (base:Heap) (k:Nat) (x:Str) (ps:List Str) (sp:Sp) (f:Addr) (fd:FuncData):Prop where
 ok:FnOk P w K mg base CX0 k f fd ps sp
 m:mg x=some (.ref f)
 kp:PySem.W.keepIn K (.ref f)=true
 b:Binds K fd ps []
theorem ani:sizeLine=16777216:=sizeLine_eq
theorem anj {n:Nat} (h:n≤16777216):n≤sizeLine:=by rw [sizeLine_eq];exact h
end L2
namespace L2
open PySem PySem.Spec
theorem CSc.noFree {X:Cx} {scope:Scope} {ts:List Str} (kind:scope.kind = .function) (h:∀ y∈scope.names,y.2≠.cell∧y.2≠.free) (names:∀ y∈scope.names,y.2 = .local→scope.names.lookup y.1=some .local)
  (ht:∀ y∈ts,scope.names.lookup y=some .local):CSc X scope [] ts [] []:=by
 have e:(relabel scope X.env).names=scope.names:=by
  show scope.names.map _=_
  refine map_eq_self fun y hy=>?_
  obtain ⟨n,k⟩:=y
  have:(k == NameKind.free)=false:=by simpa using (h _ hy).2
  simp [this]
 refine ⟨closureFor_none fun y hy=>(h y hy).2,kind,fun y hy=>(h y hy).1,names,(fun _ _ z=>nomatch z),fun y z=>?_,fun y hy=>by rw [e];exact ht y hy,rfl,(fun _ _ z=>by simp at z)⟩
 rw [e] at z
 rcases z with z | z
 ·exact absurd rfl (h _ (PySem.mem_of_lookup z)).1
 ·exact absurd rfl (h _ (PySem.mem_of_lookup z)).2
theorem avo (x y:Str):(x++y).cps.toList=x.cps.toList++y.cps.toList:=by
 show (x.cps++y.cps).toList=_
 simp
theorem afn {α:Type} (xs:List α) (k:Nat):a5r xs none (some (k:Int))=xs.take k:=by
 unfold a5r
 rw [HT.ab7,HT.a6w,List.drop_zero,Nat.sub_zero]
 by_cases h:k≤xs.length
 ·rw [Nat.min_eq_left h]
 ·rw [Nat.min_eq_right (by omega),List.take_of_length_le (Nat.le_refl _),List.take_of_length_le (by omega)]
theorem a8m {α:Type} (xs:List α) (k:Nat):a5r xs (some (k:Int)) none=xs.drop k:=by
 unfold a5r
 rw [HT.ab7,HT.a6w]
 by_cases h:k≤xs.length
 ·rw [Nat.min_eq_left h,List.take_of_length_le (by rw [List.length_drop];omega)]
 ·rw [Nat.min_eq_right (by omega),List.drop_eq_nil_of_le (Nat.le_refl _),List.drop_eq_nil_of_le (by omega),List.take_nil]
theorem ank {α:Type} (xs:List α) (j k:Nat):a5r xs (some (j:Int)) (some (k:Int))=(xs.drop j).take (k - j):=by
 unfold a5r
 rw [HT.a6w,HT.a6w]
 by_cases h:j≤xs.length
 ·rw [Nat.min_eq_left h]
  by_cases h2:k≤xs.length
  ·rw [Nat.min_eq_left h2]
  ·rw [Nat.min_eq_right (by omega),List.take_of_length_le (by rw [List.length_drop];omega),List.take_of_length_le (by rw [List.length_drop];omega)]
 ·rw [Nat.min_eq_right (show xs.length≤j by omega),List.drop_eq_nil_of_le (Nat.le_refl _),List.drop_eq_nil_of_le (by omega),List.take_nil,List.take_nil]
end L2
namespace L2
open PySem PySem.Spec PyProof.Rows
def afo (J:It) (s0:St) (g:TG) (tc:TT) (te:TE) (Q:VK) (H1:Hp):Prop:=∃ W:Nat→Nat→List V→Hp→Prop,(∃ m,W 0 m [] H1)∧∀ i m ys H,W i m ys H →
 (J.stop i H∧∀ p,H p=none→Q (.ref p) (upd H p (.lst ys))) ∨
 (J.go i H∧ys.length<sizeLine∧∀ x H',J.yld i H x H'→g x s0 H' fun σ2 H2=>Ext s0 σ2∧tc σ2 H2 fun ok H2'=>if ok=true then te σ2 H2' (fun y H3=>∃ m',m'<m∧W (i+1) m' (ys++[y]) H3) else ∃ m',m'<m∧W (i+1) m' ys H2')
def a73 (wi:TI) (s0:St→St) (g:TG) (tc:TT) (te:TE):TE:=fun σ H Q=>wi σ H fun J H1=>afo J (s0 σ) g tc te Q H1
theorem a4l (elt target iter cnd:Expr) (scope:Scope) (pos:Pos) (it acc:Value) (env:Env) :
  compTurn (.ListComp elt [⟨target,iter,[cnd],0⟩] scope pos) 0 it acc env=(standAt iter.pos>>=fun _=>pyNext it>>=fun r=>match r with
   | none=>pure (.done .next)
   | some v=>letOwnedTupleGo target it v>>=fun _=>assign target env v>>=fun _=>isTrue cnd env (eval cnd env)>>=fun ok =>
    (if ok=true then (eval elt env>>=fun x=>call (.builtin "list.append") [acc,x]>>=fun _=>pure ()) else pure ())>>=fun _ =>
     again (.compLoop (.ListComp elt [⟨target,iter,[cnd],0⟩] scope pos) 0 it acc env)):=by
 first
  | rfl
  | (unfold compTurn;simp only [List.getElem?_cons_zero];rfl)
  | (show (standAt iter.pos>>=fun _=>pyNext it>>=fun r=>_)=_
     congr 1;funext _;congr 1;funext r
     cases r with
     | none=>rfl
     | some v =>
      show (letOwnedTupleGo target it v>>=fun _=>assign target env v>>=fun _=>_)=(letOwnedTupleGo target it v>>=fun _=>assign target env v>>=fun _=>_)
      congr 1;funext _;congr 1;funext _
      simp
      congr 1;funext ok
      cases ok with
      | false=>rw [if_neg Bool.false_ne_true,if_neg Bool.false_ne_true,pure_bind]
      | true =>
       rw [if_pos rfl,if_pos rfl,bind_assoc]
       congr 1;funext x
       rw [map_eq_pure_bind,bind_assoc]
       congr 1)
theorem ad6 {prog:Program} {w:World} {A:Around} {R:Result→Shared→Prop} {s:Shared} {elt target iter cnd:Expr} {scope:Scope} {pos:Pos} {it acc:Value} {env:Env} (J:Nat→Shared→Prop)
  (step:∀ m z,J m z→wpAny (model prog w) A (pyNext it) (fun got z1=>match got with
   | none=>R (.ok .next) z1
   | some v=>wpAny (model prog w) A (letOwnedTupleGo target it v) (fun _ z2=>wpAny (model prog w) A (assign target env v) (fun _ z3=>wpAny (model prog w) A (isTrue cnd env (eval cnd env)) (fun ok z3'=>if ok=true then wpAny (model prog w) A (eval elt env) (fun x z4 =>
     wpAny (model prog w) A (call (.builtin "list.append") [acc,x]) (fun _ z5=>∃ m',m'<m∧J m' z5) (fun _ _=>False) z4)
     (fun _ _=>False) z3' else ∃ m',m'<m∧J m' z3') (fun _ _=>False) z3) (fun _ _=>False) z2) (fun _ _=>False) z1) (fun _ _=>False) z)
  (m:Nat) (j0:J m s):codeAny (model prog w) A (.compLoop (.ListComp elt [⟨target,iter,[cnd],0⟩] scope pos) 0 it acc env) R s:=by
 refine codeAny_loop rfl J (fun m z hj=>(wpAny_noted ?_:wpAny _ _ ((compTurn (.ListComp elt [⟨target,iter,[cnd],0⟩] scope pos) 0 it acc env).onRaise _) _ _ z)) m j0
 rw [a4l]
 refine wpAny_bind (wpAny_standAt (wpAny_bind (wpAny_mono (step m z hj) (fun got z1 h1=>?_) fun _ _ no=>no.elim)))
 match got,h1 with
 | none,h1=>exact wpAny_pure h1
 | some v,h1 =>
  refine wpAny_bind (wpAny_mono h1 (fun _ z2 h2=>wpAny_bind (wpAny_mono h2 (fun _ z3 h3=>wpAny_bind (wpAny_mono h3 (fun ok z3' h3'=>?_) fun _ _ no=>no.elim)) fun _ _ no=>no.elim)) fun _ _ no=>no.elim)
  match ok,h3' with
  | true,h3' =>
   rw [if_pos rfl] at h3'
   refine wpAny_bind (wpAny_bind (wpAny_mono h3' (fun x z4 h4=>?_) fun _ _ no=>no.elim))
   exact wpAny_bind (wpAny_mono h4 (fun _ z5 h5=>wpAny_pure (wpAny_pure ⟨rfl,h5⟩)) fun _ _ no=>no.elim)
  | false,h3' =>
   rw [if_neg Bool.false_ne_true] at h3'
   exact wpAny_bind (wpAny_pure (wpAny_pure ⟨rfl,h3'⟩))
section
variable {X:Cx}
theorem a4m {elt tg iter cnd:Expr} {scope:Scope} {pos ppos:Pos} {cl:List (Str × Addr)} {ts fr:List Str} {ix:List Nat} {wi:TI} {g:TG} {tc:TT} {te:TE} (hc:X.calm=true) (S:CSc X scope cl ts fr ix) (hi:PI X tg iter wi)
  (hg:∀ C fp s H,PG (cxC X (ts++fr) scope cl C fp s H) tg g) (he:∀ C fp s H,PE (cxC X (ts++fr) scope cl C fp s H) elt te) (ht:∀ C fp s H,PT (cxC X (ts++fr) scope cl C fp s H) cnd tc) (hs:∀ x,foldedSetIterable iter X.env x=pure x)
  (use:Option (Value→Sem Unit)) {pins:List (Addr × Obj)} {s:Shared} {σ:St} {H:Hp} {Q:VK} {Qf:Value→Shared→Prop} (I:Inv X pins σ H s) (h:a73 wi (ju ts.length ix) g tc te σ H Q) (fin:a70 X pins σ use Q Qf) :
  wpAny (model X.prog X.w) X.A (comprehension (.ListComp elt [⟨tg,iter,[cnd],0⟩] scope pos) scope X.env ppos (newList []) false (eval iter X.env) use) Qf X.xe s:=by
 refine wpAny_comprehension_free (use:=use) rfl hs S.clos S.kind S.names (thn (hi pins s σ H _ I h) fun v s1 h1=>thn h1 fun itv s2 h2=>?_)
 obtain ⟨it,fp,tn,J,H2,e,I2,T,st2,f2,W,⟨m0,w0⟩,turn⟩:=h2
 subst e
 have hob:∀ b∈fp,b<s2.heap.objs.size:=fun b hb=>let ⟨o,e,_⟩:=T.obj _ _ st2 b hb;Heap.lt_size e
 refine wpAny_newObj_type (wpAny_newFunctionEnv S.nocell (by intro y hy;simp at hy) (fun h4 hns4 hsb4=>?_) S.kind)
 dsimp only at hns4 hsb4 ⊢
 generalize hH2:s2.heap.push { cls:=.type "list",dict:=none,data:=.seq ([]:List Value).toArray }=G at hns4 hsb4 ⊢
 have hCs:G.objs.size=s2.heap.objs.size+1:=by rw [← hH2,Heap.size_push]
 have hCle:s2.heap.objs.size≤G.objs.size:=by omega
 have hne:G.objs.size≠s2.heap.objs.size:=by omega
 have old:∀ b o,s2.heap.get? b=some o→h4.get? b=some o:=fun b o e=>by
  have hlt:=Heap.lt_size e
  exact hsb4.extBut b o (Nat.ne_of_lt (Nat.lt_of_lt_of_le hlt hCle)) (Heap.get?_push_of_some _ (hH2 ▸ Heap.get?_push_of_some _ e))
 have hacc:h4.get? s2.heap.objs.size=some { cls:=.type "list",data:=.seq ([]:List Value).toArray 0 } :=
  hsb4.extBut _ _ (Ne.symm hne) (Heap.get?_push_of_some _ (hH2 ▸ Heap.get?_push_size _ rfl))
 have K0:Inv (cxC X (ts++fr) scope cl G.objs.size fp s2 H2) [] (ju ts.length ix σ) H2 { s2 with heap:=h4,toks:=s2.toks+([]:List (Str × Value)).length } :=
  aa1 S I2 f2 hob hCle old hns4 rfl rfl
 have st4:tn 0 h4:=T.keep _ _ _ st2 fun b _ o e=>old b o e
 have accF:s2.heap.objs.size ∉ fp:=fun z=>Nat.lt_irrefl _ (hob _ z)
 have stat:∀ {H':Hp},(∀ b∈fp,H' b=none)→∀ b∈fp,FpOk (cxC X (ts++fr) scope cl G.objs.size fp s2 H2) [] H' b:=fun hn b hb =>
  ⟨hn b hb,fun z=>by have h1:=hob b hb;have z':b=G.objs.size:=z;exact Nat.ne_of_lt (Nat.lt_of_lt_of_le h1 hCle) z',fun z=>(a4k S I2 f2 hob hCle).exfs b hb z, .inl hb,fun x c e=>(f2 b hb).2.2.2.2.1 x c (S.sub x c e),fun p hp=>absurd (show p∈([]:List (Addr × Obj)) from hp) (by simp)⟩
 have statA:∀ {H':Hp},H' s2.heap.objs.size=none→FpOk (cxC X (ts++fr) scope cl G.objs.size fp s2 H2) [] H' s2.heap.objs.size:=fun hn =>
  ⟨hn,fun z=>hne (show G.objs.size=s2.heap.objs.size from z.symm),fun z=>by
   obtain ⟨_,o,ho,_⟩:=(a4k S I2 f2 hob hCle).funs.mem z
   exact Nat.lt_irrefl _ (Heap.lt_size ho), .inr (Nat.le_refl _),fun x c e z=>by
   obtain ⟨v,o,ho,_⟩:=I2.cell x c (S.sub x c e)
   rw [z] at ho
   exact Nat.lt_irrefl _ (Heap.lt_size ho),fun p hp=>absurd (show p∈([]:List (Addr × Obj)) from hp) (by simp)⟩
 have loop:∀ s4:Shared,s4={ s2 with heap:=h4,toks:=s2.toks+([]:List (Str × Value)).length } →
   codeAny (model X.prog X.w) X.A (.compLoop (.ListComp elt [⟨tg,iter,[cnd],0⟩] scope pos) 0 (.ref it) (.ref s2.heap.objs.size) (compEnvC scope cl G.objs.size X.env))
    (compPost (model X.prog X.w) X.A X.xe use Qf (.ref s2.heap.objs.size) G.objs.size) s4:=by
  rintro s4 rfl
  refine ad6 (fun n s'=>∃ i σ' H' ys its k,Inv (cxC X (ts++fr) scope cl G.objs.size fp s2 H2) [] σ' H' s'∧Ext (ju ts.length ix σ) σ'∧tn i s'.heap∧(∀ b∈fp,H' b=none)∧H' s2.heap.objs.size=none ∧
   s'.heap.get? s2.heap.objs.size=some { cls:=.type "list",data:=.seq its.toArray k }∧Vals ys its∧ys.length≤sizeLine∧W i n ys H') ?_ m0
   ⟨0,_,H2,[],[],0,K0,⟨rfl,fun _ _ z=>z⟩,st4,fun b hb=>(f2 b hb).1,I2.hok.fresh (Nat.le_refl _),hacc, .nil,Nat.zero_le _,w0⟩
  rintro n s5 ⟨i,σ5,H5,ys,its,k5,I5,x5,st5,fr5,fa5,ac5,rv5,hz5,w5⟩
  have I5':Inv (cxC X (ts++fr) scope cl G.objs.size fp s2 H2) [] (ju ts.length ix σ) H5 s5:=I5.weak x5.1.symm x5.2
  rcases turn i n ys H5 w5 with ⟨stop,qn⟩ | ⟨go,hlt,step⟩
  ·refine thn (T.done (cxC X (ts++fr) scope cl G.objs.size fp s2 H2) rfl rfl rfl hc i [(s2.heap.objs.size,{ cls:=.type "list",data:=.seq its.toArray k5 })] s5 _ H5 _ (I5'.pins_of fun p hp=>?_) (fun b hb=>?_) st5 stop) fun r s6 ⟨hr,I6⟩=>?_
   ·have e:p=(s2.heap.objs.size,{ cls:=.type "list",data:=.seq its.toArray k5 }):=by simpa using hp
    subst e
    obtain ⟨a0,a1,a2,_⟩:=statA fa5
    exact ⟨ac5,a0,a1,a2,fun v z=>by cases z⟩
   ·obtain ⟨b0,b1,b2,b3,b4,b5⟩:=stat fr5 b hb
    refine ⟨b0,b1,b2,b3,b4,fun p hp=>?_⟩
    have e:p=(s2.heap.objs.size,{ cls:=.type "list",data:=.seq its.toArray k5 }):=by
     have hp':p∈[(s2.heap.objs.size,_)]:=hp
     simpa using hp'
    subst e
    exact fun z=>accF (by have z':s2.heap.objs.size=b:=z;rw [z'];exact hb)
   ·subst hr
    have e6:=(I6.pin (s2.heap.objs.size,{ cls:=.type "list",data:=.seq its.toArray k5 }) (by show _∈[]++[_];simp)).1
    obtain ⟨m6,hn6,_⟩:=I6.loc
    exact fin _ _ s6 _ m6 hn6 (I2.fpOk hCle (by rw [dw hne];exact I6.free)) (fun h' sb=>comp_back I2 f2 hCle (Nat.le_refl _) hne I6.unpinned' fa5 e6 rv5 hz5 sb) (qn _ fa5)
  ·refine thn (T.item (cxC X (ts++fr) scope cl G.objs.size fp s2 H2) rfl rfl rfl hc i [(s2.heap.objs.size,{ cls:=.type "list",data:=.seq its.toArray k5 })] s5 _ H5 _ (I5'.pins_of fun p hp=>?_) (fun b hb=>?_) st5 go) fun r s6 ⟨u,hr,h6⟩=>?_
   ·have e:p=(s2.heap.objs.size,{ cls:=.type "list",data:=.seq its.toArray k5 }):=by simpa using hp
    subst e
    obtain ⟨a0,a1,a2,_⟩:=statA fa5
    exact ⟨ac5,a0,a1,a2,fun v z=>by cases z⟩
   ·obtain ⟨b0,b1,b2,b3,b4,b5⟩:=stat fr5 b hb
    refine ⟨b0,b1,b2,b3,b4,fun p hp=>?_⟩
    have e:p=(s2.heap.objs.size,{ cls:=.type "list",data:=.seq its.toArray k5 }):=by
     have hp':p∈[(s2.heap.objs.size,_)]:=hp
     simpa using hp'
    subst e
    exact fun z=>accF (by have z':s2.heap.objs.size=b:=z;rw [z'];exact hb)
   ·subst hr
    refine thn h6 fun _ s7 ⟨x,H7,I7,r7,y7,st7,fr7⟩=>?_
    have fa7:H7 s2.heap.objs.size=none:=(I7.pin (s2.heap.objs.size,{ cls:=.type "list",data:=.seq its.toArray k5 }) (by show _∈[]++[_];simp)).2.1
    have ac7:=(I7.pin (s2.heap.objs.size,{ cls:=.type "list",data:=.seq its.toArray k5 }) (by show _∈[]++[_];simp)).1
    have I7':Inv (cxC X (ts++fr) scope cl G.objs.size fp s2 H2) ([]++v7 (s2.heap.objs.size::fp) s7.heap) (ju ts.length ix σ) H7 s7:=by
     refine Inv.pinned I7.unpinned' (fun b hb=>?_) fun b hb=>?_
     ·rcases List.mem_cons.mp hb with e | e
      ·subst e;exact statA fa7
      ·exact stat fr7 b e
     ·rcases List.mem_cons.mp hb with e | e
      ·subst e;exact ⟨_,ac7,fun v z=>by cases z⟩
      ·exact T.obj _ _ st7 b e
    refine thn (hg G.objs.size fp s2 H2 _ s7 _ H7 x u _ I7' r7 (step x H7 y7)) fun _ s8 ⟨σ8,H8,I8,x8,q8⟩=>?_
    refine thn (ht G.objs.size fp s2 H2 _ s8 _ H8 _ I8 q8) fun ok s8' ⟨H8',I8',q8'⟩=>?_
    cases ok with
    | false =>
     rw [if_neg Bool.false_ne_true] at q8' ⊢
     obtain ⟨m',hm',w9⟩:=q8'
     obtain ⟨ac9,fa9,_⟩:=I8'.pin (s2.heap.objs.size,{ cls:=.type "list",data:=.seq its.toArray k5 }) (by show _∈[]++([]++_);simp;exact j4 List.mem_cons_self ac7)
     have keep9:∀ b∈fp,∀ o,s7.heap.get? b=some o→s8'.heap.get? b=some o∧H8' b=none:=fun b hb o e=>by
      obtain ⟨z1,z2,_⟩:=I8'.pin (b,o) (by show _∈[]++([]++_);simp;exact j4 (List.mem_cons_of_mem _ hb) e)
      exact ⟨z1,z2⟩
     refine ⟨m',hm',i+1,σ8,H8',ys,its,k5,I8'.unpinned',x8,?_,?_,fa9,ac9,rv5,hz5,w9⟩
     ·exact T.keep _ _ _ st7 fun b hb o e=>(keep9 b hb o e).1
     ·intro b hb
      obtain ⟨o,e,_⟩:=T.obj _ _ st7 b hb
      exact (keep9 b hb o e).2
    | true =>
     rw [if_pos rfl] at q8' ⊢
     refine thn (he G.objs.size fp s2 H2 _ s8' _ H8' _ I8' q8') fun yv s9 ⟨y,H9,I9,r9,m',hm',w9⟩=>?_
     obtain ⟨ac9,fa9,_⟩:=I9.pin (s2.heap.objs.size,{ cls:=.type "list",data:=.seq its.toArray k5 }) (by show _∈[]++([]++_);simp;exact j4 List.mem_cons_self ac7)
     have keep9:∀ b∈fp,∀ o,s7.heap.get? b=some o→s9.heap.get? b=some o∧H9 b=none:=fun b hb o e=>by
      obtain ⟨z1,z2,_⟩:=I9.pin (b,o) (by show _∈[]++([]++_);simp;exact j4 (List.mem_cons_of_mem _ hb) e)
      exact ⟨z1,z2⟩
     have hl:=rv5.length
     refine call_meets F.slot_list_append ⟨_,ac9,rfl⟩ F.entry_list_append (F.args_list_append_2 _ _) (PySem.list_append s2.heap.objs.size its.toArray k5 yv (by rw [List.size_toArray];omega)) ⟨ac9,?_⟩
     have q:=PySem.IsL.update ac9 (fun a=>a.push yv)
     have qo:∀ b o,b≠s2.heap.objs.size→s9.heap.get? b=some o→(s9.heap.update s2.heap.objs.size (Obj.mapSeq (fun a=>a.push yv))).get? b=some o:=fun b o hb e=>(Heap.get?_update_other s9.heap _ (Ne.symm hb)).trans e
     have q':∃ k,(s9.heap.update s2.heap.objs.size (Obj.mapSeq (fun a=>a.push yv))).get? s2.heap.objs.size=some { cls:=.type "list",data:=.seq (its++[yv]).toArray k }:=⟨_,by rw [q];simp;rfl⟩
     obtain ⟨k9,q9⟩:=q'
     obtain ⟨a0,a1,a2,a3,a4,a5⟩:=statA (show H9 s2.heap.objs.size=none from fa9)
     refine ⟨m',hm',i+1,σ8,H9,ys++[y],its++[yv],k9,(I9.unpinned').turned qo a0 a1 a3 a4 a5,x8,?_,?_,fa9,q9,rv5.append (.cons r9 .nil),?_,w9⟩
     ·refine T.keep _ _ _ st7 fun b hb o e=>qo b o (fun z=>accF (z ▸ hb)) (keep9 b hb o e).1
     ·intro b hb
      obtain ⟨o,e,_⟩:=T.obj _ _ st7 b hb
      exact (keep9 b hb o e).2
     ·rw [List.length_append,List.length_singleton];omega
 exact codeAny_compStart_list (loop _ rfl) (T.self _ 0 _ _ _ st4 (loop _ rfl))
theorem ad7 {elt tg iter cnd:Expr} {scope:Scope} {pos:Pos} {cl:List (Str × Addr)} {ts fr:List Str} {ix:List Nat} {wi:TI} {g:TG} {tc:TT} {te:TE} (hc:X.calm=true) (S:CSc X scope cl ts fr ix) (hi:PI X tg iter wi)
  (hg:∀ C fp s H,PG (cxC X (ts++fr) scope cl C fp s H) tg g) (he:∀ C fp s H,PE (cxC X (ts++fr) scope cl C fp s H) elt te) (ht:∀ C fp s H,PT (cxC X (ts++fr) scope cl C fp s H) cnd tc)
  (hs:∀ x,foldedSetIterable iter X.env x=pure x:=by intro _;rfl) :
  PE X (.ListComp elt [⟨tg,iter,[cnd],0⟩] scope pos) (a73 wi (ju ts.length ix) g tc te):=by
 intro pins s σ H Q I h
 rw [eval_ListComp]
 exact a4m hc S hi hg he ht hs none I h a71
theorem ad8 {elt tg iter cnd:Expr} {scope:Scope} {pos:Pos} {cl:List (Str × Addr)} {ts fr:List Str} {ix:List Nat} {wi:TI} {g:TG} {tc:TT} {te:TE} {i:Nat} {x:Str} {pos' spos:Pos} (hN:X.N.Nodup) (hi':X.N[i]? = some x) (hx:Loc X.env.scope x) (hc:X.calm=true) (S:CSc X scope cl ts fr ix) (hi:PI X tg iter wi)
  (hg:∀ C fp s H,PG (cxC X (ts++fr) scope cl C fp s H) tg g) (he:∀ C fp s H,PE (cxC X (ts++fr) scope cl C fp s H) elt te) (ht:∀ C fp s H,PT (cxC X (ts++fr) scope cl C fp s H) cnd tc)
  (hs:∀ x,foldedSetIterable iter X.env x=pure x:=by intro _;rfl) (hsw:swapsWith (.ListComp elt [⟨tg,iter,[cnd],0⟩] scope pos) (some (.Name x pos')) spos.line X.env=pure true:=by rfl) (hf:X.fn x=true∨X.env.scope.names.lookup x=some .local:=by first | exact .inl rfl | exact .inr rfl | assumption) :
  PS X (.Assign [.Name x pos'] (.ListComp elt [⟨tg,iter,[cnd],0⟩] scope pos) spos) (auj (a73 wi (ju ts.length ix) g tc te) (a1c i)):=by
 intro pins s σ H D I h
 rw [exec_Assign_Name_used _ _ _ _ hsw]
 refine wpAny_bind (wpAny_standAt (wpAny_bind ?_))
 refine wpAny_bind (wpAny_mono (a4m hc S hi hg he ht hs (some (assign (.Name x pos') X.env)) I h (abe hN hi' hx hf)) (fun _ s' hq=>wpAny_pure (wpAny_pure hq)) fun _ _ e=>e)
end
end L2
namespace L2
open PySem PySem.Spec PyProof.Rows
section
variable {X:Cx}
theorem anl:OpR X (compareOp .In) (fun x y H Q=>∃ c T,x = .str ⟨#[c]⟩∧y = .str T∧Q (.bl (decide (c∈T.cps.toList))) H):=by
 intro pins s σ H x y v u Q I rx ry h
 obtain ⟨c,T,rfl,rfl,q⟩:=h
 exact af3 pins s σ H _ _ v u Q I rx ry ⟨_,_,rfl,rfl,by rw [StrLaws.found_one];exact q⟩
theorem a6a:OpR X (compareOp .NotIn) (fun x y H Q=>∃ c T,x = .str ⟨#[c]⟩∧y = .str T∧Q (.bl (!decide (c∈T.cps.toList))) H):=by
 intro pins s σ H x y v u Q I rx ry h
 obtain ⟨c,T,rfl,rfl,q⟩:=h
 exact a8b pins s σ H _ _ v u Q I rx ry ⟨_,_,rfl,rfl,by rw [StrLaws.found_one];exact q⟩
end
theorem CSc.of {X:Cx} {scope:Scope} {cl:List (Str × Addr)} {ts fr:List Str} {ix:List Nat} (clos:closureFor scope X.env=pure cl) (kind:scope.kind = .function)
  (nocell:(scope.names.all fun p=>p.2 != .cell)=true) (names:(scope.names.all fun p=>p.2 != .local || scope.names.lookup p.1 == some .local)=true) (sub:∀ p∈cl,X.env.cells.lookup p.1=some p.2)
  (has:((relabel scope X.env).names.all fun p => !(p.2 == .cell || p.2 == .free) || (cl.lookup p.1).isSome)=true) (nofn:(ts.all fun y=>(relabel scope X.env).names.lookup y == some .local)=true)
  (len:ix.length=fr.length) (vis:((fr.zip ix).all fun p=>X.N[p.2]? == some p.1 && (X.env.kindOf p.1 == some .cell || X.env.kindOf p.1 == some .free) && ((relabel scope X.env).names.lookup p.1 == some .cell || (relabel scope X.env).names.lookup p.1 == some .free))=true) :
  CSc X scope cl ts fr ix:=by
 refine ⟨clos,kind,fun y hy=>?_,fun y hy e=>?_,fun y c e=>sub _ (PySem.mem_of_lookup e),fun y z=>?_,fun y hy=>?_,len,fun j y e=>?_⟩
 ·have:=List.all_eq_true.mp nocell y hy
  simpa using this
 ·have:=List.all_eq_true.mp names y hy
  rw [e] at this
  simpa using this
 ·have key:∀ k,(relabel scope X.env).names.lookup y=some k→(k == .cell || k == .free)=true→∃ c,cl.lookup y=some c:=fun k e hk=>by
   have:=List.all_eq_true.mp has _ (PySem.mem_of_lookup e)
   rw [hk] at this
   exact Option.isSome_iff_exists.mp (by simpa using this)
  rcases z with z | z
  ·exact key _ z rfl
  ·exact key _ z rfl
 ·have:=List.all_eq_true.mp nofn y hy
  simpa using this
 ·obtain ⟨hj,_⟩:=List.getElem?_eq_some_iff.mp e
  have hj2:j<ix.length:=by omega
  have hm:(y,ix[j])∈fr.zip ix:=by
   rw [List.mem_iff_getElem?]
   exact ⟨j,by rw [List.getElem?_zip_eq_some];exact ⟨e,List.getElem?_eq_getElem hj2⟩⟩
  have:=List.all_eq_true.mp vis _ hm
  simp only [Bool.and_eq_true,Bool.or_eq_true,beq_iff_eq] at this
  exact ⟨ix[j],List.getElem?_eq_getElem hj2,this.1.1,this.1.2,this.2⟩
end L2
namespace HT
open PySem PySem.Spec PyProof.Rows
end HT
namespace L2
open PySem PySem.Spec PyProof.Rows
end L2
namespace L2
open PySem PySem.Spec PyProof.Rows
end L2
namespace L2
open PySem PySem.Spec PyProof.Rows
end L2
namespace SHP
open PySem L2
end SHP
namespace L2
open PySem PySem.Spec PyProof.Rows
def mxI:List Int→Int
 | []=>0
 | [a]=>a
 | a::b::r=>if mxI (b::r)≤a then a else mxI (b::r)
theorem afp:∀ {l:List Int},l≠[]→mxI l∈l∧∀ x∈l,x≤mxI l
 | [],h=>absurd rfl h
 | [a],_=>⟨List.mem_singleton.mpr rfl,fun x hx=>by rw [List.mem_singleton.mp hx];exact Int.le_refl a⟩
 | a::b::r,_=>by
  obtain ⟨i,m⟩:=afp (l:=b::r) (by simp)
  unfold mxI
  split
  ·rename_i h
   refine ⟨List.mem_cons_self,fun x hx=>?_⟩
   rcases List.mem_cons.mp hx with rfl | hx
   ·exact Int.le_refl _
   ·exact Int.le_trans (m x hx) h
  ·rename_i h
   refine ⟨List.mem_cons_of_mem _ i,fun x hx=>?_⟩
   rcases List.mem_cons.mp hx with rfl | hx
   ·omega
   ·exact m x hx
theorem arh {l:List Int} {k:Int} (h1:k∈l) (h2:∀ x∈l,x≤k):k=mxI l:=by
 obtain ⟨a,b⟩:=afp (l:=l) (by intro z;subst z;cases h1)
 have:=b k h1
 have:=h2 _ a
 omega
end L2
namespace L2
open PySem PySem.Spec PyProof.Rows
end L2
namespace SHP
open PySem L2
end SHP
namespace MI
open PySem L2
inductive D where
 | non | bl (b:Bool) | int (i:Int) | str (x:Str) | ty (n:String) | tup (xs:List D) | rol (xs:List D) | ref (i:Nat) | scr (xs:List D) | rod (ks:List Key) (xs:List D) | rdT (ks:List (List Key)) (xs:List D) | exc (c:Str)
inductive O where
 | lst (xs:List D) | dK (kvs:List (Key × D)) | dT (kvs:List (List Key × D))
abbrev Hd:=List O
abbrev Sd:=List (Option D)
inductive R (α:Type) where
 | ok (a:α) (h:Hd) | ex (c:Str) (h:Hd) | no
def R.bind {α β:Type}:R α→(α→Hd→R β)→R β
 | .ok a h,k=>k a h
 | .ex c h,_=>.ex c h
 | .no,_=>.no
inductive Fl where
 | nx (σ:Sd) (h:Hd) | rt (d:D) (h:Hd) | bk (σ:Sd) (h:Hd) | ct (σ:Sd) (h:Hd) | ex (c:Str) (h:Hd) | no
def R.fl {α:Type}:R α→(α→Hd→Fl)→Fl
 | .ok a h,k=>k a h
 | .ex c h,_=>.ex c h
 | .no,_=>.no
abbrev SE:=Sd→Hd→R D
abbrev ST:=Sd→Hd→R Bool
abbrev SA:=Sd→Hd→R (List D)
abbrev SS:=Sd→Hd→Fl
def SqF (K:PySem.W.Frag) (H:Hp) (a:Addr) (vs:List V):Prop:=(∃ o,H a=some (.frz o (.lst vs)))∨SqL K (fun _=>none) a vs
theorem SqF.l {K:PySem.W.Frag} {H:Hp} {a:Addr} {vs:List V} (h:SqF K H a vs):SqL K H a vs:=by
 rcases h with ⟨o,h⟩ | h
 ·exact .inl (.inr ⟨o,h⟩)
 ·rcases h with (h | ⟨o,h⟩) | h
  ·cases h
  ·cases h
  ·exact .inr h
def SqZ (H:Hp) (a:Addr) (vs:List V):Prop:=∃ o,H a=some (.frz o (.lst vs))
theorem SqZ.l {K:PySem.W.Frag} {H:Hp} {a:Addr} {vs:List V} (h:SqZ H a vs):SqL K H a vs:=let ⟨o,e⟩:=h; .inl (.inr ⟨o,e⟩)
def exO (a:Addr):HO:=.ext fun h=>∃ o,h.get? a=some o
mutual
inductive Rep (K:PySem.W.Frag) (ι:List Addr) (H:Hp):V→D→Prop
 | non:Rep K ι H .non .non
 | bl (b:Bool):Rep K ι H (.bl b) (.bl b)
 | int (i:Int):Rep K ι H (.int i) (.int i)
 | str (x:Str):Rep K ι H (.str x) (.str x)
 | ty (n:String):Rep K ι H (.ty n) (.ty n)
 | tup {a:Addr} {vs:List V} {xs:List D} (h:H a=some (.tup vs)) (r:Reps K ι H vs xs):Rep K ι H (.ref a) (.tup xs)
 | rol {a:Addr} {vs:List V} {xs:List D} (h:SqZ H a vs) (r:Reps K ι H vs xs):Rep K ι H (.ref a) (.rol xs)
 | scr {a:Addr} {vs:List V} {xs:List D} (h:SqF K H a vs) (r:Reps K ι H vs xs):Rep K ι H (.ref a) (.scr xs)
 | ref {a:Addr} {i:Nat} (h:ι[i]? = some a):Rep K ι H (.ref a) (.ref i)
 | rod {a:Addr} {o:Obj} {us:List (Key × V)} {ks:List Key} {xs:List D} (h:H a=some (.frz o (.dK us))) (e:us.map (·.1)=ks) (r:Reps K ι H (us.map (·.2)) xs):Rep K ι H (.ref a) (.rod ks xs)
 | rdT {a:Addr} {o:Obj} {us:List (List Key × V)} {ks:List (List Key)} {xs:List D} (h:H a=some (.frz o (.dT us))) (e:us.map (·.1)=ks) (r:Reps K ι H (us.map (·.2)) xs):Rep K ι H (.ref a) (.rdT ks xs)
 | exc {a C:Addr} {o:Obj} {c:Str} (h:H a=some (.frz o (exO a))) (hc:o.cls = .ref C) (hn:PySem.W.nsIn K mainGlobals c=some (some (.ref C))):Rep K ι H (.ref a) (.exc c)
inductive Reps (K:PySem.W.Frag) (ι:List Addr) (H:Hp):List V→List D→Prop
 | nil:Reps K ι H [] []
 | cons {v:V} {d:D} {vs:List V} {ds:List D} (r:Rep K ι H v d) (rs:Reps K ι H vs ds):Reps K ι H (v::vs) (d::ds)
end
structure Gw (ι:List Addr) (H:Hp) (ι':List Addr) (H':Hp):Prop where
 pre:∃ m,ι'=ι++m
 tup:∀ a vs,H a=some (.tup vs)→H' a=some (.tup vs)
 frz:∀ a o u,H a=some (.frz o u)→H' a=some (.frz o u)
structure Gr (ι:List Addr) (H:Hp) (ι':List Addr) (H':Hp):Prop where
 pre:∃ m,ι'=ι++m∧∀ a∈m,H a=none
 tup:∀ a vs,H a=some (.tup vs)→H' a=some (.tup vs)
 frz:∀ a o u,H a=some (.frz o u)→H' a=some (.frz o u)
 oth:∀ a u,H a=some u→a ∉ ι→H' a=some u
 kp:∀ a u,H a=some u→∃ u',H' a=some u'
theorem Gr.w {ι ι':List Addr} {H H':Hp} (g:Gr ι H ι' H'):Gw ι H ι' H':=⟨let ⟨m,e,_⟩:=g.pre; ⟨m,e⟩,g.tup,g.frz⟩
theorem Gr.refl (ι:List Addr) (H:Hp):Gr ι H ι H:=⟨⟨[],by simp,by simp⟩,fun _ _ h=>h,fun _ _ _ h=>h,fun _ _ h _=>h,fun _ u h=>⟨u,h⟩⟩
theorem Gr.trans {ι ι1 ι2:List Addr} {H H1 H2:Hp} (a:Gr ι H ι1 H1) (b:Gr ι1 H1 ι2 H2):Gr ι H ι2 H2:=by
 obtain ⟨m,rfl,hm⟩:=a.pre
 obtain ⟨n,rfl,hn⟩:=b.pre
 refine ⟨⟨m++n,by simp,fun x hx=>?_⟩,fun x vs h=>b.tup x vs (a.tup x vs h),fun x o u h=>b.frz x o u (a.frz x o u h),fun x u h hx=>?_,fun x u h=>?_⟩
 ·rcases List.mem_append.mp hx with hx | hx
  ·exact hm x hx
  ·cases e:H x with
   | none=>rfl
   | some u =>
    obtain ⟨u',e'⟩:=a.kp x u e
    rw [hn x hx] at e';cases e'
 ·refine b.oth x u (a.oth x u h hx) fun z=>?_
  rcases List.mem_append.mp z with z | z
  ·exact hx z
  ·rw [hm x z] at h;cases h
 ·obtain ⟨u',e⟩:=a.kp x u h
  exact b.kp x u' e
theorem Gw.at {ι ι':List Addr} {H H':Hp} (g:Gw ι H ι' H') {i:Nat} {a:Addr} (h:ι[i]? = some a):ι'[i]? = some a:=by
 obtain ⟨m,rfl⟩:=g.pre
 rw [List.getElem?_append_left (List.getElem?_eq_some_iff.mp h).1]
 exact h
theorem Gr.at {ι ι':List Addr} {H H':Hp} (g:Gr ι H ι' H') {i:Nat} {a:Addr} (h:ι[i]? = some a):ι'[i]? = some a:=g.w.at h
theorem SqF.monoW {K:PySem.W.Frag} {ι ι':List Addr} {H H':Hp} (g:Gw ι H ι' H') {a:Addr} {vs:List V} (h:SqF K H a vs):SqF K H' a vs:=by
 rcases h with ⟨o,h⟩ | h
 ·exact .inl ⟨o,g.frz _ _ _ h⟩
 ·exact .inr h
theorem SqZ.monoW {ι ι':List Addr} {H H':Hp} (g:Gw ι H ι' H') {a:Addr} {vs:List V} (h:SqZ H a vs):SqZ H' a vs:=let ⟨o,e⟩:=h; ⟨o,g.frz _ _ _ e⟩
theorem SqZ.mono {ι ι':List Addr} {H H':Hp} (g:Gr ι H ι' H') {a:Addr} {vs:List V} (h:SqZ H a vs):SqZ H' a vs:=h.monoW g.w
mutual
theorem Rep.monoW {K:PySem.W.Frag} {ι ι':List Addr} {H H':Hp} (g:Gw ι H ι' H'):∀ {v:V} {d:D},Rep K ι H v d→Rep K ι' H' v d
 | _,_, .non=>.non
 | _,_, .bl b=>.bl b
 | _,_, .int i=>.int i
 | _,_, .str x=>.str x
 | _,_, .ty n=>.ty n
 | _,_, .tup h r=>.tup (g.tup _ _ h) (Reps.monoW g r)
 | _,_, .rol h r=>.rol (h.monoW g) (Reps.monoW g r)
 | _,_, .scr h r=>.scr (h.monoW g) (Reps.monoW g r)
 | _,_, .ref h=>.ref (g.at h)
 | _,_, .rod h e r=>.rod (g.frz _ _ _ h) e (Reps.monoW g r)
 | _,_, .rdT h e r=>.rdT (g.frz _ _ _ h) e (Reps.monoW g r)
 | _,_, .exc h hc hn=>.exc (g.frz _ _ _ h) hc hn
theorem Reps.monoW {K:PySem.W.Frag} {ι ι':List Addr} {H H':Hp} (g:Gw ι H ι' H'):∀ {vs:List V} {ds:List D},Reps K ι H vs ds→Reps K ι' H' vs ds
 | _,_, .nil=>.nil
 | _,_, .cons r rs=>.cons (Rep.monoW g r) (Reps.monoW g rs)
end
theorem Rep.mono {K:PySem.W.Frag} {ι ι':List Addr} {H H':Hp} (g:Gr ι H ι' H') {v:V} {d:D} (r:Rep K ι H v d):Rep K ι' H' v d:=r.monoW g.w
theorem Reps.mono {K:PySem.W.Frag} {ι ι':List Addr} {H H':Hp} (g:Gr ι H ι' H') {vs:List V} {ds:List D} (r:Reps K ι H vs ds):Reps K ι' H' vs ds:=r.monoW g.w
section
variable {K:PySem.W.Frag} {ι:List Addr} {H:Hp}
theorem Reps.len {vs:List V} {ds:List D}:Reps K ι H vs ds→vs.length=ds.length
 | .nil=>rfl
 | .cons _ rs=>by rw [List.length_cons,List.length_cons,rs.len]
theorem Reps.get:∀ {vs:List V} {ds:List D} {i:Nat} {d:D},Reps K ι H vs ds→ds[i]? = some d→∃ v,vs[i]? = some v∧Rep K ι H v d
 | _,_,_,_, .nil,e=>by simp at e
 | _,_,0,_, .cons r _,e=>by simp at e;subst e;exact ⟨_,rfl,r⟩
 | _,_,i+1,d, .cons _ rs,e=>by
  obtain ⟨u,h1,h2⟩:=Reps.get (i:=i) (d:=d) rs (by simpa using e)
  exact ⟨u,by simpa using h1,h2⟩
theorem Reps.app:∀ {vs us:List V} {ds es:List D},Reps K ι H vs ds→Reps K ι H us es→Reps K ι H (vs++us) (ds++es)
 | _,_,_,_, .nil,s=>s
 | _,_,_,_, .cons r rs,s=>.cons r (Reps.app rs s)
theorem Reps.set {v:V} {d:D} (q:Rep K ι H v d):∀ {vs:List V} {ds:List D} (i:Nat),Reps K ι H vs ds→Reps K ι H (vs.set i v) (ds.set i d)
 | _,_,_, .nil=>.nil
 | _,_,0, .cons _ rs=>.cons q rs
 | _,_,i+1, .cons r rs=>.cons r (Reps.set q i rs)
theorem Reps.take:∀ {vs:List V} {ds:List D} (n:Nat),Reps K ι H vs ds→Reps K ι H (vs.take n) (ds.take n)
 | _,_,0,_=>.nil
 | _,_,_+1, .nil=>.nil
 | _,_,n+1, .cons r rs=>.cons r (Reps.take n rs)
theorem Reps.drop:∀ {vs:List V} {ds:List D} (n:Nat),Reps K ι H vs ds→Reps K ι H (vs.drop n) (ds.drop n)
 | _,_,0,r=>r
 | _,_,_+1, .nil=>.nil
 | _,_,n+1, .cons _ rs=>Reps.drop n rs
theorem Reps.snoc {vs:List V} {ds:List D} {v:V} {d:D} (r:Reps K ι H vs ds) (q:Rep K ι H v d):Reps K ι H (vs++[v]) (ds++[d]):=r.app (.cons q .nil)
theorem Reps.flat:∀ {vs:List V} {ds:List D} (k:Nat),Reps K ι H vs ds→Reps K ι H (List.replicate k vs).flatten (List.replicate k ds).flatten
 | _,_,0,_=>.nil
 | vs,ds,k+1,r=>by
  rw [List.replicate_succ,List.replicate_succ,List.flatten_cons,List.flatten_cons]
  exact r.app (Reps.flat k r)
end
def KRep {κ:Type} (K:PySem.W.Frag) (ι:List Addr) (H:Hp) (us:List (κ × V)) (kvs:List (κ × D)):Prop:=us.map (·.1)=kvs.map (·.1)∧Reps K ι H (us.map (·.2)) (kvs.map (·.2))
def ORep (K:PySem.W.Frag) (ι:List Addr) (H:Hp) (a:Addr):O→Prop
 | .lst xs=>∃ vs,H a=some (.lst vs)∧Reps K ι H vs xs
 | .dK kvs=>∃ us,H a=some (.dK us)∧KRep K ι H us kvs
 | .dT kvs=>∃ us,H a=some (.dT us)∧KRep K ι H us kvs
structure HRep (K:PySem.W.Frag) (ι:List Addr) (H:Hp) (h:Hd):Prop where
 nd:ι.Nodup
 len:ι.length=h.length
 obj:∀ (i:Nat) (a:Addr) (o:O),ι[i]? = some a→h[i]? = some o→ORep K ι H a o
section
variable {K:PySem.W.Frag} {ι:List Addr} {H:Hp} {h:Hd}
theorem ORep.some {a:Addr} {o:O} (r:ORep K ι H a o):∃ u,H a=some u∧(∀ vs,u≠.tup vs)∧(∀ o' u',u≠.frz o' u'):=by
 cases o with
 | lst xs=>obtain ⟨vs,e,_⟩:=r;exact ⟨_,e,fun _ z=>(by cases z),fun _ _ z=>(by cases z)⟩
 | dK kvs=>obtain ⟨us,e,_⟩:=r;exact ⟨_,e,fun _ z=>(by cases z),fun _ _ z=>(by cases z)⟩
 | dT kvs=>obtain ⟨us,e,_⟩:=r;exact ⟨_,e,fun _ z=>(by cases z),fun _ _ z=>(by cases z)⟩
theorem HRep.at (r:HRep K ι H h) {i:Nat} {a:Addr} (e:ι[i]? = some a):∃ o,h[i]? = some o∧ORep K ι H a o:=by
 have hi:i<h.length:=by rw [← r.len];exact (List.getElem?_eq_some_iff.mp e).1
 exact ⟨h[i],List.getElem?_eq_getElem hi,r.obj i a _ e (List.getElem?_eq_getElem hi)⟩
theorem HRep.addr (r:HRep K ι H h) {i:Nat} {o:O} (e:h[i]? = some o):∃ a,ι[i]? = some a∧ORep K ι H a o:=by
 have hi:i<ι.length:=by rw [r.len];exact (List.getElem?_eq_some_iff.mp e).1
 exact ⟨ι[i],List.getElem?_eq_getElem hi,r.obj i _ o (List.getElem?_eq_getElem hi) e⟩
theorem HRep.notin (r:HRep K ι H h) {p:Addr} (e:H p=none):p ∉ ι:=fun z=>by
 obtain ⟨i,hi⟩:=List.getElem?_of_mem z
 obtain ⟨o,_,q⟩:=r.at hi
 obtain ⟨u,q,_⟩:=q.some
 rw [e] at q;cases q
theorem ORep.monoW {ι':List Addr} {H':Hp} {a:Addr} {o:O} (g:Gw ι H ι' H') (e:H' a=H a) (r:ORep K ι H a o):ORep K ι' H' a o:=by
 cases o with
 | lst xs=>obtain ⟨vs,h1,h2⟩:=r;exact ⟨vs,by rw [e];exact h1,h2.monoW g⟩
 | dK kvs=>obtain ⟨us,h1,h2,h3⟩:=r;exact ⟨us,by rw [e];exact h1,h2,h3.monoW g⟩
 | dT kvs=>obtain ⟨us,h1,h2,h3⟩:=r;exact ⟨us,by rw [e];exact h1,h2,h3.monoW g⟩
theorem ORep.mono {ι':List Addr} {H':Hp} {a:Addr} {o:O} (g:Gr ι H ι' H') (e:H' a=H a) (r:ORep K ι H a o):ORep K ι' H' a o:=r.monoW g.w e
theorem ye {p:Addr} (e:H p=none) (o:HO):Gr ι H ι (upd H p o) :=
 ⟨⟨[],by simp,by simp⟩,fun a vs h=>by rw [dw (d8 h e)];exact h,fun a o u h=>by rw [dw (d8 h e)];exact h,fun a u h _=>by rw [dw (d8 h e)];exact h,fun a u h=>⟨u,by rw [dw (d8 h e)];exact h⟩⟩
theorem HRep.aside (r:HRep K ι H h) {p:Addr} (e:H p=none) (o:HO):HRep K ι (upd H p o) h:=by
 refine ⟨r.nd,r.len,fun i a o' e1 e2=>?_⟩
 have q:=r.obj i a o' e1 e2
 obtain ⟨u,hu,_⟩:=q.some
 exact q.mono (ye e o) (dw (d8 hu e))
theorem afq {p:Addr} (e:H p=none) (o:HO):Gr ι H (ι++[p]) (upd H p o) :=
 ⟨⟨[p],rfl,by simpa using e⟩,(ye (ι:=ι) e o).tup,(ye (ι:=ι) e o).frz,(ye (ι:=ι) e o).oth,(ye (ι:=ι) e o).kp⟩
theorem HRep.add (r:HRep K ι H h) {p:Addr} (e:H p=none) {o:HO} {ob:O} (q:ORep K (ι++[p]) (upd H p o) p ob):HRep K (ι++[p]) (upd H p o) (h++[ob]):=by
 refine ⟨?_,by simp [r.len],fun i a o' e1 e2=>?_⟩
 ·rw [List.nodup_append]
  exact ⟨r.nd,by simp,fun a ha b hb z=>r.notin e (by rw [List.mem_singleton.mp hb] at z;rw [← z];exact ha)⟩
 ·by_cases hi:i<ι.length
  ·rw [List.getElem?_append_left hi] at e1
   rw [List.getElem?_append_left (by rw [← r.len];exact hi)] at e2
   have q:=r.obj i a o' e1 e2
   obtain ⟨u,hu,_⟩:=q.some
   exact q.mono (afq e o) (dw (d8 hu e))
  ·have hi2:i<(ι++[p]).length:=(List.getElem?_eq_some_iff.mp e1).1
   have:i=ι.length:=by simp at hi2;omega
   subst this
   rw [List.getElem?_append_right (Nat.le_refl _)] at e1
   rw [r.len,List.getElem?_append_right (Nat.le_refl _)] at e2
   simp at e1 e2
   subst e1 e2
   exact q
theorem a1d {a:Addr} {i:Nat} (r:HRep K ι H h) (e:ι[i]? = some a) (o:HO):Gr ι H ι (upd H a o):=by
 obtain ⟨_,_,q⟩:=r.at e
 obtain ⟨u,hu,n1,n2⟩:=q.some
 refine ⟨⟨[],by simp,by simp⟩,fun b vs hb=>?_,fun b o' u' hb=>?_,fun b u' hb hn=>?_,fun b u' hb=>?_⟩
 ·rw [dw (fun z=>by subst z;rw [hu] at hb;exact n1 _ (Option.some.inj hb))];exact hb
 ·rw [dw (fun z=>by subst z;rw [hu] at hb;exact n2 _ _ (Option.some.inj hb))];exact hb
 ·rw [dw (fun z=>hn (by subst z;exact List.mem_of_getElem? e))];exact hb
 ·by_cases z:b=a
  ·subst z;exact ⟨o,jq⟩
  ·exact ⟨u',by rw [dw z];exact hb⟩
theorem HRep.put (r:HRep K ι H h) {a:Addr} {i:Nat} (e:ι[i]? = some a) {o:HO} {ob:O} (q:ORep K ι (upd H a o) a ob):HRep K ι (upd H a o) (h.set i ob):=by
 refine ⟨r.nd,by rw [List.length_set];exact r.len,fun j b o' e1 e2=>?_⟩
 by_cases hj:i=j
 ·subst hj
  rw [e] at e1;cases e1
  have hi:i<h.length:=by rw [← r.len];exact (List.getElem?_eq_some_iff.mp e).1
  rw [List.getElem?_set_self hi] at e2;cases e2
  exact q
 ·rw [List.getElem?_set_ne hj] at e2
  have hne:b≠a:=fun z=>by
   subst z
   obtain ⟨h1,g1⟩:=List.getElem?_eq_some_iff.mp e
   obtain ⟨h2,g2⟩:=List.getElem?_eq_some_iff.mp e1
   have np:=List.pairwise_iff_getElem.mp r.nd
   rcases Nat.lt_or_gt_of_ne hj with l | l
   ·exact np i j h1 h2 l (g1.trans g2.symm)
   ·exact np j i h2 h1 l (g2.trans g1.symm)
  exact (r.obj j b o' e1 e2).mono (a1d r e o) (dw hne)
end
structure SRep (K:PySem.W.Frag) (ι:List Addr) (H:Hp) (σ:St) (τ:Sd):Prop where
 len:σ.length=τ.length
 val:∀ (i:Nat) (d:D),τ[i]? = some (some d)→∃ v,σ[i]? = some (some v)∧Rep K ι H v d
theorem SRep.mono {K:PySem.W.Frag} {ι ι':List Addr} {H H':Hp} {σ:St} {τ:Sd} (g:Gr ι H ι' H') (s:SRep K ι H σ τ):SRep K ι' H' σ τ :=
 ⟨s.len,fun i d e=>let ⟨v,h1,h2⟩:=s.val i d e; ⟨v,h1,h2.mono g⟩⟩
theorem SRep.set {K:PySem.W.Frag} {ι:List Addr} {H:Hp} {σ:St} {τ:Sd} (s:SRep K ι H σ τ) {v:V} {d:D} (r:Rep K ι H v d) (i:Nat):SRep K ι H (σ.set i (some v)) (τ.set i (some d)):=by
 refine ⟨by simp [s.len],fun j d' e=>?_⟩
 by_cases hj:i=j
 ·subst hj
  have hi:i<τ.length:=by
   have:=(List.getElem?_eq_some_iff.mp e).1
   simpa using this
  rw [List.getElem?_set_self hi] at e
  cases e
  exact ⟨v,by rw [List.getElem?_set_self (by rw [s.len];exact hi)],r⟩
 ·rw [List.getElem?_set_ne hj] at e ⊢
  exact s.val j d' e
abbrev XD:=Str→List Addr→Hp→Hd→Prop
def out {α β:Type} (K:PySem.W.Frag) (E:XD) (Rp:List Addr→Hp→β→α→Prop) (ι:List Addr) (H:Hp) (r:R α) (Q:β→Hp→Prop):Prop :=
 match r with
 | .ok a h=>∀ ι' H' b,Gr ι H ι' H'→Rp ι' H' b a→HRep K ι' H' h→Q b H'
 | .ex c h=>∀ ι' H',Gr ι H ι' H'→HRep K ι' H' h→E c ι' H' h
 | .no=>False
theorem wz {α β:Type} {K:PySem.W.Frag} {E:XD} {Rp:List Addr→Hp→β→α→Prop} {ι ι1:List Addr} {H H1:Hp} {r:R α} {Q:β→Hp→Prop} (o:out K E Rp ι H r Q) (g:Gr ι H ι1 H1):out K E Rp ι1 H1 r Q:=by
 cases r with
 | ok a h=>exact fun ι' H' b g'=>o ι' H' b (g.trans g')
 | ex c h=>exact fun ι' H' g'=>o ι' H' (g.trans g')
 | no=>exact o
theorem cj {α β γ δ:Type} {K:PySem.W.Frag} {E:XD} {Rp:List Addr→Hp→β→α→Prop} {Sp:List Addr→Hp→δ→γ→Prop} {ι:List Addr} {H:Hp} {r:R α} {k:α→Hd→R γ} {Q:δ→Hp→Prop} {P:β→Hp→Prop}
  (o:out K E Sp ι H (r.bind k) Q) (hP:∀ a h ι1 H1 b,Gr ι H ι1 H1→Rp ι1 H1 b a→HRep K ι1 H1 h→out K E Sp ι1 H1 (k a h) Q→P b H1):out K E Rp ι H r P:=by
 cases r with
 | ok a h=>exact fun ι' H' b g r' hr=>hP a h ι' H' b g r' hr (wz o g)
 | ex c h=>exact o
 | no=>exact o
abbrev xf (K:PySem.W.Frag):List Addr→Hp→V→D→Prop:=fun ι H v d=>Rep K ι H v d
abbrev axz (K:PySem.W.Frag):List Addr→Hp→List V→List D→Prop:=fun ι H v d=>Reps K ι H v d
abbrev ala:List Addr→Hp→Bool→Bool→Prop:=fun _ _ a b=>a=b
abbrev ay0:List Addr→Hp→Option Int→Option Int→Prop:=fun _ _ a b=>a=b
def aie (K:PySem.W.Frag) (E:XD) (ι:List Addr) (H:Hp) (r:Fl) (N:Ends):Prop :=
 match r with
 | .nx τ h=>∀ ι' H' σ,Gr ι H ι' H'→SRep K ι' H' σ τ→HRep K ι' H' h→N.nx σ H'
 | .bk τ h=>∀ ι' H' σ,Gr ι H ι' H'→SRep K ι' H' σ τ→HRep K ι' H' h→N.bk σ H'
 | .ct τ h=>∀ ι' H' σ,Gr ι H ι' H'→SRep K ι' H' σ τ→HRep K ι' H' h→N.ct σ H'
 | .rt d h=>∀ ι' H' v,Gr ι H ι' H'→Rep K ι' H' v d→HRep K ι' H' h→N.rt v H'
 | .ex c h=>∀ ι' H',Gr ι H ι' H'→HRep K ι' H' h→E c ι' H' h
 | .no=>False
theorem rm {K:PySem.W.Frag} {E:XD} {ι ι1:List Addr} {H H1:Hp} {r:Fl} {N:Ends} (o:aie K E ι H r N) (g:Gr ι H ι1 H1):aie K E ι1 H1 r N:=by
 cases r with
 | nx τ h=>exact fun ι' H' b g'=>o ι' H' b (g.trans g')
 | bk τ h=>exact fun ι' H' b g'=>o ι' H' b (g.trans g')
 | ct τ h=>exact fun ι' H' b g'=>o ι' H' b (g.trans g')
 | rt d h=>exact fun ι' H' b g'=>o ι' H' b (g.trans g')
 | ex c h=>exact fun ι' H' g'=>o ι' H' (g.trans g')
 | no=>exact o
theorem wu {α β:Type} {K:PySem.W.Frag} {E:XD} {Rp:List Addr→Hp→β→α→Prop} {ι:List Addr} {H:Hp} {r:R α} {k:α→Hd→Fl} {N:Ends} {P:β→Hp→Prop}
  (o:aie K E ι H (r.fl k) N) (hP:∀ a h ι1 H1 b,Gr ι H ι1 H1→Rp ι1 H1 b a→HRep K ι1 H1 h→aie K E ι1 H1 (k a h) N→P b H1):out K E Rp ι H r P:=by
 cases r with
 | ok a h=>exact fun ι' H' b g r' hr=>hP a h ι' H' b g r' hr (rm o g)
 | ex c h=>exact o
 | no=>exact o
def lift {α β:Type} (K:PySem.W.Frag) (E:XD) (Rp:List Addr→Hp→β→α→Prop) (f:Sd→Hd→R α):St→Hp→(β→Hp→Prop)→Prop:=fun σ H Q =>
 ∃ ι τ h,SRep K ι H σ τ∧HRep K ι H h∧out K E Rp ι H (f τ h) Q
def a74 (K:PySem.W.Frag) (E:XD) (f:SS):TS:=fun N σ H=>∃ ι τ h,SRep K ι H σ τ∧HRep K ι H h∧aie K E ι H (f τ h) N
abbrev ME (X:Cx) (E:XD) (e:Expr) (f:SE):Prop:=PE X e (lift X.K E (xf X.K) f)
abbrev MT (X:Cx) (E:XD) (e:Expr) (f:ST):Prop:=PT X e (lift X.K E ala f)
abbrev MW (X:Cx) (E:XD) (e:Expr) (f:ST):Prop:=PW X e (lift X.K E ala f)
abbrev MA (X:Cx) (E:XD) (es:List Expr) (f:SA):Prop:=PA X es (lift X.K E (axz X.K) f)
abbrev MS (X:Cx) (E:XD) (st:Stmt) (f:SS):Prop:=PS X st (a74 X.K E f)
abbrev MSs (X:Cx) (E:XD) (st:List Stmt) (f:SS):Prop:=PSs X st (a74 X.K E f)
theorem PE.weak {X:Cx} {e:Expr} {t t':TE} (h:PE X e t) (i:∀ σ H Q,t' σ H Q→t σ H Q):PE X e t':=fun pins s σ H Q I q=>h pins s σ H Q I (i _ _ _ q)
theorem PT.weak {X:Cx} {e:Expr} {t t':TT} (h:PT X e t) (i:∀ σ H Q,t' σ H Q→t σ H Q):PT X e t':=fun pins s σ H Q I q=>h pins s σ H Q I (i _ _ _ q)
theorem PW.weak {X:Cx} {e:Expr} {t t':TT} (h:PW X e t) (i:∀ σ H Q,t' σ H Q→t σ H Q):PW X e t':=fun wh pins s σ H Q I q=>h wh pins s σ H Q I (i _ _ _ q)
theorem PA.weak {X:Cx} {e:List Expr} {t t':TA} (h:PA X e t) (i:∀ σ H Q,t' σ H Q→t σ H Q):PA X e t':=fun pos pins s σ H Q I q=>h pos pins s σ H Q I (i _ _ _ q)
theorem PS.weak {X:Cx} {e:Stmt} {t t':TS} (h:PS X e t) (i:∀ N σ H,t' N σ H→t N σ H):PS X e t':=fun pins s σ H N I q=>h pins s σ H N I (i _ _ _ q)
theorem PSs.weak {X:Cx} {e:List Stmt} {t t':TS} (h:PSs X e t) (i:∀ N σ H,t' N σ H→t N σ H):PSs X e t':=fun pins s σ H N I q=>h pins s σ H N I (i _ _ _ q)
end MI
namespace MI
open PySem L2
abbrev LINE:Nat:=16777216
theorem ll {n:Nat} (h:n≤LINE):n≤sizeLine:=anj h
def sV (i:Nat):SE:=fun τ h=>match τ[i]? with | some (some d)=>.ok d h | _=>.no
def sC (d:D):SE:=fun _ h=>.ok d h
section
variable {X:Cx} {E:XD} {a b c e:Expr} {fa fb fc:SE} {pos:Pos}
theorem bu (i:Nat) {x:Str} {pos:Pos} (hN:X.N[i]? = some x:=by rfl) (hv:Vis X.env.scope x:=by first | exact Or.inl rfl | exact Or.inr (Or.inl rfl) | exact Or.inr (Or.inr rfl)) (hd:(x == ("__debug__" : Str))=false:=by decide)
  (hcd:(x == ("__classdict__" : Str))=false:=by decide):ME X E (.Name x pos) (sV i):=by
 refine PE.weak (aq6 hN hv hd hcd) fun σ H Q ⟨ι,τ,h,S,Rh,o⟩=>?_
 unfold sV at o
 split at o
 ·rename_i d e
  obtain ⟨v,h1,h2⟩:=S.val i d e
  exact ⟨v,h1,o ι H v (.refl _ _) h2 Rh⟩
 ·exact o.elim
theorem ari {v:V} {d:D} (h:PE X e (tC v)) (r:∀ ι H,Rep X.K ι H v d):ME X E e (sC d) :=
 PE.weak h fun σ H Q ⟨ι,τ,h,S,Rh,o⟩=>o ι H v (.refl _ _) (r ι H) Rh
theorem bj {i j pos}:ME X E (.Constant (.int i) j pos) (sC (.int i)):=ari aq7 fun _ _=>.int i
theorem ad9 {i j pos}:ME X E (.Constant (.bool i) j pos) (sC (.bl i)):=ari aus fun _ _=>.bl i
theorem a0k {i j pos}:ME X E (.Constant (.str i) j pos) (sC (.str i)):=ari aq9 fun _ _=>.str i
theorem a1e {j pos}:ME X E (.Constant .none j pos) (sC .non):=ari aq8 fun _ _=>.non
theorem a75 {x:Str} {n:String} {pos:Pos} (hg:Gl X x) (hm:X.mg x=none) (hv:bootBuiltins x=some (.type n)) (hn:x ≠ "__name__":=by decide) (hd:(x == ("__debug__" : Str))=false:=by decide):ME X E (.Name x pos) (sC (.ty n)) :=
 ari (ami (v:=.ty n) hg hm hv rfl hn hd) fun _ _=>.ty n
def s2 (g:D→D→Hd→R D) (fa fb:SE):SE:=fun τ h=>(fa τ h).bind fun x h1=>(fb τ h1).bind fun y h2=>g x y h2
def s1 (g:D→Hd→R D) (fa:SE):SE:=fun τ h=>(fa τ h).bind g
def a2b (K:PySem.W.Frag) (g:D→D→Hd→R D) (r:R2):Prop:=∀ (E:XD) ι H h x y dx dy Q,Rep K ι H x dx→Rep K ι H y dy→HRep K ι H h→out K E (xf K) ι H (g dx dy h) Q→r x y H Q
def ay1 (K:PySem.W.Frag) (g:D→Hd→R D) (r:V→Hp→VK→Prop):Prop:=∀ (E:XD) ι H h x dx Q,Rep K ι H x dx→HRep K ι H h→out K E (xf K) ι H (g dx h) Q→r x H Q
def abf (K:PySem.W.Frag) (g:List D→Hd→R D) (r:List V→Hp→VK→Prop):Prop:=∀ (E:XD) ι H h xs ds Q,Reps K ι H xs ds→HRep K ι H h→out K E (xf K) ι H (g ds h) Q→r xs H Q
theorem aum {g:D→D→Hd→R D} {r:R2} {K:PySem.W.Frag} (hs:a2b K g r) {σ:St} {H:Hp} {Q:VK} (q:lift K E (xf K) (s2 g fa fb) σ H Q):tOp r (lift K E (xf K) fa) (lift K E (xf K) fb) σ H Q:=by
 obtain ⟨ι,τ,h,S,Rh,o⟩:=q
 refine ⟨ι,τ,h,S,Rh,cj o fun d h1 ι1 H1 v g1 r1 hr1 o1=>?_⟩
 refine ⟨ι1,τ,h1,S.mono g1,hr1,cj o1 fun d2 h2 ι2 H2 u g2 r2 hr2 o2=>?_⟩
 exact hs E ι2 H2 h2 v u d d2 Q (r1.mono g2) r2 hr2 o2
theorem aa2 {op:Operator} {r:R2} {g:D→D→Hd→R D} (ho:OpR X (binaryOp op) r) (hs:a2b X.K g r) (ha:ME X E a fa) (hb:ME X E b fb):ME X E (.BinOp a op b pos) (s2 g fa fb) :=
 PE.weak (av6 ho ha hb) fun σ H Q q=>aum hs q
theorem a4n {op:CmpOp} {r:R2} {g:D→D→Hd→R D} (ho:OpR X (compareOp op) r) (hs:a2b X.K g r) (ha:ME X E a fa) (hb:ME X E b fb) (hm:behindInMarks op b=false):ME X E (.Compare a [op] [b] pos) (s2 g fa fb) :=
 PE.weak (ams ho ha hb hm) fun σ H Q q=>aum hs q
theorem avp {op:UnaryOp} {r:V→Hp→VK→Prop} {g:D→Hd→R D} (ho:UnR X (unaryOp op) r) (hs:ay1 X.K g r) (ha:ME X E a fa):ME X E (.UnaryOp op a pos) (s1 g fa):=by
 refine PE.weak (av7 ho ha) fun σ H Q ⟨ι,τ,h,S,Rh,o⟩=>?_
 exact ⟨ι,τ,h,S,Rh,cj o fun d h1 ι1 H1 v g1 r1 hr1 o1=>hs E ι1 H1 h1 v d Q r1 hr1 o1⟩
theorem avq {r:R2} {g:D→D→Hd→R D} (ho:IxR X r) (hs:a2b X.K g r) (ha:ME X E a fa) (hb:ME X E b fb) (hp:a9w b):ME X E (.Subscript a b pos) (s2 g fa fb) :=
 PE.weak (avf ho ha hb hp) fun σ H Q q=>aum hs q
def asB (d:D) (h:Hd):R Bool:=match d with | .bl b=>.ok b h | _=>.no
def sT (f:SE):ST:=fun τ h=>(f τ h).bind asB
theorem anm {K:PySem.W.Frag} {t:TE} {f:SE} (hi:∀ σ H Q,lift K E (xf K) f σ H Q→t σ H Q) {σ:St} {H:Hp} {Q:Bool→Hp→Prop} (q:lift K E ala (sT f) σ H Q):aqs t σ H Q:=by
 refine hi σ H _ ?_
 obtain ⟨ι,τ,h,S,Rh,o⟩:=q
 refine ⟨ι,τ,h,S,Rh,cj o fun d h1 ι1 H1 v g1 r1 hr1 o1=>?_⟩
 cases r1 with
 | bl b=>exact ⟨b,rfl,o1 ι1 H1 b (.refl _ _) rfl hr1⟩
 | _=>exact o1.elim
theorem j8 {op:CmpOp} {r:R2} {g:D→D→Hd→R D} (ho:OpR X (compareOp op) r) (hs:a2b X.K g r) (ha:ME X E a fa) (hb:ME X E b fb) (hm:behindInMarks op b=false):MT X E (.Compare a [op] [b] pos) (sT (s2 g fa fb)) :=
 PT.weak (amt ho ha hb hm) fun σ H Q q=>anm (fun _ _ _=>aum hs) q
def sCh (g g':D→D→Hd→R D) (fa fb fc:SE):SE:=fun τ h=>(fa τ h).bind fun x h1=>(fb τ h1).bind fun y h2=>(g x y h2).bind fun z h3=>match z with
 | .bl true=>(fc τ h3).bind fun w h4=>g' y w h4
 | .bl false=>.ok (.bl false) h3
 | _=>.no
def tru (d:D) (h:Hd):R Bool:=match d with
 | .non=>.ok false h
 | .bl b=>.ok b h
 | .int i=>.ok (i != 0) h
 | .str x=>if x.length≤LINE then .ok ((x.length:Int) != 0) h else .no
 | .tup xs=>.ok (!xs.isEmpty) h
 | .rol xs=>.ok (!xs.isEmpty) h
 | .ref i=>match h[i]? with
  | some (.lst xs)=>.ok (!xs.isEmpty) h
  | some (.dK kvs)=>.ok (!kvs.isEmpty) h
  | _=>.no
 | _=>.no
theorem Reps.emp {K:PySem.W.Frag} {ι:List Addr} {H:Hp} {vs:List V} {ds:List D} (r:Reps K ι H vs ds):vs.isEmpty=ds.isEmpty:=by cases r<;>rfl
theorem KRep.emp {κ:Type} {K:PySem.W.Frag} {ι:List Addr} {H:Hp} {us:List (κ × V)} {kvs:List (κ × D)} (r:KRep K ι H us kvs):us.isEmpty=kvs.isEmpty:=by
 have:=congrArg List.length r.1
 cases us<;>cases kvs<;>simp at this ⊢
theorem ano {K:PySem.W.Frag} {ι:List Addr} {H:Hp} {h:Hd} {x:V} {d:D} {Q:Bool→Hp→Prop} (r:Rep K ι H x d) (hr:HRep K ι H h) (o:out K E ala ι H (tru d h) Q):∃ k,ava K x H k∧Q k H:=by
 cases r with
 | non=>exact ⟨false,rfl,o ι H _ (.refl _ _) rfl hr⟩
 | bl b=>exact ⟨b,rfl,o ι H _ (.refl _ _) rfl hr⟩
 | int i=>exact ⟨_,rfl,o ι H _ (.refl _ _) rfl hr⟩
 | str x =>
  by_cases hl:x.length≤LINE
  ·simp only [tru,if_pos hl] at o
   exact ⟨_,⟨ll hl,rfl⟩,o ι H _ (.refl _ _) rfl hr⟩
  ·simp only [tru,if_neg hl] at o
   exact o.elim
 | ty n=>exact o.elim
 | rod _ _ _=>exact o.elim
 | scr _ _=>exact o.elim
 | rdT _ _ _=>exact o.elim
 | exc _ _ _=>exact o.elim
 | tup e rs=>exact ⟨_, .inr (.inl ⟨_,SqT.of e,rfl⟩),by rw [rs.emp];exact o ι H _ (.refl _ _) rfl hr⟩
 | rol e rs=>exact ⟨_, .inl ⟨_,e.l,rfl⟩,by rw [rs.emp];exact o ι H _ (.refl _ _) rfl hr⟩
 | @ref a i e =>
  obtain ⟨ob,h1,h2⟩:=hr.at e
  simp only [tru,h1] at o
  cases ob with
  | lst xs =>
   obtain ⟨vs,h3,h4⟩:=h2
   exact ⟨_, .inl ⟨_,SqL.of h3,rfl⟩,by rw [h4.emp];exact o ι H _ (.refl _ _) rfl hr⟩
  | dK kvs =>
   obtain ⟨us,h3,h4⟩:=h2
   exact ⟨_, .inr (.inr ⟨_,h3,rfl⟩),by rw [h4.emp];exact o ι H _ (.refl _ _) rfl hr⟩
  | dT kvs=>exact o.elim
def a5s (f:SE):ST:=fun τ h=>(f τ h).bind tru
theorem a1f (ha:ME X E a fa) (he:∀ whole,isTrue a X.env whole=(do let v ← whole;standAt a.pos;holding [v] (truthy v)):=by intro _;rfl):MT X E a (a5s fa):=by
 refine PT.weak (air ha he) fun σ H Q ⟨ι,τ,h,S,Rh,o⟩=>?_
 exact ⟨ι,τ,h,S,Rh,cj o fun d h1 ι1 H1 v g1 r1 hr1 o1=>ano r1 hr1 o1⟩
def aa3 (f g:ST):ST:=fun τ h=>(f τ h).bind fun b h1=>if b=true then g τ h1 else .ok false h1
def sOr (f g:ST):ST:=fun τ h=>(f τ h).bind fun b h1=>if b=true then .ok true h1 else g τ h1
def aa4 (f:ST):ST:=fun τ h=>(f τ h).bind fun b h1=>.ok (!b) h1
variable {ga gb:ST}
theorem aa5 (ha:MT X E a ga):MW X E (.BoolOp .And [a] pos) ga:=amj ha
theorem abg (ha:MT X E a ga):MW X E (.BoolOp .Or [a] pos) ga:=aqa ha
theorem afr {rest:List Expr} (ha:MT X E a ga) (hb:MW X E (.BoolOp .And (b::rest) pos) gb):MW X E (.BoolOp .And (a::b::rest) pos) (aa3 ga gb):=by
 refine PW.weak (aqb ha hb) fun σ H Q ⟨ι,τ,h,S,Rh,o⟩=>?_
 refine ⟨ι,τ,h,S,Rh,cj o fun d h1 ι1 H1 v g1 r1 hr1 o1=>?_⟩
 cases r1
 cases d with
 | true=>exact ⟨ι1,τ,h1,S.mono g1,hr1,o1⟩
 | false=>exact o1 ι1 H1 false (.refl _ _) rfl hr1
theorem aj2 {rest:List Expr} (ha:MT X E a ga) (hb:MW X E (.BoolOp .Or (b::rest) pos) gb):MW X E (.BoolOp .Or (a::b::rest) pos) (sOr ga gb):=by
 refine PW.weak (aut ha hb) fun σ H Q ⟨ι,τ,h,S,Rh,o⟩=>?_
 refine ⟨ι,τ,h,S,Rh,cj o fun d h1 ι1 H1 v g1 r1 hr1 o1=>?_⟩
 cases r1
 cases d with
 | true=>exact o1 ι1 H1 true (.refl _ _) rfl hr1
 | false=>exact ⟨ι1,τ,h1,S.mono g1,hr1,o1⟩
theorem abh (ha:MT X E a ga):MT X E (.UnaryOp .Not a pos) (aa4 ga):=by
 refine PT.weak (aqc ha) fun σ H Q ⟨ι,τ,h,S,Rh,o⟩=>?_
 refine ⟨ι,τ,h,S,Rh,cj o fun d h1 ι1 H1 v g1 r1 hr1 o1=>?_⟩
 cases r1
 exact o1 ι1 H1 _ (.refl _ _) rfl hr1
def a4o (f g:SE):SE:=fun τ h=>(f τ h).bind fun d h1=>match d with | .bl true=>g τ h1 | .bl false=>.ok (.bl false) h1 | _=>.no
def apr (f g:SE):SE:=fun τ h=>(f τ h).bind fun d h1=>match d with | .bl true=>.ok (.bl true) h1 | .bl false=>g τ h1 | _=>.no
def a5v (f:SE):SE:=fun τ h=>(f τ h).bind fun d h1=>match d with | .bl b=>.ok (.bl (!b)) h1 | _=>.no
theorem arj {op} (ha:ME X E a fa):ME X E (.BoolOp op [a] pos) fa:=aqd ha
theorem alb {rest:List Expr} (ha:ME X E a fa) (hb:ME X E (.BoolOp .And (b::rest) pos) fb):ME X E (.BoolOp .And (a::b::rest) pos) (a4o fa fb):=by
 refine PE.weak (aqe ha hb) fun σ H Q ⟨ι,τ,h,S,Rh,o⟩=>?_
 refine ⟨ι,τ,h,S,Rh,cj o fun d h1 ι1 H1 v g1 r1 hr1 o1=>?_⟩
 cases r1 with
 | bl k =>
  refine ⟨k,rfl,?_⟩
  cases k with
  | true=>exact ⟨ι1,τ,h1,S.mono g1,hr1,o1⟩
  | false=>exact o1 ι1 H1 _ (.refl _ _) (.bl _) hr1
 | _=>exact o1.elim
theorem ark (ha:ME X E a fa):ME X E (.UnaryOp .Not a pos) (a5v fa):=by
 refine PE.weak (aqf ha) fun σ H Q ⟨ι,τ,h,S,Rh,o⟩=>?_
 refine ⟨ι,τ,h,S,Rh,cj o fun d h1 ι1 H1 v g1 r1 hr1 o1=>?_⟩
 cases r1 with
 | bl k=>exact ⟨k,rfl,o1 ι1 H1 _ (.refl _ _) (.bl _) hr1⟩
 | _=>exact o1.elim
def aeo (c:ST) (f g:SE):SE:=fun τ h=>(c τ h).bind fun b h1=>if b=true then f τ h1 else g τ h1
theorem arl (hc:MT X E c ga) (ha:ME X E a fa) (hb:ME X E b fb):ME X E (.IfExp c a b pos) (aeo ga fa fb):=by
 refine PE.weak (aim hc ha hb) fun σ H Q ⟨ι,τ,h,S,Rh,o⟩=>?_
 refine ⟨ι,τ,h,S,Rh,cj o fun d h1 ι1 H1 v g1 r1 hr1 o1=>?_⟩
 cases r1
 cases d with
 | true=>exact ⟨ι1,τ,h1,S.mono g1,hr1,o1⟩
 | false=>exact ⟨ι1,τ,h1,S.mono g1,hr1,o1⟩
def d7:SA:=fun _ h=>.ok [] h
def aj (f:SE) (g:SA):SA:=fun τ h=>(f τ h).bind fun d h1=>(g τ h1).bind fun ds h2=>.ok (d::ds) h2
variable {es:List Expr} {ka:SA}
theorem az:MA X E [] d7:=PA.weak a66 fun σ H Q ⟨ι,τ,h,S,Rh,o⟩=>o ι H [] (.refl _ _) .nil Rh
theorem aa (ha:ME X E e fa) (hr:MA X E es ka) (hs:starEach (e::es) X.env=(false,eval e X.env)::starEach es X.env:=by rfl):MA X E (e::es) (aj fa ka):=by
 refine PA.weak (a1k ha hr hs) fun σ H Q ⟨ι,τ,h,S,Rh,o⟩=>?_
 refine ⟨ι,τ,h,S,Rh,cj o fun d h1 ι1 H1 v g1 r1 hr1 o1=>?_⟩
 refine ⟨ι1,τ,h1,S.mono g1,hr1,cj o1 fun d2 h2 ι2 H2 u g2 r2 hr2 o2=>?_⟩
 exact o2 ι2 H2 _ (.refl _ _) (.cons (r1.mono g2) r2) hr2
def yc (ds:List D) (h:Hd):R D:=if ds.length≤LINE then .ok (.tup ds) h else .no
def a0v (ds:List D) (h:Hd):R D:=if ds.length≤LINE then .ok (.ref h.length) (h++[.lst ds]) else .no
def sA (g:List D→Hd→R D) (k:SA):SE:=fun τ h=>(k τ h).bind g
theorem a0l {K:PySem.W.Frag} {ι:List Addr} {H:Hp} {h:Hd} {vs:List V} {ds:List D} {Q:VK} (r:Reps K ι H vs ds) (hr:HRep K ι H h) (o:out K E (xf K) ι H (.ok (.tup ds) h) Q):∀ p,H p=none→Q (.ref p) (upd H p (.tup vs)):=fun p hp =>
 o ι _ _ (ye hp _) (.tup jq (r.mono (ye hp _))) (hr.aside hp _)
theorem p7 {K:PySem.W.Frag} {ι:List Addr} {H:Hp} {h:Hd} {vs:List V} {ds:List D} {Q:VK} (r:Reps K ι H vs ds) (hr:HRep K ι H h) (o:out K E (xf K) ι H (.ok (.ref h.length) (h++[.lst ds])) Q):∀ p,H p=none→Q (.ref p) (upd H p (.lst vs)):=fun p hp =>
 o (ι++[p]) _ _ (afq hp _) (.ref (by rw [List.getElem?_append_right (by rw [hr.len];exact Nat.le_refl _),hr.len];simp)) (hr.add hp ⟨_,jq,r.mono (afq hp _)⟩)
theorem anp {K:PySem.W.Frag} {ι:List Addr} {H:Hp} {h:Hd} {i:Nat} {a:Addr} {vs:List V} {ds:List D} {d:D} {v:V} {Q:VK} (r:Reps K ι H vs ds) (hr:HRep K ι H h) (hi:ι[i]? = some a) (rd:Rep K ι H v d) (o:out K E (xf K) ι H (.ok d (h.set i (.lst ds))) Q):Q v (upd H a (.lst vs)) :=
 o ι _ _ (a1d hr hi _) (rd.mono (a1d hr hi _)) (hr.put hi ⟨_,jq,r.mono (a1d hr hi _)⟩)
theorem uh {x1} (h:MA X E es ka):ME X E (.Tuple es x1 pos) (sA yc ka):=by
 refine PE.weak (aqu h) fun σ H Q ⟨ι,τ,h,S,Rh,o⟩=>?_
 refine ⟨ι,τ,h,S,Rh,cj o fun d h1 ι1 H1 v g1 r1 hr1 o1=>?_⟩
 unfold yc at o1
 split at o1
 ·rename_i hl
  exact ⟨ll (by rw [r1.len];exact hl),a0l r1 hr1 o1⟩
 ·exact o1.elim
theorem zr (h:MA X E es ka):ME X E (.List es pos) (sA a0v ka):=by
 refine PE.weak (aqv h) fun σ H Q ⟨ι,τ,h,S,Rh,o⟩=>?_
 refine ⟨ι,τ,h,S,Rh,cj o fun d h1 ι1 H1 v g1 r1 hr1 o1=>?_⟩
 unfold a0v at o1
 split at o1
 ·rename_i hl
  exact ⟨ll (by rw [r1.len];exact hl),p7 r1 hr1 o1⟩
 ·exact o1.elim
theorem qd {x:Str} {p:Pos} {id:String} {r:List V→Hp→VK→Prop} {g:List D→Hd→R D} (hc:CallR X (.builtin id) r) (hs:abf X.K g r) (hg:Gl X x) (hm:X.mg x=none) (hv:bootBuiltins x=some (.builtin id)) (ha:MA X E (e::es) ka) (hn:x ≠ "__name__":=by decide) (hdb:(x == ("__debug__" : Str))=false:=by decide)
  (he:starEach (e::es) X.env=(false,eval e X.env)::starEach es X.env:=by rfl) (hpl:(backTo pos (starEach es X.env)).any (·.1)=false:=by rfl):ME X E (.Call (.Name x p) (e::es) [] pos) (sA g ka):=by
 refine PE.weak (a6v hc hg hm hv ha hn hdb he hpl) fun σ H Q ⟨ι,τ,h,S,Rh,o⟩=>?_
 exact ⟨ι,τ,h,S,Rh,cj o fun d h1 ι1 H1 v g1 r1 hr1 o1=>hs E ι1 H1 h1 v d Q r1 hr1 o1⟩
theorem vo {x:Str} {p:Pos} {id:String} {r:List V→Hp→VK→Prop} {g:List D→Hd→R D} (hc:CallR X (.type id) r) (hs:abf X.K g r) (hg:Gl X x) (hm:X.mg x=none) (hv:bootBuiltins x=some (.type id)) (ha:MA X E (e::es) ka) (hn:x ≠ "__name__":=by decide) (hdb:(x == ("__debug__" : Str))=false:=by decide)
  (he:starEach (e::es) X.env=(false,eval e X.env)::starEach es X.env:=by rfl) (hpl:(backTo pos (starEach es X.env)).any (·.1)=false:=by rfl):ME X E (.Call (.Name x p) (e::es) [] pos) (sA g ka):=by
 refine PE.weak (a8g hc hg hm hv ha hn hdb he hpl) fun σ H Q ⟨ι,τ,h,S,Rh,o⟩=>?_
 exact ⟨ι,τ,h,S,Rh,cj o fun d h1 ι1 H1 v g1 r1 hr1 o1=>hs E ι1 H1 h1 v d Q r1 hr1 o1⟩
end
end MI
namespace MI
open PySem L2
def iz (f g:SS):SS:=fun τ h=>match f τ h with | .nx τ1 h1=>g τ1 h1 | r=>r
def sNx:SS:=fun τ h=>.nx τ h
def yf (f:SE):SS:=fun τ h=>(f τ h).fl fun d h1=>.rt d h1
def a0i (f:SE):SS:=fun τ h=>(f τ h).fl fun _ h1=>.nx τ h1
def sIf (c:ST) (f g:SS):SS:=fun τ h=>(c τ h).fl fun b h1=>if b=true then f τ h1 else g τ h1
def kj (i:Nat) (f:SE):SS:=fun τ h=>(f τ h).fl fun d h1=>.nx (τ.set i (some d)) h1
def aep (i:Nat) (g:D→D→Hd→R D) (f:SE):SS:=fun τ h=>match τ[i]? with
 | some (some x)=>(f τ h).fl fun y h1=>(g x y h1).fl fun z h2=>.nx (τ.set i (some z)) h2
 | _=>.no
section
variable {X:Cx} {E:XD} {e o:Expr} {es:List Expr} {fa fb fc:SE} {ga:ST} {st:Stmt} {sts a b:List Stmt} {f g:SS} {pos:Pos}
theorem jz:MSs X E [] sNx:=PSs.weak amk fun N σ H ⟨ι,τ,h,S,Rh,o⟩=>o ι H σ (.refl _ _) S Rh
theorem arn {K:PySem.W.Frag} {N:Ends} {σ:St} {H:Hp} (q:a74 K E (iz f g) N σ H):a74 K E f { N with nx:=a74 K E g N } σ H:=by
 obtain ⟨ι,τ,h,S,Rh,o⟩:=q
 refine ⟨ι,τ,h,S,Rh,?_⟩
 unfold iz at o
 cases hf:f τ h with
 | nx τ1 h1 =>
  rw [hf] at o
  exact fun ι1 H1 σ1 g1 S1 R1=>⟨ι1,τ1,h1,S1,R1,rm o g1⟩
 | _=>rw [hf] at o;exact o
theorem au (h1:MS X E st f) (h2:MSs X E sts g):MSs X E (st::sts) (iz f g):=PSs.weak (ain h1 h2) fun N σ H q=>arn q
theorem cu (h1:MS X E st f):MSs X E [st] f:=aml h1
theorem lz (he:ME X E e fa):MS X E (.Return (some e) pos) (yf fa):=by
 refine PS.weak (aqg he) fun N σ H ⟨ι,τ,h,S,Rh,o⟩=>?_
 exact ⟨ι,τ,h,S,Rh,wu o fun d h1 ι1 H1 v g1 r1 hr1 o1=>o1 ι1 H1 v (.refl _ _) r1 hr1⟩
theorem a2u (he:ME X E e fa) (hs:swapsWith e none pos.line X.env=pure false:=by rfl):MS X E (.Expr e pos) (a0i fa):=by
 refine PS.weak (amm he hs) fun N σ H ⟨ι,τ,h,S,Rh,o⟩=>?_
 exact ⟨ι,τ,h,S,Rh,wu o fun d h1 ι1 H1 v g1 r1 hr1 o1=>o1 ι1 H1 σ (.refl _ _) (S.mono g1) hr1⟩
theorem zb {c:Expr} (hc:MT X E c ga) (ha:MSs X E a f) (hb:MSs X E b g):MS X E (.If c a b pos) (sIf ga f g):=by
 refine PS.weak (auz hc ha hb) fun N σ H ⟨ι,τ,h,S,Rh,o⟩=>?_
 refine ⟨ι,τ,h,S,Rh,wu o fun d h1 ι1 H1 v g1 r1 hr1 o1=>?_⟩
 cases r1
 cases d with
 | true=>exact ⟨ι1,τ,h1,S.mono g1,hr1,o1⟩
 | false=>exact ⟨ι1,τ,h1,S.mono g1,hr1,o1⟩
theorem fu {i:Nat} {x:Str} {pos':Pos} (hN:X.N.Nodup) (hi:X.N[i]? = some x) (hx:Loc X.env.scope x) (he:ME X E e fa) (hs:swapsWith e (some (.Name x pos')) pos.line X.env=pure false:=by rfl) (hf:X.fn x=true∨X.env.scope.names.lookup x=some .local:=by first | exact .inl rfl | exact .inr rfl | assumption) :
  MS X E (.Assign [.Name x pos'] e pos) (kj i fa):=by
 refine PS.weak (aqi hN hi hx he hs hf) fun N σ H ⟨ι,τ,h,S,Rh,o⟩=>?_
 exact ⟨ι,τ,h,S,Rh,wu o fun d h1 ι1 H1 v g1 r1 hr1 o1=>o1 ι1 H1 _ (.refl _ _) ((S.mono g1).set r1 i) hr1⟩
theorem aro {i:Nat} {x:Str} {op:Operator} {r:R2} {gg:D→D→Hd→R D} {pos':Pos} (hN:X.N.Nodup) (hi:X.N[i]? = some x) (hx:Loc X.env.scope x) (ho:OpR X (inplaceOp op) r) (hs:a2b X.K gg r) (he:ME X E e fa) (hf:X.fn x=true∨X.env.scope.names.lookup x=some .local:=by first | exact .inl rfl | exact .inr rfl | assumption) :
  MS X E (.AugAssign (.Name x pos') op e pos) (aep i gg fa):=by
 refine PS.weak (aqj hN hi hx he ho hf) fun N σ H ⟨ι,τ,h,S,Rh,o⟩=>?_
 unfold aep at o
 split at o
 ·rename_i d ed
  obtain ⟨v,h1,h2⟩:=S.val i d ed
  refine ⟨v,h1,ι,τ,h,S,Rh,wu o fun d2 h3 ι1 H1 u g1 r1 hr1 o1=>?_⟩
  refine hs E ι1 H1 h3 v u d d2 _ (h2.mono g1) r1 hr1 (wu o1 fun d3 h4 ι2 H2 z g2 r2 hr2 o2=>?_)
  exact o2 ι2 H2 _ (.refl _ _) (((S.mono g1).mono g2).set r2 i) hr2
 ·exact o.elim
def put (o k v:D) (h:Hd):Option Hd:=match o,k with
 | .ref i, .int j=>match h[i]? with
  | some (.lst xs)=>match ixN xs.length j with
   | some m=>some (h.set i (.lst (xs.set m v)))
   | none=>none
  | _=>none
 | _,_=>none
theorem anq {K:PySem.W.Frag} {ι:List Addr} {H:Hp} {h h':Hd} {o k v:V} {od kd vd:D} {Q:Hp→Prop} (r1:Rep K ι H o od) (r2:Rep K ι H k kd) (r3:Rep K ι H v vd) (hr:HRep K ι H h) (e:put od kd vd h=some h')
  (q:∀ H',Gr ι H ι H'→HRep K ι H' h'→Q H'):ar3 o k v H Q:=by
 cases r1 with
 | @ref a i ha =>
  cases r2 with
  | int j =>
   obtain ⟨ob,h1,h2⟩:=hr.at ha
   cases ob with
   | lst xs =>
    obtain ⟨vs,h3,h4⟩:=h2
    simp only [put,h1] at e
    cases hm:ixN xs.length j with
    | none=>rw [hm] at e;cases e
    | some m =>
     rw [hm] at e
     cases e
     exact ⟨a,vs,j,m,rfl,rfl,h3,by rw [h4.len];exact hm,q _ (a1d hr ha _) (hr.put ha ⟨_,jq,(h4.set r3 m).mono (a1d hr ha _)⟩)⟩
   | dK _=>simp only [put,h1] at e;cases e
   | dT _=>simp only [put,h1] at e;cases e
  | _=>cases e
 | _=>cases e
def aa6 (fe fo fi:SE):SS:=fun τ h=>(fe τ h).fl fun v h1=>(fo τ h1).fl fun o h2=>(fi τ h2).fl fun k h3=>match put o k v h3 with | some h4=>.nx τ h4 | none=>.no
theorem a8n {i:Expr} {pos':Pos} (he:ME X E e fa) (ho:ME X E o fb) (hi:ME X E i fc)
  (hs:swapsWithSole [.Subscript o i pos'] e pos.line X.env=pure false:=by rfl) (hw:swappedStores [.Subscript o i pos'] e X.env=pure none:=by rfl)
  (h1:(assignEach [.Subscript o i pos'] X.env).map (·.2)=[assign (.Subscript o i pos') X.env]:=by rfl)
  (ha:∀ v,assign (.Subscript o i pos') X.env v=(do
   let ov ← holding [v] (eval o X.env)
   let iv ← holding [v,ov] (eval i X.env)
   standAt pos'
   holding [v,ov,iv] (setItem ov iv v)
   release [v,ov,iv] []):=by intro _;rfl):MS X E (.Assign [.Subscript o i pos'] e pos) (aa6 fa fb fc):=by
 refine PS.weak (aky he (aqh ho hi set_list ha) hs hw h1) fun N σ H ⟨ι,τ,h,S,Rh,oo⟩=>?_
 refine ⟨ι,τ,h,S,Rh,wu oo fun d h1 ι1 H1 v g1 r1 hr1 o1=>?_⟩
 refine ⟨ι1,τ,h1,S.mono g1,hr1,wu o1 fun d2 h2 ι2 H2 u g2 r2 hr2 o2=>?_⟩
 refine ⟨ι2,τ,h2,(S.mono g1).mono g2,hr2,wu o2 fun d3 h3 ι3 H3 w g3 r3 hr3 o3=>?_⟩
 cases hp:put d2 d3 d h3 with
 | none=>rw [hp] at o3;exact o3.elim
 | some h4 =>
  rw [hp] at o3
  exact anq (r2.mono g3) r3 ((r1.mono g2).mono g3) hr3 hp fun H' g4 hr4=>o3 ι3 H' σ g4 ((((S.mono g1).mono g2).mono g3).mono g4) hr4
def sWh (c:ST) (f:SS):Nat→SS
 | 0,_,_=>.no
 | n+1,τ,h=>(c τ h).fl fun b h1=>if b=true then (match f τ h1 with | .nx τ2 h2=>sWh c f n τ2 h2 | .ct τ2 h2=>sWh c f n τ2 h2 | .bk τ2 h2=>.nx τ2 h2 | r=>r) else .nx τ h1
theorem abi (n:Nat) {c:Expr} (hp:PassesOwn (model X.prog X.w) X.A X.env X.xe) (hc:MT X E c ga) (hb:MSs X E a f):MS X E (.While c a [] pos) (sWh ga f n):=by
 refine PS.weak (aio hp hc hb) fun N σ H q=>?_
 refine ⟨fun m σ H=>a74 X.K E (sWh ga f m) N σ H,⟨n,q⟩,?_⟩
 rintro m σ1 H1 ⟨ι,τ,h,S,Rh,o⟩
 cases m with
 | zero=>exact o.elim
 | succ m =>
  refine ⟨ι,τ,h,S,Rh,wu o fun d h1 ι1 H1 v g1 r1 hr1 o1=>?_⟩
  cases r1
  cases d with
  | false=>exact o1 ι1 H1 _ (.refl _ _) (S.mono g1) hr1
  | true =>
   refine ⟨fun σ' H'=>a74 X.K E (sWh ga f m) N σ' H',fun σ' H' q=>⟨m,Nat.lt_succ_self m,q⟩,ι1,τ,h1,S.mono g1,hr1,?_⟩
   rw [if_pos rfl] at o1
   cases hf:f τ h1 with
   | nx τ2 h2=>rw [hf] at o1;exact fun ι2 H2 σ2 g2 S2 R2=>⟨ι2,τ2,h2,S2,R2,rm o1 g2⟩
   | ct τ2 h2=>rw [hf] at o1;exact fun ι2 H2 σ2 g2 S2 R2=>⟨ι2,τ2,h2,S2,R2,rm o1 g2⟩
   | bk τ2 h2=>rw [hf] at o1;exact o1
   | rt d h2=>rw [hf] at o1;exact o1
   | ex c h2=>rw [hf] at o1;exact o1
   | no=>rw [hf] at o1;exact o1.elim
end
abbrev SG:=D→Sd→Hd→Fl
def anr (K:PySem.W.Frag) (E:XD) (g:SG):TG:=fun v σ H Q=>∃ ι τ h d,Rep K ι H v d∧SRep K ι H σ τ∧HRep K ι H h∧aie K E ι H (g d τ h) { nx:=Q,rt:=fun _ _=>False }
abbrev MG (X:Cx) (E:XD) (tg:Expr) (g:SG):Prop:=PG X tg (anr X.K E g)
abbrev SGs:=List D→Sd→Hd→Fl
def afs (K:PySem.W.Frag) (E:XD) (g:SGs):TGs:=fun vs σ H Q=>∃ ι τ h ds,Reps K ι H vs ds∧SRep K ι H σ τ∧HRep K ι H h∧aie K E ι H (g ds τ h) { nx:=Q,rt:=fun _ _=>False }
abbrev MGs (X:Cx) (E:XD) (tg:List Expr) (g:SGs):Prop:=PGs X tg (afs X.K E g)
theorem PG.weak {X:Cx} {e:Expr} {t t':TG} (h:PG X e t) (i:∀ v σ H Q,t' v σ H Q→t v σ H Q):PG X e t':=fun pins s σ H v u Q I r q=>h pins s σ H v u Q I r (i _ _ _ _ q)
theorem PGs.weak {X:Cx} {e:List Expr} {t t':TGs} (h:PGs X e t) (i:∀ v σ H Q,t' v σ H Q→t v σ H Q):PGs X e t':=fun pins s σ H v u Q I r q=>h pins s σ H v u Q I r (i _ _ _ _ q)
def kN (i:Nat):SG:=fun d τ h=>.nx (τ.set i (some d)) h
def a4p:SGs:=fun ds τ h=>match ds with | []=>.nx τ h | _=>.no
def jx (g:SG) (k:SGs):SGs:=fun ds τ h=>match ds with | d::r=>(match g d τ h with | .nx τ1 h1=>k r τ1 h1 | _=>.no) | []=>.no
def a3x (n:Nat) (k:SGs):SG:=fun d τ h=>match d with | .tup ds=>if ds.length=n then k ds τ h else .no | _=>.no
section
variable {X:Cx} {E:XD} {e:Expr} {es:List Expr} {fa:SE} {pos:Pos} {g:SG} {ks:SGs}
theorem jg {i:Nat} {x:Str} (hN:X.N.Nodup) (hi:X.N[i]? = some x) (hx:Loc X.env.scope x) (hf:X.fn x=true∨X.env.scope.names.lookup x=some .local:=by first | exact .inl rfl | exact .inr rfl | assumption):MG X E (.Name x pos) (kN i) :=
 PG.weak (jj hN hi hx hf) fun v σ H Q ⟨ι,τ,h,d,r,S,Rh,o⟩=>o ι H _ (.refl _ _) (S.set r i) Rh
theorem a2v:MGs X E [] a4p:=by
 refine PGs.weak a9t fun vs σ H Q ⟨ι,τ,h,ds,r,S,Rh,o⟩=>?_
 cases r with
 | nil=>exact ⟨rfl,o ι H σ (.refl _ _) S Rh⟩
 | cons _ _=>exact o.elim
theorem aj3 {K:PySem.W.Frag} {vs:List V} {σ:St} {H:Hp} {Q:St→Hp→Prop} (q:afs K E (jx g ks) vs σ H Q):a9s (anr K E g) (afs K E ks) vs σ H Q:=by
 obtain ⟨ι,τ,h,ds,r,S,Rh,o⟩:=q
 cases r with
 | nil=>exact o.elim
 | @cons v d vs ds r rs =>
  refine ⟨v,vs,rfl,ι,τ,h,d,r,S,Rh,?_⟩
  simp only [jx] at o
  cases hg:g d τ h with
  | nx τ1 h1 =>
   rw [hg] at o
   exact fun ι1 H1 σ1 g1 S1 R1=>⟨ι1,τ1,h1,ds,rs.mono g1,S1,R1,rm o g1⟩
  | _=>rw [hg] at o;exact o.elim
theorem a6b {k n:Nat} (hc:X.calm=true) (h:MGs X E es ks) (hn:(assignEach es X.env).length=n:=by rfl) (hst:(assignEach es X.env).findIdx? (·.1)=none:=by rfl):MG X E (.Tuple es k pos) (a3x n ks):=by
 refine PG.weak (aex hc h hn hst) fun v σ H Q ⟨ι,τ,h,d,r,S,Rh,o⟩=>?_
 cases r with
 | @tup a vs xs e rs =>
  simp only [a3x] at o
  by_cases hl:xs.length=n
  ·rw [if_pos hl] at o
   exact ⟨a,vs,rfl,SqT.of e,by rw [rs.len];exact hl,ι,τ,h,xs,rs,S,Rh,o⟩
  ·rw [if_neg hl] at o;exact o.elim
 | _=>exact o.elim
def a88 (f:SE) (g:SG):SS:=fun τ h=>(f τ h).fl fun d h1=>match g d τ h1 with | .nx τ2 h2=>.nx τ2 h2 | _=>.no
theorem abj {tg:Expr} (he:ME X E e fa) (hg:MG X E tg g) (hs:swapsWithSole [tg] e pos.line X.env=pure false:=by rfl) (hw:swappedStores [tg] e X.env=pure none:=by rfl)
  (h1:(assignEach [tg] X.env).map (·.2)=[assign tg X.env]:=by rfl):MS X E (.Assign [tg] e pos) (a88 fa g):=by
 refine PS.weak (aky he hg hs hw h1) fun N σ H ⟨ι,τ,h,S,Rh,o⟩=>?_
 refine ⟨ι,τ,h,S,Rh,wu o fun d h1 ι1 H1 v g1 r1 hr1 o1=>⟨ι1,τ,h1,d,r1,S.mono g1,hr1,?_⟩⟩
 cases hg:g d τ h1 with
 | nx τ1 h1=>rw [hg] at o1;exact o1
 | _=>rw [hg] at o1;exact o1.elim
end
structure Itm where
 xs:List D
 ck:Hd→Prop
def alc (K:PySem.W.Frag) (ι0:List Addr) (H0:Hp) (J:It) (it:Itm):Prop:=∀ ι H h,Gr ι0 H0 ι H→HRep K ι H h→it.ck h →
 (∀ (i:Nat) (d:D),it.xs[i]? = some d→J.go i H∧∀ x H',J.yld i H x H'→Gr ι H ι H'∧Rep K ι H' x d∧HRep K ι H' h)∧J.stop it.xs.length H
abbrev arp (K:PySem.W.Frag):List Addr→Hp→It→Itm→Prop:=fun ι H J it=>alc K ι H J it
abbrev SI:=Sd→Hd→R Itm
abbrev MI (X:Cx) (E:XD) (tg iter:Expr) (f:SI):Prop:=PI X tg iter (lift X.K E (arp X.K) f)
def zu (x:Str):List D:=x.cps.toList.map fun c=>D.str ⟨#[c]⟩
def aeq (d:D) (h:Hd):R Itm:=match d with
 | .tup xs=>.ok ⟨xs,fun _=>True⟩ h
 | .rol xs=>.ok ⟨xs,fun _=>True⟩ h
 | .str x=>.ok ⟨zu x,fun _=>True⟩ h
 | .ref i=>match h[i]? with
  | some (.lst xs)=>.ok ⟨xs,fun h=>h[i]? = some (.lst xs)⟩ h
  | _=>.no
 | _=>.no
def sIt (f:SE):SI:=fun τ h=>(f τ h).bind aeq
theorem ald {K:PySem.W.Frag} {ι0:List Addr} {H0:Hp} {a:Addr} {xs:List D} {ck:Hd→Prop} (hl:∀ ι H h,Gr ι0 H0 ι H→HRep K ι H h→ck h→∃ vs,SqL K H a vs∧Reps K ι H vs xs):alc K ι0 H0 (Itl K a) ⟨xs,ck⟩:=by
 intro ι H h g hr c
 obtain ⟨vs,h1,h2⟩:=hl ι H h g hr c
 refine ⟨fun i d e=>?_,⟨vs,h1,by rw [h2.len];exact Nat.le_refl _⟩⟩
 obtain ⟨v,e1,r⟩:=h2.get e
 refine ⟨⟨vs,v,h1,e1⟩,fun x H' y=>?_⟩
 obtain ⟨rfl,y⟩:=y
 have:=y vs h1
 rw [e1] at this;cases this
 exact ⟨.refl _ _,r,hr⟩
theorem qx {X:Cx} {E:XD} {tg l:Expr} {f:SE} (hl:ME X E l f):MI X E tg l (sIt f):=by
 intro pins s σ H Rr I ⟨ι,τ,h,S,Rh,o⟩
 unfold sIt at o
 cases hf:f τ h with
 | no=>rw [hf] at o;exact o.elim
 | ex c h1 =>
  rw [hf] at o
  exact al7 hl pins s σ H Rr I ⟨ι,τ,h,S,Rh,by rw [hf];exact o⟩
 | ok d h1 =>
  rw [hf] at o
  cases d with
  | tup xs =>
   refine aql hl pins s σ H Rr I ⟨ι,τ,h,S,Rh,?_⟩
   rw [hf]
   intro ι1 H1 v g1 r1 hr1
   cases r1 with
   | @tup a vs _ e rs =>
    refine ⟨a,rfl,⟨vs,SqT.of e⟩,o ι1 H1 _ g1 ?_ hr1⟩
    intro ι2 H2 h2 g2 hr2 _
    have e2:=g2.tup _ _ e
    have rs2:=rs.mono g2
    refine ⟨fun i d ed=>?_,⟨vs,SqT.of e2,by rw [rs2.len];exact Nat.le_refl _⟩⟩
    obtain ⟨v,e1,r⟩:=rs2.get ed
    refine ⟨⟨vs,v,SqT.of e2,e1⟩,fun x H' y=>?_⟩
    obtain ⟨rfl,y⟩:=y
    have:=y vs (SqT.of e2)
    rw [e1] at this;cases this
    exact ⟨.refl _ _,r,hr2⟩
  | rol xs =>
   refine aez hl pins s σ H Rr I ⟨ι,τ,h,S,Rh,?_⟩
   rw [hf]
   intro ι1 H1 v g1 r1 hr1
   cases r1 with
   | @rol a vs _ e rs =>
    refine ⟨a,rfl,⟨vs,e.l⟩,o ι1 H1 _ g1 ?_ hr1⟩
    exact ald (fun ι2 H2 h2 g2 hr2 _=>⟨vs,(e.mono g2).l,rs.mono g2⟩)
  | str x =>
   refine al7 hl pins s σ H Rr I ⟨ι,τ,h,S,Rh,?_⟩
   rw [hf]
   intro ι1 H1 v g1 r1 hr1
   cases r1
   refine ⟨x,rfl,o ι1 H1 _ g1 ?_ hr1⟩
   intro ι2 H2 h2 g2 hr2 _
   refine ⟨fun i d ed=>?_,by show (zu x).length=_;simp [zu]⟩
   simp only [zu,List.getElem?_map,Option.map_eq_some_iff] at ed
   obtain ⟨c,ec,rfl⟩:=ed
   refine ⟨by show i<x.cps.size;have:=(List.getElem?_eq_some_iff.mp ec).1;simpa using this,fun y H' q=>?_⟩
   obtain ⟨rfl,c',ec',rfl⟩:=q
   rw [ec] at ec';cases ec'
   exact ⟨.refl _ _, .str _,hr2⟩
  | ref i =>
   simp only [R.bind,aeq] at o
   cases ho:h1[i]? with
   | none=>rw [ho] at o;exact o.elim
   | some ob =>
    rw [ho] at o
    cases ob with
    | dK _=>exact o.elim
    | dT _=>exact o.elim
    | lst xs =>
     refine aez hl pins s σ H Rr I ⟨ι,τ,h,S,Rh,?_⟩
     rw [hf]
     intro ι1 H1 v g1 r1 hr1
     cases r1 with
     | @ref a _ e =>
      obtain ⟨vs,e1,rs⟩:=hr1.obj i a _ e ho
      refine ⟨a,rfl,⟨vs,SqL.of e1⟩,o ι1 H1 _ g1 ?_ hr1⟩
      refine ald (fun ι2 H2 h2 g2 hr2 c=>?_)
      obtain ⟨us,e3,rs3⟩:=hr2.obj i a _ (g2.at e) c
      exact ⟨us,SqL.of e3,rs3⟩
  | _=>exact o.elim
def rng (lo:Int) (n:Nat):List D:=(List.range n).map fun i=>D.int (lo+(i:Nat))
def B62 (j:Int):Prop := -(2 ^ 62)≤j∧j<2 ^ 62
instance (j:Int):Decidable (B62 j):=by unfold B62;exact inferInstance
def zx (ds:List D) (h:Hd):R Itm:=match ds with
 | [.int j]=>if B62 j then .ok ⟨rng 0 j.toNat,fun _=>True⟩ h else .no
 | _=>.no
def a5w (ds:List D) (h:Hd):R Itm:=match ds with
 | [.int i, .int j]=>if B62 i∧B62 j then .ok ⟨rng i (j - i).toNat,fun _=>True⟩ h else .no
 | _=>.no
def sRg (g:List D→Hd→R Itm) (k:SA):SI:=fun τ h=>(k τ h).bind g
theorem ale {K:PySem.W.Frag} {ι0:List Addr} {H0:Hp} (lo:Int) (n:Nat):alc K ι0 H0 (Itr lo n) ⟨rng lo n,fun _=>True⟩:=by
 intro ι H h g hr _
 refine ⟨fun i d ed=>?_,by show n≤(rng lo n).length;simp [rng]⟩
 simp only [rng,List.getElem?_map,Option.map_eq_some_iff] at ed
 obtain ⟨j,ej,rfl⟩:=ed
 obtain ⟨hj,e⟩:=List.getElem?_eq_some_iff.mp ej
 simp at e hj
 subst e
 refine ⟨hj,fun y H' q=>?_⟩
 obtain ⟨rfl,rfl⟩:=q
 exact ⟨.refl _ _, .int _,hr⟩
theorem a0m {X:Cx} {E:XD} {tg a:Expr} {k:SA} {p pos:Pos} (hg:Gl X "range") (hm:X.mg "range" = none) (ha:MA X E [a] k) (hs:starEach [a] X.env=[(false,eval a X.env)]:=by rfl):MI X E tg (.Call (.Name "range" p) [a] [] pos) (sRg zx k):=by
 intro pins s σ H Rr I ⟨ι,τ,h,S,Rh,o⟩
 refine af0 hg hm ha hs pins s σ H Rr I ⟨ι,τ,h,S,Rh,cj o fun ds h1 ι1 H1 vs g1 r1 hr1 o1=>?_⟩
 unfold zx at o1
 split at o1
 ·rename_i j
  cases r1 with
  | cons r rs =>
   cases r;cases rs
   by_cases hb:B62 j
   ·rw [if_pos hb] at o1
    exact ⟨j,rfl,hb.1,hb.2,o1 ι1 H1 _ (.refl _ _) (ale 0 j.toNat) hr1⟩
   ·rw [if_neg hb] at o1;exact o1.elim
 ·exact o1.elim
theorem aft {X:Cx} {E:XD} {tg a b:Expr} {k:SA} {p pos:Pos} (hg:Gl X "range") (hm:X.mg "range" = none) (ha:MA X E [a,b] k) (hs:starEach [a,b] X.env=[(false,eval a X.env),(false,eval b X.env)]:=by rfl) (hs2:starEach [b] X.env=[(false,eval b X.env)]:=by rfl):MI X E tg (.Call (.Name "range" p) [a,b] [] pos) (sRg a5w k):=by
 intro pins s σ H Rr I ⟨ι,τ,h,S,Rh,o⟩
 refine af1 hg hm ha hs hs2 pins s σ H Rr I ⟨ι,τ,h,S,Rh,cj o fun ds h1 ι1 H1 vs g1 r1 hr1 o1=>?_⟩
 unfold a5w at o1
 split at o1
 ·rename_i i j
  cases r1 with
  | cons r rs =>
   cases r
   cases rs with
   | cons r rs =>
   cases r;cases rs
   by_cases hb:B62 i∧B62 j
   ·rw [if_pos hb] at o1
    exact ⟨i,j,rfl,⟨hb.1.1,hb.1.2,hb.2.1,hb.2.2⟩,o1 ι1 H1 _ (.refl _ _) (ale i _) hr1⟩
   ·rw [if_neg hb] at o1;exact o1.elim
 ·exact o1.elim
open Classical in
noncomputable def forL (ck:Hd→Prop) (g:SG) (b:SS):List D→Sd→Hd→Fl
 | [],τ,h=>if ck h then .nx τ h else .no
 | x::xs,τ,h=>if ck h then (match g x τ h with
   | .nx τ1 h1=>(match b τ1 h1 with
    | .nx τ2 h2=>forL ck g b xs τ2 h2
    | .ct τ2 h2=>forL ck g b xs τ2 h2
    | .bk τ2 h2=>.nx τ2 h2
    | r=>r)
   | _=>.no) else .no
noncomputable def a4q (f:SI) (g:SG) (b:SS):SS:=fun τ h=>(f τ h).fl fun it h1=>forL it.ck g b it.xs τ h1
theorem ant {K:PySem.W.Frag} {E:XD} {ι0:List Addr} {H0:Hp} {J:It} {it:Itm} {g:SG} {b:SS} {N:Ends} {σ0:St} {τ0:Sd} {h0:Hd} (ir:alc K ι0 H0 J it) (S:SRep K ι0 H0 σ0 τ0) (Rh:HRep K ι0 H0 h0) (o:aie K E ι0 H0 (forL it.ck g b it.xs τ0 h0) N) :
  ∃ W:Nat→Nat→St→Hp→Prop,(∃ m,W 0 m σ0 H0)∧∀ i m σ H,W i m σ H →
   (J.stop i H∧N.nx σ H)∨(J.go i H∧∃ M:St→Hp→Prop,(∀ σ' H',M σ' H'→∃ m',m'<m∧W (i+1) m' σ' H')∧∀ x H',J.yld i H x H'→anr K E g x σ H' fun σ2 H2=>a74 K E b { N with nx:=M,ct:=M,bk:=N.nx } σ2 H2):=by
 refine ⟨fun i m σ H=>m=it.xs.length - i∧i≤it.xs.length∧∃ ι τ h,Gr ι0 H0 ι H∧SRep K ι H σ τ∧HRep K ι H h∧aie K E ι H (forL it.ck g b (it.xs.drop i) τ h) N,⟨_,rfl,Nat.zero_le _,ι0,τ0,h0, .refl _ _,S,Rh,o⟩,?_⟩
 rintro i m σ H ⟨rfl,hi,ι,τ,h,g0,S,Rh,o⟩
 by_cases hlt:i<it.xs.length
 ·rw [List.drop_eq_getElem_cons hlt,forL] at o
  by_cases hc:it.ck h
  ·rw [if_pos hc] at o
   obtain ⟨go,yl⟩:=(ir ι H h g0 Rh hc).1 i _ (List.getElem?_eq_getElem hlt)
   refine .inr ⟨go,fun σ' H'=>it.xs.length - (i+1)<it.xs.length - i∧∃ ι τ h,Gr ι0 H0 ι H'∧SRep K ι H' σ' τ∧HRep K ι H' h∧aie K E ι H' (forL it.ck g b (it.xs.drop (i+1)) τ h) N,fun σ' H' q=>⟨_,q.1,rfl,hlt,q.2⟩,fun x H' y=>?_⟩
   obtain ⟨g1,r1,hr1⟩:=yl x H' y
   refine ⟨ι,τ,h,_,r1,S.mono g1,hr1,?_⟩
   have o':=rm o g1
   cases hg:g it.xs[i] τ h with
   | nx τ1 h1 =>
    rw [hg] at o'
    dsimp only at o'
    intro ι2 H2 σ2 g2 S2 R2
    refine ⟨ι2,τ1,h1,S2,R2,?_⟩
    have o2:=rm o' g2
    have gg:=(g0.trans g1).trans g2
    cases hb:b τ1 h1 with
    | nx τ2 h2=>rw [hb] at o2;exact fun ι3 H3 σ3 g3 S3 R3=>⟨by omega,ι3,τ2,h2,gg.trans g3,S3,R3,rm o2 g3⟩
    | ct τ2 h2=>rw [hb] at o2;exact fun ι3 H3 σ3 g3 S3 R3=>⟨by omega,ι3,τ2,h2,gg.trans g3,S3,R3,rm o2 g3⟩
    | bk τ2 h2=>rw [hb] at o2;exact o2
    | rt d h2=>rw [hb] at o2;exact o2
    | ex c h2=>rw [hb] at o2;exact o2
    | no=>rw [hb] at o2;exact o2.elim
   | _=>rw [hg] at o';exact o'.elim
  ·rw [if_neg hc] at o;exact o.elim
 ·have e:i=it.xs.length:=by omega
  subst e
  rw [List.drop_eq_nil_of_le (Nat.le_refl _),forL] at o
  by_cases hc:it.ck h
  ·rw [if_pos hc] at o
   exact .inl ⟨(ir ι H h g0 Rh hc).2,o ι H σ (.refl _ _) S Rh⟩
  ·rw [if_neg hc] at o;exact o.elim
theorem zy {X:Cx} {E:XD} {tg iter:Expr} {body:List Stmt} {f:SI} {g:SG} {b:SS} {pos:Pos} (hp:PassesOwn (model X.prog X.w) X.A X.env X.xe) (hc:X.calm=true) (hi:MI X E tg iter f) (hg:MG X E tg g) (hb:MSs X E body b) (hs:∀ x,foldedSetIterable iter X.env x=pure x:=by intro _;rfl):MS X E (.For tg iter body [] pos) (a4q f g b):=by
 refine PS.weak (aqm hp hc hi hg hb hs) fun N σ H ⟨ι,τ,h,S,Rh,o⟩=>?_
 exact ⟨ι,τ,h,S,Rh,wu o fun it h1 ι1 H1 J g1 r1 hr1 o1=>ant r1 (S.mono g1) hr1 o1⟩
end MI
namespace MI
open PySem PySem.Spec L2
theorem R.bind_assoc {α β γ:Type} (r:R α) (f:α→Hd→R β) (g:β→Hd→R γ):(r.bind f).bind g=r.bind fun a h=>(f a h).bind g:=by cases r<;>rfl
open Classical in
noncomputable def mapR (ck:Hd→Prop) (f:D→Hd→R D):List D→Hd→R (List D)
 | [],h=>if ck h then .ok [] h else .no
 | x::xs,h=>if ck h then (f x h).bind fun y h1=>(mapR ck f xs h1).bind fun ys h2=>.ok (y::ys) h2 else .no
open Classical in
noncomputable def aif (ck:Hd→Prop) (f:D→Hd→R (Option D)):List D→Hd→R (List D)
 | [],h=>if ck h then .ok [] h else .no
 | x::xs,h=>if ck h then (f x h).bind fun y h1=>(aif ck f xs h1).bind fun ys h2=>.ok (y.toList++ys) h2 else .no
def frs' (ix:List Nat) (τ:Sd):Sd:=ix.map fun i=>(τ[i]?).join
def t1 (d:D):Option Sd:=some [some d]
def tN (n:Nat) (d:D):Option Sd:=match d with | .tup ds=>if ds.length=n then some (ds.map some) else none | _=>none
def a76 (t:D→Option Sd) (fe:SE) (rest:Sd) (x:D) (h:Hd):R D:=match t x with | some ts=>fe (ts++rest) h | none=>.no
def aa7 (t:D→Option Sd) (c:ST) (fe:SE) (rest:Sd) (x:D) (h:Hd):R (Option D):=match t x with
 | some ts=>(c (ts++rest) h).bind fun b h1=>if b=true then (fe (ts++rest) h1).bind fun y h2=>.ok (some y) h2 else .ok none h1
 | none=>.no
def abk (yd zs:List D) (h:Hd):R D:=.ok (.ref h.length) (h++[.lst (yd++zs)])
theorem arq (r:R D) (m:Hd→R (List D)) (yd:List D):(r.bind fun y h1=>(m h1).bind fun ys h2=>.ok (y::ys) h2).bind (abk yd)=r.bind fun y h1=>(m h1).bind (abk (yd++[y])):=by
 cases r with
 | ok y h1 =>
  show ((m h1).bind _).bind _=(m h1).bind _
  cases m h1 with
  | ok ys h2=>simp [R.bind,abk]
  | _=>rfl
 | _=>rfl
theorem avr (r:R (Option D)) (m:Hd→R (List D)) (yd:List D):(r.bind fun y h1=>(m h1).bind fun ys h2=>.ok (y.toList++ys) h2).bind (abk yd)=r.bind fun y h1=>(m h1).bind (abk (yd++y.toList)):=by
 cases r with
 | ok y h1 =>
  show ((m h1).bind _).bind _=(m h1).bind _
  cases m h1 with
  | ok ys h2=>simp [R.bind,abk]
  | _=>rfl
 | _=>rfl
noncomputable def m7 (fi:SI) (t:D→Option Sd) (fe:SE) (ix:List Nat):SE:=fun τ h=>(fi τ h).bind fun it h1=>if it.xs.length≤LINE then (mapR it.ck (a76 t fe (frs' ix τ)) it.xs h1).bind (abk []) else .no
noncomputable def p6 (fi:SI) (t:D→Option Sd) (c:ST) (fe:SE) (ix:List Nat):SE:=fun τ h=>(fi τ h).bind fun it h1=>if it.xs.length≤LINE then (aif it.ck (aa7 t c fe (frs' ix τ)) it.xs h1).bind (abk []) else .no
def afu (K:PySem.W.Frag) (n:Nat) (g:TG) (t:D→Option Sd):Prop:=∀ ι H v d ts (r:St) (Q:St→Hp→Prop),Rep K ι H v d→t d=some ts→(∀ us:St,us.length=n→SRep K ι H us ts→Q (us++r) H)→g v (List.replicate n none++r) H Q
theorem a3y {K:PySem.W.Frag} {ι:List Addr} {H:Hp}:SRep K ι H [] []:=⟨rfl,fun i d e=>by simp at e⟩
theorem qe {K:PySem.W.Frag} {ι:List Addr} {H:Hp} {v:V} {d:D} {σ:St} {τ:Sd} (r:Rep K ι H v d) (s:SRep K ι H σ τ):SRep K ι H (some v::σ) (some d::τ):=by
 refine ⟨by simp [s.len],fun i d' e=>?_⟩
 cases i with
 | zero=>simp at e;subst e;exact ⟨v,rfl,r⟩
 | succ i=>simpa using s.val i d' (by simpa using e)
theorem a3z {K:PySem.W.Frag} {ι:List Addr} {H:Hp} {σ σ':St} {τ τ':Sd} (s:SRep K ι H σ τ) (s':SRep K ι H σ' τ'):SRep K ι H (σ++σ') (τ++τ'):=by
 refine ⟨by simp [s.len,s'.len],fun i d e=>?_⟩
 by_cases hi:i<τ.length
 ·rw [List.getElem?_append_left hi] at e
  rw [List.getElem?_append_left (by rw [s.len];exact hi)]
  exact s.val i d e
 ·rw [List.getElem?_append_right (by omega)] at e
  rw [List.getElem?_append_right (by rw [s.len];omega),s.len]
  exact s'.val _ d e
theorem a2c {K:PySem.W.Frag} {ι:List Addr} {H:Hp} {σ:St} {τ:Sd} (s:SRep K ι H σ τ) (ix:List Nat):SRep K ι H (ix.map fun i=>(σ[i]?).join) (frs' ix τ):=by
 refine ⟨by simp [frs'],fun j d e=>?_⟩
 simp only [frs',List.getElem?_map,Option.map_eq_some_iff] at e
 obtain ⟨i,hi,e⟩:=e
 have:τ[i]? = some (some d):=by
  cases q:τ[i]? with
  | none=>rw [q] at e;cases e
  | some o=>rw [q] at e;simp at e;rw [e]
 obtain ⟨v,h1,h2⟩:=s.val i d this
 exact ⟨v,by simp [hi,h1],h2⟩
theorem ww {K:PySem.W.Frag}:afu K 1 (a1c 0) t1:=fun ι H v d ts r Q hr e q=>by
 cases e
 exact q [some v] rfl (qe hr a3y)
theorem ars {K:PySem.W.Frag}:afu K 2 (L2.yc K 2 (a9s (a1c 0) (a9s (a1c 1) av1))) (tN 2):=fun ι H v d ts r Q hr e q=>by
 unfold tN at e
 cases hr with
 | @tup a vs xs h rs =>
  simp only at e
  split at e
  ·rename_i hl
   cases e
   match xs,hl,rs with
   | [_,_],_, .cons r1 (.cons r2 .nil)=>exact ⟨a,_,rfl,SqT.of h,rfl,_,_,rfl,_,_,rfl,rfl,q [some _,some _] rfl (qe r1 (qe r2 a3y))⟩
  ·cases e
 | _=>cases e
theorem aj4 {K:PySem.W.Frag}:afu K 3 (L2.yc K 3 (a9s (a1c 0) (a9s (a1c 1) (a9s (a1c 2) av1)))) (tN 3):=fun ι H v d ts r Q hr e q=>by
 unfold tN at e
 cases hr with
 | @tup a vs xs h rs =>
  simp only at e
  split at e
  ·rename_i hl
   cases e
   match xs,hl,rs with
   | [_,_,_],_, .cons r1 (.cons r2 (.cons r3 .nil))=>exact ⟨a,_,rfl,SqT.of h,rfl,_,_,rfl,_,_,rfl,_,_,rfl,rfl,q [some _,some _,some _] rfl (qe r1 (qe r2 (qe r3 a3y)))⟩
  ·cases e
 | _=>cases e
theorem afv {n:Nat} {us r:St} (h:us.length=n):L2.Ext (List.replicate n none++r) (us++r):=by
 refine ⟨by simp [h],fun i v e=>?_⟩
 by_cases hi:i<n
 ·rw [List.getElem?_append_left (by simpa using hi),List.getElem?_replicate,if_pos hi] at e
  cases e
 ·rw [List.getElem?_append_right (by simpa using hi),List.length_replicate] at e
  rw [List.getElem?_append_right (by omega),h]
  exact e
theorem abl {K:PySem.W.Frag} {E:XD} {ι0:List Addr} {H0:Hp} {J:It} {it:Itm} {g:TG} {t:D→Option Sd} {fe:SE} {n:Nat} {r:St} {rd:Sd} {h0:Hd} {Q:VK} (ir:alc K ι0 H0 J it) (tg:afu K n g t) (S:SRep K ι0 H0 r rd) (Rh:HRep K ι0 H0 h0) (hl:it.xs.length≤LINE)
  (o:out K E (xf K) ι0 H0 ((mapR it.ck (a76 t fe rd) it.xs h0).bind (abk [])) Q):ard J (List.replicate n none++r) g (lift K E (xf K) fe) Q H0:=by
 refine ⟨fun i m ys H=>m=it.xs.length - i∧i≤it.xs.length∧ys.length≤i∧∃ ι h yd,Gr ι0 H0 ι H∧HRep K ι H h∧Reps K ι H ys yd∧out K E (xf K) ι H ((mapR it.ck (a76 t fe rd) (it.xs.drop i) h).bind (abk yd)) Q,
  ⟨_,rfl,Nat.zero_le _,Nat.zero_le _,ι0,h0,[], .refl _ _,Rh, .nil,o⟩,?_⟩
 rintro i m ys H ⟨rfl,hi,hy,ι,h,yd,g0,Rh,ry,o⟩
 by_cases hlt:i<it.xs.length
 ·rw [List.drop_eq_getElem_cons hlt,mapR] at o
  by_cases hc:it.ck h
  ·rw [if_pos hc,arq] at o
   obtain ⟨go,yl⟩:=(ir ι H h g0 Rh hc).1 i _ (List.getElem?_eq_getElem hlt)
   refine .inr ⟨go,Nat.lt_of_le_of_lt hy (Nat.lt_of_lt_of_le hlt (ll hl)),fun x H' y=>?_⟩
   obtain ⟨g1,r1,hr1⟩:=yl x H' y
   have o':=wz o g1
   cases ht:t it.xs[i] with
   | none=>simp only [a76,ht] at o';exact o'.elim
   | some ts =>
    simp only [a76,ht] at o'
    refine tg ι H' x _ ts r _ r1 ht fun us hus su=>⟨afv hus,ι,ts++rd,h,a3z su (S.mono (g0.trans g1)),hr1,cj o' fun d2 h2 ι2 H2 u g2 r2 hr2 o2=>?_⟩
    refine ⟨it.xs.length - (i+1),by omega,rfl,hlt,by simp;omega,ι2,h2,yd++[d2],(g0.trans g1).trans g2,hr2,((ry.mono g1).mono g2).snoc r2,o2⟩
  ·rw [if_neg hc] at o;exact o.elim
 ·have e:i=it.xs.length:=by omega
  subst e
  rw [List.drop_eq_nil_of_le (Nat.le_refl _),mapR] at o
  by_cases hc:it.ck h
  ·rw [if_pos hc] at o
   refine .inl ⟨(ir ι H h g0 Rh hc).2,p7 (E:=E) ry Rh ?_⟩
   simpa [R.bind,abk] using o
  ·rw [if_neg hc] at o;exact o.elim
theorem a8o {K:PySem.W.Frag} {E:XD} {ι0:List Addr} {H0:Hp} {J:It} {it:Itm} {g:TG} {t:D→Option Sd} {c:ST} {fe:SE} {n:Nat} {r:St} {rd:Sd} {h0:Hd} {Q:VK} (ir:alc K ι0 H0 J it) (tg:afu K n g t) (S:SRep K ι0 H0 r rd) (Rh:HRep K ι0 H0 h0) (hl:it.xs.length≤LINE)
  (o:out K E (xf K) ι0 H0 ((aif it.ck (aa7 t c fe rd) it.xs h0).bind (abk [])) Q):afo J (List.replicate n none++r) g (lift K E ala c) (lift K E (xf K) fe) Q H0:=by
 refine ⟨fun i m ys H=>m=it.xs.length - i∧i≤it.xs.length∧ys.length≤i∧∃ ι h yd,Gr ι0 H0 ι H∧HRep K ι H h∧Reps K ι H ys yd∧out K E (xf K) ι H ((aif it.ck (aa7 t c fe rd) (it.xs.drop i) h).bind (abk yd)) Q,
  ⟨_,rfl,Nat.zero_le _,Nat.zero_le _,ι0,h0,[], .refl _ _,Rh, .nil,o⟩,?_⟩
 rintro i m ys H ⟨rfl,hi,hy,ι,h,yd,g0,Rh,ry,o⟩
 by_cases hlt:i<it.xs.length
 ·rw [List.drop_eq_getElem_cons hlt,aif] at o
  by_cases hc:it.ck h
  ·rw [if_pos hc,avr] at o
   obtain ⟨go,yl⟩:=(ir ι H h g0 Rh hc).1 i _ (List.getElem?_eq_getElem hlt)
   refine .inr ⟨go,Nat.lt_of_le_of_lt hy (Nat.lt_of_lt_of_le hlt (ll hl)),fun x H' y=>?_⟩
   obtain ⟨g1,r1,hr1⟩:=yl x H' y
   have o':=wz o g1
   cases ht:t it.xs[i] with
   | none=>simp only [aa7,ht] at o';exact o'.elim
   | some ts =>
    simp only [aa7,ht] at o'
    rw [R.bind_assoc] at o'
    refine tg ι H' x _ ts r _ r1 ht fun us hus su=>⟨afv hus,ι,ts++rd,h,a3z su (S.mono (g0.trans g1)),hr1,cj o' fun b h1 ι1 H1 b' g2 rb hrb ob=>?_⟩
    have su1:SRep K ι1 H1 (us++r) (ts++rd):=(a3z su (S.mono (g0.trans g1))).mono g2
    cases rb
    cases b with
    | true =>
     rw [if_pos rfl] at ob ⊢
     rw [R.bind_assoc] at ob
     refine ⟨ι1,ts++rd,h1,su1,hrb,cj ob fun d2 h2 ι2 H2 u g3 r2 hr2 o2=>?_⟩
     refine ⟨it.xs.length - (i+1),by omega,rfl,hlt,by simp;omega,ι2,h2,yd++[d2],((g0.trans g1).trans g2).trans g3,hr2,(((ry.mono g1).mono g2).mono g3).snoc r2,?_⟩
     simpa [R.bind] using o2
    | false =>
     rw [if_neg Bool.false_ne_true] at ob ⊢
     refine ⟨it.xs.length - (i+1),by omega,rfl,hlt,by omega,ι1,h1,yd,(g0.trans g1).trans g2,hrb,(ry.mono g1).mono g2,?_⟩
     simpa [R.bind] using ob
  ·rw [if_neg hc] at o;exact o.elim
 ·have e:i=it.xs.length:=by omega
  subst e
  rw [List.drop_eq_nil_of_le (Nat.le_refl _),aif] at o
  by_cases hc:it.ck h
  ·rw [if_pos hc] at o
   refine .inl ⟨(ir ι H h g0 Rh hc).2,p7 (E:=E) ry Rh ?_⟩
   simpa [R.bind,abk] using o
  ·rw [if_neg hc] at o;exact o.elim
section
variable {X:Cx} {E:XD} {elt tg iter cnd:Expr} {scope:Scope} {pos:Pos} {cl:List (Str × Addr)} {ts fr:List Str} {ix:List Nat} {fi:SI} {g:TG} {t:D→Option Sd} {fe:SE} {fc:ST}
theorem yg (hc:X.calm=true) (S:CSc X scope cl ts fr ix) (hi:MI X E tg iter fi) (hg:∀ C fp s H,PG (cxC X (ts++fr) scope cl C fp s H) tg g) (ht:afu X.K ts.length g t) (he:∀ C fp s H,ME (cxC X (ts++fr) scope cl C fp s H) E elt fe)
  (hs:∀ x,foldedSetIterable iter X.env x=pure x:=by intro _;rfl):ME X E (.ListComp elt [⟨tg,iter,[],0⟩] scope pos) (m7 fi t fe ix):=by
 refine PE.weak (aj0 (te:=lift X.K E (xf X.K) fe) hc S hi hg he hs) fun σ H Q ⟨ι,τ,h,Sr,Rh,o⟩=>?_
 refine ⟨ι,τ,h,Sr,Rh,cj o fun it h1 ι1 H1 J g1 r1 hr1 o1=>?_⟩
 by_cases hl:it.xs.length≤LINE
 ·rw [if_pos hl] at o1
  exact abl r1 ht (a2c (Sr.mono g1) ix) hr1 hl o1
 ·rw [if_neg hl] at o1;exact o1.elim
theorem abm (hc:X.calm=true) (S:CSc X scope cl ts fr ix) (hi:MI X E tg iter fi) (hg:∀ C fp s H,PG (cxC X (ts++fr) scope cl C fp s H) tg g) (ht:afu X.K ts.length g t) (he:∀ C fp s H,ME (cxC X (ts++fr) scope cl C fp s H) E elt fe)
  (hq:∀ C fp s H,MT (cxC X (ts++fr) scope cl C fp s H) E cnd fc)
  (hs:∀ x,foldedSetIterable iter X.env x=pure x:=by intro _;rfl):ME X E (.ListComp elt [⟨tg,iter,[cnd],0⟩] scope pos) (p6 fi t fc fe ix):=by
 refine PE.weak (ad7 (te:=lift X.K E (xf X.K) fe) (tc:=lift X.K E ala fc) hc S hi hg he hq hs) fun σ H Q ⟨ι,τ,h,Sr,Rh,o⟩=>?_
 refine ⟨ι,τ,h,Sr,Rh,cj o fun it h1 ι1 H1 J g1 r1 hr1 o1=>?_⟩
 by_cases hl:it.xs.length≤LINE
 ·rw [if_pos hl] at o1
  exact a8o r1 ht (a2c (Sr.mono g1) ix) hr1 hl o1
 ·rw [if_neg hl] at o1;exact o1.elim
end
mutual
def clo (n:Nat):D→Prop
 | .tup xs=>clos n xs
 | .rol xs=>clos n xs
 | .rod _ xs=>clos n xs
 | .scr xs=>clos n xs
 | .rdT _ xs=>clos n xs
 | .ref i=>i<n
 | _=>True
def clos (n:Nat):List D→Prop
 | []=>True
 | x::xs=>clo n x∧clos n xs
end
mutual
theorem Rep.clo {K:PySem.W.Frag} {ι:List Addr} {H:Hp}:∀ {v:V} {d:D},Rep K ι H v d→clo ι.length d
 | _,_, .non=>by simp [MI.clo]
 | _,_, .bl b=>by simp [MI.clo]
 | _,_, .int i=>by simp [MI.clo]
 | _,_, .str x=>by simp [MI.clo]
 | _,_, .ty n=>by simp [MI.clo]
 | _,_, .tup h r=>by simp only [MI.clo];exact Reps.clo r
 | _,_, .rol h r=>by simp only [MI.clo];exact Reps.clo r
 | _,_, .ref h=>by simp only [MI.clo];exact (List.getElem?_eq_some_iff.mp h).1
 | _,_, .rod h e r=>by simp only [MI.clo];exact Reps.clo r
 | _,_, .scr h r=>by simp only [MI.clo];exact Reps.clo r
 | _,_, .rdT h e r=>by simp only [MI.clo];exact Reps.clo r
 | _,_, .exc h hc hn=>by simp [MI.clo]
theorem Reps.clo {K:PySem.W.Frag} {ι:List Addr} {H:Hp}:∀ {vs:List V} {ds:List D},Reps K ι H vs ds→clos ι.length ds
 | _,_, .nil=>by simp [MI.clos]
 | _,_, .cons r rs=>by simp only [MI.clos];exact ⟨Rep.clo r,Reps.clo rs⟩
end
mutual
theorem Rep.cut {K:PySem.W.Frag} {ι:List Addr} {H:Hp} {n:Nat}:∀ {v:V} {d:D},Rep K ι H v d→clo n d→Rep K (ι.take n) H v d
 | _,_, .non,_=>.non
 | _,_, .bl b,_=>.bl b
 | _,_, .int i,_=>.int i
 | _,_, .str x,_=>.str x
 | _,_, .ty n,_=>.ty n
 | _,_, .tup h r,c=>.tup h (Reps.cut r (by simpa only [MI.clo] using c))
 | _,_, .rol h r,c=>.rol h (Reps.cut r (by simpa only [MI.clo] using c))
 | _,_, .ref h,c=>.ref (by simp only [MI.clo] at c;rw [List.getElem?_take,if_pos c];exact h)
 | _,_, .rod h e r,c=>.rod h e (Reps.cut r (by simpa only [MI.clo] using c))
 | _,_, .scr h r,c=>.scr h (Reps.cut r (by simpa only [MI.clo] using c))
 | _,_, .rdT h e r,c=>.rdT h e (Reps.cut r (by simpa only [MI.clo] using c))
 | _,_, .exc h hc hn,_=>.exc h hc hn
theorem Reps.cut {K:PySem.W.Frag} {ι:List Addr} {H:Hp} {n:Nat}:∀ {vs:List V} {ds:List D},Reps K ι H vs ds→clos n ds→Reps K (ι.take n) H vs ds
 | _,_, .nil,_=>.nil
 | _,_, .cons r rs,c=>by simp only [MI.clos] at c;exact .cons (Rep.cut r c.1) (Reps.cut rs c.2)
end
def a1n (n:Nat):O→Prop
 | .lst xs=>clos n xs
 | .dK kvs=>clos n (kvs.map (·.2))
 | .dT kvs=>clos n (kvs.map (·.2))
def art (n:Nat) (h:Hd):Prop:=∀ o∈h,a1n n o
theorem ORep.clo {K:PySem.W.Frag} {ι:List Addr} {H:Hp} {a:Addr} {o:O} (r:ORep K ι H a o):a1n ι.length o:=by
 cases o with
 | lst xs=>obtain ⟨vs,_,r⟩:=r;exact r.clo
 | dK kvs=>obtain ⟨us,_,_,r⟩:=r;exact r.clo
 | dT kvs=>obtain ⟨us,_,_,r⟩:=r;exact r.clo
theorem ORep.cut {K:PySem.W.Frag} {ι:List Addr} {H:Hp} {a:Addr} {o:O} {n:Nat} (r:ORep K ι H a o) (c:a1n n o):ORep K (ι.take n) H a o:=by
 cases o with
 | lst xs=>obtain ⟨vs,h,r⟩:=r;exact ⟨vs,h,r.cut c⟩
 | dK kvs=>obtain ⟨us,h,e,r⟩:=r;exact ⟨us,h,e,r.cut c⟩
 | dT kvs=>obtain ⟨us,h,e,r⟩:=r;exact ⟨us,h,e,r.cut c⟩
theorem HRep.clo {K:PySem.W.Frag} {ι:List Addr} {H:Hp} {h:Hd} (r:HRep K ι H h):art h.length h:=fun o ho=>by
 obtain ⟨i,hi⟩:=List.getElem?_of_mem ho
 obtain ⟨a,_,q⟩:=r.addr hi
 rw [← r.len];exact q.clo
theorem HRep.cut {K:PySem.W.Frag} {ι:List Addr} {H:Hp} {h g:Hd} (r:HRep K ι H (h++g)) (c:art h.length h):HRep K (ι.take h.length) H h:=by
 refine ⟨r.nd.sublist (List.take_sublist _ _),?_,fun i a o e1 e2=>?_⟩
 ·have:=r.len
  rw [List.length_append] at this
  rw [List.length_take];omega
 ·have hi:i<h.length:=(List.getElem?_eq_some_iff.mp e2).1
  rw [List.getElem?_take,if_pos hi] at e1
  exact (r.obj i a o e1 (by rw [List.getElem?_append_left hi];exact e2)).cut (c o (List.mem_of_getElem? e2))
def X0:XD:=fun _ _ _ _=>False
abbrev SF:=List D→Hd→R D
def uw (K:PySem.W.Frag) (n:Nat) (F:SF):Sp:=fun vs H Q _=>vs.length=n∧∃ ι ds h,Reps K ι H vs ds∧HRep K ι H h∧out K X0 (xf K) ι H (F ds h) Q
def a2d (n:Nat) (ds:List D):Sd:=ds.map some++List.replicate (n - ds.length) none
def qu (b:SS) (n:Nat) (ds:List D) (h:Hd):R D:=match b (a2d n ds) h with
 | .rt d h1=>.ok d h1
 | .nx _ h1=>.ok .non h1
 | .ex c h1=>.ex c h1
 | _=>.no
def Rf (n:Nat) (r' r:R D):Prop:=match r with
 | .no=>True
 | .ok d h1=>∃ g,r' = .ok d (h1++g)∧(g=[]∨(n≤h1.length∧clo h1.length d∧art h1.length h1))
 | .ex c h1=>∃ g,r' = .ex c (h1++g)∧(g=[]∨(n≤h1.length∧art h1.length h1))
theorem Rf.same {n:Nat} {r' r:R D} (h:r'=r):Rf n r' r:=by
 subst h
 cases r' with
 | ok d h1=>exact ⟨[],by simp, .inl rfl⟩
 | ex c h1=>exact ⟨[],by simp, .inl rfl⟩
 | no=>exact True.intro
theorem ada {K:PySem.W.Frag} {ι:List Addr} {H:Hp} {vs:List V} {ds:List D} {N:List Str} (r:Reps K ι H vs ds):SRep K ι H (start N vs) (a2d N.length ds):=by
 refine a3z ?_ ?_
 ·clear N
  induction r using Reps.rec (motive_1:=fun _ _ _=>True) with
  | nil=>exact a3y
  | cons r rs _ ih=>exact qe r ih
  | _=>trivial
 ·rw [r.len]
  exact ⟨by simp,fun i d e=>by rw [List.getElem?_replicate] at e;split at e<;>cases e⟩
theorem alf {ι ι':List Addr} {H H':Hp} {n:Nat} (g:Gr ι H ι' H') (hn:ι.length≤n):Gr ι H (ι'.take n) H':=by
 obtain ⟨m,rfl,hm⟩:=g.pre
 exact ⟨⟨m.take (n - ι.length),by rw [List.take_append,List.take_of_length_le hn],fun a ha=>hm a (List.mem_of_mem_take ha)⟩,g.tup,g.frz,g.oth,g.kp⟩
section
variable {P:Program} {w:World} {K:PySem.W.Frag} {mg:Str→Option Value} {base:Heap}
theorem aru {x qual:Str} {st:Stmt} {f:Addr} {fd:FuncData} {N ps:List Str} {k:Nat} {b:SS} {F:SF} (Fu:Fun K x qual st f fd) (S:FnScope N ps (bc st))
  (hb:∀ (cdv:Value) (A:Around) (outer:List Env) (s:Shared) (H:Hp) (E:XK),Room k (A.deeper (PyProof.Rows.envOfC qual (bc st) s.heap.objs.size f cdv))→MSs (a2r CX0 P w K mg base N qual (bc st) f cdv A outer s H E).nox X0 (iy st) b)
  (hF:∀ ds h,ds.length=ps.length→clos h.length ds→art h.length h→Rf h.length (qu b N.length ds h) (F ds h)):FnOk P w K mg base CX0 (k+1) f fd ps (uw K ps.length F):=by
 refine Fu.ok S (fun vs H Q E h=>h.1) fun cdv A outer s H vs Q E hr h=>⟨_,hb cdv A outer s H E hr,?_⟩
 obtain ⟨hl,ι,ds,h,r,hr',o⟩:=h
 refine ⟨ι,a2d N.length ds,h,ada r,hr',?_⟩
 have q:=hF ds h (by rw [← r.len];exact hl) (by rw [← hr'.len];exact r.clo) hr'.clo
 unfold qu at q
 cases hFd:F ds h with
 | no=>rw [hFd] at o;exact o.elim
 | ex c h1 =>
  rw [hFd] at q o
  obtain ⟨g,e,cl⟩:=q
  have fin:∀ ι' H',Gr ι H ι' H'→HRep K ι' H' (h1++g)→X0 c ι' H' (h1++g):=fun ι' H' g1 hr1=>by
   rcases cl with rfl | ⟨hn,c2⟩
   ·rw [List.append_nil] at hr1
    exact o ι' H' g1 hr1
   ·exact o (ι'.take h1.length) H' (alf g1 (by rw [hr'.len];exact hn)) (hr1.cut c2)
  cases hbd:b (a2d N.length ds) h with
  | ex c' h' =>
   rw [hbd] at e
   injection e with e1 e2
   subst e1 e2
   exact fin
  | _=>rw [hbd] at e;cases e
 | ok d h1 =>
  rw [hFd] at q o
  obtain ⟨g,e,cl⟩:=q
  have fin:∀ ι' H' v,Gr ι H ι' H'→Rep K ι' H' v d→HRep K ι' H' (h1++g)→Q v H':=fun ι' H' v g1 r1 hr1=>by
   rcases cl with rfl | ⟨hn,c1,c2⟩
   ·rw [List.append_nil] at hr1
    exact o ι' H' v g1 r1 hr1
   ·exact o (ι'.take h1.length) H' v (alf g1 (by rw [hr'.len];exact hn)) (r1.cut c1) (hr1.cut c2)
  cases hbd:b (a2d N.length ds) h with
  | rt d' h' =>
   rw [hbd] at e
   injection e with e1 e2
   subst e1 e2
   exact fin
  | nx τ' h' =>
   rw [hbd] at e
   injection e with e1 e2
   subst e1 e2
   exact fun ι' H' σ' g1 S1 hr1=>fin ι' H' .non g1 .non hr1
  | _=>rw [hbd] at e;cases e
def sN (n:Nat) (F:SF):SF:=fun ds h=>if ds.length=n then F ds h else .no
theorem arv {n:Nat} {F:SF} {ι:List Addr} {H:Hp} {vs:List V} {ds:List D} {h:Hd} {Q:VK} (r:Reps K ι H vs ds) (hr:HRep K ι H h) (o:out K X0 (xf K) ι H (sN n F ds h) Q) (E:XK):uw K n F vs H Q E:=by
 unfold sN at o
 split at o
 ·rename_i hl
  exact ⟨by rw [r.len];exact hl,ι,ds,h,r,hr,o⟩
 ·exact o.elim
end
theorem anu {X:Cx} {k n:Nat} {f:Addr} {fd:FuncData} {ps:List Str} {x:Str} {F:SF} {ka:SA} {e:Expr} {es:List Expr} {p pos:Pos} (G:Dn X.prog X.w X.K X.mg X.base k x ps (uw X.K n F) f fd) (hr:Room k X.A) (hg:Gl X x) (ha:MA X X0 (e::es) ka)
  (hdb:(x == ("__debug__" : Str))=false:=by decide) (he:starEach (e::es) X.env=(false,eval e X.env)::starEach es X.env:=by rfl) (hpl:(backTo pos (starEach es X.env)).any (·.1)=false:=by rfl):ME X X0 (.Call (.Name x p) (e::es) [] pos) (sA (sN n F) ka):=by
 refine PE.weak (af8 G.ok hr hg G.m G.kp G.b .nil anc ha hdb he hpl) fun σ H Q ⟨ι,τ,h,S,Rh,o⟩=>?_
 refine ⟨ι,τ,h,S,Rh,cj o fun ds h1 ι1 H1 vs g1 r1 hr1 o1=>?_⟩
 rw [List.append_nil]
 exact arv r1 hr1 o1 _
end MI
namespace MI
open PySem PySem.Spec L2
section
variable {K:PySem.W.Frag} {E:XD} {ι:List Addr} {H:Hp} {h:Hd} {Q:VK}
theorem ans {d:D} {v:V} (o:out K E (xf K) ι H (.ok d h) Q) (r:Rep K ι H v d) (hr:HRep K ι H h):Q v H:=o ι H v (.refl _ _) r hr
theorem HRep.lst (hr:HRep K ι H h) {i:Nat} {a:Addr} {xs:List D} (e:ι[i]? = some a) (hi:h[i]? = some (.lst xs)):∃ vs,H a=some (.lst vs)∧Reps K ι H vs xs:=hr.obj i a _ e hi
end
def ab2:D→D→Hd→R D
 | .int i, .int j,h=>.ok (.int (i - j)) h
 | _,_,_=>.no
open Classical in
noncomputable def arw:D→D→Hd→R D
 | .int i, .int j,h=>if CMul i j then .ok (.int (i*j)) h else .no
 | .ref i, .int k,h=>match h[i]? with
  | some (.lst xs)=>if (-(2 ^ 63)≤k∧k<2 ^ 63)∧xs.length*k.toNat≤LINE then .ok (.ref h.length) (h++[.lst (List.replicate k.toNat xs).flatten]) else .no
  | _=>.no
 | _,_,_=>.no
def a5x:D→D→Hd→R D
 | .int i, .int j,h=>if 0<j then .ok (.int (i % j)) h else .no
 | _,_,_=>.no
def adb:D→D→Hd→R D
 | .int i, .int j,h=>if 0<j∧j<1073741824 then .ok (.int (i / j)) h else .no
 | _,_,_=>.no
def afw:D→D→Hd→R D
 | .int i, .int j,h=>if 0≤j∧j≤1000000∧i.natAbs<2 ^ 64 then .ok (.int (i ^ j.toNat)) h else .no
 | _,_,_=>.no
section
variable {X:Cx} {K:PySem.W.Frag}
theorem anv:a2b K ab2 (rI0 fun i j=>.int (i - j)):=by
 intro E ι H h x y dx dy Q rx ry hr o
 cases rx with
 | int i =>
  cases ry with
  | int j=>exact ⟨i,j,rfl,rfl,ans o (.int _) hr⟩
  | _=>exact o.elim
 | _=>exact o.elim
theorem anw:a2b K a5x (rI (fun _ j=>0<j) fun i j=>.int (i % j)):=by
 intro E ι H h x y dx dy Q rx ry hr o
 cases rx with
 | int i =>
  cases ry with
  | int j =>
   by_cases hc:0<j
   ·simp only [a5x,if_pos hc] at o;exact ⟨i,j,rfl,rfl,hc,ans o (.int _) hr⟩
   ·simp only [a5x,if_neg hc] at o;exact o.elim
  | _=>exact o.elim
 | _=>exact o.elim
theorem anx:a2b K adb (rI awk fun i j=>.int (i / j)):=by
 intro E ι H h x y dx dy Q rx ry hr o
 cases rx with
 | int i =>
  cases ry with
  | int j =>
   by_cases hc:0<j∧j<1073741824
   ·simp only [adb,if_pos hc] at o;exact ⟨i,j,rfl,rfl,hc,ans o (.int _) hr⟩
   ·simp only [adb,if_neg hc] at o;exact o.elim
  | _=>exact o.elim
 | _=>exact o.elim
theorem anz:a2b K afw (rI awl fun i j=>.int (i ^ j.toNat)):=by
 intro E ι H h x y dx dy Q rx ry hr o
 cases rx with
 | int i =>
  cases ry with
  | int j =>
   by_cases hc:0≤j∧j≤1000000∧i.natAbs<2 ^ 64
   ·simp only [afw,if_pos hc] at o;exact ⟨i,j,rfl,rfl,hc,ans o (.int _) hr⟩
   ·simp only [afw,if_neg hc] at o;exact o.elim
  | _=>exact o.elim
 | _=>exact o.elim
theorem afx:a2b K arw (fun x y H Q=>rI CMul (fun i j=>.int (i*j)) x y H Q∨auk x y H Q):=by
 intro E ι H h x y dx dy Q rx ry hr o
 cases rx with
 | int i =>
  cases ry with
  | int j =>
   by_cases hc:CMul i j
   ·simp only [arw,if_pos hc] at o;exact .inl ⟨i,j,rfl,rfl,hc,ans o (.int _) hr⟩
   ·simp only [arw,if_neg hc] at o;exact o.elim
  | _=>exact o.elim
 | @ref a i ha =>
  cases ry with
  | int k =>
   simp only [arw] at o
   split at o
   ·rename_i xs hx
    obtain ⟨vs,h3,h4⟩:=hr.lst ha hx
    split at o
    ·rename_i hc
     exact .inr ⟨a,k,vs,rfl,rfl,h3,hc.1.1,hc.1.2,ll (by rw [h4.len];exact hc.2),p7 (h4.flat _) hr o⟩
    ·exact o.elim
   ·exact o.elim
  | _=>exact o.elim
 | _=>exact o.elim
variable {E:XD} {a b e:Expr} {es:List Expr} {fa fb:SE} {ka:SA} {pos:Pos}
theorem alg (ha:ME X E a fa) (hb:ME X E b fb):ME X E (.BinOp a .Sub b pos) (s2 ab2 fa fb):=aa2 aqo anv ha hb
theorem a3p (ha:ME X E a fa) (hb:ME X E b fb):ME X E (.BinOp a .Mod b pos) (s2 a5x fa fb):=aa2 aqp anw ha hb
theorem afy (ha:ME X E a fa) (hb:ME X E b fb):ME X E (.BinOp a .FloorDiv b pos) (s2 adb fa fb):=aa2 amn anx ha hb
theorem alh (ha:ME X E a fa) (hb:ME X E b fb):ME X E (.BinOp a .Pow b pos) (s2 afw fa fb):=aa2 aqq anz ha hb
def aa8:D→Hd→R D
 | .int i,h=>.ok (.int (-i)) h
 | _,_=>.no
theorem a8p (ha:ME X E a fa):ME X E (.UnaryOp .USub a pos) (s1 aa8 fa):=avp aqr (fun E ι H h x dx Q rx hr o=>by
 cases rx with
 | int i=>exact ⟨i,rfl,ans o (.int _) hr⟩
 | _=>exact o.elim) ha
def gLt:D→D→Hd→R D
 | .int i, .int j,h=>.ok (.bl (decide (i<j))) h
 | .str i, .str j,h=>.ok (.bl (decide (i.cps.toList<j.cps.toList))) h
 | _,_,_=>.no
def gLe:D→D→Hd→R D
 | .int i, .int j,h=>.ok (.bl (decide (i≤j))) h
 | .str i, .str j,h=>.ok (.bl (!decide (j.cps.toList<i.cps.toList))) h
 | _,_,_=>.no
def gGt:D→D→Hd→R D
 | .int i, .int j,h=>.ok (.bl (decide (j<i))) h
 | _,_,_=>.no
def gGe:D→D→Hd→R D
 | .int i, .int j,h=>.ok (.bl (decide (j≤i))) h
 | _,_,_=>.no
theorem a8q:a2b K gLt (fun x y H Q=>rI0 (fun i j=>.bl (decide (i<j))) x y H Q∨∃ i j,x = .str i∧y = .str j∧Q (.bl (decide (i.cps.toList<j.cps.toList))) H):=by
 intro E ι H h x y dx dy Q rx ry hr o
 cases rx with
 | int i =>
  cases ry with
  | int j=>exact .inl ⟨i,j,rfl,rfl,ans o (.bl _) hr⟩
  | _=>exact o.elim
 | str i =>
  cases ry with
  | str j=>exact .inr ⟨i,j,rfl,rfl,ans o (.bl _) hr⟩
  | _=>exact o.elim
 | _=>exact o.elim
theorem afz:a2b K gGt (rI0 fun i j=>.bl (decide (j<i))):=by
 intro E ι H h x y dx dy Q rx ry hr o
 cases rx with
 | int i =>
  cases ry with
  | int j=>exact ⟨i,j,rfl,rfl,ans o (.bl _) hr⟩
  | _=>exact o.elim
 | _=>exact o.elim
theorem abn:a2b K gGe (rI0 fun i j=>.bl (decide (j≤i))):=by
 intro E ι H h x y dx dy Q rx ry hr o
 cases rx with
 | int i =>
  cases ry with
  | int j=>exact ⟨i,j,rfl,rfl,ans o (.bl _) hr⟩
  | _=>exact o.elim
 | _=>exact o.elim
def xg:D→Bool
 | .non=>true
 | _=>false
theorem abo {ι:List Addr} {H:Hp} {x:V} {d:D} (r:Rep K ι H x d):decide (x = .non)=xg d:=by cases r<;>simp [xg]
def gIs:D→D→Hd→R D
 | x, .non,h=>.ok (.bl (xg x)) h
 | .bl i, .bl j,h=>.ok (.bl (i == j)) h
 | _,_,_=>.no
def a6c:D→D→Hd→R D
 | x, .non,h=>.ok (.bl (!xg x)) h
 | .bl i, .bl j,h=>.ok (.bl (i != j)) h
 | _,_,_=>.no
theorem ali:a2b K gIs (fun x y H Q=>(y = .non∧Q (.bl (decide (x = .non))) H)∨∃ i j,x = .bl i∧y = .bl j∧Q (.bl (i == j)) H):=by
 intro E ι H h x y dx dy Q rx ry hr o
 cases ry with
 | non=>exact .inl ⟨rfl,by rw [abo rx];simp only [gIs] at o;exact ans o (.bl _) hr⟩
 | bl j =>
  cases rx with
  | bl i=>exact .inr ⟨i,j,rfl,rfl,ans o (.bl _) hr⟩
  | _=>exact o.elim
 | _=>cases rx<;>exact o.elim
theorem ag0:a2b K a6c (fun x y H Q=>(y = .non∧Q (.bl (!decide (x = .non))) H)∨∃ i j,x = .bl i∧y = .bl j∧Q (.bl (i != j)) H):=by
 intro E ι H h x y dx dy Q rx ry hr o
 cases ry with
 | non=>exact .inl ⟨rfl,by rw [abo rx];simp only [a6c] at o;exact ans o (.bl _) hr⟩
 | bl j =>
  cases rx with
  | bl i=>exact .inr ⟨i,j,rfl,rfl,ans o (.bl _) hr⟩
  | _=>exact o.elim
 | _=>cases rx<;>exact o.elim
def a06:D→Bool
 | .non=>true | .bl _=>true | .int _=>true | .str _=>true
 | _=>false
def eqF:D→D→Bool
 | .non, .non=>true
 | .bl i, .bl j=>i == j
 | .int i, .int j=>i == j
 | .str i, .str j=>i == j
 | .int i, .bl j=>i == (if j then 1 else 0)
 | .bl i, .int j=>(if i then 1 else 0) == j
 | _,_=>false
end
end MI
namespace MI
open PySem PySem.Spec L2
section
variable {X:Cx} {K:PySem.W.Frag} {E:XD} {a b e o:Expr} {es:List Expr} {fa fb:SE} {ka:SA} {pos:Pos}
def a00 (d:D) (h:Hd):Option (List D):=match d with
 | .tup xs=>some xs
 | .rol xs=>some xs
 | .ref i=>match h[i]? with | some (.lst xs)=>some xs | _=>none
 | _=>none
def gIx (x y:D) (h:Hd):R D:=match y with
 | .int i=>(match x with
  | .str z=>if z.length≤LINE then (match atI z.cps.toList i with | some c=>.ok (.str ⟨#[c]⟩) h | none=>.no) else .no
  | x=>match a00 x h with
   | some xs=>(match atI xs i with | some d=>.ok d h | none=>.no)
   | none=>.no)
 | _=>.no
theorem aj5 {ι:List Addr} {H:Hp} {vs:List V} {xs:List D} {i:Int} {d:D} (r:Reps K ι H vs xs) (e:atI xs i=some d):∃ v,atI vs i=some v∧Rep K ι H v d:=by
 unfold atI at e ⊢
 rw [r.len]
 cases hx:ixN xs.length i with
 | none=>rw [hx] at e;cases e
 | some j=>rw [hx] at e;exact r.get e
theorem arx:a2b K gIx (rIx K):=by
 intro E ι H h x y dx dy Q rx ry hr o
 cases ry with
 | int i =>
  have go:∀ {p:Addr} {vs:List V} {xs:List D},Reps K ι H vs xs→out K E (xf K) ι H (match atI xs i with | some d=>.ok d h | none=>.no) Q→∃ v,atI vs i=some v∧Q v H:=fun {p vs xs} r o=>by
   cases he:atI xs i with
   | none=>rw [he] at o;exact o.elim
   | some d =>
    rw [he] at o
    obtain ⟨v,h1,h2⟩:=aj5 r he
    exact ⟨v,h1,ans o h2 hr⟩
  cases rx with
  | str z =>
   by_cases hc:z.length≤LINE
   ·simp only [gIx,if_pos hc] at o
    cases he:atI z.cps.toList i with
    | none=>rw [he] at o;exact o.elim
    | some c=>rw [he] at o;exact .inr (.inr ⟨z,i,c,rfl,rfl,ll hc,he,ans o (.str _) hr⟩)
   ·simp only [gIx,if_neg hc] at o;exact o.elim
  | @tup p vs xs hp r =>
   simp only [gIx,a00] at o
   obtain ⟨v,h1,h2⟩:=go (p:=p) r o
   exact .inr (.inl ⟨p,vs,i,v,rfl,rfl,SqT.of hp,h1,h2⟩)
  | @rol p vs xs hp r =>
   simp only [gIx,a00] at o
   obtain ⟨v,h1,h2⟩:=go (p:=p) r o
   exact .inl ⟨p,vs,i,v,rfl,rfl,hp.l,h1,h2⟩
  | @ref p j hp =>
   obtain ⟨ob,e1,e2⟩:=hr.at hp
   cases ob with
   | lst xs =>
    simp only [gIx,a00,e1] at o
    obtain ⟨vs,h3,h4⟩:=e2
    obtain ⟨v,h1,h2⟩:=go (p:=p) h4 o
    exact .inl ⟨p,vs,i,v,rfl,rfl,SqL.of h3,h1,h2⟩
   | dK _=>simp only [gIx,a00,e1] at o;exact o.elim
   | dT _=>simp only [gIx,a00,e1] at o;exact o.elim
  | _=>exact o.elim
 | _=>exact o.elim
theorem du (ha:ME X E a fa) (hb:ME X E b fb) (hp:a9w b):ME X E (.Subscript a b pos) (s2 gIx fa fb):=avq ar0 arx ha hb hp
abbrev SO:=Sd→Hd→R (Option Int)
abbrev MO (X:Cx) (E:XD) (e:Option Expr) (f:SO):Prop:=PO X e (lift X.K E ay0 f)
def oN:SO:=fun _ h=>.ok none h
def oS (f:SE):SO:=fun τ h=>(f τ h).bind fun d h1=>match d with | .int i=>.ok (some i) h1 | _=>.no
theorem PO.weak {e:Option Expr} {t t':St→Hp→(Option Int→Hp→Prop)→Prop} (h:PO X e t) (i:∀ σ H Q,t' σ H Q→t σ H Q):PO X e t':=fun pins s σ H Q I q=>h pins s σ H Q I (i _ _ _ q)
theorem a77:MO X E none oN:=PO.weak amx fun σ H Q ⟨ι,τ,h,S,Rh,o⟩=>o ι H none (.refl _ _) rfl Rh
theorem a2w (he:ME X E e fa):MO X E (some e) (oS fa):=by
 refine PO.weak (amy he) fun σ H Q ⟨ι,τ,h,S,Rh,o⟩=>?_
 refine ⟨ι,τ,h,S,Rh,cj o fun d h1 ι1 H1 v g1 r1 hr1 o1=>?_⟩
 cases r1 with
 | int i=>exact ⟨i,rfl,o1 ι1 H1 _ (.refl _ _) rfl hr1⟩
 | _=>exact o1.elim
def whole (n:Nat) (lo hi:Option Int):Prop:=HT.sIx n 0 lo=0∧HT.sIx n n hi=n
instance (n:Nat) (lo hi:Option Int):Decidable (whole n lo hi):=by unfold whole;exact inferInstance
def gSl (d:D) (lo hi:Option Int) (h:Hd):R D:=match d with
 | .str z=>if z.length≤LINE then .ok (.str ⟨(a5r z.cps.toList lo hi).toArray⟩) h else .no
 | .tup xs=>if ¬ whole xs.length lo hi then .ok (.tup (a5r xs lo hi)) h else .no
 | .rol xs=>.ok (.ref h.length) (h++[.lst (a5r xs lo hi)])
 | .scr xs=>.ok (.ref h.length) (h++[.lst (a5r xs lo hi)])
 | .ref i=>match h[i]? with | some (.lst xs)=>.ok (.ref h.length) (h++[.lst (a5r xs lo hi)]) | _=>.no
 | _=>.no
theorem a2e {ι:List Addr} {H:Hp} {vs:List V} {xs:List D} (r:Reps K ι H vs xs) (lo hi:Option Int):Reps K ι H (al4 vs lo hi) (a5r xs lo hi):=by
 unfold al4 a5r
 rw [r.len]
 exact (r.drop _).take _
theorem abp {ι:List Addr} {H:Hp} {h:Hd} {x:V} {d:D} {lo hi:Option Int} {Q:VK} (rx:Rep K ι H x d) (hr:HRep K ι H h) (o:out K E (xf K) ι H (gSl d lo hi h) Q):avn x lo hi H Q∨ave K x lo hi H Q∨avh K x lo hi H Q:=by
 cases rx with
 | str z =>
  by_cases hc:z.length≤LINE
  ·simp only [gSl,if_pos hc] at o;exact .inl ⟨z,rfl,ll hc,ans o (.str _) hr⟩
  ·simp only [gSl,if_neg hc] at o;exact o.elim
 | @tup p vs xs hp r =>
  by_cases hc:¬ whole xs.length lo hi
  ·simp only [gSl,if_pos hc] at o
   exact .inr (.inl ⟨p,vs,rfl,SqT.of hp,by rw [r.len];exact hc,a0l (a2e r lo hi) hr o⟩)
  ·simp only [gSl,if_neg hc] at o;exact o.elim
 | @rol p vs xs hp r=>exact .inr (.inr ⟨p,vs,rfl,hp.l,p7 (a2e r lo hi) hr o⟩)
 | @scr p vs xs hp r=>exact .inr (.inr ⟨p,vs,rfl,hp.l,p7 (a2e r lo hi) hr o⟩)
 | @ref p j hp =>
  obtain ⟨ob,e1,e2⟩:=hr.at hp
  cases ob with
  | lst xs =>
   simp only [gSl,e1] at o
   obtain ⟨vs,h3,h4⟩:=e2
   exact .inr (.inr ⟨p,vs,rfl,SqL.of h3,p7 (a2e h4 lo hi) hr o⟩)
  | dK _=>simp only [gSl,e1] at o;exact o.elim
  | dT _=>simp only [gSl,e1] at o;exact o.elim
 | _=>exact o.elim
theorem ag1 {ι:List Addr} {H:Hp} {x:V} {d:D} (r:Rep K ι H x d) (f:a06 d=true):a1l x=true:=by cases r<;>first | rfl | cases f
theorem arz {ι:List Addr} {H:Hp} {x y:V} {d c:D} (r:Rep K ι H x d) (q:Rep K ι H y c):a06 d=true→a06 c=true→eqV x y=eqF d c:=fun f g=>by
 cases r<;>cases q<;>first | rfl | (cases f;done) | (cases g;done)
def inD (x:D) (xs:List D):Bool:=xs.any fun y=>eqF y x
theorem aj6 {ι:List Addr} {H:Hp} {vs:List V} {xs:List D} (r:Reps K ι H vs xs) (f:xs.all a06=true):vs.all a1l=true:=by
 induction r using Reps.rec (motive_1:=fun _ _ _=>True) with
 | nil=>rfl
 | cons r rs _ ih =>
  rw [List.all_cons,Bool.and_eq_true] at f ⊢
  exact ⟨ag1 r f.1,ih f.2⟩
 | _=>trivial
theorem as3 {ι:List Addr} {H:Hp} {x:V} {d:D} {vs:List V} {xs:List D} (rx:Rep K ι H x d) (fx:a06 d=true) (r:Reps K ι H vs xs) (f:xs.all a06=true):inV x vs=inD d xs:=by
 unfold inV inD
 induction r using Reps.rec (motive_1:=fun _ _ _=>True) with
 | nil=>rfl
 | cons r rs _ ih =>
  rw [List.all_cons,Bool.and_eq_true] at f
  rw [List.any_cons,List.any_cons,ih f.2,arz r rx f.1 fx]
 | _=>trivial
def gIn (neg:Bool) (x y:D) (h:Hd):R D:=match y with
 | .str T=>(match x with
  | .str z=>(match z.cps.toList with | [c]=>.ok (.bl (if neg then !decide (c∈T.cps.toList) else decide (c∈T.cps.toList))) h | _=>.no)
  | _=>.no)
 | y=>match a00 y h with
  | some xs=>if a06 x=true∧xs.all a06=true then .ok (.bl (if neg then !inD x xs else inD x xs)) h else .no
  | none=>.no
theorem one_sign {z:Str} {c:Nat} (h:z.cps.toList=[c]):z=⟨#[c]⟩:=by
 obtain ⟨cps⟩:=z
 congr
 exact Array.ext' (by simpa using h)
theorem alj (neg:Bool) {r1:R2} (h1:∀ c T H (Q:VK),Q (.bl (if neg then !decide (c∈T.cps.toList) else decide (c∈T.cps.toList))) H→r1 (.str ⟨#[c]⟩) (.str T) H Q):a2b K (gIn neg) (fun x y H Q=>r1 x y H Q∨rIn K neg x y H Q):=by
 intro E ι H h x y dx dy Q rx ry hr o
 have go:∀ {p:Addr} {vs:List V} {xs:List D},(SqL K H p vs∨SqT K H p vs)→Reps K ι H vs xs→out K E (xf K) ι H (if a06 dx=true∧xs.all a06=true then .ok (.bl (if neg then !inD dx xs else inD dx xs)) h else .no) Q→rIn K neg x (.ref p) H Q:=fun {p vs xs} sq r o=>by
  split at o
  ·rename_i hc
   exact ⟨p,vs,rfl,sq,ag1 rx hc.1,aj6 r hc.2,by rw [as3 rx hc.1 r hc.2];exact ans o (.bl _) hr⟩
  ·exact o.elim
 cases ry with
 | str T =>
  cases rx with
  | str z =>
   simp only [gIn] at o
   split at o
   ·rename_i c hz
    rw [one_sign hz]
    exact .inl (h1 c T H Q (ans o (.bl _) hr))
   ·exact o.elim
  | _=>exact o.elim
 | @tup p vs xs hp r=>simp only [gIn,a00] at o;exact .inr (go (.inr (SqT.of hp)) r o)
 | @rol p vs xs hp r=>simp only [gIn,a00] at o;exact .inr (go (.inl hp.l) r o)
 | @ref p j hp =>
  obtain ⟨ob,e1,e2⟩:=hr.at hp
  cases ob with
  | lst xs =>
   simp only [gIn,a00,e1] at o
   obtain ⟨vs,h3,h4⟩:=e2
   exact .inr (go (.inl (SqL.of h3)) h4 o)
  | dK _=>simp only [gIn,a00,e1] at o;exact o.elim
  | dT _=>simp only [gIn,a00,e1] at o;exact o.elim
 | _=>exact o.elim
theorem ao0:a2b K (gIn false) (fun x y H Q=>(∃ c T,x = .str ⟨#[c]⟩∧y = .str T∧Q (.bl (decide (c∈T.cps.toList))) H)∨rIn K false x y H Q):=alj false fun c T H Q q=>⟨c,T,rfl,rfl,q⟩
theorem ag2:a2b K (gIn true) (fun x y H Q=>(∃ c T,x = .str ⟨#[c]⟩∧y = .str T∧Q (.bl (!decide (c∈T.cps.toList))) H)∨rIn K true x y H Q):=alj true fun c T H Q q=>⟨c,T,rfl,rfl,q⟩
def yu:List D→Hd→R D
 | [.str z],h=>if z.length≤LINE then .ok (.int z.length) h else .no
 | [x],h=>(match a00 x h with | some xs=>.ok (.int xs.length) h | none=>.no)
 | _,_=>.no
theorem ph:abf K yu (fun xs H Q=>(∃ p ys,xs=[.ref p]∧(SqL K H p ys∨SqT K H p ys)∧Q (.int ys.length) H)∨∃ z,xs=[.str z]∧z.length≤sizeLine∧Q (.int z.length) H):=by
 intro E ι H h xs ds Q r hr o
 cases r with
 | nil=>exact o.elim
 | cons r rs =>
  cases rs with
  | cons _ _=>exact (show False by cases r<;>exact o).elim
  | nil =>
   cases r with
   | str z =>
    by_cases hc:z.length≤LINE
    ·simp only [yu,if_pos hc] at o;exact .inr ⟨z,rfl,ll hc,ans o (.int _) hr⟩
    ·simp only [yu,if_neg hc] at o;exact o.elim
   | @tup p vs xs hp r=>simp only [yu,a00] at o;exact .inl ⟨p,vs,rfl, .inr (SqT.of hp),by rw [r.len];exact ans o (.int _) hr⟩
   | @rol p vs xs hp r=>simp only [yu,a00] at o;exact .inl ⟨p,vs,rfl, .inl hp.l,by rw [r.len];exact ans o (.int _) hr⟩
   | @ref p j hp =>
    obtain ⟨ob,e1,e2⟩:=hr.at hp
    cases ob with
    | lst xs =>
     simp only [yu,a00,e1] at o
     obtain ⟨vs,h3,h4⟩:=e2
     exact .inl ⟨p,vs,rfl, .inl (SqL.of h3),by rw [h4.len];exact ans o (.int _) hr⟩
    | dK _=>simp only [yu,a00,e1] at o;exact o.elim
    | dT _=>simp only [yu,a00,e1] at o;exact o.elim
   | _=>exact o.elim
def as4:List D→Hd→R D
 | [.int i],h=>.ok (.int (if i<0 then -i else i)) h
 | _,_=>.no
theorem ag3:abf K as4 (fun xs H Q=>∃ i,xs=[.int i]∧Q (.int (if i<0 then -i else i)) H):=by
 intro E ι H h xs ds Q r hr o
 unfold as4 at o
 split at o
 ·cases r with | cons r rs=>cases r;cases rs;exact ⟨_,rfl,ans o (.int _) hr⟩
 ·exact o.elim
def adc:List D→Hd→R D
 | [.int i, .int j],h=>.ok (.int (if j > i then j else i)) h
 | _,_=>.no
def a4r:List D→Hd→R D
 | [.int i, .int j],h=>.ok (.int (if j<i then j else i)) h
 | _,_=>.no
theorem aj7:abf K a4r (fun xs H Q=>∃ i j,xs=[.int i, .int j]∧Q (.int (if j<i then j else i)) H):=by
 intro E ι H h xs ds Q r hr o
 unfold a4r at o
 split at o
 ·cases r with | cons r rs=>cases rs with | cons q rs=>cases r;cases q;cases rs;exact ⟨_,_,rfl,ans o (.int _) hr⟩
 ·exact o.elim
def aj8:List D→Hd→R D
 | [.int i],h=>.ok (.int i) h
 | [.bl k],h=>.ok (.int (if k then 1 else 0)) h
 | _,_=>.no
theorem ao1:abf K aj8 (fun xs H Q=>(∃ i,xs=[.int i]∧Q (.int i) H)∨∃ k,xs=[.bl k]∧Q (.int (if k then 1 else 0)) H):=by
 intro E ι H h xs ds Q r hr o
 unfold aj8 at o
 split at o
 ·cases r with | cons r rs=>cases r;cases rs;exact .inl ⟨_,rfl,ans o (.int _) hr⟩
 ·cases r with | cons r rs=>cases r;cases rs;exact .inr ⟨_,rfl,ans o (.int _) hr⟩
 ·exact o.elim
def tyD (d:D) (h:Hd):Option String:=match d with
 | .non=>some "NoneType" | .bl _=>some "bool" | .int _=>some "int" | .str _=>some "str" | .tup _=>some "tuple" | .rol _=>some "list"
 | .ref i=>(match h[i]? with | some (.lst _)=>some "list" | some (.dK _)=>some "dict" | _=>none)
 | _=>none
def aa9 (t T:String):Option Bool :=
 if t∈["NoneType", "bool", "int", "str", "tuple", "list", "dict"]∧T∈["bool", "int", "str", "tuple", "list", "dict"] then some (t == T || (t == "bool" && T == "int")) else none
theorem aaa {t T:String} {b:Bool} (e:aa9 t T=some b):PySem.W.kitOne K (.type t) (.type T)=some b:=by
 unfold aa9 at e
 split at e
 ·rename_i h
  obtain ⟨h1,h2⟩:=h
  simp only [List.mem_cons,List.not_mem_nil,or_false] at h1 h2
  rcases h1 with rfl | rfl | rfl | rfl | rfl | rfl | rfl<;>rcases h2 with rfl | rfl | rfl | rfl | rfl | rfl<;>(cases e;rfl)
 ·cases e
def alk:List D→Hd→R D
 | [x, .ty T],h=>(match tyD x h with | some t=>(match aa9 t T with | some b=>.ok (.bl b) h | none=>.no) | none=>.no)
 | _,_=>.no
theorem alm {ι:List Addr} {H:Hp} {h:Hd} {x:V} {d:D} {t:String} (r:Rep K ι H x d) (hr:HRep K ι H h) (e:tyD d h=some t):TyOf K H x (.type t):=by
 cases r with
 | non=>cases e;exact .non
 | bl b=>cases e;exact .bl b
 | int b=>cases e;exact .int b
 | str b=>cases e;exact .str b
 | ty _=>cases e
 | tup hp r=>cases e;exact .tup hp
 | rol hp r=>cases e;obtain ⟨o,hp⟩:=hp;exact .frz hp
 | scr _ _=>cases e
 | rod _ _ _=>cases e
 | rdT _ _ _=>cases e
 | exc _ _ _=>cases e
 | ref hp =>
  obtain ⟨ob,e1,e2⟩:=hr.at hp
  cases ob with
  | lst xs=>simp only [tyD,e1] at e;cases e;obtain ⟨vs,h3,h4⟩:=e2;exact .lst h3
  | dK _=>simp only [tyD,e1] at e;cases e;obtain ⟨vs,h3,h4⟩:=e2;exact .dK h3
  | dT _=>simp only [tyD,e1] at e;cases e
theorem ao2:abf K alk (fun xs H Q=>∃ x T t b,xs=[x, .ty T]∧TyOf K H x t∧PySem.W.kitOne K t (.type T)=some b∧Q (.bl b) H):=by
 intro E ι H h xs ds Q r hr o
 unfold alk at o
 split at o
 ·rename_i d T
  cases r with
  | cons r rs =>
   cases rs with
   | cons q rs =>
    cases q;cases rs
    cases ht:tyD d h with
    | none=>rw [ht] at o;exact o.elim
    | some t =>
     rw [ht] at o
     cases hb:aa9 t T with
     | none=>simp only [hb] at o;exact o.elim
     | some b =>
      simp only [hb] at o
      exact ⟨_,T, .type t,b,rfl,alm r hr ht,aaa hb,ans o (.bl _) hr⟩
 ·exact o.elim
end
end MI
namespace MI
open PySem PySem.Spec L2
section
variable {X:Cx} {K:PySem.W.Frag} {E:XD} {a b e o:Expr} {es:List Expr} {fa fb fo:SE} {ka:SA} {pos apos cpos:Pos} {name:Str} {idn:String}
def avs (K:PySem.W.Frag) (g:D→List D→Hd→R D) (r:V→List V→Hp→VK→Prop):Prop:=∀ (E:XD) ι H h x dx xs ds Q,Rep K ι H x dx→Reps K ι H xs ds→HRep K ι H h→out K E (xf K) ι H (g dx ds h) Q→r x xs H Q
def isL (d:D) (h:Hd):Bool:=match d with | .ref i=>(match h[i]? with | some (.lst _)=>true | _=>false) | .rol _=>true | _=>false
def sML (g:D→List D→Hd→R D) (f:SE) (k:SA):SE:=fun τ h=>(f τ h).bind fun d h1=>if isL d h1=true then (k τ h1).bind fun ds h2=>g d ds h2 else .no
theorem as5 {ι:List Addr} {H:Hp} {h:Hd} {x:V} {d:D} (r:Rep K ι H x d) (hr:HRep K ι H h) (e:isL d h=true):tyV K "list" x H:=by
 cases r with
 | rol hp _=>exact .inl ⟨rfl,_,hp.l⟩
 | ref hp =>
  obtain ⟨ob,e1,e2⟩:=hr.at hp
  cases ob with
  | lst xs=>obtain ⟨vs,h3,_⟩:=e2;exact .inl ⟨rfl,_,SqL.of h3⟩
  | dK _=>simp [isL,e1] at e
  | dT _=>simp [isL,e1] at e
 | _=>cases e
theorem aab {r:V→List V→Hp→VK→Prop} {g:D→List D→Hd→R D} (slot:Slot "list" name idn) (hty:typeOf (.builtin idn)=pure (.type "method_descriptor")) (hm:MtR X idn r) (hs:avs X.K g r) (ho:ME X E o fo) (ha:MA X E (e::es) ka)
  (hbase:attributeBase o name X.env (eval o X.env)=eval o X.env:=by rfl)
  (hfew:((backTo cpos (starEach (e::es) X.env)).all (fun x => !x.1) && (backToKw cpos (keywordEach [] X.env)).all (fun x=>x.1.isSome)
   && decide ((e::es).length+([]:List Keyword).length+(if ([]:List Keyword).isEmpty then 0 else 1)<30))=true:=by rfl)
  (hline:(apos.endLine == cpos.line)=true:=by rfl) (hst:starEach (e::es) X.env=(false,eval e X.env)::starEach es X.env:=by rfl) (hplain:(backTo cpos (starEach es X.env)).any (·.1)=false:=by rfl) :
  ME X E (.Call (.Attribute o name apos) (e::es) [] cpos) (sML g fo ka):=by
 refine PE.weak (avi PySem.F.plainAttrs_list slot hty hm ho ha hbase hfew hline hst hplain) fun σ H Q ⟨ι,τ,h,S,Rh,o⟩=>?_
 refine ⟨ι,τ,h,S,Rh,cj o fun d h1 ι1 H1 v g1 r1 hr1 o1=>?_⟩
 by_cases hc:isL d h1=true
 ·rw [if_pos hc] at o1
  refine ⟨as5 r1 hr1 hc,ι1,τ,h1,S.mono g1,hr1,cj o1 fun ds h2 ι2 H2 vs g2 r2 hr2 o2=>?_⟩
  exact hs E ι2 H2 h2 v d vs ds Q (r1.mono g2) r2 hr2 o2
 ·rw [if_neg hc] at o1;exact o1.elim
def a78:D→List D→Hd→R D
 | .ref i,[y],h=>(match h[i]? with | some (.lst xs)=>if xs.length<LINE then .ok .non (h.set i (.lst (xs++[y]))) else .no | _=>.no)
 | _,_,_=>.no
theorem a2x:avs K a78 afg:=by
 intro E ι H h x dx xs ds Q rx r hr o
 unfold a78 at o
 split at o
 ·rename_i i y
  cases rx with
  | @ref p _ hp =>
   cases r with
   | cons r1 rs =>
    cases rs
    split at o
    ·rename_i xs hx
     obtain ⟨vs,h3,h4⟩:=hr.lst hp hx
     split at o
     ·rename_i hc
      exact ⟨p,vs,_,rfl,rfl,h3,by rw [h4.len,ani];exact hc,anp (h4.snoc r1) hr hp .non o⟩
     ·exact o.elim
    ·exact o.elim
 ·exact o.elim
def ao3:List D→Option (List Str)
 | []=>some []
 | .str z::r=>(ao3 r).map (z::·)
 | _::_=>none
theorem aj9 {ι:List Addr} {H:Hp}:∀ {vs:List V} {xs:List D} {zs:List Str},Reps K ι H vs xs→ao3 xs=some zs→vs=zs.map V.str
 | _,_,_, .nil,e=>by cases e;rfl
 | _,_,zs, .cons (d:=d) r rs,e=>by
  cases r with
  | str z =>
   simp only [ao3,Option.map_eq_some_iff] at e
   obtain ⟨ws,h1,rfl⟩:=e
   rw [aj9 rs h1];rfl
  | _=>cases e
def a79:List D→Hd→R D
 | [.str z],h=>if z.length≤LINE then .ok (.ref h.length) (h++[.lst (zu z)]) else .no
 | [x],h=>(match a00 x h with | some xs=>.ok (.ref h.length) (h++[.lst xs]) | none=>.no)
 | _,_=>.no
theorem a2y {ι:List Addr} {H:Hp} (z:Str):Reps K ι H (wg z) (zu z):=by
 unfold wg zu
 induction z.cps.toList with
 | nil=>exact .nil
 | cons c cs ih=>exact .cons (.str _) ih
theorem aja:abf K a79 (fun xs H Q=>(∃ p ys,xs=[.ref p]∧(SqL K H p ys∨SqT K H p ys)∧∀ l,H l=none→Q (.ref l) (upd H l (.lst ys)))∨∃ z,xs=[.str z]∧z.length≤sizeLine∧∀ l,H l=none→Q (.ref l) (upd H l (.lst (wg z)))):=by
 intro E ι H h xs ds Q r hr o
 cases r with
 | nil=>exact o.elim
 | cons r rs =>
  cases rs with
  | cons _ _=>exact (show False by cases r<;>exact o).elim
  | nil =>
   cases r with
   | str z =>
    by_cases hc:z.length≤LINE
    ·simp only [a79,if_pos hc] at o;exact .inr ⟨z,rfl,ll hc,p7 (a2y z) hr o⟩
    ·simp only [a79,if_neg hc] at o;exact o.elim
   | @tup p vs xs hp r=>simp only [a79,a00] at o;exact .inl ⟨p,vs,rfl, .inr (SqT.of hp),p7 r hr o⟩
   | @rol p vs xs hp r=>simp only [a79,a00] at o;exact .inl ⟨p,vs,rfl, .inl hp.l,p7 r hr o⟩
   | @ref p j hp =>
    obtain ⟨ob,e1,e2⟩:=hr.at hp
    cases ob with
    | lst xs =>
     simp only [a79,a00,e1] at o
     obtain ⟨vs,h3,h4⟩:=e2
     exact .inl ⟨p,vs,rfl, .inl (SqL.of h3),p7 h4 hr o⟩
    | dK _=>simp only [a79,a00,e1] at o;exact o.elim
    | dT _=>simp only [a79,a00,e1] at o;exact o.elim
   | _=>exact o.elim
def m9:List D→Hd→R D
 | [.str z],h=>if z.length≤LINE then .ok (.tup (zu z)) h else .no
 | [x],h=>(match a00 x h with | some xs=>.ok (.tup xs) h | none=>.no)
 | _,_=>.no
theorem qg:abf K m9 (fun xs H Q=>(∃ p ys,xs=[.ref p]∧((SqL K H p ys∧∀ l,H l=none→Q (.ref l) (upd H l (.tup ys)))∨(SqT K H p ys∧Q (.ref p) H)))∨∃ z,xs=[.str z]∧z.length≤sizeLine∧∀ l,H l=none→Q (.ref l) (upd H l (.tup (wg z)))):=by
 intro E ι H h xs ds Q r hr o
 cases r with
 | nil=>exact o.elim
 | cons r rs =>
  cases rs with
  | cons _ _=>exact (show False by cases r<;>exact o).elim
  | nil =>
   cases r with
   | str z =>
    by_cases hc:z.length≤LINE
    ·simp only [m9,if_pos hc] at o;exact .inr ⟨z,rfl,ll hc,a0l (a2y z) hr o⟩
    ·simp only [m9,if_neg hc] at o;exact o.elim
   | @tup p vs xs hp r=>simp only [m9,a00] at o;exact .inl ⟨p,vs,rfl, .inr ⟨SqT.of hp,ans o (.tup hp r) hr⟩⟩
   | @rol p vs xs hp r=>simp only [m9,a00] at o;exact .inl ⟨p,vs,rfl, .inl ⟨hp.l,a0l r hr o⟩⟩
   | @ref p j hp =>
    obtain ⟨ob,e1,e2⟩:=hr.at hp
    cases ob with
    | lst xs =>
     simp only [m9,a00,e1] at o
     obtain ⟨vs,h3,h4⟩:=e2
     exact .inl ⟨p,vs,rfl, .inl ⟨SqL.of h3,a0l h4 hr o⟩⟩
    | dK _=>simp only [m9,a00,e1] at o;exact o.elim
    | dT _=>simp only [m9,a00,e1] at o;exact o.elim
   | _=>exact o.elim
def ao4:List D→Option (List Bool)
 | []=>some []
 | .bl z::r=>(ao4 r).map (z::·)
 | _::_=>none
def a2f:List D→Option (List Int)
 | []=>some []
 | .int z::r=>(a2f r).map (z::·)
 | _::_=>none
theorem aac {ι:List Addr} {H:Hp}:∀ {vs:List V} {xs:List D} {zs:List Bool},Reps K ι H vs xs→ao4 xs=some zs→vs=zs.map V.bl
 | _,_,_, .nil,e=>by cases e;rfl
 | _,_,zs, .cons (d:=d) r rs,e=>by
  cases r with
  | bl z =>
   simp only [ao4,Option.map_eq_some_iff] at e
   obtain ⟨ws,h1,rfl⟩:=e
   rw [aac rs h1];rfl
  | _=>cases e
theorem a2g {ι:List Addr} {H:Hp}:∀ {vs:List V} {xs:List D} {zs:List Int},Reps K ι H vs xs→a2f xs=some zs→vs=zs.map V.int
 | _,_,_, .nil,e=>by cases e;rfl
 | _,_,zs, .cons (d:=d) r rs,e=>by
  cases r with
  | int z =>
   simp only [a2f,Option.map_eq_some_iff] at e
   obtain ⟨ws,h1,rfl⟩:=e
   rw [a2g rs h1];rfl
  | _=>cases e
theorem ajb (bs:List Bool):ao4 (bs.map D.bl)=some bs:=by
 induction bs with
 | nil=>rfl
 | cons b bs ih=>simp [ao4,ih]
end
end MI
theorem L2.Room.u {k:Nat} {A:PySem.Around} (r:L2.Room k A):A.units+64<PySem.cLine:=r.units
namespace MI
open PySem PySem.Spec L2
mutual
def eqD:D→D→Bool
 | .non, .non=>true
 | .bl a, .bl b=>a == b
 | .bl a, .int b=>(if a then 1 else 0) == b
 | .int a, .bl b=>a == (if b then 1 else 0)
 | .int a, .int b=>a == b
 | .str a, .str b=>a == b
 | .tup xs, .tup ys=>abq xs ys
 | _,_=>false
def abq:List D→List D→Bool
 | [],[]=>true
 | x::xs,y::ys=>eqD x y && abq xs ys
 | _,_=>false
end
def pur:Nat→D→Bool
 | _, .non=>true
 | _, .bl _=>true
 | _, .int _=>true
 | _, .str _=>true
 | n+1, .tup xs=>xs.all (pur n)
 | _,_=>false
def pairE (xs ys:List D) (j:Nat):Bool:=match xs[j]?,ys[j]? with | some x,some y=>eqD x y | _,_=>false
theorem a2h:∀ xs ys:List D,((List.range (min xs.length ys.length)).all (pairE xs ys) && xs.length == ys.length)=abq xs ys
 | [],[]=>by simp [abq]
 | [],_::_=>by simp [abq]
 | _::_,[]=>by simp [abq]
 | x::xs,y::ys=>by
  have ih:=a2h xs ys
  rw [show min (x::xs).length (y::ys).length=min xs.length ys.length+1 by simp only [List.length_cons];omega,List.range_succ_eq_map]
  rw [List.all_cons,List.all_map]
  have e:(pairE (x::xs) (y::ys) ∘ Nat.succ)=pairE xs ys:=by funext j;simp [pairE]
  rw [e]
  simp only [abq]
  rw [← ih]
  have e2:((x::xs).length == (y::ys).length)=(xs.length == ys.length):=by simp
  rw [e2,Bool.and_assoc]
  rfl
section
variable {K:PySem.W.Frag} {ι:List Addr} {H:Hp}
theorem ajc:∀ (n:Nat) {v:V} {d e:D},Rep K ι H v d→Rep K ι H v e→pur n d=true→pur n e=true→eqD d e=true:=by
 intro n
 induction n with
 | zero=>intro v d e r q p1 p2;cases r<;>cases q<;>first | (simp [eqD];done) | (cases p1;done) | (cases p2;done)
 | succ n ih =>
  intro v d e r q p1 p2
  cases r with
  | @tup a vs xs h rs =>
   cases q with
   | @tup _ us ys h' qs =>
    rw [h] at h';cases h'
    simp only [eqD]
    simp only [pur,List.all_eq_true] at p1 p2
    clear h
    induction rs using Reps.rec (motive_1:=fun _ _ _=>True) generalizing ys with
    | nil=>cases qs;rfl
    | cons r rs _ ih2 =>
     cases qs with
     | cons q qs =>
      simp only [abq,Bool.and_eq_true]
      exact ⟨ih r q (p1 _ (List.mem_cons_self ..)) (p2 _ (List.mem_cons_self ..)),ih2 qs (fun x hx=>p1 x (List.mem_cons_of_mem _ hx)) (fun x hx=>p2 x (List.mem_cons_of_mem _ hx))⟩
    | _=>trivial
   | _=>cases p2
  | _=>cases q<;>first | (simp [eqD];done) | (cases p1;done) | (cases p2;done)
theorem a3q {n:Nat} {v:V} {d:D} (r:Rep K ι H v d) (p:pur n d=true):(∃ xs,d = .tup xs)∨(a1l v=true∧a06 d=true):=by
 cases r<;>first | exact .inr ⟨rfl,rfl⟩ | exact .inl ⟨_,rfl⟩ | (cases n<;>cases p)
theorem a7a {x y:V} {d e:D} (r:Rep K ι H x d) (q:Rep K ι H y e) (f:a06 d=true) (g:a06 e=true):eqV x y=eqD d e:=by
 cases r<;>cases q<;>first | rfl | (simp [eqV,eqD];done) | (cases f;done) | (cases g;done)
open SeqAt in
theorem aln {P:Program} {w:World} {s:Shared} (hok:HOk P w H s.heap):∀ (n:Nat) (A:Around) {x y:V} {u v:Value} {d e:D},Rep K ι H x d→Rep K ι H y e→RelV x u→RelV y v→pur n d=true→pur n e=true→A.units+n<cLine→EqAt A s u v (eqD d e):=by
 intro n
 induction n with
 | zero =>
  intro A x y u v d e r q rx ry p1 p2 hu
  rcases a3q r p1 with ⟨xs,rfl⟩ | ⟨f1,f2⟩
  ·cases p1
  ·rcases a3q q p2 with ⟨xs,rfl⟩ | ⟨g1,g2⟩
   ·cases p2
   ·rw [← a7a r q f2 g2];exact afd rx ry f1 g1
 | succ n ih =>
  intro A x y u v d e r q rx ry p1 p2 hu
  rcases a3q r p1 with ⟨xs,rfl⟩ | ⟨f1,f2⟩
  ·cases r with
   | @tup a vs _ ha rs =>
    cases rx
    obtain ⟨_,its,r1,t1⟩:=(Rd.of ha).ok hok
    rcases a3q q p2 with ⟨ys,rfl⟩ | ⟨g1,g2⟩
    ·cases q with
     | @tup b us _ hb qs =>
      cases ry
      obtain ⟨_,its2,r2,t2⟩:=(Rd.of hb).ok hok
      by_cases hab:a=b
      ·subst hab
       rw [ajc (n+1) (.tup ha rs) (.tup hb qs) p1 p2]
       exact EqAt.same _
      ·have l1:its.toArray.size=xs.length:=by rw [List.size_toArray,← r1.length,rs.len]
       have l2:its2.toArray.size=ys.length:=by rw [List.size_toArray,← r2.length,qs.len]
       have:=RcAt.tuples (A:=A) (s:=s) (e:=pairE xs ys) t1 t2 (by omega) (fun j h1 h2=>by
        have j1:j<xs.length:=by omega
        have j2:j<ys.length:=by omega
        obtain ⟨v1,e1,q1⟩:=rs.get (List.getElem?_eq_getElem j1)
        obtain ⟨v2,e2,q2⟩:=qs.get (List.getElem?_eq_getElem j2)
        obtain ⟨u1,e3,q3⟩:=r1.get e1
        obtain ⟨u2,e4,q4⟩:=r2.get e2
        have f1:its.toArray[j]=u1:=by simpa using (List.getElem?_eq_some_iff.mp e3).2
        have f2:its2.toArray[j]=u2:=by simpa using (List.getElem?_eq_some_iff.mp e4).2
        have pe:pairE xs ys j=eqD xs[j] ys[j]:=by simp [pairE,List.getElem?_eq_getElem j1,List.getElem?_eq_getElem j2]
        rw [f1,f2,pe]
        simp only [pur,List.all_eq_true] at p1 p2
        exact ih A.in1 q1 q2 q3 q4 (p1 _ (List.getElem_mem j1)) (p2 _ (List.getElem_mem j2)) (by rw [Around.in1_units];omega))
       rw [l1,l2,a2h] at this
       exact EqAt.of_refs hab this
    ·have e0:eqD (.tup xs) e=false:=by cases e<;>first | rfl | (cases g2;done)
     rw [e0]
     cases y with
     | non=>cases ry;exact EqAt.tuple_none t1 (by omega)
     | bl b=>cases ry;exact EqAt.tuple_bool b t1 (by omega)
     | int b=>obtain ⟨t,rfl⟩:=ry;exact EqAt.tuple_int b t t1 (by omega)
     | str b=>obtain ⟨t,rfl⟩:=ry;exact EqAt.tuple_str b t t1 (by omega)
     | _=>cases g1
  ·rcases a3q q p2 with ⟨ys,rfl⟩ | ⟨g1,g2⟩
   ·cases q with
    | @tup b us _ hb qs =>
     cases ry
     obtain ⟨_,its2,r2,t2⟩:=(Rd.of hb).ok hok
     have e0:eqD d (.tup ys)=false:=by cases d<;>first | rfl | (cases f2;done)
     rw [e0]
     cases x with
     | non=>cases rx;exact EqAt.none_tuple t2 (by omega)
     | bl b=>cases rx;exact EqAt.bool_tuple b t2 (by omega)
     | int b=>obtain ⟨t,rfl⟩:=rx;exact EqAt.int_tuple b t t2 (by omega)
     | str b=>obtain ⟨t,rfl⟩:=rx;exact EqAt.str_tuple b t t2 (by omega)
     | _=>cases f1
   ·rw [← a7a r q f2 g2];exact afd rx ry f1 g1
open SeqAt in
theorem as6 {A:Around} {s:Shared} {y x:V} {u v:Value} (ry:RelV y u) (rx:RelV x v) (fy:a1l y=true) (fx:a1l x=true):RcAt A s u v (eqV y x):=by
 cases y with
 | non =>
  cases ry
  cases x with
  | non=>cases rx;exact RcAt.none_none
  | bl b=>cases rx;exact RcAt.none_bool b
  | int b=>obtain ⟨t,rfl⟩:=rx;exact RcAt.none_int b t
  | str b=>obtain ⟨t,rfl⟩:=rx;exact RcAt.none_str b t
  | _=>cases fx
 | bl a =>
  cases ry
  cases x with
  | non=>cases rx;exact RcAt.bool_none a
  | bl b=>cases rx;exact RcAt.bool_bool a b
  | int b=>obtain ⟨t,rfl⟩:=rx;exact RcAt.bool_int a b t
  | str b=>obtain ⟨t,rfl⟩:=rx;exact RcAt.bool_str a b t
  | _=>cases fx
 | int a =>
  obtain ⟨t',rfl⟩:=ry
  cases x with
  | non=>cases rx;exact RcAt.int_none a t'
  | bl b=>cases rx;exact RcAt.int_bool a t' b
  | int b=>obtain ⟨t,rfl⟩:=rx;exact RcAt.int_int a t' b t
  | str b=>obtain ⟨t,rfl⟩:=rx;exact RcAt.int_str a t' b t
  | _=>cases fx
 | str a =>
  obtain ⟨t',rfl⟩:=ry
  cases x with
  | non=>cases rx;exact RcAt.str_none a t'
  | bl b=>cases rx;exact RcAt.str_bool a t' b
  | int b=>obtain ⟨t,rfl⟩:=rx;exact RcAt.str_int a t' b t
  | str b=>obtain ⟨t,rfl⟩:=rx;exact RcAt.str_str a t' b t
  | _=>cases fx
 | _=>cases fy
open SeqAt in
theorem ajd {A:Around} {s:Shared} {y x:V} {u v:Value} (ry:RelV y u) (rx:RelV x v) (fy:a1l y=true) (fx:a1l x=true):RcNeAt A s u v (!eqV y x):=by
 cases y with
 | non =>
  cases ry
  cases x with
  | non=>cases rx;exact RcNeAt.none_none
  | bl b=>cases rx;exact RcNeAt.none_bool b
  | int b=>obtain ⟨t,rfl⟩:=rx;exact RcNeAt.none_int b t
  | str b=>obtain ⟨t,rfl⟩:=rx;exact RcNeAt.none_str b t
  | _=>cases fx
 | bl a =>
  cases ry
  cases x with
  | non=>cases rx;exact RcNeAt.bool_none a
  | bl b=>cases rx;exact RcNeAt.bool_bool a b
  | int b=>obtain ⟨t,rfl⟩:=rx;exact RcNeAt.bool_int a b t
  | str b=>obtain ⟨t,rfl⟩:=rx;exact RcNeAt.bool_str a b t
  | _=>cases fx
 | int a =>
  obtain ⟨t',rfl⟩:=ry
  cases x with
  | non=>cases rx;exact RcNeAt.int_none a t'
  | bl b=>cases rx;exact RcNeAt.int_bool a t' b
  | int b=>obtain ⟨t,rfl⟩:=rx;exact RcNeAt.int_int a t' b t
  | str b=>obtain ⟨t,rfl⟩:=rx;exact RcNeAt.int_str a t' b t
  | _=>cases fx
 | str a =>
  obtain ⟨t',rfl⟩:=ry
  cases x with
  | non=>cases rx;exact RcNeAt.str_none a t'
  | bl b=>cases rx;exact RcNeAt.str_bool a t' b
  | int b=>obtain ⟨t,rfl⟩:=rx;exact RcNeAt.str_int a t' b t
  | str b=>obtain ⟨t,rfl⟩:=rx;exact RcNeAt.str_str a t' b t
  | _=>cases fx
 | _=>cases fy
open SeqAt in
theorem tops {P:Program} {w:World} {s:Shared} {A:Around} (hok:HOk P w H s.heap) {x y:V} {u v:Value} {d e:D} (r:Rep K ι H x d) (q:Rep K ι H y e) (rx:RelV x u) (ry:RelV y v) (p1:pur 60 d=true) (p2:pur 60 e=true) (hu:A.units+64<cLine) :
  RcAt A s u v (eqD d e)∧RcNeAt A s u v (!eqD d e):=by
 rcases a3q r p1 with ⟨xs,rfl⟩ | ⟨f1,f2⟩
 ·cases r with
  | @tup a vs _ ha rs =>
   cases rx
   obtain ⟨_,its,r1,t1⟩:=(Rd.of ha).ok hok
   rcases a3q q p2 with ⟨ys,rfl⟩ | ⟨g1,g2⟩
   ·cases q with
    | @tup b us _ hb qs =>
     cases ry
     obtain ⟨_,its2,r2,t2⟩:=(Rd.of hb).ok hok
     have l1:its.toArray.size=xs.length:=by rw [List.size_toArray,← r1.length,rs.len]
     have l2:its2.toArray.size=ys.length:=by rw [List.size_toArray,← r2.length,qs.len]
     have step:∀ j (h1:j<its.toArray.size) (h2:j<its2.toArray.size),EqAt A.in1 s its.toArray[j] its2.toArray[j] (pairE xs ys j):=fun j h1 h2=>by
      have j1:j<xs.length:=by omega
      have j2:j<ys.length:=by omega
      obtain ⟨v1,e1,q1⟩:=rs.get (List.getElem?_eq_getElem j1)
      obtain ⟨v2,e2,q2⟩:=qs.get (List.getElem?_eq_getElem j2)
      obtain ⟨u1,e3,q3⟩:=r1.get e1
      obtain ⟨u2,e4,q4⟩:=r2.get e2
      have f1:its.toArray[j]=u1:=by simpa using (List.getElem?_eq_some_iff.mp e3).2
      have f2:its2.toArray[j]=u2:=by simpa using (List.getElem?_eq_some_iff.mp e4).2
      have pe:pairE xs ys j=eqD xs[j] ys[j]:=by simp [pairE,List.getElem?_eq_getElem j1,List.getElem?_eq_getElem j2]
      rw [f1,f2,pe]
      simp only [pur,List.all_eq_true] at p1 p2
      exact aln hok 59 A.in1 q1 q2 q3 q4 (p1 _ (List.getElem_mem j1)) (p2 _ (List.getElem_mem j2)) (by rw [Around.in1_units];omega)
     have c1:=RcAt.tuples (A:=A) (s:=s) (e:=pairE xs ys) t1 t2 (by omega) step
     have c2:=RcNeAt.tuples (A:=A) (s:=s) (e:=pairE xs ys) t1 t2 (by omega) step
     rw [l1,l2,a2h] at c1 c2
     exact ⟨c1,c2⟩
   ·have e0:eqD (.tup xs) e=false:=by cases e<;>first | rfl | (cases g2;done)
    rw [e0]
    cases y with
    | non=>cases ry;exact ⟨RcAt.tuple_none t1 (by omega),RcNeAt.tuple_none t1 (by omega)⟩
    | bl b=>cases ry;exact ⟨RcAt.tuple_bool b t1 (by omega),RcNeAt.tuple_bool b t1 (by omega)⟩
    | int b=>obtain ⟨t,rfl⟩:=ry;exact ⟨RcAt.tuple_int b t t1 (by omega),RcNeAt.tuple_int b t t1 (by omega)⟩
    | str b=>obtain ⟨t,rfl⟩:=ry;exact ⟨RcAt.tuple_str b t t1 (by omega),RcNeAt.tuple_str b t t1 (by omega)⟩
    | _=>cases g1
 ·rcases a3q q p2 with ⟨ys,rfl⟩ | ⟨g1,g2⟩
  ·cases q with
   | @tup b us _ hb qs =>
    cases ry
    obtain ⟨_,its2,r2,t2⟩:=(Rd.of hb).ok hok
    have e0:eqD d (.tup ys)=false:=by cases d<;>first | rfl | (cases f2;done)
    rw [e0]
    cases x with
    | non=>cases rx;exact ⟨RcAt.none_tuple t2 (by omega),RcNeAt.none_tuple t2 (by omega)⟩
    | bl b=>cases rx;exact ⟨RcAt.bool_tuple b t2 (by omega),RcNeAt.bool_tuple b t2 (by omega)⟩
    | int b=>obtain ⟨t,rfl⟩:=rx;exact ⟨RcAt.int_tuple b t t2 (by omega),RcNeAt.int_tuple b t t2 (by omega)⟩
    | str b=>obtain ⟨t,rfl⟩:=rx;exact ⟨RcAt.str_tuple b t t2 (by omega),RcNeAt.str_tuple b t t2 (by omega)⟩
    | _=>cases f1
  ·rw [← a7a r q f2 g2];exact ⟨as6 rx ry f1 g1,ajd rx ry f1 g1⟩
def aws (K:PySem.W.Frag):R2:=fun x y H Q=>∃ ι d e,Rep K ι H x d∧Rep K ι H y e∧pur 60 d=true∧pur 60 e=true∧Q (.bl (eqD d e)) H
def awt (K:PySem.W.Frag):R2:=fun x y H Q=>∃ ι d e,Rep K ι H x d∧Rep K ι H y e∧pur 60 d=true∧pur 60 e=true∧Q (.bl (!eqD d e)) H
theorem abr {X:Cx} (hu:X.A.units+64<cLine):OpR X (compareOp .Eq) (aws X.K):=by
 intro pins s σ H x y v u Q I rx ry h
 obtain ⟨ι,d,e,r,q,p1,p2,hq⟩:=h
 exact (tops (A:=X.A) I.hok r q rx ry p1 p2 hu).1 X.prog X.w X.xe _ ⟨.bl _,H,I,rfl,hq⟩
theorem a6d {X:Cx} (hu:X.A.units+64<cLine):OpR X (compareOp .NotEq) (awt X.K):=by
 intro pins s σ H x y v u Q I rx ry h
 obtain ⟨ι,d,e,r,q,p1,p2,hq⟩:=h
 exact (tops (A:=X.A) I.hok r q rx ry p1 p2 hu).2 X.prog X.w X.xe _ ⟨.bl _,H,I,rfl,hq⟩
def hEq (x y:D) (h:Hd):R D:=if pur 60 x=true∧pur 60 y=true then .ok (.bl (eqD x y)) h else .no
def hNe (x y:D) (h:Hd):R D:=if pur 60 x=true∧pur 60 y=true then .ok (.bl (!eqD x y)) h else .no
theorem a7b:a2b K hEq (aws K):=by
 intro E ι H h x y dx dy Q rx ry hr o
 unfold hEq at o
 split at o
 ·rename_i hc;exact ⟨ι,dx,dy,rx,ry,hc.1,hc.2,ans o (.bl _) hr⟩
 ·exact o.elim
theorem a2z:a2b K hNe (awt K):=by
 intro E ι H h x y dx dy Q rx ry hr o
 unfold hNe at o
 split at o
 ·rename_i hc;exact ⟨ι,dx,dy,rx,ry,hc.1,hc.2,ans o (.bl _) hr⟩
 ·exact o.elim
end
section
variable {X:Cx} {E:XD} {K:PySem.W.Frag}
def ade:D→D→Hd→R D
 | .int i, .int j,h=>.ok (.int (i+j)) h
 | .str x, .str y,h=>if x.length+y.length≤LINE then .ok (.str (x++y)) h else .no
 | _,_,_=>.no
theorem aje:a2b K ade (fun x y H Q=>rI0 (fun i j=>.int (i+j)) x y H Q∨∃ i j,x = .str i∧y = .str j∧i.length+j.length≤sizeLine∧Q (.str (i++j)) H):=by
 intro E ι H h x y dx dy Q rx ry hr o
 cases rx with
 | int i =>
  cases ry with
  | int j=>exact .inl ⟨i,j,rfl,rfl,ans o (.int _) hr⟩
  | _=>exact o.elim
 | str i =>
  cases ry with
  | str j =>
   by_cases hc:i.length+j.length≤LINE
   ·simp only [ade,if_pos hc] at o;exact .inr ⟨i,j,rfl,rfl,ll hc,ans o (.str _) hr⟩
   ·simp only [ade,if_neg hc] at o;exact o.elim
  | _=>exact o.elim
 | _=>exact o.elim
theorem ag4:bootBuiltins "max" = some (.builtin "max"):=by first | exact PySem.boot_max | exact PyProof.Rows.boot_max
theorem as7:bootBuiltins "min" = some (.builtin "min"):=by first | exact PySem.boot_min | exact PyProof.Rows.boot_min
theorem ao5:bootBuiltins "bool" = some (.type "bool"):=by first | exact PySem.boot_bool | exact PyProof.Rows.boot_bool
theorem as8:bootBuiltins "sum" = some (.builtin "sum"):=by first | exact PySem.boot_sum | exact PyProof.Rows.boot_sum
theorem n8 {e:Expr} {es:List Expr} {g:SG} {ks:SGs} (h1:MG X E e g) (h2:MGs X E es ks) (hs:(assignEach (e::es) X.env).map (·.2)=assign e X.env::(assignEach es X.env).map (·.2):=by rfl):MGs X E (e::es) (jx g ks) :=
 PGs.weak (a0u h1 h2 hs) fun vs σ H Q q=>aj3 q
end
end MI
namespace ZP
open PySem PySem.Spec PySem.Builtin PySem.Builtin.SmallTypes
section
variable {prog:Program} {w:World} {A:Around} {E:Value→Shared→Prop} {s:Shared}
theorem ao6 {α:Type} {Q:α→Shared→Prop} (hh:A.handled=none) (q:∀ h' e,(∀ b o,s.heap.get? b=some o→h'.get? b=some o)→(∃ o,h'.get? e=some o∧o.cls = .type "StopIteration")→E (.ref e) { s with heap:=h' }) :
  wpAny (model prog w) A (stopIteration:Sem α) Q E s:=by
 have none_first:firstArgMember (.type "StopIteration") []=pure Value.none:=by first | rfl | (simp only [firstArgMember];rfl)
 rw [stopIteration]
 apply wpAny_bind
 rw [newExc,newTuple]
 apply wpAny_bind
 apply wpAny_newObj_type _ (by size_fits)
 rw [none_first,pure_bind]
 apply wpAny_newObj_type _ (by size_fits)
 apply wpAny_raiseNew_none hh
 exact q _ _ (fun b o z=>Heap.get?_push_of_some _ (Heap.get?_push_of_some _ z)) ⟨_,Heap.get?_push_size _ rfl,rfl⟩
theorem ajf {it t:Addr} {i:Nat} {items:Array Value} {x:Value} {Q:Value→Shared→Prop} (hi:s.heap.IsTupleIter it t i) (ht:s.heap.IsTuple t items) (hx:items[i]? = some x)
  (q:∀ h',h'.IsTupleIter it t (i+1)→Heap.SameBut it s.heap h'→Q x { s with heap:=h' }):wpAny (model prog w) A (nextOf (.ref it)) Q E s:=by
 have ty:=hi.typeIs
 obtain ⟨o,e1,e2,e3⟩:=id hi
 obtain ⟨p,f1,f2,n,f3⟩:=ht
 rw [nextOf]
 apply wpAny_bind
 apply wpAny_callSpecial?_slot (name:=Str.ofString "__next__") ty F.slot_tuple_iterator_next
 apply wpAny_call_entry F.slot_tuple_iterator_next ty F.entry_tuple_iterator_next _ (F.args_tuple_iterator_next_1 _)
 change wpAny (model prog w) A.in1 (field (.ref it) 0>>=_) _ _ _
 apply wpAny_bind;apply wpAny_field e1 e3 (x:=.ref t) rfl
 change wpAny (model prog w) A.in1 (field (.ref it) 1>>=_) _ _ _
 apply wpAny_bind;apply wpAny_field e1 e3 (x:=.int i 0) rfl
 change wpAny (model prog w) A.in1 (seqItems? (.ref t)>>=_) _ _ _
 apply wpAny_bind;apply wpAny_seqItems f1 f3
 dsimp only
 rw [Int.toNat_natCast,hx]
 apply wpAny_bind
 obtain ⟨c,dd,dt,sl⟩:=o
 simp only at e2 e3
 subst e2 e3
 apply wpAny_setField e1 rfl (Nat.lt_succ_self 1)
 apply wpAny_pure
 exact ⟨x,rfl,wpAny_pure (q _ ⟨_,Heap.get?_update_self _ e1 rfl,rfl,rfl⟩ (Heap.SameBut.update ..))⟩
theorem ao7 {it t:Addr} {i:Nat} {items:Array Value} {Q:Value→Shared→Prop} (hh:A.handled=none) (hi:s.heap.IsTupleIter it t i) (ht:s.heap.IsTuple t items) (hx:items[i]? = none)
  (q:∀ h' e,Heap.ExtBut it s.heap h'→(∃ o,h'.get? e=some o∧o.cls = .type "StopIteration")→E (.ref e) { s with heap:=h' }):wpAny (model prog w) A (nextOf (.ref it)) Q E s:=by
 have ty:=hi.typeIs
 obtain ⟨o,e1,e2,e3⟩:=id hi
 obtain ⟨p,f1,f2,n,f3⟩:=ht
 rw [nextOf]
 apply wpAny_bind
 apply wpAny_callSpecial?_slot (name:=Str.ofString "__next__") ty F.slot_tuple_iterator_next
 apply wpAny_call_entry F.slot_tuple_iterator_next ty F.entry_tuple_iterator_next _ (F.args_tuple_iterator_next_1 _)
 change wpAny (model prog w) A.in1 (field (.ref it) 0>>=_) _ _ _
 apply wpAny_bind;apply wpAny_field e1 e3 (x:=.ref t) rfl
 change wpAny (model prog w) A.in1 (field (.ref it) 1>>=_) _ _ _
 apply wpAny_bind;apply wpAny_field e1 e3 (x:=.int i 0) rfl
 change wpAny (model prog w) A.in1 (seqItems? (.ref t)>>=_) _ _ _
 apply wpAny_bind;apply wpAny_seqItems f1 f3
 dsimp only
 rw [Int.toNat_natCast,hx]
 dsimp only
 obtain ⟨c,dd,dt,sl⟩:=o
 simp only at e2 e3
 subst e2 e3
 apply wpAny_bind;apply wpAny_rule
 apply wpAny_bind;apply wpAny_setField e1 rfl (Nat.succ_pos 1)
 apply ao6 (show A.in1.handled=none from hh)
 exact fun h' e k z=>q h' e (fun b o nb eb=>k b o ((Heap.SameBut.update ..).extBut b o nb eb)) z
theorem ag5 {prog:Program} {w:World} {A:Around} (hh:A.handled=none) (it t:Addr) (ne:t≠it) (items:Array Value):Draws prog w A it [it,t] items.size (fun i v=>items[i]? = some v) (fun i h=>h.IsTupleIter it t i∧h.IsTuple t items) where
 live:=fun _ _ st=>let ⟨o,e,_⟩:=st.1; ⟨o,e⟩
 frame:=fun _ _ _ st k=>⟨let ⟨o,e,r⟩:=st.1; ⟨o,k it (by simp) o e,r⟩,let ⟨o,e,r⟩:=st.2; ⟨o,k t (by simp) o e,r⟩⟩
 item:=fun i s Q E hi st q=>ajf st.1 st.2 (Array.getElem?_eq_getElem hi) fun h' a b=>q _ h' s.toks (Array.getElem?_eq_getElem hi) ⟨a,st.2.extBut b.extBut ne⟩ b
 done:=fun s Q E st q=>ao7 hh st.1 st.2 (by simp) q
end
end ZP
namespace ZP
open PySem PySem.Spec PySem.Builtin PySem.Builtin.SmallTypes
structure Ap (z TI TO i1 i2:Addr) (p q:List Addr):Prop where
 m1:i1∈p
 m2:i2∈q
 z1:z ∉ p
 z2:z ∉ q
 o1:TO ∉ p
 o2:TO ∉ q
 oz:TO≠z
 x1:i1 ∉ q
 x2:i2 ∉ p
section
variable {prog:Program} {w:World} {A:Around} {E:Value→Shared→Prop} {s:Shared} {z TI TO i1 i2:Addr} {p q:List Addr} {n1 n2 k:Nat} {P1 P2:Nat→Value→Prop} {S1 S2:Nat→Heap→Prop} {a b:Value}
theorem far {D:Draws prog w A i1 p n1 P1 S1} {h h':Heap} {c:Addr} (sb:Heap.SameBut c h h') (nc:c ∉ p) (st:S1 k h):S1 k h':=D.frame _ _ _ st fun x hx o e=>sb.extBut x o (fun y=>nc (y ▸ hx)) e
theorem ag6 {Q:Fin→Shared→Prop} (hz:IsZip s.heap z TI TO .none) (hi:IsPair s.heap TI (.ref i1) (.ref i2)) (ho:IsPair s.heap TO a b) (oz:TO≠z)
  (go:∀ h1,IsZip h1 z TI TO .ellipsis→Heap.SameBut z s.heap h1→wpAny (model prog w) A (nextOf (.ref i1))
   (fun x s2=>IsPair s2.heap TO a b∧∀ h3,IsPair h3 TO x b→Heap.SameBut TO s2.heap h3→wpAny (model prog w) A (nextOf (.ref i2))
    (fun y s4=>IsPair s4.heap TO x b∧∀ h5,IsPair h5 TO x y→Heap.SameBut TO s4.heap h5→IsZip h5 z TI TO .ellipsis∧∀ h8,IsZip h8 z TI TO (rawInt h5.objs.size)→IsPair h8 h5.objs.size x y→h8.objs.size=h5.objs.size+1 →
     (∀ c o,c≠z→h5.get? c=some o→h8.get? c=some o)→Q (.done (.ret (.ref h5.objs.size))) { s4 with heap:=h8 })
    (fun e s4=>wpAny (model prog w) A (setField (.ref z) 0 .none) (fun _ s5=>E e s5) E s4) { s2 with heap:=h3 })
   (fun e s2=>wpAny (model prog w) A (setField (.ref z) 0 .none) (fun _ s3=>E e s3) E s2) { s with heap:=h1 }) :
  wpAny (model prog w) A (Builtin.«zip.__next__» ⟨[.ref z],[]⟩) Q E s:=by
 change wpAny (model prog w) A (field (.ref z) 2>>=_) _ _ _
 apply wpAny_bind;apply wpAny_field hz rfl (x:=.bool false) rfl
 change wpAny (model prog w) A (field (.ref z) 3>>=_) _ _ _
 apply wpAny_bind;apply wpAny_field hz rfl (x:=.ref TI) rfl
 apply wpAny_bind;apply wpAny_seqItems hi rfl
 change wpAny (model prog w) A (ownedTupleIsFree (.ref z)>>=_) _ _ _
 apply wpAny_bind
 rw [ownedTupleIsFree]
 apply wpAny_bind;apply wpAny_field hz rfl (x:=.none) rfl
 apply wpAny_pure
 rw [if_pos rfl]
 apply wpAny_bind;apply wpAny_rule
 apply wpAny_bind;apply wpAny_field hz rfl (x:=.ref TO) rfl
 apply wpAny_bind;apply wpAny_setField_rec hz (Nat.succ_pos _)
 intro h1 z1 b1
 apply wpAny_bind
 simp only [List.zipIdx_cons,List.zipIdx_nil,List.forIn_cons,List.forIn_nil]
 apply wpAny_bind;apply wpAny_bind;apply wpAny_onRaise
 change wpAny (model prog w) A (nextOf (.ref i1)>>=_) _ _ _
 apply wpAny_bind
 apply wpAny_mono (go h1 z1 b1) _ fun _ _ r=>r
 rintro x s2 ⟨o2,g2⟩
 apply wpAny_pure
 apply wpAny_bind;apply wpAny_seqItems o2 rfl
 apply wpAny_bind;apply wpAny_updateSeq_pair o2
 intro h3 o3 b3
 apply wpAny_bind;apply wpAny_letGo;apply wpAny_pure
 apply wpAny_bind;apply wpAny_bind;apply wpAny_onRaise
 change wpAny (model prog w) A (nextOf (.ref i2)>>=_) _ _ _
 apply wpAny_bind
 apply wpAny_mono (g2 h3 o3 b3) _ fun _ _ r=>r
 rintro y s4 ⟨o4,g4⟩
 apply wpAny_pure
 apply wpAny_bind;apply wpAny_seqItems o4 rfl
 apply wpAny_bind;apply wpAny_updateSeq_pair o4
 intro h5 o5 b5
 obtain ⟨z5,g5⟩:=g4 h5 o5 b5
 apply wpAny_bind;apply wpAny_letGo;apply wpAny_pure;apply wpAny_pure
 apply wpAny_bind;apply wpAny_seqItems o5 rfl
 apply wpAny_bind;refine wpAny_newTuple ?_ (by show 2≤sizeLine;decide)
 change wpAny (model prog w) A (ownedTupleHandOut (.ref z) (.ref h5.objs.size)>>=_) _ _ _
 apply wpAny_bind
 rw [ownedTupleHandOut]
 have z6:IsZip (h5.push { cls:=.type "tuple",data:=.seq #[x,y] }) z TI TO .ellipsis:=Heap.get?_push_of_some _ z5
 have lt:z<h5.objs.size:=Heap.lt_size z5
 apply wpAny_bind;apply wpAny_setField_rec z6 (Nat.succ_pos _)
 intro h7 z7 b7
 apply wpAny_setField_rec z7 (by show 1<5;decide)
 intro h8 z8 b8
 apply wpAny_pure
 refine g5 h8 z8 (b8.extBut _ _ (Nat.ne_of_gt lt) (b7.extBut _ _ (Nat.ne_of_gt lt) (Heap.get?_push_size _ rfl))) ?_ fun c o nc e=>b8.extBut _ _ nc (b7.extBut _ _ nc (Heap.get?_push_of_some _ e))
 rw [b8.1,b7.1,Heap.size_push]
theorem ajg {Q:Value→Shared→Prop} (D1:Draws prog w A i1 p n1 P1 S1) (D2:Draws prog w A i2 q n2 P2 S2) (ap:Ap z TI TO i1 i2 p q) (hz:IsZip s.heap z TI TO .none) (hi:IsPair s.heap TI (.ref i1) (.ref i2)) (ho:IsPair s.heap TO a b)
  (s1:S1 k s.heap) (s2:S2 k s.heap) (k1:k<n1) (k2:k<n2)
  (hQ:∀ x y h' tk,P1 k x→P2 k y→IsZip h' z TI TO (rawInt s.heap.objs.size)→IsPair h' TO x y→S1 (k+1) h'→S2 (k+1) h'→IsPair h' s.heap.objs.size x y→h'.objs.size=s.heap.objs.size+1 →
   (∀ c o,c≠z→c≠TO→c≠i1→c≠i2→s.heap.get? c=some o→h'.get? c=some o)→Q (.ref s.heap.objs.size) { s with heap:=h',toks:=tk }) :
  wpAny (model prog w) A (Builtin.«zip.__next__» ⟨[.ref z],[]⟩) (fun fin s'=>∃ v,fin = .done (.ret v)∧Q v s') E s:=by
 have ni1:i1≠z:=fun e=>ap.z1 (e ▸ ap.m1)
 have ni2:i2≠z:=fun e=>ap.z2 (e ▸ ap.m2)
 have no1:TO≠i1:=fun e=>ap.o1 (e ▸ ap.m1)
 have no2:TO≠i2:=fun e=>ap.o2 (e ▸ ap.m2)
 refine ag6 hz hi ho ap.oz fun h1 z1 b1=>?_
 refine D1.item k _ _ _ k1 (far (D:=D1) b1 ap.z1 s1) fun x h2 t2 px st2 b2=>?_
 refine ⟨b2.extBut _ _ no1 (b1.extBut _ _ ap.oz ho),fun h3 o3 b3=>?_⟩
 refine D2.item k _ _ _ k2 (far (D:=D2) b3 ap.o2 (far (D:=D2) b2 ap.x1 (far (D:=D2) b1 ap.z2 s2))) fun y h4 t4 py st4 b4=>?_
 refine ⟨b4.extBut _ _ no2 o3,fun h5 o5 b5=>⟨b5.extBut _ _ ap.oz.symm (b4.extBut _ _ ni2.symm (b3.extBut _ _ ap.oz.symm (b2.extBut _ _ ni1.symm z1))),fun h8 z8 t8 l8 k8=>⟨_,rfl,?_⟩⟩⟩
 have sz:h5.objs.size=s.heap.objs.size:=by rw [b5.1,b4.1,b3.1,b2.1,b1.1]
 have g1:S1 (k+1) h8:=D1.frame _ _ _ (far (D:=D1) b5 ap.o1 (far (D:=D1) b4 ap.x2 (far (D:=D1) b3 ap.o1 st2))) fun c hc o e=>k8 c o (fun y=>ap.z1 (y ▸ hc)) e
 have g2:S2 (k+1) h8:=D2.frame _ _ _ (far (D:=D2) b5 ap.o2 st4) fun c hc o e=>k8 c o (fun y=>ap.z2 (y ▸ hc)) e
 rw [sz] at z8 t8 l8 ⊢
 exact hQ x y h8 t4 px py z8 (k8 _ _ ap.oz o5) g1 g2 t8 l8 fun c o c1 c2 c3 c4 e=>k8 c o c1 (b5.extBut _ _ c2 (b4.extBut _ _ c4 (b3.extBut _ _ c2 (b2.extBut _ _ c3 (b1.extBut _ _ c1 e)))))
theorem ao8 {Q:Fin→Shared→Prop} (D1:Draws prog w A i1 p n1 P1 S1) (D2:Draws prog w A i2 q n2 P2 S2) (ap:Ap z TI TO i1 i2 p q) (hz:IsZip s.heap z TI TO .none) (hi:IsPair s.heap TI (.ref i1) (.ref i2)) (ho:IsPair s.heap TO a b)
  (s1:S1 k s.heap) (s2:S2 k s.heap) (kk:k=n1∨(k<n1∧k=n2))
  (hE:∀ h' tk e,(∀ c o,c≠z→c≠TO→c≠i1→c≠i2→s.heap.get? c=some o→h'.get? c=some o)→(∃ o,h'.get? e=some o∧o.cls = .type "StopIteration")→E (.ref e) { s with heap:=h',toks:=tk }) :
  wpAny (model prog w) A (Builtin.«zip.__next__» ⟨[.ref z],[]⟩) Q E s:=by
 have ni1:i1≠z:=fun e=>ap.z1 (e ▸ ap.m1)
 have ni2:i2≠z:=fun e=>ap.z2 (e ▸ ap.m2)
 have no1:TO≠i1:=fun e=>ap.o1 (e ▸ ap.m1)
 have stop:∀ {h:Heap} {e:Addr},(∃ o,h.get? e=some o∧o.cls = .type "StopIteration")→IsZip h z TI TO .ellipsis→e≠z:=fun {h e} ⟨o,eo,ec⟩ zz y=>by
  subst y;rw [zz] at eo;cases eo;simp at ec
 refine ag6 hz hi ho ap.oz fun h1 z1 b1=>?_
 rcases kk with rfl | ⟨k1,rfl⟩
 ·refine D1.done _ _ _ (far (D:=D1) b1 ap.z1 s1) fun h2 e x2 st=>?_
  have z2:IsZip h2 z TI TO .ellipsis:=x2 _ _ ni1.symm z1
  have ne:=stop st z2
  obtain ⟨oe,f1,f2⟩:=st
  refine wpAny_setField_rec z2 (Nat.succ_pos _) fun h3 _ b3=>?_
  exact hE h3 _ e (fun c o c1 _ c3 _ y=>b3.extBut _ _ c1 (x2 _ _ c3 (b1.extBut _ _ c1 y))) ⟨oe,b3.extBut _ _ ne f1,f2⟩
 ·refine D1.item k _ _ _ k1 (far (D:=D1) b1 ap.z1 s1) fun x h2 t2 px st2 b2=>?_
  refine ⟨b2.extBut _ _ no1 (b1.extBut _ _ ap.oz ho),fun h3 o3 b3=>?_⟩
  refine D2.done _ _ _ (far (D:=D2) b3 ap.o2 (far (D:=D2) b2 ap.x1 (far (D:=D2) b1 ap.z2 s2))) fun h4 e x4 st=>?_
  have z4:IsZip h4 z TI TO .ellipsis:=x4 _ _ ni2.symm (b3.extBut _ _ ap.oz.symm (b2.extBut _ _ ni1.symm z1))
  have ne:=stop st z4
  obtain ⟨oe,f1,f2⟩:=st
  refine wpAny_setField_rec z4 (Nat.succ_pos _) fun h5 _ b5=>?_
  exact hE h5 _ e (fun c o c1 c2 c3 c4 y=>b5.extBut _ _ c1 (x4 _ _ c4 (b3.extBut _ _ c2 (b2.extBut _ _ c3 (b1.extBut _ _ c1 y))))) ⟨oe,b5.extBut _ _ ne f1,f2⟩
theorem next_item {Q:Option Value→Shared→Prop} (D1:Draws prog w A.in1 i1 p n1 P1 S1) (D2:Draws prog w A.in1 i2 q n2 P2 S2) (ap:Ap z TI TO i1 i2 p q) (hz:IsZip s.heap z TI TO .none) (hi:IsPair s.heap TI (.ref i1) (.ref i2)) (ho:IsPair s.heap TO a b)
  (s1:S1 k s.heap) (s2:S2 k s.heap) (k1:k<n1) (k2:k<n2)
  (hQ:∀ x y h' tk,P1 k x→P2 k y→IsZip h' z TI TO (rawInt s.heap.objs.size)→IsPair h' TO x y→S1 (k+1) h'→S2 (k+1) h'→IsPair h' s.heap.objs.size x y→h'.objs.size=s.heap.objs.size+1 →
   (∀ c o,c≠z→c≠TO→c≠i1→c≠i2→s.heap.get? c=some o→h'.get? c=some o)→Q (some (.ref s.heap.objs.size)) { s with heap:=h',toks:=tk }):wpAny (model prog w) A (pyNext (.ref z)) Q E s:=by
 have ty:s.TypeIs (.ref z) "zip":=⟨_,hz,rfl⟩
 rw [pyNext]
 apply wpAny_bind;apply wpAny_attempt
 apply wpAny_callSpecial?_slot (name:=Str.ofString "__next__") ty F.slot_zip_next
 apply wpAny_call_entry F.slot_zip_next ty F.entry_zip_next _ (F.args_zip_next_1 _)
 exact ajg D1 D2 ap hz hi ho s1 s2 k1 k2 fun x y h' tk c1 c2 c3 c4 c5 c6 c7 c8 c9=>wpAny_pure (hQ x y h' tk c1 c2 c3 c4 c5 c6 c7 c8 c9)
theorem next_end {Q:Option Value→Shared→Prop} (D1:Draws prog w A.in1 i1 p n1 P1 S1) (D2:Draws prog w A.in1 i2 q n2 P2 S2) (ap:Ap z TI TO i1 i2 p q) (hz:IsZip s.heap z TI TO .none) (hi:IsPair s.heap TI (.ref i1) (.ref i2)) (ho:IsPair s.heap TO a b)
  (s1:S1 k s.heap) (s2:S2 k s.heap) (kk:k=n1∨(k<n1∧k=n2))
  (hQ:∀ h' tk,(∀ c o,c≠z→c≠TO→c≠i1→c≠i2→s.heap.get? c=some o→h'.get? c=some o)→Q none { s with heap:=h',toks:=tk }):wpAny (model prog w) A (pyNext (.ref z)) Q E s:=by
 have ty:s.TypeIs (.ref z) "zip":=⟨_,hz,rfl⟩
 rw [pyNext]
 apply wpAny_bind;apply wpAny_attempt
 apply wpAny_callSpecial?_slot (name:=Str.ofString "__next__") ty F.slot_zip_next
 apply wpAny_call_entry F.slot_zip_next ty F.entry_zip_next _ (F.args_zip_next_1 _)
 refine ao8 D1 D2 ap hz hi ho s1 s2 kk fun h' tk e kp ⟨o,f1,f2⟩=>?_
 refine wpAny_bind (wpAny_isInstance (b:=true) (T := "StopIteration") ⟨o,f1,f2⟩ isSubtype_stop (wpAny_pure (hQ h' tk kp)))
end
end ZP
namespace ZP
open PySem PySem.Spec PySem.Builtin PySem.Builtin.SmallTypes L2
inductive Srk where
 | tup (a:Addr) | lst (a:Addr) | str (x:Str)
def Srk.v:Srk→V
 | .tup a=>.ref a
 | .lst a=>.ref a
 | .str x=>.str x
def its (H:Hp):Srk→Option (List V)
 | .tup a=>match H a with | some (.tup vs)=>some vs | _=>none
 | .lst a=>match H a with | some (.lst vs)=>some vs | some (.frz _ (.lst vs))=>some vs | _=>none
 | .str x=>some (wg x)
def own (it:Addr) (t:Tok):Srk→Nat→Heap→Prop
 | .tup a,i,h=>h.IsTupleIter it a i
 | .lst a,i,h=>h.IsListIter it a i
 | .str x,i,h=>h.IsStrIter it (strIterType x) x t i
def iob (t:Tok):Srk→Obj
 | .tup a=>{ cls:=.type "tuple_iterator",data:=.fields #[.ref a, .int 0 0] }
 | .lst a=>{ cls:=.type "list_iterator",data:=.fields #[.ref a, .int 0 0] }
 | .str x=>{ cls:=.type (strIterType x),data:=.fields #[.str x t, .int 0 0] }
def val (t:Tok):Srk→Value
 | .tup a=>.ref a
 | .lst a=>.ref a
 | .str x=>.str x t
def cont (h:Heap):Srk→List Value→Prop
 | .tup a,us=>h.IsTuple a us.toArray
 | .lst a,us=>h.IsList a us.toArray
 | .str x,us=>True
theorem avt {it:Addr} {t:Tok} {k:Srk} {h:Heap} (e:h.get? it=some (iob t k)):own it t k 0 h:=by
 cases k with
 | tup a=>exact ⟨_,e,rfl,rfl⟩
 | lst a=>exact ⟨_,e,rfl,rfl⟩
 | str x=>exact ⟨_,e,rfl,rfl⟩
theorem a3a {it:Addr} {t:Tok} {k:Srk} {i:Nat} {h:Heap} (o:own it t k i h):∃ ob,h.get? it=some ob∧∀ v,ob.data≠.cell v:=by
 cases k with
 | tup a=>obtain ⟨ob,e,_,d⟩:=o;exact ⟨ob,e,fun v z=>by rw [d] at z;cases z⟩
 | lst a=>obtain ⟨ob,e,_,d⟩:=o;exact ⟨ob,e,fun v z=>by rw [d] at z;cases z⟩
 | str x=>obtain ⟨ob,e,_,d⟩:=o;exact ⟨ob,e,fun v z=>by rw [d] at z;cases z⟩
theorem a0w {it:Addr} {t:Tok} {k:Srk} {i:Nat} {h h':Heap} (o:own it t k i h) (kk:∀ ob,h.get? it=some ob→h'.get? it=some ob):own it t k i h':=by
 cases k with
 | tup a=>obtain ⟨ob,e,r⟩:=o;exact ⟨ob,kk _ e,r⟩
 | lst a=>obtain ⟨ob,e,r⟩:=o;exact ⟨ob,kk _ e,r⟩
 | str x=>obtain ⟨ob,e,r⟩:=o;exact ⟨ob,kk _ e,r⟩
section
variable {P:Program} {w:World} {H:Hp} {s:Shared}
theorem a4s {X:Cx} {pins:List (Addr × Obj)} {σ:St} (I:Inv X pins σ H s) {k:Srk} {xs:List V} (e:its H k=some xs):∃ us,cont s.heap k us∧((∀ x,k≠.str x)→Vals xs us):=by
 cases k with
 | tup a =>
  cases q:H a with
  | none=>simp [its,q] at e
  | some o =>
   cases o with
   | tup vs =>
    simp [its,q] at e;subst e
    obtain ⟨us,r,t,_⟩:=I.tuple (SqT.of q)
    exact ⟨us,t,fun _=>r⟩
   | _=>simp [its,q] at e
 | lst a =>
  cases q:H a with
  | none=>simp [its,q] at e
  | some o =>
   cases o with
   | lst vs =>
    simp [its,q] at e;subst e
    obtain ⟨us,r,t,_⟩:=I.list (SqL.of q)
    exact ⟨us,t.isList,fun _=>r⟩
   | frz ob u =>
    cases u with
    | lst vs =>
     simp [its,q] at e;subst e
     obtain ⟨us,r,t,_⟩:=I.list (.inl (.inr ⟨_,q⟩))
     exact ⟨us,t.isList,fun _=>r⟩
    | _=>simp [its,q] at e
   | _=>simp [its,q] at e
 | str x=>exact ⟨[],True.intro,fun n=>absurd rfl (n x)⟩
theorem a3b {X:Cx} {pins:List (Addr × Obj)} {σ:St} (I:Inv X pins σ H s) {k:Srk} {xs:List V} {it:Addr} {t:Tok} (e:its H k=some xs) (hn:H it=none) :
  ∃ (cs:List Addr) (P1:Nat→Value→Prop) (S1:Nat→Heap→Prop),(∀ A:Around,A.handled=none→Draws X.prog X.w A it (it::cs) xs.length P1 S1)∧(∀ i,own it t k i s.heap→S1 i s.heap)∧(∀ i h,S1 i h→own it t k i h)∧(∀ c∈cs,H c≠none) ∧
   ∀ i v,P1 i v→∃ x,xs[i]? = some x∧RelV x v:=by
 cases k with
 | tup a =>
  obtain ⟨us,c,r⟩:=a4s I e
  have r:=r (by intro x z;cases z)
  have ha:H a≠none:=fun z=>by simp [its,z] at e
  have l:us.toArray.size=xs.length:=by rw [List.size_toArray,r.length]
  refine ⟨[a],fun i v=>us.toArray[i]? = some v,fun i h=>h.IsTupleIter it a i∧h.IsTuple a us.toArray,fun A hA=>?_,fun i o=>⟨o,c⟩,fun i h z=>z.1,fun c hc=>by rw [List.mem_singleton.mp hc];exact ha,fun i v z=>?_⟩
  ·have:=ag5 (prog:=X.prog) (w:=X.w) hA it a (fun y=>ha (y ▸ hn)) us.toArray
   rw [l] at this;exact this
  ·have z':us[i]? = some v:=by simpa using z
   have hi:i<xs.length:=by rw [r.length];exact (List.getElem?_eq_some_iff.mp z').1
   obtain ⟨u,e1,e2⟩:=r.get (List.getElem?_eq_getElem hi)
   rw [z'] at e1;cases e1
   exact ⟨_,List.getElem?_eq_getElem hi,e2⟩
 | lst a =>
  obtain ⟨us,c,r⟩:=a4s I e
  have r:=r (by intro x z;cases z)
  have ha:H a≠none:=fun z=>by simp [its,z] at e
  have l:us.toArray.size=xs.length:=by rw [List.size_toArray,r.length]
  refine ⟨[a],fun i v=>us.toArray[i]? = some v,fun i h=>h.IsListIter it a i∧h.IsList a us.toArray,fun A hA=>?_,fun i o=>⟨o,c⟩,fun i h z=>z.1,fun c hc=>by rw [List.mem_singleton.mp hc];exact ha,fun i v z=>?_⟩
  ·have:=Draws.list (prog:=X.prog) (w:=X.w) hA it a (fun y=>ha (y ▸ hn)) us.toArray
   rw [l] at this;exact this
  ·have z':us[i]? = some v:=by simpa using z
   have hi:i<xs.length:=by rw [r.length];exact (List.getElem?_eq_some_iff.mp z').1
   obtain ⟨u,e1,e2⟩:=r.get (List.getElem?_eq_getElem hi)
   rw [z'] at e1;cases e1
   exact ⟨_,List.getElem?_eq_getElem hi,e2⟩
 | str x =>
  cases e
  have l:(wg x).length=x.cps.size:=by simp [wg]
  refine ⟨[],fun i v=>∃ c u,x.cps[i]? = some c∧v = .str ⟨#[c]⟩ u,fun i h=>h.IsStrIter it (strIterType x) x t i,fun A hA=>?_,fun i o=>o,fun i h z=>z,fun c hc=>(by cases hc),fun i v z=>?_⟩
  ·rw [l]
   cases ha:x.cps.all (· < 128)
   ·have:=Draws.strWide (prog:=X.prog) (w:=X.w) hA it x t
    simpa [strIterType,ha] using this
   ·have:=Draws.strAscii (prog:=X.prog) (w:=X.w) hA it x t
    simpa [strIterType,ha] using this
  ·obtain ⟨c,u,e1,rfl⟩:=z
   exact ⟨.str ⟨#[c]⟩,by simp [wg,e1],⟨_,rfl⟩⟩
end
def ItZ (k1 k2:Srk):It where
 go:=fun i H=>∃ xs ys x y,its H k1=some xs∧its H k2=some ys∧xs[i]? = some x∧ys[i]? = some y
 yld:=fun i H v H'=>∃ xs ys x y p,its H k1=some xs∧its H k2=some ys∧xs[i]? = some x∧ys[i]? = some y∧H p=none∧v = .ref p∧H'=upd H p (.tup [x,y])
 stop:=fun i H=>∃ xs ys,its H k1=some xs∧its H k2=some ys∧(i=xs.length∨(i<xs.length∧i=ys.length))
def tnZ (z TI TO i1 i2:Addr) (t1 t2:Tok) (k1 k2:Srk) (i:Nat) (h:Heap):Prop :=
 IsZip h z TI TO .none∧IsPair h TI (.ref i1) (.ref i2)∧(∃ a b,IsPair h TO a b)∧own i1 t1 k1 i h∧own i2 t2 k2 i h
structure Far (z TI TO i1 i2:Addr):Prop where
 a:TI≠z
 b:TO≠z
 c:i1≠z
 d:i2≠z
 e:TI≠TO
 f:TI≠i1
 g:TI≠i2
 h:TO≠i1
 i:TO≠i2
 j:i1≠i2
theorem a7c {X:Cx} {pins:List (Addr × Obj)} {σ:St} {H:Hp} {s:Shared} {h':Heap} {t':Nat} {ch:List Addr} (I:Inv X pins σ H s) (hf:∀ b∈ch,FpOk X pins H b) (k:∀ b o,b ∉ ch→s.heap.get? b=some o→h'.get? b=some o) :
  Inv X pins σ H { s with heap:=h',toks:=t' }:=by
 have nit:∀ b u,H b=some u→b ∉ ch:=fun b u e z=>by rw [(hf b z).1] at e;cases e
 refine I.step (g':=s.gens) (d':=s.drawn) (ch:=ch) (fun b hb=>?_) (fun b o _ _ hc e _=>k b o hc e) (fun b o _ _ hc e _=>⟨o.slots,k b o hc e⟩) (fun _ _ _ _ n=>n) (fun b o hc e=>⟨o,k b o hc e⟩) (fun _ _ e=>e) (fun _ _ _ e=>e)
  (fun b ps e=>⟨#[],by rw [e];simp⟩) (fun m hm=>?_) (fun b u e=>?_) I.bare
 ·obtain ⟨_,f1,_,f3,f4,f5⟩:=hf b hb
  exact ⟨f3,f1,f4,f5⟩
 ·obtain ⟨o,es,ep,ho,r⟩:=hm
  exact ⟨o,es,ep,k _ o (fun z=>(hf _ z).2.1 rfl) ho,r⟩
 ·refine (I.hok b u e).stay (fun c v hc q=>k c v ?_ q) (fun _ q=>q) fun _ _ q=>q
  rcases hc with z | z
  ·rw [z];exact nit b u e
  ·exact nit c _ z
theorem ajh {P:Program} {w:World} {K:PySem.W.Frag} {elts:List Expr} {x1:Nat} {pos:Pos} {z TI TO i1 i2:Addr} {t1 t2:Tok} {k1 k2:Srk} (f:Far z TI TO i1 i2):Turn P w K (.Tuple elts x1 pos) (ItZ k1 k2) [z,TI,TO,i1,i2] z (tnZ z TI TO i1 i2 t1 t2 k1 k2) where
 mem:=by simp
 obj:=fun i h st b hb=>by
  obtain ⟨h1,h2,⟨a,b',h3⟩,h4,h5⟩:=st
  simp only [List.mem_cons,List.not_mem_nil,or_false] at hb
  rcases hb with rfl | rfl | rfl | rfl | rfl
  ·exact ⟨_,h1,fun v z=>(by cases z)⟩
  ·exact ⟨_,h2,fun v z=>(by cases z)⟩
  ·exact ⟨_,h3,fun v z=>(by cases z)⟩
  ·exact a3a h4
  ·exact a3a h5
 keep:=fun i h h' st k=>by
  obtain ⟨h1,h2,⟨a,b',h3⟩,h4,h5⟩:=st
  exact ⟨k z (by simp) _ h1,k TI (by simp) _ h2,⟨a,b',k TO (by simp) _ h3⟩,a0w h4 fun ob e=>k i1 (by simp) ob e,a0w h5 fun ob e=>k i2 (by simp) ob e⟩
 item:=by
  intro X hP hw hK hc i pins s σ H E I hf st hg
  subst hP hw hK
  obtain ⟨xs,ys,x,y,e1,e2,g1,g2⟩:=hg
  obtain ⟨h1,h2,⟨a,b,h3⟩,h4,h5⟩:=st
  have n:∀ c∈[z,TI,TO,i1,i2],H c=none:=fun c hc=>(hf c hc).1
  obtain ⟨cs,P1,S1,D1,a1,b1,c1,d1⟩:=a3b I (t:=t1) e1 (n i1 (by simp))
  obtain ⟨ds,P2,S2,D2,a2,b2,c2,d2⟩:=a3b I (t:=t2) e2 (n i2 (by simp))
  have hd:=I.ok.hd hc
  have out1:∀ c,H c=none→c ∉ cs:=fun c e z=>c1 c z e
  have out2:∀ c,H c=none→c ∉ ds:=fun c e z=>c2 c z e
  have ap:Ap z TI TO i1 i2 (i1::cs) (i2::ds):=⟨by simp,by simp,by simp [f.c.symm,out1 z (n z (by simp))],by simp [f.d.symm,out2 z (n z (by simp))],by simp [f.h,out1 TO (n TO (by simp))],by simp [f.i,out2 TO (n TO (by simp))],f.b,by simp [f.j,out2 i1 (n i1 (by simp))],by simp [f.j.symm,out1 i2 (n i2 (by simp))]⟩
  refine next_item (D1 X.A.in1 hd) (D2 X.A.in1 hd) ap h1 h2 h3 (a1 i h4) (a2 i h5) (List.getElem?_eq_some_iff.mp g1).1 (List.getElem?_eq_some_iff.mp g2).1 fun u v h' tk pu pv z' to' s1' s2' pr sz kp=>?_
  obtain ⟨x',q1,r1⟩:=d1 i u pu
  obtain ⟨y',q2,r2⟩:=d2 i v pv
  rw [g1] at q1;cases q1
  rw [g2] at q2;cases q2
  refine ⟨_,rfl,wpAny_letOwnedTupleGo_zip z' fun h2' z2' sb=>?_⟩
  have hp:H s.heap.objs.size=none:=I.hok.fresh (Nat.le_refl _)
  have lt:∀ c∈[z,TI,TO,i1,i2],c<s.heap.objs.size:=fun c hc=>by
   simp only [List.mem_cons,List.not_mem_nil,or_false] at hc
   rcases hc with rfl | rfl | rfl | rfl | rfl
   ·exact Heap.lt_size h1
   ·exact Heap.lt_size h2
   ·exact Heap.lt_size h3
   ·obtain ⟨_,e,_⟩:=a3a h4;exact Heap.lt_size e
   ·obtain ⟨_,e,_⟩:=a3a h5;exact Heap.lt_size e
  have all:∀ c o,c ∉ [z,TI,TO,i1,i2]→s.heap.get? c=some o→h2'.get? c=some o:=fun c o nc e=>by
   simp only [List.mem_cons,List.not_mem_nil,or_false,not_or] at nc
   exact (sb.2 c nc.1).trans (kp c o nc.1 nc.2.2.1 nc.2.2.2.1 nc.2.2.2.2 e)
  have nT:∀ c∈[z,TI,TO,i1,i2],c≠s.heap.objs.size:=fun c hc=>Nat.ne_of_lt (lt c hc)
  have I0:Inv X pins σ (upd H s.heap.objs.size (.tup [x,y])) { s with heap:=s.heap.push { cls:=.type "tuple",data:=.seq #[u,v] } } :=
   I.laid (t':=s.toks) (o:=.tup [x,y]) (fun b o e=>Heap.get?_push_of_some _ e) (Nat.le_refl _) ⟨by show 2≤sizeLine;decide,[u,v], .cons r1 (.cons r2 .nil),⟨_,Heap.get?_push_size _ rfl,rfl,_,rfl⟩⟩
  have I1:Inv X pins σ (upd H s.heap.objs.size (.tup [x,y])) { s with heap:=h2',toks:=tk }:=by
   refine a7c (s:={ s with heap:=s.heap.push { cls:=.type "tuple",data:=.seq #[u,v] } }) (ch:=[z,TI,TO,i1,i2]) I0 (fun b hb=>?_) fun c o nc e=>?_
   ·obtain ⟨f0,f1⟩:=hf b hb
    exact ⟨by rw [dw (nT b hb)];exact f0,f1⟩
   ·rcases Heap.get?_push_cases e with ⟨rfl,rfl⟩ | e
    ·exact (sb.2 _ (nT z (by simp)).symm).trans pr
    ·exact all c o nc e
  refine ⟨.ref s.heap.objs.size,_,I1,rfl,⟨xs,ys,x,y,_,e1,e2,g1,g2,hp,rfl,rfl⟩,⟨z2',?_,⟨u,v,(sb.2 _ f.b).trans to'⟩,a0w (b1 _ _ s1') fun ob e=>(sb.2 _ f.c).trans e,a0w (b2 _ _ s2') fun ob e=>(sb.2 _ f.d).trans e⟩,fun b hb=>?_⟩
  ·exact (sb.2 _ f.a).trans (kp TI _ f.a f.e f.f f.g h2)
  ·rw [dw (nT b hb)];exact n b hb
 done:=by
  intro X hP hw hK hc i pins s σ H E I hf st hg
  subst hP hw hK
  obtain ⟨xs,ys,e1,e2,g⟩:=hg
  obtain ⟨h1,h2,⟨a,b,h3⟩,h4,h5⟩:=st
  have n:∀ c∈[z,TI,TO,i1,i2],H c=none:=fun c hc=>(hf c hc).1
  obtain ⟨cs,P1,S1,D1,a1,b1,c1,d1⟩:=a3b I (t:=t1) e1 (n i1 (by simp))
  obtain ⟨ds,P2,S2,D2,a2,b2,c2,d2⟩:=a3b I (t:=t2) e2 (n i2 (by simp))
  have hd:=I.ok.hd hc
  have out1:∀ c,H c=none→c ∉ cs:=fun c e z=>c1 c z e
  have out2:∀ c,H c=none→c ∉ ds:=fun c e z=>c2 c z e
  have ap:Ap z TI TO i1 i2 (i1::cs) (i2::ds):=⟨by simp,by simp,by simp [f.c.symm,out1 z (n z (by simp))],by simp [f.d.symm,out2 z (n z (by simp))],by simp [f.h,out1 TO (n TO (by simp))],by simp [f.i,out2 TO (n TO (by simp))],f.b,by simp [f.j,out2 i1 (n i1 (by simp))],by simp [f.j.symm,out1 i2 (n i2 (by simp))]⟩
  refine next_end (D1 X.A.in1 hd) (D2 X.A.in1 hd) ap h1 h2 h3 (a1 i h4) (a2 i h5) g fun h' tk kp=>⟨rfl,a7c I hf fun c o nc e=>?_⟩
  simp only [List.mem_cons,List.not_mem_nil,or_false,not_or] at nc
  exact kp c o nc.1 nc.2.2.1 nc.2.2.2.1 nc.2.2.2.2 e
 self:=fun _ _ _ _ _ st h=>wpAny_pyIter_zip st.1 h
end ZP
namespace ZP
open PySem PySem.Spec PySem.Builtin PySem.Builtin.SmallTypes L2
theorem ag7 {h:Heap} {k:Srk} {us:List Value} (c:cont h k us) (o:Obj):cont (h.push o) k us:=by
 cases k with
 | tup a=>obtain ⟨ob,e,r⟩:=c;exact ⟨ob,Heap.get?_push_of_some _ e,r⟩
 | lst a=>obtain ⟨ob,e,r⟩:=c;exact ⟨ob,Heap.get?_push_of_some _ e,r⟩
 | str x=>trivial
theorem a2i {prog:Program} {w:World} {A:Around} {E:Value→Shared→Prop} {s:Shared} {k:Srk} {t:Tok} {us:List Value} {Q:Value→Shared→Prop} (c:cont s.heap k us) (q:Q (.ref s.heap.objs.size) { s with heap:=s.heap.push (iob t k) }) :
  wpAny (model prog w) A (pyIter (val t k)) Q E s:=by
 cases k with
 | tup a=>exact wpAny_pyIter_tuple c q
 | lst a=>exact wpAny_pyIter_list c q
 | str x=>exact wpAny_pyIter_strU q
def mk2 (h:Heap) (t1 t2:Tok) (k1 k2:Srk):Heap:=(h.push (iob t1 k1)).push (iob t2 k2)
def mk5 (h:Heap) (t1 t2:Tok) (k1 k2:Srk):Heap :=
 (((mk2 h t1 t2 k1 k2).push { cls:=.type "tuple",data:=.seq #[.ref h.objs.size, .ref (h.objs.size+1)] }).push { cls:=.type "tuple",data:=.seq #[.none, .none] }).push
  { cls:=.type "zip",data:=.fields #[.none, .bool false, .bool false, .ref (h.objs.size+2), .ref (h.objs.size+3)] }
theorem aji (t1 t2:Tok) (k1 k2:Srk) (us1 us2:List Value):Meets (Builtin.«zip.__new__» ⟨[.type "zip",val t1 k1,val t2 k2],[]⟩)
  (fun _ R s=>cont s.heap k1 us1∧cont s.heap k2 us2∧R (.ok (.ret (.ref (s.heap.objs.size+4)))) { s with heap:=mk5 s.heap t1 t2 k1 k2 }) :=
 .of_wp fun prog w A R s h=>by
  obtain ⟨hp,g,d,tk,os⟩:=s
  obtain ⟨c1,c2,h⟩:=h
  have sub:=sub_zip
  have c1':cont (Shared.heap ⟨hp,g,d,tk,os⟩) k1 us1:=c1
  have c2':cont (Shared.heap ⟨hp.push (iob t1 k1),g,d,tk,os⟩) k2 us2:=ag7 c2 _
  wp_walk using a2i (t:=t1) c1',a2i (t:=t2) c2'
  refine ⟨_,rfl,?_⟩
  simpa [mk5,mk2,Heap.size_push,ownedTupleFields,Nat.add_assoc] using h
theorem avu (n:Nat):Far (n+4) (n+2) (n+3) n (n+1):=by
 refine ⟨?_,?_,?_,?_,?_,?_,?_,?_,?_,?_⟩<;>(intro z;have z:(_:Nat)=_:=z;omega)
theorem ay3 (n b:Nat) (h:b∈[n+4,n+2,n+3,n,n+1]):n≤b:=by
 simp only [List.mem_cons,List.not_mem_nil,or_false] at h
 omega
section
variable {X:Cx} {elts:List Expr} {x1:Nat} {tpos:Pos}
def ay4 (ta:TA):TI:=fun σ H R=>ta σ H fun vs H1=>∃ k1 k2 xs ys,vs=[Srk.v k1,Srk.v k2]∧its H1 k1=some xs∧its H1 k2=some ys∧R (ItZ k1 k2) H1
theorem ag8 {k:Srk} {u:Value} (r:RelV k.v u):∃ t,u=val t k:=by
 cases k with
 | tup a=>cases r;exact ⟨0,rfl⟩
 | lst a=>cases r;exact ⟨0,rfl⟩
 | str x=>obtain ⟨t,rfl⟩:=r;exact ⟨t,rfl⟩
theorem as9 {e1 e2:Expr} {ta:TA} {p pos:Pos} (hg:Gl X "zip") (hm:X.mg "zip" = none) (hb:bootBuiltins "zip" = some (.type "zip")) (ha:PA X [e1,e2] ta)
  (h1:starEach [e1,e2] X.env=[(false,eval e1 X.env),(false,eval e2 X.env)]:=by rfl) (h2:starEach [e2] X.env=[(false,eval e2 X.env)]:=by rfl):PI X (.Tuple elts x1 tpos) (.Call (.Name "zip" p) [e1,e2] [] pos) (ay4 ta):=by
 intro pins s σ H R I h
 refine wpAny_Call_Name_kw (a4d I hg hm hb ?_ (by decide) (by decide))
 refine PyProof.Rows.callWith_type1 (thn (ha pos pins s σ H _ I h) fun us s1 ⟨vs,H1,I1,r1,q1⟩=>?_) (by rw [h1,h2]) (by rw [h2];rfl)
 obtain ⟨k1,k2,xs,ys,rfl,e1,e2,q⟩:=q1
 obtain ⟨v1,v2,rfl,rv1,rv2⟩:=vals2 r1
 obtain ⟨t1,rfl⟩:=ag8 rv1
 obtain ⟨t2,rfl⟩:=ag8 rv2
 obtain ⟨us1,c1,_⟩:=a4s I1 e1
 obtain ⟨us2,c2,_⟩:=a4s I1 e2
 refine callType_new F.called_zip (by decide) (F.typeCall_zip_2 _ _) (F.newCall_zip_2 _ _) (fun obj=>F.args_object_init_3 obj _ _) F.entry_zip_new (aji t1 t2 k1 k2 us1 us2) ⟨c1,c2,?_⟩
 have z2:(mk2 s1.heap t1 t2 k1 k2).objs.size=s1.heap.objs.size+2:=by simp [mk2,Heap.size_push]
 have at0:(mk5 s1.heap t1 t2 k1 k2).get? s1.heap.objs.size=some (iob t1 k1):=by
  unfold mk5 mk2
  exact Heap.get?_push_of_some _ (Heap.get?_push_of_some _ (Heap.get?_push_of_some _ (Heap.get?_push_of_some _ (Heap.get?_push_size _ (by cases k1<;>rfl)))))
 have at1:(mk5 s1.heap t1 t2 k1 k2).get? (s1.heap.objs.size+1)=some (iob t2 k2):=by
  unfold mk5 mk2
  have:=Heap.get?_push_size (o:=iob t2 k2) (s1.heap.push (iob t1 k1)) (by cases k2<;>rfl)
  rw [Heap.size_push] at this
  exact Heap.get?_push_of_some _ (Heap.get?_push_of_some _ (Heap.get?_push_of_some _ this))
 have at2:IsPair (mk5 s1.heap t1 t2 k1 k2) (s1.heap.objs.size+2) (.ref s1.heap.objs.size) (.ref (s1.heap.objs.size+1)):=by
  unfold mk5
  rw [← z2]
  exact Heap.get?_push_of_some _ (Heap.get?_push_of_some _ (Heap.get?_push_size _ rfl))
 have at3:IsPair (mk5 s1.heap t1 t2 k1 k2) (s1.heap.objs.size+3) .none .none:=by
  unfold mk5
  have:=Heap.get?_push_size (o:={ cls:=.type "tuple",data:=.seq #[.none, .none] }) ((mk2 s1.heap t1 t2 k1 k2).push { cls:=.type "tuple",data:=.seq #[.ref s1.heap.objs.size, .ref (s1.heap.objs.size+1)] }) rfl
  rw [Heap.size_push,z2] at this
  exact Heap.get?_push_of_some _ this
 have at4:IsZip (mk5 s1.heap t1 t2 k1 k2) (s1.heap.objs.size+4) (s1.heap.objs.size+2) (s1.heap.objs.size+3) .none:=by
  unfold mk5
  have:=Heap.get?_push_size (o:={ cls:=.type "zip",data:=.fields #[.none, .bool false, .bool false, .ref (s1.heap.objs.size+2), .ref (s1.heap.objs.size+3)] }) (((mk2 s1.heap t1 t2 k1 k2).push { cls:=.type "tuple",data:=.seq #[.ref s1.heap.objs.size, .ref (s1.heap.objs.size+1)] }).push { cls:=.type "tuple",data:=.seq #[.none, .none] }) rfl
  rw [Heap.size_push,Heap.size_push,z2] at this
  exact this
 have keepA:∀ b o,s1.heap.get? b=some o→(mk5 s1.heap t1 t2 k1 k2).get? b=some o:=fun b o e=>by
  unfold mk5 mk2
  exact Heap.get?_push_of_some _ (Heap.get?_push_of_some _ (Heap.get?_push_of_some _ (Heap.get?_push_of_some _ (Heap.get?_push_of_some _ e))))
 have I2:Inv X pins σ H1 { s1 with heap:=mk5 s1.heap t1 t2 k1 k2 }:=I1.kept (t':=s1.toks) keepA
 refine ⟨⟨_,at4,rfl⟩,?_⟩
 refine wpAny_pyIter_zip (s:={ s1 with heap:=mk5 s1.heap t1 t2 k1 k2 }) at4 ?_
 refine ⟨s1.heap.objs.size+4,[s1.heap.objs.size+4,s1.heap.objs.size+2,s1.heap.objs.size+3,s1.heap.objs.size,s1.heap.objs.size+1],tnZ _ _ _ _ _ t1 t2 k1 k2,ItZ k1 k2,H1,rfl,I2,ajh (avu s1.heap.objs.size),
  ⟨at4,at2,⟨_,_,at3⟩,avt at0,avt at1⟩,fun b hb=>?_,q⟩
 have:s1.heap.objs.size≤b:=ay3 _ b hb
 exact I1.fpOk this (I1.hok.fresh this)
end
end ZP
namespace MI
open PySem PySem.Spec L2 ZP
def srcOf (d:D) (h:Hd):Option (List D × (Hd→Prop)):=match d with
 | .tup xs=>some (xs,fun _=>True)
 | .rol xs=>some (xs,fun _=>True)
 | .str x=>some (zu x,fun _=>True)
 | .ref i=>(match h[i]? with | some (.lst xs)=>some (xs,fun h=>h[i]? = some (.lst xs)) | _=>none)
 | _=>none
def aps (x y:D) (h:Hd):R Itm:=match srcOf x h,srcOf y h with
 | some (xs,c1),some (ys,c2)=>.ok ⟨(xs.zip ys).map fun p=>.tup [p.1,p.2],fun h=>c1 h∧c2 h⟩ h
 | _,_=>.no
def aer (f g:SE):SI:=fun τ h=>(f τ h).bind fun x h1=>(g τ h1).bind fun y h2=>aps x y h2
theorem ag9 {K:PySem.W.Frag} {ι:List Addr} {H:Hp} {h:Hd} {v:V} {d:D} {xs:List D} {ck:Hd→Prop} (r:Rep K ι H v d) (hr:HRep K ι H h) (e:srcOf d h=some (xs,ck)) :
  ∃ k:Srk,v=k.v∧ck h∧∀ ι' H' h',Gr ι H ι' H'→HRep K ι' H' h'→ck h'→∃ vs,its H' k=some vs∧Reps K ι' H' vs xs:=by
 cases r with
 | @tup a vs ys ha rs =>
  cases e
  exact ⟨.tup a,rfl,True.intro,fun ι' H' h' g _ _=>⟨vs,by simp [its,g.tup _ _ ha],rs.mono g⟩⟩
 | @rol a vs ys ha rs =>
  cases e
  refine ⟨.lst a,rfl,True.intro,fun ι' H' h' g _ _=>⟨vs,?_,rs.mono g⟩⟩
  obtain ⟨o,q⟩:=ha.mono g
  simp [its,q]
 | str x =>
  cases e
  exact ⟨.str x,rfl,True.intro,fun ι' H' h' g _ _=>⟨_,rfl,a2y x⟩⟩
 | @ref a i ha =>
  obtain ⟨ob,e1,e2⟩:=hr.at ha
  cases ob with
  | lst zs =>
   simp only [srcOf,e1] at e
   cases e
   refine ⟨.lst a,rfl,e1,fun ι' H' h' g hr' c=>?_⟩
   obtain ⟨us,q1,q2⟩:=hr'.obj i a _ (g.at ha) c
   exact ⟨us,by simp [its,q1],q2⟩
  | dK _=>simp only [srcOf,e1] at e;cases e
  | dT _=>simp only [srcOf,e1] at e;cases e
 | _=>cases e
theorem alo {X:Cx} {E:XD} {elts:List Expr} {x1:Nat} {tpos:Pos} {e1 e2:Expr} {f g:SE} {p pos:Pos} (hg:Gl X "zip") (hm:X.mg "zip" = none) (hb:bootBuiltins "zip" = some (.type "zip")) (ha:ME X E e1 f) (hb':ME X E e2 g)
  (h1:starEach [e1,e2] X.env=[(false,eval e1 X.env),(false,eval e2 X.env)]:=by rfl) (h2:starEach [e2] X.env=[(false,eval e2 X.env)]:=by rfl) :
  MI X E (.Tuple elts x1 tpos) (.Call (.Name "zip" p) [e1,e2] [] pos) (aer f g):=by
 intro pins s σ H Rr I ⟨ι,τ,h,S,Rh,o⟩
 refine as9 hg hm hb (a1k ha (a1k hb' a66 (by rw [h2];rfl)) (by rw [h1,h2])) h1 h2 pins s σ H Rr I ?_
 refine ⟨ι,τ,h,S,Rh,cj o fun d h1 ι1 H1 v g1 r1 hr1 o1=>?_⟩
 refine ⟨ι1,τ,h1,S.mono g1,hr1,cj o1 fun d2 h2 ι2 H2 u g2 r2 hr2 o2=>?_⟩
 unfold aps at o2
 split at o2
 ·rename_i xs c1 ys c2 q1 q2
  obtain ⟨k1,rfl,k1c,k1f⟩:=ag9 (r1.mono g2) hr2 q1
  obtain ⟨k2,rfl,k2c,k2f⟩:=ag9 r2 hr2 q2
  obtain ⟨vs1,w1,w2⟩:=k1f ι2 H2 h2 (.refl _ _) hr2 k1c
  obtain ⟨vs2,w3,w4⟩:=k2f ι2 H2 h2 (.refl _ _) hr2 k2c
  refine ⟨k1,k2,vs1,vs2,rfl,w1,w3,o2 ι2 H2 _ (.refl _ _) ?_ hr2⟩
  intro ι3 H3 h3 g3 hr3 c
  obtain ⟨us1,a1,a2⟩:=k1f ι3 H3 h3 g3 hr3 c.1
  obtain ⟨us2,a3,a4⟩:=k2f ι3 H3 h3 g3 hr3 c.2
  refine ⟨fun i d ed=>?_,us1,us2,a1,a3,?_⟩
  ·simp only [List.getElem?_map,Option.map_eq_some_iff] at ed
   obtain ⟨⟨x,y⟩,ez,rfl⟩:=ed
   obtain ⟨ex,ey⟩:=List.getElem?_zip_eq_some.mp ez
   obtain ⟨v1,b1,b2⟩:=a2.get ex
   obtain ⟨v2,b3,b4⟩:=a4.get ey
   refine ⟨⟨us1,us2,v1,v2,a1,a3,b1,b3⟩,fun x H' yl=>?_⟩
   obtain ⟨xs',ys',x',y',p,c1,c2,c3,c4,c5,rfl,rfl⟩:=yl
   rw [a1] at c1;cases c1
   rw [a3] at c2;cases c2
   rw [b1] at c3;cases c3
   rw [b3] at c4;cases c4
   exact ⟨ye c5 _, .tup jq (.cons (b2.mono (ye c5 _)) (.cons (b4.mono (ye c5 _)) .nil)),hr3.aside c5 _⟩
  ·rw [List.length_map,List.length_zip,a2.len,a4.len]
   omega
 ·exact o2.elim
theorem alp:bootBuiltins "zip" = some (.type "zip"):=by first | exact PySem.boot_zip | exact PyProof.Rows.boot_zip | rfl
end MI
namespace MI
open PySem PySem.Spec L2
section
variable {P:Program} {w:World} {K:PySem.W.Frag} {mg:Str→Option Value} {base:Heap}
theorem avv {k:Nat} {f:Addr} {fd:FuncData} {ps:List Str}:FnOk P w K mg base CX0 k f fd ps (uw K ps.length fun _ _=>.no) :=
 ⟨fun vs H Q E h=>h.1,fun A outer s H args us vs Q E hr he hb hv hs=>by obtain ⟨_,ι,ds,h,_,_,o⟩:=hs;exact o.elim⟩
end
end MI
namespace MI
open PySem PySem.Spec L2
def FrzOf (L:List Addr) (H H2:Hp):Prop:=∀ a,(a ∉ L→H2 a=H a)∧(a∈L→∃ o u,H a=some u∧H2 a=some (.frz o u))
def adf (H:Hp) (L:List Addr):Prop:=∀ a∈L,(∃ xs,H a=some (.lst xs))∨(∃ kvs,H a=some (.dK kvs))∨∃ kvs,H a=some (.dT kvs)
def still:HO→Prop
 | .lst _=>False | .dK _=>False | .dT _=>False
 | _=>True
theorem FrzOf.still {L:List Addr} {H H2:Hp} (f:FrzOf L H H2) (ab:adf H L) {a:Addr} {u:HO} (e:H a=some u) (st:MI.still u):H2 a=some u:=by
 rw [(f a).1 fun z=>?_]
 ·exact e
 ·rcases ab a z with ⟨_,q⟩ | ⟨_,q⟩ | ⟨_,q⟩<;>(rw [e] at q;cases q;exact st)
theorem Inv.frz {X:Cx} {pins:List (Addr × Obj)} {σ:St} {H:Hp} {s:Shared} {L:List Addr} (I:Inv X pins σ H s) (ab:adf H L):∃ H2,FrzOf L H H2∧Inv X pins σ H2 s:=by
 have obj:∀ a∈L,∀ u,H a=some u→∃ o,s.heap.get? a=some o:=fun a ha u e=>by
  rcases ab a ha with ⟨_,q⟩ | ⟨_,q⟩ | ⟨_,q⟩
  ·obtain ⟨_,_,_,_,z⟩:=I.hok a _ q;exact ⟨_,z⟩
  ·obtain ⟨_,_,_,_,z⟩:=I.hok a _ q
   obtain ⟨o,_,_,z,_⟩:=z
   exact ⟨o,z⟩
  ·obtain ⟨_,_,_,_,o,_,_,z,_⟩:=I.hok a _ q;exact ⟨o,z⟩
 let H2:Hp:=fun a=>if a∈L then (match s.heap.get? a,H a with | some o,some u=>some (.frz o u) | _,w=>w) else H a
 have f:FrzOf L H H2:=fun a=>⟨fun h=>by simp [H2,h],fun h=>by
  obtain ⟨u,e⟩:∃ u,H a=some u:=by
   rcases ab a h with ⟨_,q⟩ | ⟨_,q⟩ | ⟨_,q⟩<;>exact ⟨_,q⟩
  obtain ⟨o,eo⟩:=obj a h u e
  exact ⟨o,u,e,by simp [H2,h,e,eo]⟩⟩
 refine ⟨H2,f,?_⟩
 have mv:∀ a u,ObjOk X.prog X.w H s.heap a u→ObjOk X.prog X.w H2 s.heap a u:=fun a u x=>x.stay (fun b v _ q=>q) (fun c q=>f.still ab q True.intro) fun c xs q=>f.still ab q True.intro
 have ok:HOk X.prog X.w H2 s.heap:=fun a u e=>by
  by_cases hl:a∈L
  ·obtain ⟨u0,e0⟩:∃ u,H a=some u:=by
    rcases ab a hl with ⟨_,q⟩ | ⟨_,q⟩ | ⟨_,q⟩<;>exact ⟨_,q⟩
   obtain ⟨o,eo⟩:=obj a hl u0 e0
   have e':H2 a=some (.frz o u0):=by simp [H2,hl,e0,eo]
   rw [e'] at e
   cases e
   exact ⟨eo,mv a u0 (I.hok a u0 e0)⟩
  ·rw [(f a).1 hl] at e
   exact mv a u (I.hok a u e)
 have fn:∀ b,H b=none→H2 b=none:=fun b n=>by
  rw [(f b).1 fun z=>?_]
  ·exact n
  ·rcases ab b z with ⟨_,q⟩ | ⟨_,q⟩ | ⟨_,q⟩<;>(rw [n] at q;cases q)
 have un:Un X.fs [] H H2 s.heap s.heap:=⟨fun b o q _ _ _=>q,fun b o q _ _ _=>⟨o.slots,q⟩,fun b o _ n _=>fn b n,fun b o q _=>⟨o,q⟩,fun b xs q=>f.still ab q True.intro,fun b o u q=>f.still ab q True.intro,fun b ps q=>⟨#[],by rw [f.still ab q True.intro];simp⟩⟩
 exact I.un (t':=s.toks) un ok
theorem aga {X:Cx} {e:Expr} {t:TE} (h:PE X e t):PE X e (fun σ H Q=>t σ H fun v H1=>∃ L,adf H1 L∧∀ H2,FrzOf L H1 H2→Q v H2):=fun pins s σ H Q I q =>
 thn (h pins s σ H _ I q) fun u s' ⟨v,H1,I1,r,L,ab,k⟩=>let ⟨H2,f,I2⟩:=Inv.frz I1 ab; ⟨v,H2,I2,r,k H2 f⟩
def a01 {α β:Type} (f:α→Option β):List α→Option (List β)
 | []=>some []
 | x::xs=>match f x,a01 f xs with | some y,some ys=>some (y::ys) | _,_=>none
open Classical in
noncomputable def a7d (n:Nat) (h:Hd):Nat→D→Option D
 | 0,_=>none
 | k+1,d=>if clo n d then some d else match d with
  | .tup xs=>(a01 (a7d n h k) xs).map .tup
  | .rol xs=>(a01 (a7d n h k) xs).map .rol
  | .scr xs=>(a01 (a7d n h k) xs).map .scr
  | .rod ks xs=>(a01 (a7d n h k) xs).map (.rod ks)
  | .rdT ks xs=>(a01 (a7d n h k) xs).map (.rdT ks)
  | .ref i=>match h[i]? with
   | some (.lst xs)=>(a01 (a7d n h k) xs).map .rol
   | some (.dK kvs)=>(a01 (a7d n h k) (kvs.map (·.2))).map (.rod (kvs.map (·.1)))
   | some (.dT kvs)=>(a01 (a7d n h k) (kvs.map (·.2))).map (.rdT (kvs.map (·.1)))
   | none=>none
  | _=>none
open Classical in
noncomputable def asa (n:Nat) (h:Hd) (k:Nat) (o:O):Option O:=if a1n n o then some o else match o with
 | .lst xs=>(a01 (a7d n h k) xs).map .lst
 | .dK kvs=>(a01 (a7d n h k) (kvs.map (·.2))).map fun ys=>.dK ((kvs.map (·.1)).zip ys)
 | .dT kvs=>(a01 (a7d n h k) (kvs.map (·.2))).map fun ys=>.dT ((kvs.map (·.1)).zip ys)
abbrev FU:Nat:=20
noncomputable def adg (n:Nat):R D→R D
 | .ok d h1=>match a7d n h1 FU d,a01 (asa n h1 FU) (h1.take n) with | some d',some g=>.ok d' g | _,_=>.no
 | _=>.no
open Classical in
noncomputable def apt (n:Nat):R D→R D
 | .ok (.ref i) h1=>(match h1[i]? with
   | some o=>if n≤i∧a1n n o∧∀ u∈h1.take n,a1n n u then .ok (.ref n) (h1.take n++[o]) else .no
   | none=>.no)
 | _=>.no
section
variable {K:PySem.W.Frag} {ι ι':List Addr} {H H' H2:Hp} {h1:Hd} {n:Nat} {L:List Addr}
theorem abt (f:FrzOf L H' H2) (ab:adf H' L) (κ:List Addr):Gw κ H' κ H2:=⟨⟨[],by simp⟩,fun a vs e=>f.still ab e True.intro,fun a o u e=>f.still ab e True.intro⟩
theorem mj {K:PySem.W.Frag} {ι κ:List Addr} {H H2:Hp} {f:D→Option D} (ih:∀ {v d d'},Rep K ι H v d→f d=some d'→Rep K κ H2 v d'):∀ {vs:List V} {ds ds':List D},Reps K ι H vs ds→a01 f ds=some ds'→Reps K κ H2 vs ds'
 | _,_,_, .nil,e=>by cases e;exact .nil
 | _,x::xs,_, .cons r rs,e=>by
  unfold a01 at e
  split at e
  ·rename_i y ys h1 h2
   cases e
   exact .cons (ih r h1) (mj ih rs h2)
  ·cases e
theorem a7e (hr:HRep K ι' H' h1) (hL:∀ (i:Nat) a,ι'[i]? = some a→n≤i→a∈L) (f:FrzOf L H' H2) (ab:adf H' L):∀ (k:Nat) {v:V} {d d':D},Rep K ι' H' v d→a7d n h1 k d=some d'→Rep K (ι'.take n) H2 v d':=by
 intro k
 induction k with
 | zero=>intro v d d' r e;cases e
 | succ k ih =>
  intro v d d' r e
  unfold a7d at e
  split at e
  ·rename_i c
   cases e
   exact (r.cut c).monoW (abt f ab _)
  ·rename_i c
   cases r with
   | tup h rs =>
    simp only [Option.map_eq_some_iff] at e
    obtain ⟨ys,e1,rfl⟩:=e
    exact .tup (f.still ab h True.intro) (mj (fun r e=>ih r e) rs e1)
   | rol h rs =>
    simp only [Option.map_eq_some_iff] at e
    obtain ⟨ys,e1,rfl⟩:=e
    exact .rol (h.monoW (abt f ab ι')) (mj (fun r e=>ih r e) rs e1)
   | scr h rs =>
    simp only [Option.map_eq_some_iff] at e
    obtain ⟨ys,e1,rfl⟩:=e
    exact .scr (h.monoW (abt f ab ι')) (mj (fun r e=>ih r e) rs e1)
   | rod h ek rs =>
    simp only [Option.map_eq_some_iff] at e
    obtain ⟨ys,e1,rfl⟩:=e
    exact .rod (f.still ab h True.intro) ek (mj (fun r e=>ih r e) rs e1)
   | rdT h ek rs =>
    simp only [Option.map_eq_some_iff] at e
    obtain ⟨ys,e1,rfl⟩:=e
    exact .rdT (f.still ab h True.intro) ek (mj (fun r e=>ih r e) rs e1)
   | @ref a i ha =>
    have hi:n≤i:=by
     simp only [clo] at c
     omega
    obtain ⟨o,u,e1,e2⟩:=(f a).2 (hL i a ha hi)
    obtain ⟨ob,h3,h4⟩:=hr.at ha
    simp only [h3] at e
    cases ob with
    | lst xs =>
     simp only [Option.map_eq_some_iff] at e
     obtain ⟨ys,e3,rfl⟩:=e
     obtain ⟨vs,h5,h6⟩:=h4
     rw [e1] at h5;cases h5
     exact .rol ⟨o,e2⟩ (mj (fun r e=>ih r e) h6 e3)
    | dK kvs =>
     simp only [Option.map_eq_some_iff] at e
     obtain ⟨ys,e3,rfl⟩:=e
     obtain ⟨us,h5,h6,h7⟩:=h4
     rw [e1] at h5;cases h5
     exact .rod e2 h6 (mj (fun r e=>ih r e) h7 e3)
    | dT kvs =>
     simp only [Option.map_eq_some_iff] at e
     obtain ⟨ys,e3,rfl⟩:=e
     obtain ⟨us,h5,h6,h7⟩:=h4
     rw [e1] at h5;cases h5
     exact .rdT e2 h6 (mj (fun r e=>ih r e) h7 e3)
   | non=>simp only [clo,not_true_eq_false] at c
   | exc _ _ _=>simp only [clo,not_true_eq_false] at c
   | bl b=>simp only [clo,not_true_eq_false] at c
   | int b=>simp only [clo,not_true_eq_false] at c
   | str b=>simp only [clo,not_true_eq_false] at c
   | ty b=>simp only [clo,not_true_eq_false] at c
theorem a7f {κ:Type} {H:Hp} {us:List (κ × V)} {ks:List κ} {ys:List D} (e:us.map (·.1)=ks) (r:Reps K ι H (us.map (·.2)) ys):KRep K ι H us (ks.zip ys):=by
 have l:ks.length=ys.length:=by rw [← e,List.length_map,← r.len,List.length_map]
 refine ⟨?_,?_⟩
 ·rw [List.map_fst_zip (by omega)];exact e
 ·rw [List.map_snd_zip (by omega)];exact r
theorem ao9 (hr:HRep K ι' H' h1) (hL:∀ (i:Nat) a,ι'[i]? = some a→n≤i→a∈L) (f:FrzOf L H' H2) (ab:adf H' L) {k:Nat} {a:Addr} {o o':O} (na:a ∉ L) (r:ORep K ι' H' a o) (e:asa n h1 k o=some o'):ORep K (ι'.take n) H2 a o':=by
 have same:H2 a=H' a:=(f a).1 na
 unfold asa at e
 split at e
 ·rename_i c
  cases e
  exact (r.cut c).monoW (abt f ab _) same
 ·cases o with
  | lst xs =>
   simp only [Option.map_eq_some_iff] at e
   obtain ⟨ys,e1,rfl⟩:=e
   obtain ⟨vs,h3,h4⟩:=r
   exact ⟨vs,by rw [same];exact h3,mj (fun r e=>a7e hr hL f ab k r e) h4 e1⟩
  | dK kvs =>
   simp only [Option.map_eq_some_iff] at e
   obtain ⟨ys,e1,rfl⟩:=e
   obtain ⟨us,h3,h4,h5⟩:=r
   exact ⟨us,by rw [same];exact h3,a7f h4 (mj (fun r e=>a7e hr hL f ab k r e) h5 e1)⟩
  | dT kvs =>
   simp only [Option.map_eq_some_iff] at e
   obtain ⟨ys,e1,rfl⟩:=e
   obtain ⟨us,h3,h4,h5⟩:=r
   exact ⟨us,by rw [same];exact h3,a7f h4 (mj (fun r e=>a7e hr hL f ab k r e) h5 e1)⟩
theorem a0x {α β:Type} {f:α→Option β}:∀ {xs:List α} {ys:List β},a01 f xs=some ys→xs.length=ys.length∧∀ (i:Nat) y,ys[i]? = some y→∃ x,xs[i]? = some x∧f x=some y
 | [],_,e=>by cases e;exact ⟨rfl,fun i y e=>by simp at e⟩
 | x::xs,ys,e=>by
  unfold a01 at e
  split at e
  ·rename_i y ys h1 h2
   cases e
   obtain ⟨l,g⟩:=a0x h2
   refine ⟨by simp [l],fun i z e=>?_⟩
   cases i with
   | zero=>simp at e;subst e;exact ⟨x,rfl,h1⟩
   | succ i=>simpa using g i z (by simpa using e)
  ·cases e
theorem agb (hr:HRep K ι' H' h1) (M:List Addr) (hM:∀ a∈M,a∈ι'):adf H' M:=fun a ha=>by
 obtain ⟨i,hi⟩:=List.getElem?_of_mem (hM a ha)
 obtain ⟨o,_,q⟩:=hr.at hi
 cases o with
 | lst xs=>obtain ⟨vs,h,_⟩:=q;exact .inl ⟨_,h⟩
 | dK xs=>obtain ⟨vs,h,_⟩:=q;exact .inr (.inl ⟨_,h⟩)
 | dT xs=>obtain ⟨vs,h,_⟩:=q;exact .inr (.inr ⟨_,h⟩)
theorem a4t {α:Type} {l:List α} (nd:l.Nodup) {i j:Nat} {a:α} (h1:l[i]? = some a) (h2:l[j]? = some a):i=j:=by
 obtain ⟨l1,e1⟩:=List.getElem?_eq_some_iff.mp h1
 obtain ⟨l2,e2⟩:=List.getElem?_eq_some_iff.mp h2
 rcases Nat.lt_trichotomy i j with l | l | l
 ·exact absurd (e1.trans e2.symm) (List.pairwise_iff_getElem.mp nd i j l1 l2 l)
 ·exact l
 ·exact absurd (e2.trans e1.symm) (List.pairwise_iff_getElem.mp nd j i l2 l1 l)
theorem asb (g:Gr ι H ι' H') (f:FrzOf L H' H2) (ab:adf H' L) (hL:∀ a∈L,H a=none) {m:List Addr} (hm:∀ a∈m,H a=none):Gr ι H (ι++m) H2:=by
 refine ⟨⟨m,rfl,hm⟩,fun a vs e=>f.still ab (g.tup a vs e) True.intro,fun a o u e=>f.still ab (g.frz a o u e) True.intro,fun a u e hn=>?_,fun a u e=>?_⟩
 ·rw [(f a).1 fun z=>by rw [hL a z] at e;cases e]
  exact g.oth a u e hn
 ·obtain ⟨u',e'⟩:=g.kp a u e
  rw [(f a).1 fun z=>by rw [hL a z] at e;cases e]
  exact ⟨u',e'⟩
theorem agc {d d':D} {v:V} {g':Hd} (g:Gr ι H ι' H') (rb:Rep K ι' H' v d) (hr:HRep K ι' H' h1) (e:adg ι.length (.ok d h1) = .ok d' g') :
  ∃ L,adf H' L∧∀ H2,FrzOf L H' H2→Gr ι H ι H2∧Rep K ι H2 v d'∧HRep K ι H2 g':=by
 obtain ⟨m,rfl,hm⟩:=g.pre
 have tk:(ι++m).take ι.length=ι:=by simp
 have ab:adf H' m:=agb hr m fun a ha=>List.mem_append_right _ ha
 have hL:∀ (i:Nat) a,(ι++m)[i]? = some a→ι.length≤i→a∈m:=fun i a e hi=>by
  rw [List.getElem?_append_right hi] at e
  exact List.mem_of_getElem? e
 refine ⟨m,ab,fun H2 f=>?_⟩
 unfold adg at e
 simp only at e
 split at e
 ·rename_i dd gg e1 e2
  cases e
  refine ⟨by simpa using asb g f ab hm (m:=[]) (by simp),by have:=a7e hr hL f ab FU rb e1;rwa [tk] at this,?_⟩
  obtain ⟨l,gt⟩:=a0x e2
  have hl:=hr.len
  have ln:ι.length≤h1.length:=by rw [← hl];simp
  refine ⟨(List.nodup_append.mp hr.nd).1,by rw [← l,List.length_take];omega,fun i a o q1 q2=>?_⟩
  obtain ⟨x,hx,fx⟩:=gt i o q2
  have hi:i<ι.length:=(List.getElem?_eq_some_iff.mp q1).1
  rw [List.getElem?_take,if_pos hi] at hx
  have q3:(ι++m)[i]? = some a:=by rw [List.getElem?_append_left hi];exact q1
  have na:a ∉ m:=fun z=>(List.nodup_append.mp hr.nd).2.2 a (List.mem_of_getElem? q1) a z rfl
  have:=ao9 hr hL f ab na (hr.obj i a x q3 hx) fx
  rwa [tk] at this
 ·cases e
theorem ajj {d d':D} {v:V} {g':Hd} (g:Gr ι H ι' H') (rb:Rep K ι' H' v d) (hr:HRep K ι' H' h1) (e:apt ι.length (.ok d h1) = .ok d' g') :
  ∃ b,H b=none∧Gr ι H (ι++[b]) H'∧Rep K (ι++[b]) H' v d'∧HRep K (ι++[b]) H' g':=by
 obtain ⟨m,rfl,hm⟩:=g.pre
 have tk:(ι++m).take ι.length=ι:=by simp
 have up:∀ b,Gw ι H' (ι++[b]) H':=fun b=>⟨⟨[b],rfl⟩,fun _ _ h=>h,fun _ _ _ h=>h⟩
 cases rb with
 | @ref b i hb =>
  unfold apt at e
  simp only at e
  split at e
  ·rename_i ob ho
   split at e
   ·rename_i hc
    obtain ⟨hi,c1,c2⟩:=hc
    cases e
    have hb':=hb
    rw [List.getElem?_append_right hi] at hb'
    have bm:b∈m:=List.mem_of_getElem? hb'
    obtain ⟨nd1,nd2,nd3⟩:=List.nodup_append.mp hr.nd
    have hl:=hr.len
    have ln:ι.length≤h1.length:=by rw [← hl];simp
    have lt:(h1.take ι.length).length=ι.length:=by rw [List.length_take];omega
    refine ⟨b,hm b bm,⟨⟨[b],rfl,by simpa using hm b bm⟩,g.tup,g.frz,g.oth,g.kp⟩, .ref (by simp),?_⟩
    refine ⟨List.nodup_append.mpr ⟨nd1,by simp,fun a ha c hc z=>nd3 a ha c (by rw [List.mem_singleton.mp hc];exact bm) z⟩,by simp [lt],fun j a o q1 q2=>?_⟩
    by_cases hj:j<ι.length
    ·rw [List.getElem?_append_left hj] at q1
     rw [List.getElem?_append_left (by omega)] at q2
     have q2':=q2
     rw [List.getElem?_take,if_pos hj] at q2'
     have:=(hr.obj j a o (by rw [List.getElem?_append_left hj];exact q1) q2').cut (c2 o (List.mem_of_getElem? q2))
     rw [tk] at this
     exact this.monoW (up b) rfl
    ·have hj2:j<(ι++[b]).length:=(List.getElem?_eq_some_iff.mp q1).1
     have:j=ι.length:=by simp at hj2;omega
     subst this
     rw [List.getElem?_append_right (Nat.le_refl _)] at q1
     rw [List.getElem?_append_right (by omega),lt] at q2
     simp at q1 q2
     subst q1 q2
     have:=(hr.obj i b ob hb ho).cut c1
     rw [tk] at this
     exact this.monoW (up b) rfl
   ·cases e
  ·cases e
 | _=>cases e
end
noncomputable def sZ (f:SE):SE:=fun τ h=>adg h.length (f τ h)
abbrev ay5 (Q:VK):VK:=fun v H1=>∃ L,adf H1 L∧∀ H2,FrzOf L H1 H2→Q v H2
theorem awu {K:PySem.W.Frag} {E:XD} {fa:SE} {σ:St} {H:Hp} {Q:VK} (q:lift K E (xf K) (sZ fa) σ H Q):lift K E (xf K) fa σ H (ay5 Q):=by
 obtain ⟨ι,τ,h,S,Rh,o⟩:=q
 refine ⟨ι,τ,h,S,Rh,?_⟩
 unfold sZ at o
 rw [← Rh.len] at o
 cases hf:fa τ h with
 | ok d h1 =>
  rw [hf] at o
  intro ι' H' v g r hr
  cases hz:adg ι.length (.ok d h1) with
  | ok d' g' =>
   rw [hz] at o
   obtain ⟨L,ab,k⟩:=agc g r hr hz
   refine ⟨L,ab,fun H2 f=>?_⟩
   obtain ⟨k1,k2,k3⟩:=k H2 f
   exact o ι H2 v k1 k2 k3
  | ex c hx=>unfold adg at hz;simp only at hz;split at hz<;>cases hz
  | no=>rw [hz] at o;exact o.elim
 | ex c h1=>rw [hf] at o;exact o.elim
 | no=>rw [hf] at o;exact o.elim
theorem a3r {X:Cx} {E:XD} {e:Expr} {fa:SE} (ha:ME X E e fa):ME X E e (sZ fa):=PE.weak (aga ha) fun σ H Q q=>awu q
def refOf:D→Option Nat
 | .ref i=>some i
 | _=>none
def a1o (ds:List D):List Nat:=ds.filterMap refOf
def a0n:Nat→List D→List D
 | _,[]=>[]
 | k,d::ds=>match d with
  | .ref _=>.ref k::a0n (k+1) ds
  | d=>d::a0n k ds
def um:Hd→List Nat→List O→Hd
 | h,i::is,o::os=>um (h.set i o) is os
 | h,_,_=>h
def isRef (d:D):Prop:=∃ i,d = .ref i
open Classical in
noncomputable def asd (m:Bool) (F:SF) (ds:List D) (h:Hd):R D:=match a01 (fun i=>h[i]?) (a1o ds) with
 | none=>.no
 | some os=>if (a1o ds).Nodup∧(∀ d∈ds,clo 0 d∨isRef d)∧(∀ o∈os,a1n 0 o) then
   (match (if m then apt os.length (F (a0n 0 ds) os) else adg os.length (F (a0n 0 ds) os)) with
   | .ok d h1=>if ∀ o∈h1,a1n 0 o then
     (if m then .ok (.ref h.length) (um h (a1o ds) h1++h1.drop os.length)
      else if clo 0 d then .ok d (um h (a1o ds) h1) else .no) else .no
   | _=>.no)
  else .no
noncomputable def uf (m:Bool) (n:Nat) (F:SF):SF:=fun ds h=>if ds.length=n then asd m F ds h else .no
section
variable {K:PySem.W.Frag} {ι ι':List Addr} {H H' H2:Hp} {h h1:Hd} {n:Nat}
theorem alq (κ:List Addr):Gw [] H κ H:=⟨⟨κ,rfl⟩,fun _ _ h=>h,fun _ _ _ h=>h⟩
theorem Rep.any {v:V} {d:D} (r:Rep K ι H v d) (c:MI.clo 0 d) (κ:List Addr):Rep K κ H v d:=by
 have:=r.cut c
 rw [List.take_zero] at this
 exact this.monoW (alq κ)
theorem ORep.any {a:Addr} {o:O} (r:ORep K ι H a o) (c:a1n 0 o) (κ:List Addr):ORep K κ H a o:=by
 have:=r.cut c
 rw [List.take_zero] at this
 exact this.monoW (alq κ) rfl
theorem a8r {α:Type} (l:List α):∀ {is:List Nat},(∀ i∈is,i<l.length)→∃ ys,a01 (fun i=>l[i]?) is=some ys
 | [],_=>⟨[],rfl⟩
 | i::is,hi=>by
  obtain ⟨ys,e⟩:=a8r l (is:=is) fun j hj=>hi j (List.mem_cons_of_mem _ hj)
  have:=hi i List.mem_cons_self
  exact ⟨l[i]::ys,by unfold a01;rw [e,List.getElem?_eq_getElem this]⟩
theorem a3c:∀ {ds:List D} {vs:List V} {pre κ:List Addr},Reps K ι H vs ds→(∀ d∈ds,clo 0 d∨isRef d)→a01 (fun i=>ι[i]?) (a1o ds)=some κ→Reps K (pre++κ) H vs (a0n pre.length ds)
 | [],_,_,_, .nil,_,_=>.nil
 | d::ds,_,pre,κ, .cons r rs,hc,e=>by
  have hc':∀ d∈ds,clo 0 d∨isRef d:=fun x hx=>hc x (List.mem_cons_of_mem _ hx)
  by_cases hd:isRef d
  ·obtain ⟨i,rfl⟩:=hd
   have e':a01 (fun i=>ι[i]?) (i::a1o ds)=some κ:=e
   unfold a01 at e'
   split at e'
   ·rename_i a κ' h1 h2
    cases e'
    cases r with
    | ref ha =>
     rw [ha] at h1;cases h1
     have:=a3c (pre:=pre++[a]) rs hc' h2
     simp only [List.append_assoc,List.singleton_append,List.length_append,List.length_singleton] at this
     refine .cons (.ref ?_) this
     rw [List.getElem?_append_right (Nat.le_refl _)]
     simp
   ·cases e'
  ·have c:=(hc d List.mem_cons_self).resolve_right hd
   have e1:a1o (d::ds)=a1o ds:=by
    unfold a1o
    cases d<;>first | rfl | exact absurd ⟨_,rfl⟩ hd
   have e2:a0n pre.length (d::ds)=d::a0n pre.length ds:=by
    cases d<;>first | rfl | exact absurd ⟨_,rfl⟩ hd
   rw [e1] at e
   rw [e2]
   exact .cons (r.any c _) (a3c rs hc' e)
theorem a02:∀ {is:List Nat} {os:List O} {h:Hd},(um h is os).length=h.length
 | [],_,_=>by simp [um]
 | _::_,[],_=>by simp [um]
 | i::is,o::os,h=>by rw [um,a02,List.length_set]
theorem a3d {i:Nat}:∀ {is:List Nat} {os:List O} {h:Hd},i ∉ is→(um h is os)[i]? = h[i]?
 | [],_,_,_=>by simp [um]
 | _::_,[],_,_=>by simp [um]
 | j::is,o::os,h,n=>by
  rw [um,a3d fun z=>n (List.mem_cons_of_mem _ z),List.getElem?_set_ne fun z=>n (by rw [z];exact List.mem_cons_self)]
theorem a8s {i:Nat} {o:O}:∀ {is:List Nat} {os:List O} {h:Hd} {j:Nat},is.Nodup→is[j]? = some i→os[j]? = some o→i<h.length→(um h is os)[i]? = some o
 | [],_,_,_,_,e,_,_=>by simp at e
 | _::_,[],_,_,_,_,e,_=>by simp at e
 | k::is,o'::os,h,j,nd,e1,e2,hl=>by
  cases j with
  | zero =>
   simp at e1 e2
   subst e1 e2
   rw [um,a3d (List.nodup_cons.mp nd).1,List.getElem?_set_self hl]
  | succ j =>
   rw [um]
   exact a8s (j:=j) (List.nodup_cons.mp nd).2 (by simpa using e1) (by simpa using e2) (by simpa using hl)
theorem a8t {α:Type} {l:List α} (nl:l.Nodup) {is:List Nat} {ys:List α} (e:a01 (fun i=>l[i]?) is=some ys) (ni:is.Nodup):ys.Nodup:=by
 obtain ⟨le,g⟩:=a0x e
 refine List.pairwise_iff_getElem.mpr fun i j hi hj lt z=>?_
 obtain ⟨x,h1,h2⟩:=g i _ (List.getElem?_eq_getElem hi)
 obtain ⟨y,h3,h4⟩:=g j _ (List.getElem?_eq_getElem hj)
 rw [← z] at h4
 have:=a4t nl h2 h4
 subst this
 have:=a4t ni h1 h3
 omega
theorem abu {is:List Nat} {κ m:List Addr} {g:Hd} (hr:HRep K ι H h) (e1:a01 (fun i=>ι[i]?) is=some κ) (nd:is.Nodup) (gr:Gr κ H (κ++m) H2) (hg:HRep K (κ++m) H2 g) (cg:∀ o∈g,a1n 0 o) (hm:m.length≤1) :
  Gr ι H (ι++m) H2∧HRep K (ι++m) H2 (um h is g++g.drop κ.length):=by
 obtain ⟨l1,g1⟩:=a0x e1
 have mn:∀ a∈m,H a=none:=by
  obtain ⟨m',e,hm'⟩:=gr.pre
  rw [List.append_cancel_left e];exact hm'
 have sub:∀ a∈κ,a∈ι:=fun a ha=>by
  obtain ⟨j,hj⟩:=List.getElem?_of_mem ha
  obtain ⟨i,_,q⟩:=g1 j a hj
  exact List.mem_of_getElem? q
 have some_of:∀ a∈ι,∃ u,H a=some u:=fun a ha=>by
  obtain ⟨i,hi⟩:=List.getElem?_of_mem ha
  obtain ⟨o,_,q⟩:=hr.at hi
  obtain ⟨u,q,_⟩:=q.some
  exact ⟨u,q⟩
 have G:Gr ι H (ι++m) H2:=⟨⟨m,rfl,mn⟩,gr.tup,gr.frz,fun a u e n=>gr.oth a u e fun z=>n (sub a z),gr.kp⟩
 have lg:=hg.len
 rw [List.length_append] at lg
 refine ⟨G,?_,?_,fun j a o q1 q2=>?_⟩
 ·refine List.nodup_append.mpr ⟨hr.nd,(List.nodup_append.mp hg.nd).2.1,fun a ha b hb z=>?_⟩
  obtain ⟨u,q⟩:=some_of a ha
  rw [z,mn b hb] at q;cases q
 ·rw [List.length_append,List.length_append,a02,List.length_drop,hr.len];omega
 ·by_cases hj:j<ι.length
  ·rw [List.getElem?_append_left hj] at q1
   rw [List.getElem?_append_left (by rw [a02,← hr.len];exact hj)] at q2
   by_cases hp:j∈is
   ·obtain ⟨k,hk⟩:=List.getElem?_of_mem hp
    have hkl:k<κ.length:=by rw [← l1];exact (List.getElem?_eq_some_iff.mp hk).1
    obtain ⟨i,h3,h4⟩:=g1 k _ (List.getElem?_eq_getElem hkl)
    rw [hk] at h3;cases h3
    rw [q1] at h4
    have hkg:k<g.length:=by omega
    have e5:=a8s (h:=h) nd hk (List.getElem?_eq_getElem hkg) (by rw [← hr.len];exact hj)
    rw [e5] at q2
    cases q2
    have ea:(κ++m)[k]? = some a:=by rw [List.getElem?_append_left hkl,List.getElem?_eq_getElem hkl];exact h4.symm
    exact (hg.obj k a _ ea (List.getElem?_eq_getElem hkg)).any (cg _ (List.getElem_mem hkg)) _
   ·rw [a3d hp] at q2
    have r:=hr.obj j a o q1 q2
    obtain ⟨u,hu,_⟩:=r.some
    have na:a ∉ κ:=fun z=>by
     obtain ⟨k,hk⟩:=List.getElem?_of_mem z
     obtain ⟨i,h3,h4⟩:=g1 k a hk
     have:=a4t hr.nd q1 h4
     subst this
     exact hp (List.mem_of_getElem? h3)
    exact r.mono G (by rw [hu];exact gr.oth a u hu na)
  ·have q1':=q1
   rw [List.getElem?_append_right (by omega)] at q1
   rw [List.getElem?_append_right (by rw [a02,← hr.len];omega),a02,← hr.len,List.getElem?_drop] at q2
   have ea:(κ++m)[κ.length+(j - ι.length)]? = some a:=by rw [List.getElem?_append_right (by omega)];simpa using q1
   exact (hg.obj _ a o ea q2).any (cg o (List.mem_of_getElem? q2)) _
theorem agd {m:Bool} {F:SF} {vs:List V} {ds:List D} {Q:VK} (r:Reps K ι H vs ds) (hr:HRep K ι H h) (o:out K X0 (xf K) ι H (uf m n F ds h) Q) (E:XK) :
  uw K n F vs H (fun v H1=>∃ L,adf H1 L∧∀ H2,FrzOf L H1 H2→Q v H2) E:=by
 unfold uf at o
 split at o
 ·rename_i hl
  refine ⟨by rw [r.len];exact hl,?_⟩
  unfold asd at o
  split at o
  ·exact o.elim
  ·rename_i os hos
   split at o
   ·rename_i hc
    obtain ⟨nd,hd,hcl⟩:=hc
    obtain ⟨l0,g0⟩:=a0x hos
    obtain ⟨κ,e1⟩:=a8r ι (is:=a1o ds) fun i hi=>by
     obtain ⟨j,hj⟩:=List.getElem?_of_mem hi
     have hjl:j<os.length:=by rw [← l0];exact (List.getElem?_eq_some_iff.mp hj).1
     obtain ⟨x,h3,h4⟩:=g0 j _ (List.getElem?_eq_getElem hjl)
     rw [hj] at h3;cases h3
     rw [hr.len]
     exact (List.getElem?_eq_some_iff.mp h4).1
    obtain ⟨l1,g1⟩:=a0x e1
    have lk:κ.length=os.length:=by omega
    have R0:Reps K κ H vs (a0n 0 ds):=by simpa using a3c (pre:=[]) r hd e1
    have H0:HRep K κ H os:=by
     refine ⟨a8t hr.nd e1 nd,lk,fun j a ob q1 q2=>?_⟩
     obtain ⟨i,h3,h4⟩:=g1 j a q1
     obtain ⟨i',h5,h6⟩:=g0 j ob q2
     rw [h3] at h5;cases h5
     exact (hr.obj i a ob h4 h6).any (hcl ob (List.mem_of_getElem? q2)) _
    refine ⟨κ,a0n 0 ds,os,R0,H0,?_⟩
    cases hF:F (a0n 0 ds) os with
    | no=>rw [hF] at o;cases m<;>exact o.elim
    | ex c hx=>rw [hF] at o;cases m<;>exact o.elim
    | ok d h1 =>
     rw [hF] at o
     intro ι' H' v g rb hr1
     rw [← lk] at o
     cases m with
     | false =>
      simp only [Bool.false_eq_true,if_false] at o
      cases hz:adg κ.length (.ok d h1) with
      | ok d' g' =>
       rw [hz] at o
       simp only at o
       obtain ⟨L,ab,k⟩:=agc g rb hr1 hz
       refine ⟨L,ab,fun H2 f=>?_⟩
       obtain ⟨k1,k2,k3⟩:=k H2 f
       split at o
       ·rename_i cg
        split at o
        ·rename_i cd
         have q:=abu (m:=[]) hr e1 nd (by simpa using k1) (by simpa using k3) cg (by simp)
         have lg:=k3.len
         have dr:g'.drop κ.length=[]:=List.drop_eq_nil_of_le (by omega)
         rw [dr,List.append_nil,List.append_nil] at q
         exact o ι H2 v q.1 (k2.any cd _) q.2
        ·exact o.elim
       ·exact o.elim
      | ex c hx=>rw [hz] at o;exact o.elim
      | no=>rw [hz] at o;exact o.elim
     | true =>
      simp only [if_true] at o
      cases hz:apt κ.length (.ok d h1) with
      | ok d' g' =>
       rw [hz] at o
       simp only at o
       obtain ⟨b,hb,k1,k2,k3⟩:=ajj g rb hr1 hz
       refine ⟨[],fun a ha=>(by simp at ha),fun H2 f=>?_⟩
       have e2:H2=H':=by funext a;exact (f a).1 (by simp)
       subst e2
       split at o
       ·rename_i cg
        have q:=abu (m:=[b]) hr e1 nd k1 k3 cg (by simp)
        refine o (ι++[b]) H2 v q.1 ?_ q.2
        have hd':d' = .ref κ.length:=by
         unfold apt at hz
         split at hz
         ·rename_i i h2 hh
          injection hh with z1 z2
          split at hz
          ·split at hz
           ·injection hz with z3 z4;exact z3.symm
           ·cases hz
          ·cases hz
         ·cases hz
        subst hd'
        cases k2 with
        | ref hk =>
         rw [List.getElem?_append_right (Nat.le_refl _)] at hk
         simp at hk
         subst hk
         exact .ref (by rw [← hr.len];simp)
       ·exact o.elim
      | ex c hx=>rw [hz] at o;exact o.elim
      | no=>rw [hz] at o;exact o.elim
   ·exact o.elim
 ·exact o.elim
end
theorem dq (m:Bool) {X:Cx} {k n:Nat} {f:Addr} {fd:FuncData} {ps:List Str} {x:Str} {F:SF} {ka:SA} {e:Expr} {es:List Expr} {p pos:Pos} (G:Dn X.prog X.w X.K X.mg X.base k x ps (uw X.K n F) f fd) (hr:Room k X.A) (hg:Gl X x) (ha:MA X X0 (e::es) ka)
  (hdb:(x == ("__debug__" : Str))=false:=by decide) (he:starEach (e::es) X.env=(false,eval e X.env)::starEach es X.env:=by rfl) (hpl:(backTo pos (starEach es X.env)).any (·.1)=false:=by rfl):ME X X0 (.Call (.Name x p) (e::es) [] pos) (sA (uf m n F) ka):=by
 refine PE.weak (aga (af8 G.ok hr hg G.m G.kp G.b .nil anc ha hdb he hpl)) fun σ H Q ⟨ι,τ,h,S,Rh,o⟩=>?_
 refine ⟨ι,τ,h,S,Rh,cj o fun ds h1 ι1 H1 vs g1 r1 hr1 o1=>?_⟩
 rw [List.append_nil]
 exact agd r1 hr1 o1 _
theorem age (m:Bool) {X:Cx} {k n:Nat} {f:Addr} {fd:FuncData} {ps:List Str} {x:Str} {F:SF} {p pos:Pos} (G:Dn X.prog X.w X.K X.mg X.base k x ps (uw X.K n F) f fd) (hr:Room k X.A) (hg:Gl X x) (hdb:(x == ("__debug__" : Str))=false:=by decide) :
  ME X X0 (.Call (.Name x p) [] [] pos) (sA (uf m n F) d7):=by
 refine PE.weak (aga (ais G.ok hr hg G.m G.kp G.b .nil anc hdb)) fun σ H Q ⟨ι,τ,h,S,Rh,o⟩=>?_
 exact agd (vs:=[]) .nil Rh o E0
end MI
namespace MI
open PySem PySem.Spec L2
def aoa:SS:=fun _ _=>.no
section
variable {X:Cx} {E:XD}
theorem a8u {st:List Stmt}:MSs X E st aoa:=fun _ _ _ _ _ _ ⟨_,_,_,_,_,o⟩=>o.elim
end
theorem ase {X:Cx} {st:Stmt} {t:TS} (h:PS X st t):PS X st (fun D σ H=>t { D with nx:=fun σ' H1=>∃ L,adf H1 L∧∀ H2,FrzOf L H1 H2→D.nx σ' H2 } σ H):=fun pins s σ H D I q =>
 thn (h pins s σ H _ I q) fun f s' k=>by
  cases f with
  | next =>
   obtain ⟨σ',H1,I1,L,ab,k⟩:=k
   obtain ⟨H2,f,I2⟩:=Inv.frz I1 ab
   exact ⟨σ',H2,I2,k H2 f⟩
  | brk=>exact k
  | cont=>exact k
  | ret u=>exact k
theorem alr {K:PySem.W.Frag} {E:XD} {f:SE} {i:Nat} {N:Ends} {σ:St} {H:Hp} (q:a74 K E (kj i f) N σ H):lift K E (xf K) f σ H (fun v H1=>N.nx (σ.set i (some v)) H1):=by
 obtain ⟨ι,τ,h,S,Rh,o⟩:=q
 exact ⟨ι,τ,h,S,Rh,wu o fun d h1 ι1 H1 v g1 r1 hr1 o1=>o1 ι1 H1 _ (.refl _ _) ((S.mono g1).set r1 i) hr1⟩
theorem aob {K:PySem.W.Frag} {E:XD} {fi:SI} {t:D→Option Sd} {fe:SE} {ix:List Nat} {n:Nat} {g:TG} {σ:St} {H:Hp} {Q:VK} (ht:afu K n g t) (q:lift K E (xf K) (m7 fi t fe ix) σ H Q):aiz (lift K E (arp K) fi) (ju n ix) g (lift K E (xf K) fe) σ H Q:=by
 obtain ⟨ι,τ,h,Sr,Rh,o⟩:=q
 refine ⟨ι,τ,h,Sr,Rh,cj o fun it h1 ι1 H1 J g1 r1 hr1 o1=>?_⟩
 by_cases hl:it.xs.length≤LINE
 ·rw [if_pos hl] at o1
  exact abl r1 ht (a2c (Sr.mono g1) ix) hr1 hl o1
 ·rw [if_neg hl] at o1;exact o1.elim
theorem ajk {K:PySem.W.Frag} {E:XD} {fi:SI} {t:D→Option Sd} {fc:ST} {fe:SE} {ix:List Nat} {n:Nat} {g:TG} {σ:St} {H:Hp} {Q:VK} (ht:afu K n g t) (q:lift K E (xf K) (p6 fi t fc fe ix) σ H Q):a73 (lift K E (arp K) fi) (ju n ix) g (lift K E ala fc) (lift K E (xf K) fe) σ H Q:=by
 obtain ⟨ι,τ,h,Sr,Rh,o⟩:=q
 refine ⟨ι,τ,h,Sr,Rh,cj o fun it h1 ι1 H1 J g1 r1 hr1 o1=>?_⟩
 by_cases hl:it.xs.length≤LINE
 ·rw [if_pos hl] at o1
  exact a8o r1 ht (a2c (Sr.mono g1) ix) hr1 hl o1
 ·rw [if_neg hl] at o1;exact o1.elim
section
variable {X:Cx} {E:XD} {elt tg iter cnd:Expr} {scope:Scope} {pos spos pos':Pos} {cl:List (Str × Addr)} {ts fr:List Str} {ix:List Nat} {fi:SI} {g:TG} {t:D→Option Sd} {fe:SE} {fc:ST} {i:Nat} {x:Str}
theorem agf (hN:X.N.Nodup) (hi':X.N[i]? = some x) (hx:Loc X.env.scope x) (hc:X.calm=true) (S:CSc X scope cl ts fr ix) (hi:MI X E tg iter fi) (hg:∀ C fp s H,PG (cxC X (ts++fr) scope cl C fp s H) tg g) (ht:afu X.K ts.length g t) (he:∀ C fp s H,ME (cxC X (ts++fr) scope cl C fp s H) E elt fe)
  (hs:∀ x,foldedSetIterable iter X.env x=pure x:=by intro _;rfl) (hsw:swapsWith (.ListComp elt [⟨tg,iter,[],0⟩] scope pos) (some (.Name x pos')) spos.line X.env=pure true:=by rfl) (hf:X.fn x=true∨X.env.scope.names.lookup x=some .local:=by first | exact .inl rfl | exact .inr rfl | assumption) :
  MS X E (.Assign [.Name x pos'] (.ListComp elt [⟨tg,iter,[],0⟩] scope pos) spos) (kj i (m7 fi t fe ix)) :=
 PS.weak (aj1 (te:=lift X.K E (xf X.K) fe) hN hi' hx hc S hi hg he hs hsw hf) fun N σ H q=>aob ht (alr q)
theorem a7g (hN:X.N.Nodup) (hi':X.N[i]? = some x) (hx:Loc X.env.scope x) (hc:X.calm=true) (S:CSc X scope cl ts fr ix) (hi:MI X E tg iter fi) (hg:∀ C fp s H,PG (cxC X (ts++fr) scope cl C fp s H) tg g) (ht:afu X.K ts.length g t) (he:∀ C fp s H,ME (cxC X (ts++fr) scope cl C fp s H) E elt fe)
  (hq:∀ C fp s H,MT (cxC X (ts++fr) scope cl C fp s H) E cnd fc)
  (hs:∀ x,foldedSetIterable iter X.env x=pure x:=by intro _;rfl) (hsw:swapsWith (.ListComp elt [⟨tg,iter,[cnd],0⟩] scope pos) (some (.Name x pos')) spos.line X.env=pure true:=by rfl) (hf:X.fn x=true∨X.env.scope.names.lookup x=some .local:=by first | exact .inl rfl | exact .inr rfl | assumption) :
  MS X E (.Assign [.Name x pos'] (.ListComp elt [⟨tg,iter,[cnd],0⟩] scope pos) spos) (kj i (sZ (p6 fi t fc fe ix))) :=
 PS.weak (ase (ad8 (te:=lift X.K E (xf X.K) fe) (tc:=lift X.K E ala fc) hN hi' hx hc S hi hg he hq hs hsw hf)) fun N σ H q=>ajk ht (awu (alr q))
end
theorem qy {P:Program} {w:World} {K:PySem.W.Frag} {mg:Str→Option Value} {base:Heap} {x qual:Str} {st:Stmt} {f:Addr} {fd:FuncData} {N ps:List Str} {k:Nat} {b:SS} (Fu:Fun K x qual st f fd) (S:FnScope N ps (bc st))
  (hb:∀ (cdv:Value) (A:Around) (outer:List Env) (s:Shared) (H:Hp) (E:XK),Room k (A.deeper (PyProof.Rows.envOfC qual (bc st) s.heap.objs.size f cdv))→MSs (a2r CX0 P w K mg base N qual (bc st) f cdv A outer s H E).nox X0 (iy st) b) :
  FnOk P w K mg base CX0 (k+1) f fd ps (uw K ps.length (qu b N.length)):=aru Fu S hb fun ds h _ _ _=>Rf.same rfl
end MI
namespace MI
open PySem PySem.Spec L2 HT
theorem adh {prog:Program} {w:World} {A:Around} {E:Value→Shared→Prop} {s:Shared} {t sl:Addr} {items:Array Value} {vl vu:Value} {lo hi:Option Int} {Q:Value→Shared→Prop} (ht:PyProof.Rows.IsTup s.heap t items) (hs:s.heap.IsSliceOf sl vl vu .none) (pl:IsPart vl lo) (pu:IsPart vu hi)
  (hw:HT.sIx items.size 0 lo=0∧HT.sIx items.size items.size hi=items.size) (h:Q (.ref t) s):wpAny (model prog w) A (getItem (.ref t) (.ref sl)) Q E s:=by
 obtain ⟨os,f1,f2,f3⟩:=id hs
 have ty:s.TypeIs (.ref sl) "slice":=⟨os,f1,f2⟩
 have tt:s.TypeIs (.ref t) "tuple":=ht.typeIs
 rw [getItem]
 try apply wpAny_holding
 first | (apply wpAny_bind;apply wpAny_pure) | skip
 apply wpAny_bind;apply wpAny_sequenceKey tt (by decide)
 apply wpAny_bind
 apply wpAny_callSpecial?_slot (name:=Str.ofString "__getitem__") tt PyProof.Rows.slot_tuple_getitem
 apply wpAny_call_entry PyProof.Rows.slot_tuple_getitem tt PyProof.Rows.entry_tuple_getitem _ (PyProof.Rows.args_tuple_getitem _ _)
 change wpAny (model prog w) A.in1 (Builtin.Tuple.tupleItemsOf (.ref t)>>=_) _ _ s
 apply wpAny_bind;apply PyProof.Rows.tupleItemsOf_ ht
 apply wpAny_bind;apply wpAny_typeOf ty
 rw [if_pos (by decide)]
 apply wpAny_bind;apply HT.a0g hs pl pu
 rw [hw.1,hw.2]
 dsimp only
 rw [if_pos (by simp)]
 apply wpAny_bind
 rw [Builtin.Tuple.tupleIsExact]
 apply wpAny_bind;apply wpAny_typeOf tt
 apply wpAny_pure
 rw [if_pos (by decide)]
 apply wpAny_bind;apply wpAny_rule
 apply wpAny_pure
 exact ⟨_,rfl,wpAny_pure h⟩
def awv (K:PySem.W.Frag):V→Option Int→Option Int→Hp→VK→Prop:=fun x lo hi H Q=>∃ a xs,x = .ref a∧SqT K H a xs∧whole xs.length lo hi∧Q (.ref a) H
theorem ajl {X:Cx}:SlR X (awv X.K):=by
 intro pins s σ H x v vl vu lo hi sl Q I rx hs pl pu h
 obtain ⟨a,xs,rfl,hx,hw,q⟩:=h
 cases rx
 obtain ⟨its,r,ht,hz⟩:=I.tuple hx
 have hlen:its.toArray.size=xs.length:=by rw [List.size_toArray];exact r.length.symm
 exact ⟨"tuple",_,PyProof.Rows.slot_tuple_getitem.lookup,ht.typeIs,adh ht hs pl pu (by rw [hlen];exact hw) ⟨.ref a,H,I,rfl,q⟩⟩
def aig (d:D) (lo hi:Option Int) (h:Hd):R D:=match d with
 | .tup xs=>if whole xs.length lo hi then .ok (.tup xs) h else .ok (.tup (a5r xs lo hi)) h
 | d=>gSl d lo hi h
def a5t (f:SE) (l u:SO):SE:=fun τ h=>(f τ h).bind fun d h1=>(l τ h1).bind fun lo h2=>(u τ h2).bind fun hi h3=>aig d lo hi h3
theorem aoc {K:PySem.W.Frag} {E:XD} {ι:List Addr} {H:Hp} {h:Hd} {x:V} {d:D} {lo hi:Option Int} {Q:VK} (rx:Rep K ι H x d) (hr:HRep K ι H h) (o:out K E (xf K) ι H (aig d lo hi h) Q):(avn x lo hi H Q∨ave K x lo hi H Q∨avh K x lo hi H Q)∨awv K x lo hi H Q:=by
 cases rx with
 | @tup p vs xs hp r =>
  by_cases hc:whole xs.length lo hi
  ·simp only [aig,if_pos hc] at o
   exact .inr ⟨p,vs,rfl,SqT.of hp,by rw [r.len];exact hc,ans o (.tup hp r) hr⟩
  ·simp only [aig,if_neg hc] at o
   exact .inl (.inr (.inl ⟨p,vs,rfl,SqT.of hp,by rw [r.len];exact hc,a0l (a2e r lo hi) hr o⟩))
 | non=>exact o.elim
 | bl _=>exact o.elim
 | int _=>exact o.elim
 | ty _=>exact o.elim
 | str z=>exact .inl (abp (.str z) hr o)
 | rol a b=>exact .inl (abp (.rol a b) hr o)
 | scr a b=>exact .inl (abp (.scr a b) hr o)
 | rod a b c=>exact o.elim
 | rdT a b c=>exact o.elim
 | exc a b c=>exact o.elim
 | ref a=>exact .inl (abp (.ref a) hr o)
theorem a0o {X:Cx} {E:XD} {e:Expr} {fa:SE} {lo hi:Option Expr} {l u:SO} {p2 pos:Pos} (he:ME X E e fa) (hl:MO X E lo l) (hu:MO X E hi u):ME X E (.Subscript e (.Slice lo hi none p2) pos) (a5t fa l u):=by
 refine PE.weak (aiu ((arc.or (aqx.or ana)).or ajl) he hl hu) fun σ H Q ⟨ι,τ,h,S,Rh,o⟩=>?_
 refine ⟨ι,τ,h,S,Rh,cj o fun d h1 ι1 H1 v g1 r1 hr1 o1=>?_⟩
 refine ⟨ι1,τ,h1,S.mono g1,hr1,cj o1 fun lo h2 ι2 H2 lv g2 r2 hr2 o2=>?_⟩
 refine ⟨ι2,τ,h2,(S.mono g1).mono g2,hr2,cj o2 fun hi h3 ι3 H3 hv g3 r3 hr3 o3=>?_⟩
 cases r2;cases r3
 exact aoc ((r1.mono g2).mono g3) hr3 o3
end MI
namespace TPM
open PySem PySem.Spec PySem.W L2 HT MI
theorem a0h:fillsNumberSlot (.type "tuple") "mul" = pure false :=
 fillsNumberSlot_seq (id := "tuple.__mul__") (r:=some (.builtin "tuple.__rmul__")) F.slot_tuple_mul.lookup (by decide +kernel) F.slot_tuple_rmul.lookup (by decide +kernel)
theorem agg (t:Addr) (items:Array Value) (n:Nat) (dd:Option Addr) (sl:Array (Option Value)) (x:Int) (u:Tok) (h0:items.isEmpty=false) (h2:2≤x) (h3:x<2 ^ 63) (hz:items.size*x.toNat≤sizeLine) :
  Meets (Builtin.«tuple.__mul__» ⟨[.ref t, .int x u],[]⟩) (fun _ R s=>s.heap.get? t=some { cls:=.type "tuple",dict:=dd,data:=.seq items n,slots:=sl }∧R (.ok (.ret (.ref s.heap.objs.size))) { s with heap:=s.heap.push { cls:=.type "tuple",data:=.seq (List.foldl (fun x1 x2=>x1++x2) #[] (List.replicate x.toNat items)) } }) :=
 .of_wp fun prog w A R s h=>by
  obtain ⟨hp,g,d,tk,os⟩:=s;obtain ⟨hl,h⟩:=h
  have c1:¬ (decide (x < -2 ^ 63) || decide (x≥2 ^ 63))=true:=by
   rw [Bool.or_eq_true,decide_eq_true_eq,decide_eq_true_eq];omega
  have c2:¬ (items.isEmpty || x == 1)=true:=by
   rw [h0,Bool.false_or];simp;omega
  have c3:¬ (decide (x≤0) || items.isEmpty)=true:=by
   rw [h0,Bool.or_false,decide_eq_true_eq];omega
  have ex:((items.size:Nat):Int)*x=((items.size*x.toNat:Nat):Int):=by
   rw [Int.natCast_mul,Int.toNat_of_nonneg (by omega)]
  have sl':(sizeLine:Nat)≤(2 ^ 63 - 1) / 8:=by decide
  have c4:¬ (items.size:Int)*x > (2 ^ 63 - 1) / 8:=by rw [ex];omega
  have c5:¬ Builtin.Tuple.tupleTooMany ((items.size:Int)*x)=true:=by
   rw [ex]
   simp only [Builtin.Tuple.tupleTooMany,decide_eq_true_eq];omega
  wp_walk
  rw [if_neg c1]
  wp_walk
  rw [if_neg c2]
  wp_walk
  rw [if_neg c3]
  wp_walk
  rw [if_neg c4]
  wp_walk
  rw [if_neg c5]
  wp_walk
  have fs:¬ (List.foldl (fun x1 x2=>x1++x2) #[] (List.replicate x.toNat items)).size > sizeLine:=by
   have:=foldl_rep items.toList x.toNat []
   rw [List.nil_append,Array.toArray_toList] at this
   rw [show (#[]:Array Value)=([]:List Value).toArray from rfl,this,List.size_toArray,len_rep,Array.length_toList,Nat.mul_comm]
   omega
  rw [if_neg fs]
  wp_walk
  exact ⟨_,rfl,h⟩
theorem a3s (a:Int) (t:Tok) (l:Addr) (items:Array Value) (n:Nat) (dd:Option Addr) (sl:Array (Option Value)) :
  Meets (Builtin.«int.__rmul__» ⟨[.int a t, .ref l],[]⟩) (fun _ R s=>s.heap.get? l=some { cls:=.type "tuple",dict:=dd,data:=.seq items n,slots:=sl }∧R (.ok (.ret Value.notImplemented)) s):=by
 refine .of_wp fun prog w A R s h=>?_
 obtain ⟨hp,g,d,tk,os⟩:=s
 obtain ⟨hl,h⟩:=h
 wp_walk
 exact ⟨_,rfl,h⟩
theorem a8v:seqRepeat? (.type "tuple")=pure (some (.builtin "tuple.__mul__")):=by
 unfold seqRepeat?
 rw [seqSlot_of (T := "tuple") (name := "__mul__") (id := "tuple.__mul__") F.slot_tuple_mul.lookup (by decide +kernel),seqSlot_of (T := "tuple") (name := "__rmul__") (id := "tuple.__rmul__") F.slot_tuple_rmul.lookup (by decide +kernel)]
 rfl
def aod (K:PySem.W.Frag):R2:=fun x y H Q=>∃ a k xs,x = .ref a∧y = .int k∧SqT K H a xs∧xs≠[]∧2≤k∧k<2 ^ 63∧xs.length*k.toNat≤sizeLine∧∀ p,H p=none→Q (.ref p) (upd H p (.tup (List.replicate k.toNat xs).flatten))
theorem aoe {X:Cx}:OpR X (binaryOp .Mult) (aod X.K):=by
 intro pins s σ H x y v u Q I rx ry h
 obtain ⟨a,k,xs,rfl,rfl,ha,hx,h1,h2,hz,q⟩:=h
 cases rx
 obtain ⟨t,rfl⟩:=ry
 obtain ⟨its,r1,p1,_⟩:=I.tuple ha
 obtain ⟨⟨cls,dd,data,sl⟩,ho,hc,n,hd⟩:=id p1
 simp only at hc hd
 subst hc hd
 have he:its.toArray.isEmpty=false:=by
  cases its with
  | nil=>exact (hx (r1.nil_iff.mp rfl)).elim
  | cons _ _=>rfl
 have hz2:its.toArray.size*k.toNat≤sizeLine:=by rw [List.size_toArray,← r1.length];exact hz
 have hnew:List.foldl (fun x1 x2=>x1++x2) #[] (List.replicate k.toNat its.toArray)=(List.replicate k.toNat its).flatten.toArray:=by
  have:=foldl_rep its k.toNat []
  rw [List.nil_append] at this
  exact this
 refine wpAny_binaryOp_repeat_ref (T := "tuple") (U := "int") (by decide) ⟨_,ho,rfl⟩ (fun s'=>typeIs_int s' k t) a0h F.fills_int_mul F.slot_int_rmul a8v F.slot_int_index.lookup
  (call_meets F.slot_int_rmul (typeIs_int s k t) F.entry_int_rmul (F.args_int_rmul_2 _ _) (a3s k t a its.toArray n dd sl)
   ⟨ho,rfl,⟨_,ho,rfl⟩,call_meets F.slot_tuple_mul ⟨_,ho,rfl⟩ F.entry_tuple_mul (F.args_tuple_mul_2 _ _) (agg a its.toArray n dd sl k t he h1 h2 hz2) ⟨ho,?_⟩⟩)
 rw [hnew]
 refine ⟨.ref s.heap.objs.size,_,I.laid (t':=s.toks) (o:=.tup (List.replicate k.toNat xs).flatten) (fun b ob q=>Heap.get?_push_of_some _ q) (Nat.le_refl _) ?_,rfl,q _ (I.hok.fresh (Nat.le_refl _))⟩
 exact ⟨by rw [len_rep,Nat.mul_comm];exact hz,_,r1.rep k.toNat,PyProof.Rows.IsTup.new _ _⟩
end TPM
namespace MI
open PySem PySem.Spec L2 TPM
open Classical in
noncomputable def agh (x y:D) (h:Hd):R D:=match x,y with
 | .tup xs, .int k=>if (xs≠[]∧2≤k∧k<2 ^ 63)∧xs.length*k.toNat≤LINE then .ok (.tup (List.replicate k.toNat xs).flatten) h else .no
 | x,y=>arw x y h
theorem a7h {K:PySem.W.Frag}:a2b K agh (fun x y H Q=>(rI CMul (fun i j=>.int (i*j)) x y H Q∨auk x y H Q)∨aod K x y H Q):=by
 intro E ι H h x y dx dy Q rx ry hr o
 cases rx with
 | @tup a vs xs ha rs =>
  cases ry with
  | int k =>
   simp only [agh] at o
   split at o
   ·rename_i hc
    refine .inr ⟨a,k,vs,rfl,rfl,SqT.of ha,fun z=>?_,hc.1.2.1,hc.1.2.2,ll (by rw [rs.len];exact hc.2),a0l (rs.flat _) hr o⟩
    subst z
    cases rs
    exact hc.1.1 rfl
   ·exact o.elim
  | _=>exact o.elim
 | int i=>exact .inl (afx _ _ _ _ _ _ _ _ _ (.int i) ry hr o)
 | ref e=>exact .inl (afx _ _ _ _ _ _ _ _ _ (.ref e) ry hr o)
 | _=>exact o.elim
end MI
namespace L2
open PySem PySem.Spec PyProof.Rows
theorem a8w (bs:List Bool):((List.range bs.length).any fun i=>(bs[i]?).getD true)=bs.any id:=by
 have e:(List.range bs.length).map (fun i=>(bs[i]?).getD true)=bs:=by
  apply List.ext_getElem (by simp)
  intro i h1 h2
  simp [h2]
 have f:((List.range bs.length).map fun i=>(bs[i]?).getD true).any id=bs.any id:=by rw [e]
 rw [← f,List.any_map]
 rfl
theorem aad {X:Cx} (hc:X.calm=true):CallR X (.builtin "any") (fun xs H Q=>∃ (p:Addr) (bs:List Bool),xs=[.ref p]∧SqL X.K H p (bs.map V.bl)∧Q (.bl (bs.any id)) H):=by
 intro pins s σ H xs us Q I r h
 obtain ⟨p,bs,rfl,hq,q⟩:=h
 obtain ⟨u,rfl,rx⟩:=vals1 r
 cases rx
 obtain ⟨its,r',pl,hz⟩:=I.list hq
 have hl:=r'.length
 rw [List.length_map] at hl
 have hlt:p<s.heap.objs.size:=by obtain ⟨_,e,_⟩:=pl.isList;exact Heap.lt_size e
 refine call_any_walk (wpAny_pyIter_list pl.isList ?_)
 refine ⟨s.heap.objs.size,[s.heap.objs.size,p],[s.heap.objs.size],its.toArray.size,_,_,fun i=>(bs[i]?).getD true,rfl,Walks.list (A:=X.A.in1) (I.ok.hd hc) _ p (Nat.ne_of_lt hlt) its.toArray,
  ⟨⟨_,Heap.get?_push_size _ rfl,rfl,rfl⟩,pl.isList.push _⟩,fun i v s' Q' E' hP hQ=>?_,fun h' tk hk=>?_⟩
 ·have hP':its[i]? = some v:=by simpa using hP
  have hi:i<bs.length:=by
   have:=(List.getElem?_eq_some_iff.mp hP').1
   omega
  obtain ⟨u,e,ru⟩:=r'.get (i:=i) (x:=.bl bs[i]) (by simp [hi])
  rw [hP'] at e
  cases e
  cases ru
  simp only [List.getElem?_eq_getElem hi,Option.getD_some] at hQ
  exact wpAny_truthy_bool hQ
 ·have e:((List.range its.toArray.size).any fun i=>(bs[i]?).getD true)=bs.any id:=by
   rw [List.size_toArray,← hl];exact a8w bs
  rw [e]
  exact ⟨.bl _,H,I.kept fun b x e=>hk b x (fun hm=>by rw [List.mem_singleton.mp hm] at e;exact Nat.lt_irrefl _ (Heap.lt_size e)) (Heap.get?_push_of_some _ e),rfl,q⟩
end L2
namespace MI
open PySem PySem.Spec L2
def aof (x y:D) (h:Hd):R D:=match x,y with
 | .ref p, .int i=>(match h[p]? with | some (.lst xs)=>(match atI xs i with | some d=>.ok d h | none=>.no) | _=>.no)
 | _,_=>.no
def adi (g:D→D→Hd→R D) (fo fi fe:SE):SS:=fun τ h=>(fo τ h).fl fun o h1=>(fi τ h1).fl fun i h2=>(aof o i h2).fl fun x h3=>(fe τ h3).fl fun y h4=>(g x y h4).fl fun z h5=>match put o i z h5 with | some h6=>.nx τ h6 | none=>.no
def apu:List D→Hd→R D
 | [.ref i],h=>(match h[i]? with | some (.lst xs)=>(match ao4 xs with | some bs=>.ok (.bl (bs.any id)) h | none=>.no) | _=>.no)
 | [.rol xs],h=>(match ao4 xs with | some bs=>.ok (.bl (bs.any id)) h | none=>.no)
 | _,_=>.no
theorem aog {K:PySem.W.Frag}:abf K apu (fun xs H Q=>∃ (p:Addr) (bs:List Bool),xs=[.ref p]∧SqL K H p (bs.map V.bl)∧Q (.bl (bs.any id)) H):=by
 intro E ι H h xs ds Q r hr o
 unfold apu at o
 split at o
 ·cases r with
  | cons r rs =>
   cases rs
   cases r with
   | @ref p _ hp =>
    split at o
    ·rename_i xs hx
     obtain ⟨vs,h3,h4⟩:=hr.lst hp hx
     split at o
     ·rename_i bs hb
      exact ⟨p,bs,rfl,SqL.of (by rw [h3,aac h4 hb]),ans o (.bl _) hr⟩
     ·exact o.elim
    ·exact o.elim
 ·cases r with
  | cons r rs =>
   cases rs
   cases r with
   | @rol p vs xs hp r =>
    split at o
    ·rename_i bs hb
     exact ⟨p,bs,rfl,by rw [← aac r hb];exact hp.l,ans o (.bl _) hr⟩
    ·exact o.elim
 ·exact o.elim
end MI
namespace TPM
open PySem PySem.Spec PySem.W L2 HT MI
theorem adk (t b:Addr) (items2:Array Value) (n n2:Nat) (dd dd2:Option Addr) (sl sl2:Array (Option Value)) :
  Meets (Builtin.«tuple.__add__» ⟨[.ref t, .ref b],[]⟩) (fun _ R s=>s.heap.get? t=some { cls:=.type "tuple",dict:=dd,data:=.seq #[] n,slots:=sl }∧s.heap.get? b=some { cls:=.type "tuple",dict:=dd2,data:=.seq items2 n2,slots:=sl2 }∧R (.ok (.ret (.ref b))) s):=by
 refine .of_wp fun prog w A R s h=>?_
 obtain ⟨hp,g,d,tk,os⟩:=s
 obtain ⟨hl,hb,h⟩:=h
 wp_walk
 refine wpAny_of_eq sub_tuple_self ?_
 wp_walk
 exact ⟨_,rfl,h⟩
def asf (K:PySem.W.Frag):R2:=fun x y H Q=>∃ a b ys,x = .ref a∧y = .ref b∧SqT K H a []∧SqT K H b ys∧Q (.ref b) H
theorem aoh {X:Cx}:OpR X (binaryOp .Add) (asf X.K):=by
 intro pins s σ H x y v u Q I rx ry h
 obtain ⟨a,b,ys,rfl,rfl,ha,hb,q⟩:=h
 cases rx
 cases ry
 obtain ⟨its,r1,p1,_⟩:=I.tuple ha
 obtain ⟨its2,r2,p2,_⟩:=I.tuple hb
 cases r1
 obtain ⟨⟨cls,dd,data,sl⟩,ho,hc,n,hd⟩:=id p1
 obtain ⟨⟨cls2,dd2,data2,sl2⟩,ho2,hc2,n2,hd2⟩:=id p2
 simp only at hc hd hc2 hd2
 subst hc hd hc2 hd2
 exact concat_meets ⟨_,ho,rfl⟩ ⟨_,ho2,rfl⟩ noFill_tuple_add seq_tuple_add F.slot_tuple_add F.entry_tuple_add (F.args_tuple_add_2 _ _) (adk a b its2.toArray n n2 dd dd2 sl sl2) ⟨ho,ho2,⟨.ref b,H,I,rfl,q⟩⟩
end TPM
namespace MI
open PySem PySem.Spec L2 TPM
end MI
namespace TPM
open PySem PySem.Spec PySem.W L2 HT MI PyProof.Rows
end TPM
namespace MI
open PySem PySem.Spec L2 TPM
end MI
namespace L2
open PySem PySem.Spec PyProof.Rows
section
variable {X:Cx}
theorem Inv.lstR {pins:List (Addr × Obj)} {σ:St} {H:Hp} {s:Shared} {l:Addr} {xs:List V} (I:Inv X pins σ H s) (hH:Rd H l (.lst xs)):xs.length≤sizeLine∧∃ (its:List Value) (n:Nat),Vals xs its∧xs.length=its.length∧s.heap.get? l=some { cls:=.type "list",data:=.seq its.toArray n }:=by
 obtain ⟨z,its,n,r,e⟩:=hH.ok I.hok
 exact ⟨z,its,n,r,r.length,e⟩
def aoi:R2:=fun x y H Q=>∃ l b xs zs,x = .ref l∧y = .ref b∧Rd H l (.lst xs)∧Rd H b (.lst zs)∧xs.length+zs.length≤sizeLine∧∀ p,H p=none→Q (.ref p) (upd H p (.lst (xs++zs)))
theorem aoj:OpR X (binaryOp .Add) aoi:=fun pins s σ H x y v u Q I rx ry ⟨l,b,xs,zs,ex,ey,h1,h2,hz,q⟩=>by
 subst ex ey
 cases rx
 cases ry
 obtain ⟨_,as,_,va,la,ea⟩:=I.lstR h1
 obtain ⟨_,bs,_,vb,lb,eb⟩:=I.lstR h2
 have app:as.toArray++bs.toArray=(as++bs).toArray:=by simp
 refine PySem.P.add_list ea eb ?_ (by simp;omega)
 rw [app]
 exact ⟨.ref _,_,I.lnew (t':=s.toks) (va.append vb) (by simpa using hz),rfl,q _ I.fresh⟩
def ash:R2:=fun x y H Q=>∃ l k xs,x = .ref l∧y = .int k∧Rd H l (.lst xs) ∧ -(2 ^ 63)≤k∧k<2 ^ 63∧xs.length*k.toNat≤sizeLine∧∀ p,H p=none→Q (.ref p) (upd H p (.lst (List.replicate k.toNat xs).flatten))
theorem aok (its:List Value) (k:Nat):List.foldl (fun x1 x2=>x1++x2) #[] (List.replicate (if its.toArray.isEmpty=true then 0 else k) its.toArray)=(List.replicate k its).flatten.toArray:=by
 have g:∀ m:Nat,List.foldl (fun x1 x2=>x1++x2) #[] (List.replicate m its.toArray)=(List.replicate m its).flatten.toArray:=fun m=>by simpa using foldl_rep its m []
 cases its with
 | nil=>simp
 | cons a r=>rw [if_neg (by simp),g]
theorem aol:OpR X (binaryOp .Mult) ash:=fun pins s σ H x y v u Q I rx ry ⟨l,k,xs,ex,ey,h1,k1,k2,hz,q⟩=>by
 subst ex ey
 cases rx
 obtain ⟨t,rfl⟩:=ry
 obtain ⟨_,as,n,va,la,ea⟩:=I.lstR h1
 have few:as.toArray.size*k.toNat≤sizeLine:=by rw [List.size_toArray,← la];exact hz
 have top:(sizeLine:Nat)≤(2 ^ 63 - 1) / 8:=by decide
 refine wpAny_binaryOp_repeat_ref (T := "list") (U := "int") (by decide) ⟨_,ea,rfl⟩ (fun s'=>typeIs_int s' k t) noFill_list_mul F.fills_int_mul F.slot_int_rmul repeat_list F.slot_int_index.lookup
  (call_meets F.slot_int_rmul (typeIs_int s k t) F.entry_int_rmul (F.args_int_rmul_2 _ _) (int___rmul___int_list k t l as.toArray n)
   ⟨ea,rfl,⟨_,ea,rfl⟩,call_meets F.slot_list_mul ⟨_,ea,rfl⟩ F.entry_list_mul (F.args_list_mul_2 _ _)
    (AutoListH.list___mul___list_int_3 l as.toArray n k t (by rw [fitsIndex_both k1 k2];exact Bool.false_ne_true) (by omega) (by rw [ab8 few];exact Bool.false_ne_true)) ⟨ea,?_⟩⟩)
 rw [aok]
 exact ⟨.ref _,_,I.lnew (t':=s.toks) (va.rep k.toNat) (by rw [len_rep,Nat.mul_comm];exact hz),rfl,q _ I.fresh⟩
end
end L2
namespace MI
open PySem PySem.Spec L2 TPM
def pq (d:D) (h:Hd):Option (List D):=match d with
 | .rol xs=>some xs
 | .ref i=>(match h[i]? with | some (.lst xs)=>some xs | _=>none)
 | _=>none
section
variable {K:PySem.W.Frag} {ι:List Addr} {H:Hp} {h:Hd}
theorem yw {x:V} {d:D} {xs:List D} (r:Rep K ι H x d) (hr:HRep K ι H h) (e:pq d h=some xs):∃ a vs,x = .ref a∧Rd H a (.lst vs)∧Reps K ι H vs xs:=by
 cases r with
 | @rol a vs ys hp rs=>cases e;exact ⟨a,vs,rfl, .inr hp,rs⟩
 | @ref a i hp =>
  obtain ⟨ob,e1,e2⟩:=hr.at hp
  simp only [pq,e1] at e
  cases ob with
  | lst ys=>cases e;obtain ⟨vs,h3,h4⟩:=e2;exact ⟨a,vs,rfl, .inl h3,h4⟩
  | _=>cases e
 | _=>cases e
def j9:D→D→Hd→R D
 | .int i, .int j,h=>.ok (.int (i+j)) h
 | .str x, .str y,h=>if x.length+y.length≤LINE then .ok (.str (x++y)) h else .no
 | .tup [], .tup ys,h=>.ok (.tup ys) h
 | .tup (x::xs), .tup ys,h=>if (x::xs).length+ys.length≤LINE then .ok (.tup (x::xs++ys)) h else .no
 | x,y,h=>match pq x h,pq y h with
  | some xs,some ys=>if xs.length+ys.length≤LINE then .ok (.ref h.length) (h++[.lst (xs++ys)]) else .no
  | _,_=>.no
theorem aae {x y:D} {xs ys:List D} (e1:pq x h=some xs) (e2:pq y h=some ys):j9 x y h=if xs.length+ys.length≤LINE then .ok (.ref h.length) (h++[.lst (xs++ys)]) else .no:=by
 cases x<;>first | (cases e1;done) | (cases y<;>first | (cases e2;done) | (simp only [j9,e1,e2]))
theorem ajm:a2b K j9 (fun x y H Q=>(rI0 (fun i j=>.int (i+j)) x y H Q∨(∃ i j,x = .str i∧y = .str j∧i.length+j.length≤sizeLine∧Q (.str (i++j)) H)∨aqy K x y H Q∨aoi x y H Q)∨asf K x y H Q):=by
 intro E ι H h x y dx dy Q rx ry hr o
 have lists:∀ xs ys,pq dx h=some xs→pq dy h=some ys→aoi x y H Q:=fun xs ys e1 e2=>by
  rw [aae e1 e2] at o
  obtain ⟨a,vs,rfl,h1,h2⟩:=yw rx hr e1
  obtain ⟨b,us,rfl,h3,h4⟩:=yw ry hr e2
  split at o
  ·rename_i hc
   exact ⟨a,b,vs,us,rfl,rfl,h1,h3,ll (by rw [h2.len,h4.len];exact hc),p7 (h2.app h4) hr o⟩
  ·exact o.elim
 cases hx:pq dx h with
 | some xs =>
  cases hy:pq dy h with
  | some ys=>exact .inl (.inr (.inr (.inr (lists xs ys hx hy))))
  | none =>
   exfalso
   cases rx<;>first | (cases hx;done) | (cases ry<;>first | (simp only [j9,hx,hy] at o;exact o) | (simp only [j9] at o;exact o))
 | none =>
  cases rx with
  | int i =>
   cases ry with
   | int j=>exact .inl (.inl ⟨i,j,rfl,rfl,ans o (.int _) hr⟩)
   | _=>exact o.elim
  | str i =>
   cases ry with
   | str j =>
    simp only [j9] at o
    split at o
    ·rename_i hc;exact .inl (.inr (.inl ⟨i,j,rfl,rfl,ll hc,ans o (.str _) hr⟩))
    ·exact o.elim
   | _=>exact o.elim
  | @tup a vs xs ha r1 =>
   cases ry with
   | @tup b us ys hb r2 =>
    cases xs with
    | nil=>cases r1;exact .inr ⟨a,b,us,rfl,rfl,SqT.of ha,SqT.of hb,ans o (.tup hb r2) hr⟩
    | cons z xs =>
     simp only [j9] at o
     split at o
     ·rename_i hc
      refine .inl (.inr (.inr (.inl ⟨a,b,vs,us,rfl,rfl,SqT.of ha,SqT.of hb,fun z=>(by subst z;cases r1),ll (by rw [r1.len,r2.len];exact hc),fun z=>?_,fun _=>?_⟩)))
      ·subst z;cases r2
       rw [List.append_nil] at o
       exact ans o (.tup ha r1) hr
      ·exact a0l (r1.app r2) hr o
     ·exact o.elim
   | _=>cases xs<;>exact o.elim
  | rol _ _=>cases hx
  | ref _=>cases ry<;>(simp only [j9,hx] at o;exact o.elim)
  | _=>cases ry<;>exact o.elim
theorem jh {X:Cx} {E:XD} {a b:Expr} {fa fb:SE} {pos:Pos} (ha:ME X E a fa) (hb:ME X E b fb):ME X E (.BinOp a .Add b pos) (s2 j9 fa fb) :=
 aa2 (OpR.or (aqn.or (ad1.or (amz.or aoj))) aoh) ajm ha hb
open Classical in
noncomputable def a1p:D→D→Hd→R D
 | .int i, .int j,h=>if CMul i j then .ok (.int (i*j)) h else .no
 | x, .int k,h=>match pq x h with
  | some xs=>if (-(2 ^ 63)≤k∧k<2 ^ 63)∧xs.length*k.toNat≤LINE then .ok (.ref h.length) (h++[.lst (List.replicate k.toNat xs).flatten]) else .no
  | none=>.no
 | _,_,_=>.no
theorem ajn:a2b K a1p (fun x y H Q=>rI CMul (fun i j=>.int (i*j)) x y H Q∨ash x y H Q):=by
 intro E ι H h x y dx dy Q rx ry hr o
 cases ry with
 | int k =>
  cases hx:pq dx h with
  | some xs =>
   obtain ⟨a,vs,rfl,h1,h2⟩:=yw rx hr hx
   have o':out K E (xf K) ι H (if (-(2 ^ 63)≤k∧k<2 ^ 63)∧xs.length*k.toNat≤LINE then .ok (.ref h.length) (h++[.lst (List.replicate k.toNat xs).flatten]) else .no) Q:=by
    cases dx<;>first | (cases hx;done) | (simp only [a1p,hx] at o;exact o)
   split at o'
   ·rename_i hc
    exact .inr ⟨a,k,vs,rfl,rfl,h1,hc.1.1,hc.1.2,ll (by rw [h2.len];exact hc.2),p7 (h2.flat _) hr o'⟩
   ·exact o'.elim
  | none =>
   cases rx with
   | int i =>
    by_cases hc:CMul i k
    ·simp only [a1p,if_pos hc] at o;exact .inl ⟨i,k,rfl,rfl,hc,ans o (.int _) hr⟩
    ·simp only [a1p,if_neg hc] at o;exact o.elim
   | _=>simp only [a1p,hx] at o;exact o.elim
 | _=>cases rx<;>exact o.elim
theorem a7i {X:Cx} {E:XD} {a b:Expr} {fa fb:SE} {pos:Pos} (ha:ME X E a fa) (hb:ME X E b fb):ME X E (.BinOp a .Mult b pos) (s2 a1p fa fb):=aa2 (akz.or aol) ajn ha hb
end
end MI
namespace MI
open PySem PySem.Spec L2
def a6e (d:D) (h:Hd):Option (List Int):=match d with
 | .ref i=>(match h[i]? with | some (.lst xs)=>a2f xs | _=>none)
 | .rol xs=>a2f xs
 | _=>none
theorem a8x {K:PySem.W.Frag} {ι:List Addr} {H:Hp} {h:Hd} {v:V} {d:D} {ns:List Int} (r:Rep K ι H v d) (hr:HRep K ι H h) (e:a6e d h=some ns):∃ p,v = .ref p∧SqL K H p (ns.map V.int):=by
 unfold a6e at e
 split at e
 ·cases r with
  | @ref p _ hp =>
   split at e
   ·rename_i xs hx
    obtain ⟨vs,h3,h4⟩:=hr.lst hp hx
    exact ⟨p,rfl,SqL.of (by rw [h3,a2g h4 e])⟩
   ·cases e
 ·cases r with
  | @rol p vs xs hp r=>exact ⟨p,rfl,by rw [← a2g r e];exact hp.l⟩
 ·cases e
end MI
namespace L2
open PySem PySem.Spec PyProof.Rows
end L2
namespace MI
open PySem PySem.Spec L2
end MI
namespace L2
open PySem PySem.Spec PyProof.Rows
def ixI (n:Int):List Int→Option Nat
 | []=>none
 | a::l=>if a=n then some 0 else (ixI n l).map (·+1)
theorem abv {n:Int}:∀ {l:List Int} {j:Nat},ixI n l=some j→l[j]? = some n∧∀ i,i<j→l[i]?≠some n
 | [],_,h=>by cases h
 | a::l,j,h=>by
  unfold ixI at h
  split at h
  ·rename_i e
   cases h
   exact ⟨by rw [e];rfl,fun i hi=>absurd hi (Nat.not_lt_zero i)⟩
  ·rename_i e
   obtain ⟨k,hk,rfl⟩:=Option.map_eq_some_iff.mp h
   obtain ⟨h1,h2⟩:=abv hk
   refine ⟨h1,fun i hi=>?_⟩
   cases i with
   | zero=>intro z;exact e (Option.some.inj z)
   | succ i=>exact h2 i (Nat.lt_of_succ_lt_succ hi)
theorem abw {n:Int}:∀ {l:List Int},n∈l→∃ j,ixI n l=some j
 | [],h=>by cases h
 | a::l,h=>by
  unfold ixI
  split
  ·exact ⟨0,rfl⟩
  ·rename_i e
   rcases List.mem_cons.mp h with h | h
   ·exact absurd h.symm e
   ·obtain ⟨j,hj⟩:=abw h
    exact ⟨j+1,by rw [hj];rfl⟩
def eqI (n:Int):Value→Bool
 | .int a _=>a == n
 | _=>false
def agi (K:PySem.W.Frag):V→List V→Hp→VK→Prop:=fun x vs H Q=>∃ (l:Addr) (ns:List Int) (n:Int) (j:Nat),x = .ref l∧vs=[.int n]∧SqL K H l (ns.map V.int)∧ixI n ns=some j∧Q (.int (j:Nat)) H
theorem agj {X:Cx}:MtR X "list.index" (agi X.K):=by
 intro pins s σ H x vs v us Q I rx rv h
 obtain ⟨l,ns,n,j,rfl,rfl,hq,hj,q⟩:=h
 cases rx
 obtain ⟨u,rfl,ru⟩:=rv.one
 obtain ⟨t,rfl⟩:=ru
 obtain ⟨its,r,⟨⟨cls,dict,data,slots⟩,m,e1,e2,e3,e4⟩,hz⟩:=I.list hq
 have e2:cls = .type "list":=e2
 have e3:dict=none:=e3
 have e4:data = .seq its.toArray m:=e4
 subst e2 e3 e4
 have hl:its.length=ns.length:=by have:=r.length;simp at this;omega
 have each:∀ i (h:i<its.length),∃ a t,its[i] = .int a t∧ns[i]? = some a:=fun i h=>by
  obtain ⟨y,h1,h2⟩:=r.get (show (ns.map V.int)[i]? = some (V.int (ns[i]'(by omega))) by rw [List.getElem?_map,List.getElem?_eq_getElem (by omega)];rfl)
  obtain ⟨t,rfl⟩:=h2
  exact ⟨_,t,(List.getElem?_eq_some_iff.mp h1).2,List.getElem?_eq_getElem _⟩
 obtain ⟨p1,p2⟩:=abv hj
 have jl:j<ns.length:=(List.getElem?_eq_some_iff.mp p1).1
 rw [List.length_map] at hz
 rw [sizeLine_eq] at hz
 refine call_meets F.slot_list_index ⟨_,e1,rfl⟩ F.entry_list_index (F.args_list_index_2 _ _)
  (SeqAt.list_indexAt l its.toArray m none slots (.int n t) (eqI n) j (by simp;omega) (by omega) ?_ ?_) ⟨e1,fun y hy=>?_, .int (j:Nat),H,I.tok _,⟨_,rfl⟩,q⟩
 ·obtain ⟨a,t,h1,h2⟩:=each j (by omega)
  rw [p1] at h2;cases h2
  rw [List.getElem_toArray,h1]
  exact beq_self_eq_true _
 ·intro i hi hij
  obtain ⟨a,t,h1,h2⟩:=each i (by simpa using hi)
  rw [List.getElem_toArray,h1]
  exact beq_eq_false_iff_ne.mpr fun z=>p2 i hij (by rw [h2,z])
 ·obtain ⟨i,hi,rfl⟩:=List.getElem_of_mem (List.mem_toArray.mp hy)
  obtain ⟨a,t',h1,_⟩:=each i hi
  rw [h1]
  exact SeqAt.EqAt.int_int a t' n t
end L2
namespace MI
open PySem PySem.Spec L2
def a4u (d:D) (ds:List D) (h:Hd):R D:=match a6e d h,ds with
 | some ns,[.int n]=>(match ixI n ns with | some j=>.ok (.int (j:Nat)) h | none=>.no)
 | _,_=>.no
theorem adl {K:PySem.W.Frag}:avs K a4u (agi K):=by
 intro E ι H h x dx xs ds Q rx r hr o
 unfold a4u at o
 split at o
 ·rename_i ns n e
  cases r with
  | cons r rs =>
   cases r;cases rs
   split at o
   ·rename_i j hj
    obtain ⟨p,rfl,q⟩:=a8x rx hr e
    exact ⟨p,ns,n,j,rfl,rfl,q,hj,ans o (.int _) hr⟩
   ·exact o.elim
 ·exact o.elim
end MI
namespace MI
open PySem PySem.Spec L2
def aih:D→Option Key
 | .int i=>some (.inl i)
 | .str x=>some (.inr x)
 | _=>none
def apv:D→Option (List Key)
 | .tup xs=>a01 aih xs
 | _=>none
def a8y {κ:Type} [DecidableEq κ] (kvs:List (κ × D)) (k:κ):Option D:=(kvs.find? fun kv=>decide (kv.1=k)).map (·.2)
def putD {κ:Type} [DecidableEq κ] (kvs:List (κ × D)) (k:κ) (d:D):List (κ × D):=if (kvs.any fun kv=>decide (kv.1=k))=true then kvs.map fun kv=>if kv.1=k then (kv.1,d) else kv else kvs++[(k,d)]
section
variable {K:PySem.W.Frag} {ι:List Addr} {H:Hp} {h:Hd}
theorem a7j {v:V} {d:D} {k:Key} (r:Rep K ι H v d) (e:aih d=some k):v=kV k:=by
 cases r with
 | int i=>cases e;rfl
 | str x=>cases e;rfl
 | _=>cases e
theorem abx:∀ {vs:List V} {ds:List D} {ks:List Key},Reps K ι H vs ds→a01 aih ds=some ks→vs=ks.map kV
 | _,_,_, .nil,e=>by cases e;rfl
 | _,d::ds,_, .cons r rs,e=>by
  unfold a01 at e
  split at e
  ·rename_i y ys h1 h2
   cases e
   rw [a7j r h1,abx rs h2];rfl
  ·cases e
theorem agk {v:V} {d:D} {ks:List Key} (r:Rep K ι H v d) (e:apv d=some ks):∃ b,v = .ref b∧H b=some (.tup (ks.map kV)):=by
 cases r with
 | @tup a vs xs hp rs=>exact ⟨a,rfl,by rw [← abx rs e];exact hp⟩
 | _=>cases e
theorem a7k {κ:Type} [DecidableEq κ] (k:κ):∀ {us:List (κ × V)} {kvs:List (κ × D)},KRep K ι H us kvs→match a8y kvs k with | some d=>∃ v,ab9 us k=some v∧Rep K ι H v d | none=>ab9 us k=none
 | [],[],_=>rfl
 | [],_::_,r=>by have:=congrArg List.length r.1;simp at this
 | _::_,[],r=>by have:=congrArg List.length r.1;simp at this
 | (a,v)::us,(b,d)::kvs,r=>by
  obtain ⟨e,rs⟩:=r
  simp only [List.map_cons,List.cons.injEq] at e
  obtain ⟨e1,e2⟩:=e
  subst e1
  cases rs with
  | cons r1 rs =>
   by_cases hk:a=k
   ·simp only [a8y,ab9,List.find?_cons,hk,decide_true,Option.map_some]
    exact ⟨v,rfl,r1⟩
   ·have ih:=a7k k (us:=us) (kvs:=kvs) ⟨e2,rs⟩
    simp only [a8y,ab9,List.find?_cons,hk,decide_false] at ih ⊢
    exact ih
theorem aby {κ:Type} [DecidableEq κ] {us:List (κ × V)} {kvs:List (κ × D)} (k:κ) {v:V} {d:D} (r:KRep K ι H us kvs) (rv:Rep K ι H v d):KRep K ι H (putK us k v) (putD kvs k d):=by
 have anyEq:∀ {us:List (κ × V)} {kvs:List (κ × D)},us.map (·.1)=kvs.map (·.1)→(us.any fun kv=>decide (kv.1=k))=(kvs.any fun kv=>decide (kv.1=k)):=fun {us kvs} e=>by
  have h1:(us.any fun kv=>decide (kv.1=k))=(us.map (·.1)).any fun a=>decide (a=k):=by rw [List.any_map];rfl
  have h2:(kvs.any fun kv=>decide (kv.1=k))=(kvs.map (·.1)).any fun a=>decide (a=k):=by rw [List.any_map];rfl
  rw [h1,h2,e]
 have rmap:∀ {us:List (κ × V)} {kvs:List (κ × D)},KRep K ι H us kvs→KRep K ι H (us.map fun kv=>if kv.1=k then (kv.1,v) else kv) (kvs.map fun kv=>if kv.1=k then (kv.1,d) else kv):=fun {us}=>by
  induction us with
  | nil=>intro kvs r;cases kvs with
   | nil=>exact ⟨rfl, .nil⟩
   | cons _ _=>have:=congrArg List.length r.1;simp at this
  | cons a us ih=>intro kvs r;cases kvs with
   | nil=>have:=congrArg List.length r.1;simp at this
   | cons b kvs =>
    obtain ⟨e,rs⟩:=r
    simp only [List.map_cons,List.cons.injEq] at e
    obtain ⟨e1,e2⟩:=e
    cases rs with
    | cons r1 rs =>
     obtain ⟨i1,i2⟩:=ih ⟨e2,rs⟩
     obtain ⟨a1,a2⟩:=a
     obtain ⟨b1,b2⟩:=b
     simp only at e1
     subst e1
     by_cases hk:a1=k
     ·simp only [List.map_cons,hk,if_true]
      exact ⟨by simp only [List.map_cons,i1], .cons rv i2⟩
     ·simp only [List.map_cons,hk,if_false]
      exact ⟨by simp only [List.map_cons,i1], .cons r1 i2⟩
 have ae:=anyEq r.1
 unfold putK putD
 rw [ae]
 split
 ·exact rmap r
 ·exact ⟨by simp [r.1],by simpa using r.2.snoc rv⟩
def avw (x y:D) (h:Hd):Option (Option D):=match x with
 | .ref i=>(match h[i]? with
  | some (.dK kvs)=>(aih y).map fun k=>a8y kvs k
  | some (.dT kvs)=>(apv y).map fun k=>a8y kvs k
  | _=>none)
 | .rod ks xs=>(aih y).map fun k=>a8y (ks.zip xs) k
 | .rdT ks xs=>(apv y).map fun k=>a8y (ks.zip xs) k
 | _=>none
def avx (K:PySem.W.Frag) (ι:List Addr) (H:Hp) (a:Addr) (y:V):Option D→Prop
 | some d=>∃ v,aul H a y (some v)∧Rep K ι H v d
 | none=>aul H a y none
theorem agl {κ:Type} {us:List (κ × V)} {ks:List κ} {xs:List D} (e:us.map (·.1)=ks) (r:Reps K ι H (us.map (·.2)) xs):KRep K ι H us (ks.zip xs):=a7f e r
theorem aom {x y:V} {dx dy:D} {r:Option D} (rx:Rep K ι H x dx) (ry:Rep K ι H y dy) (hr:HRep K ι H h) (e:avw dx dy h=some r):∃ a,x = .ref a∧avx K ι H a y r:=by
 have goK:∀ {a:Addr} {us:List (Key × V)} {kvs:List (Key × D)},Rd H a (.dK us)→KRep K ι H us kvs→(aih dy).map (fun k=>a8y kvs k)=some r→avx K ι H a y r:=fun {a us kvs} rd kr e=>by
  simp only [Option.map_eq_some_iff] at e
  obtain ⟨k,ek,rfl⟩:=e
  have ey:=a7j ry ek
  have q:=a7k k kr
  cases hv:a8y kvs k with
  | none=>rw [hv] at q;exact .inl ⟨us,k,rd,ey,q.symm⟩
  | some d=>rw [hv] at q;obtain ⟨v,q1,q2⟩:=q;exact ⟨v, .inl ⟨us,k,rd,ey,q1.symm⟩,q2⟩
 have goT:∀ {a:Addr} {us:List (List Key × V)} {kvs:List (List Key × D)},Rd H a (.dT us)→KRep K ι H us kvs→(apv dy).map (fun k=>a8y kvs k)=some r→avx K ι H a y r:=fun {a us kvs} rd kr e=>by
  simp only [Option.map_eq_some_iff] at e
  obtain ⟨k,ek,rfl⟩:=e
  obtain ⟨b,ey,eb⟩:=agk ry ek
  have q:=a7k k kr
  cases hv:a8y kvs k with
  | none=>rw [hv] at q;exact .inr ⟨us,k,b,rd,ey,eb,q.symm⟩
  | some d=>rw [hv] at q;obtain ⟨v,q1,q2⟩:=q;exact ⟨v, .inr ⟨us,k,b,rd,ey,eb,q1.symm⟩,q2⟩
 cases rx with
 | @ref a i ha =>
  obtain ⟨ob,e1,e2⟩:=hr.at ha
  simp only [avw,e1] at e
  cases ob with
  | lst _=>cases e
  | dK kvs=>obtain ⟨us,h3,h4⟩:=e2;exact ⟨a,rfl,goK (.inl h3) h4 e⟩
  | dT kvs=>obtain ⟨us,h3,h4⟩:=e2;exact ⟨a,rfl,goT (.inl h3) h4 e⟩
 | @rod a o us ks xs hp ek rs=>exact ⟨a,rfl,goK (.inr ⟨o,hp⟩) (agl ek rs) e⟩
 | @rdT a o us ks xs hp ek rs=>exact ⟨a,rfl,goT (.inr ⟨o,hp⟩) (agl ek rs) e⟩
 | _=>cases e
def apw (neg:Bool) (y x:D) (h:Hd):R D:=match avw x y h with
 | some r=>.ok (.bl (if neg then !r.isSome else r.isSome)) h
 | none=>.no
def agm:R2:=fun y x H Q=>∃ a o,x = .ref a∧aul H a y o∧Q (.bl (!o.isSome)) H
theorem u1 {A:Around} (hu:A.units+64<cLine):A.units+1<cLine:=by omega
theorem agn {X:Cx} (hu:X.A.units+64<cLine):OpR X (compareOp .NotIn) agm:=fun pins s σ H y x v u Q I ry rx ⟨a,o,ex,g,q⟩=>by
 subst ex
 obtain rfl:u=Value.ref a:=rx
 exact ane (u1 hu) I g ry fun s3 I3=>⟨.bl (!o.isSome),H,I3,rfl,q⟩
theorem adm:a2b K (apw true) agm:=by
 intro E ι H h y x dy dx Q ry rx hr o
 unfold apw at o
 split at o
 ·rename_i r e
  obtain ⟨a,rfl,q⟩:=aom rx ry hr e
  cases r with
  | none=>exact ⟨a,none,rfl,q,ans o (.bl _) hr⟩
  | some d=>obtain ⟨v,q,_⟩:=q;exact ⟨a,some v,rfl,q,ans o (.bl _) hr⟩
 ·exact o.elim
variable {X:Cx} {E:XD} {a b e o i:Expr} {fa fb fc:SE} {pos:Pos}
def apx (o k v:D) (h:Hd):Option Hd:=match o with
 | .ref i=>(match h[i]? with
  | some (.dK kvs)=>(match aih k with | some kk=>if kvs.length<LINE then some (h.set i (.dK (putD kvs kk v))) else none | none=>none)
  | some (.dT kvs)=>(match apv k with | some kk=>if kvs.length<LINE then some (h.set i (.dT (putD kvs kk v))) else none | none=>none)
  | _=>none)
 | _=>none
def a4v (fe fo fi:SE):SS:=fun τ h=>(fe τ h).fl fun v h1=>(fo τ h1).fl fun o h2=>(fi τ h2).fl fun k h3=>match apx o k v h3 with | some h4=>.nx τ h4 | none=>.no
theorem KRep.mono {κ:Type} {ι':List Addr} {H':Hp} {us:List (κ × V)} {kvs:List (κ × D)} (g:Gr ι H ι' H') (r:KRep K ι H us kvs):KRep K ι' H' us kvs:=⟨r.1,r.2.mono g⟩
theorem ajo {h':Hd} {o k v:V} {od kd vd:D} {Q:Hp→Prop} (r1:Rep K ι H o od) (r2:Rep K ι H k kd) (r3:Rep K ι H v vd) (hr:HRep K ι H h) (e:apx od kd vd h=some h') (q:∀ H',Gr ι H ι H'→HRep K ι H' h'→Q H') :
  ∃ a H4,o = .ref a∧avk H a k v H4∧Q H4:=by
 cases r1 with
 | @ref a i ha =>
  obtain ⟨ob,h1,h2⟩:=hr.at ha
  simp only [apx,h1] at e
  cases ob with
  | lst _=>cases e
  | dK kvs =>
   obtain ⟨us,h3,h4⟩:=h2
   cases hk:aih kd with
   | none=>simp only [hk] at e;cases e
   | some kk =>
    simp only [hk] at e
    split at e
    ·rename_i hl
     cases e
     have lu:us.length=kvs.length:=by simpa using congrArg List.length h4.1
     exact ⟨a,_,rfl, .inl ⟨us,kk,h3,a7j r2 hk,by rw [ani,lu];exact hl,rfl⟩,q _ (a1d hr ha _) (hr.put ha ⟨_,jq,(aby kk h4 r3).mono (a1d hr ha _)⟩)⟩
    ·cases e
  | dT kvs =>
   obtain ⟨us,h3,h4⟩:=h2
   cases hk:apv kd with
   | none=>simp only [hk] at e;cases e
   | some kk =>
    simp only [hk] at e
    split at e
    ·rename_i hl
     cases e
     have lu:us.length=kvs.length:=by simpa using congrArg List.length h4.1
     obtain ⟨b,eb,tb⟩:=agk r2 hk
     exact ⟨a,_,rfl, .inr ⟨us,kk,b,h3,eb,tb,by rw [ani,lu];exact hl,rfl⟩,q _ (a1d hr ha _) (hr.put ha ⟨_,jq,(aby kk h4 r3).mono (a1d hr ha _)⟩)⟩
    ·cases e
 | _=>cases e
theorem aon {pos':Pos} (hu:X.A.units+64<cLine) (he:ME X E e fa) (ho:ME X E o fb) (hi:ME X E i fc) (hs:swapsWith e (some (.Subscript o i pos')) pos.line X.env=pure false:=by rfl):MS X E (.Assign [.Subscript o i pos'] e pos) (a4v fa fb fc):=by
 refine PS.weak (anf (u1 hu) ho hi he hs) fun N σ H ⟨ι,τ,h,S,Rh,oo⟩=>?_
 refine ⟨ι,τ,h,S,Rh,wu oo fun d h1 ι1 H1 v g1 r1 hr1 o1=>?_⟩
 refine ⟨ι1,τ,h1,S.mono g1,hr1,wu o1 fun d2 h2 ι2 H2 u g2 r2 hr2 o2=>?_⟩
 refine ⟨ι2,τ,h2,(S.mono g1).mono g2,hr2,wu o2 fun d3 h3 ι3 H3 w g3 r3 hr3 o3=>?_⟩
 cases hp:apx d2 d3 d h3 with
 | none=>rw [hp] at o3;exact o3.elim
 | some h4 =>
  rw [hp] at o3
  exact ajo (r2.mono g3) r3 ((r1.mono g2).mono g3) hr3 hp fun H' g4 hr4=>o3 ι3 H' σ g4 ((((S.mono g1).mono g2).mono g3).mono g4) hr4
def gD1 (x y:D) (h:Hd):R D:=match aih x with
 | some k=>.ok (.ref h.length) (h++[.dK [(k,y)]])
 | none=>.no
theorem ago {p:Addr} {o:HO} {ob:O} (hr:HRep K ι H h) (pn:p ∉ ι) (gw:Gw ι H (ι++[p]) (upd H p o)) (q:ORep K (ι++[p]) (upd H p o) p ob):HRep K (ι++[p]) (upd H p o) (h++[ob]):=by
 refine ⟨List.nodup_append.mpr ⟨hr.nd,by simp,fun a ha b hb z=>pn (by rw [List.mem_singleton.mp hb] at z;rw [← z];exact ha)⟩,by simp [hr.len],fun j a o' q1 q2=>?_⟩
 by_cases hj:j<ι.length
 ·rw [List.getElem?_append_left hj] at q1
  rw [List.getElem?_append_left (by rw [← hr.len];exact hj)] at q2
  exact (hr.obj j a o' q1 q2).monoW gw (dw fun z=>pn (by rw [← z];exact List.mem_of_getElem? q1))
 ·have hj2:j<(ι++[p]).length:=(List.getElem?_eq_some_iff.mp q1).1
  have:j=ι.length:=by simp at hj2;omega
  subst this
  rw [List.getElem?_append_right (Nat.le_refl _)] at q1
  rw [hr.len,List.getElem?_append_right (Nat.le_refl _)] at q2
  simp at q1 q2
  subst q1 q2
  exact q
theorem avy (ha:ME X E a fa) (hb:ME X E b fb):ME X E (.Dict [some a] [b] pos) (s2 gD1 fa fb):=by
 refine PE.weak (anh (aiy ha hb ang) rfl rfl (by simp) (by simp)) fun σ H Q ⟨ι,τ,h,S,Rh,o⟩ p hp=>?_
 have pn:p ∉ ι:=Rh.notin hp
 have g0:Gr ι H ι (upd H p (.dK [])):=ye hp _
 unfold s2 at o
 refine ⟨ι,τ,h,S.mono g0,Rh.aside hp _,?_⟩
 cases hfa:fa τ h with
 | no=>rw [hfa] at o;exact o.elim
 | ex c hx=>rw [hfa] at o;exact wz (Rp:=xf X.K) (r:=.ex c hx) (Q:=Q) o g0
 | ok d h1 =>
  rw [hfa] at o
  intro ι1 H1 v g1 r1 hr1
  refine ⟨ι1,τ,h1,(S.mono g0).mono g1,hr1,?_⟩
  simp only [R.bind] at o
  cases hfb:fb τ h1 with
  | no=>rw [hfb] at o;exact o.elim
  | ex c hx=>rw [hfb] at o;exact wz (Rp:=xf X.K) (r:=.ex c hx) (Q:=Q) o (g0.trans g1)
  | ok d2 h2 =>
   rw [hfb] at o
   intro ι2 H2 u g2 r2 hr2
   have g12:=g1.trans g2
   have e2:H2 p=some (.dK []):=g12.oth p _ jq pn
   simp only [gD1] at o
   cases hk:aih d with
   | none=>rw [hk] at o;exact o.elim
   | some k =>
    rw [hk] at o
    refine ⟨e2,[(k,u)],?_,by simp,?_⟩
    ·rw [a7j (r1.mono g2) hk];rfl
    ·obtain ⟨m,em,hm⟩:=g12.pre
     have nm:∀ c∈m,c≠p∧H c=none:=fun c hc=>by
      have q:=hm c hc
      by_cases z:c=p
      ·subst z;rw [jq] at q;cases q
      ·rw [dw z] at q;exact ⟨z,q⟩
     have pn2:p ∉ ι2:=fun z=>by
      rw [em] at z
      rcases List.mem_append.mp z with z | z
      ·exact pn z
      ·exact (nm p z).1 rfl
     have ne:∀ {c u'},H c=some u'→c≠p:=fun e=>d8 e hp
     have up:∀ {c u'},H c=some u'→(upd H p (.dK [])) c=some u':=fun e=>by rw [dw (ne e)];exact e
     have gw:Gw ι2 H2 (ι2++[p]) (upd H2 p (.dK [(k,u)])):=⟨⟨[p],rfl⟩,fun c vs e=>by rw [dw (fun z=>by subst z;rw [e2] at e;cases e)];exact e,fun c o u' e=>by rw [dw (fun z=>by subst z;rw [e2] at e;cases e)];exact e⟩
     have G:Gr ι H (ι2++[p]) (upd H2 p (.dK [(k,u)])):=by
      refine ⟨⟨m++[p],by rw [em];simp,fun c hc=>?_⟩,fun c vs e=>?_,fun c o u' e=>?_,fun c u' e hn=>?_,fun c u' e=>?_⟩
      ·rcases List.mem_append.mp hc with hc | hc
       ·exact (nm c hc).2
       ·rw [List.mem_singleton.mp hc];exact hp
      ·rw [dw (ne e)];exact g12.tup _ _ (up e)
      ·rw [dw (ne e)];exact g12.frz _ _ _ (up e)
      ·rw [dw (ne e)];exact g12.oth _ _ (up e) hn
      ·obtain ⟨w,q⟩:=g12.kp _ _ (up e)
       exact ⟨w,by rw [dw (ne e)];exact q⟩
     refine o (ι2++[p]) _ (.ref p) G (.ref (by rw [List.getElem?_append_right (by rw [hr2.len];exact Nat.le_refl _),hr2.len];simp)) (ago hr2 pn2 gw ⟨_,jq,rfl, .cons (r2.monoW gw) .nil⟩)
end
end MI
namespace ZP
open PySem PySem.Spec PySem.Builtin PySem.Builtin.SmallTypes L2
def a3t (it:Addr):Obj:={ cls:=.type "enumerate",data:=.fields #[.none, .bool false, .ref it,rawInt 0, .none, .none] }
theorem agp (t:Tok) (k:Srk) (us:List Value):Meets (Builtin.«enumerate.__new__» ⟨[.type "enumerate",val t k],[]⟩)
  (fun _ R s=>cont s.heap k us∧R (.ok (.ret (.ref (s.heap.objs.size+1)))) { s with heap:=(s.heap.push (iob t k)).push (a3t s.heap.objs.size) }) :=
 .of_wp fun prog w A R s h=>by
  obtain ⟨hp,g,d,tk,os⟩:=s
  obtain ⟨c,h⟩:=h
  have sub:=sub_enumerate
  have c':cont (Shared.heap ⟨hp,g,d,tk,os⟩) k us:=c
  have fin:R (.ok (.ret (.ref (hp.push (iob t k)).objs.size))) { heap:=(hp.push (iob t k)).push (a3t hp.objs.size),gens:=g,drawn:=d,toks:=tk,os:=os }:=by simpa [Heap.size_push] using h
  wp_walk
  refine wpAny_stack_any fun st=>wpAny_pure ?_
  split
  ·rename_i cl _ _ _ _ _
   cases (cl == Value.type "enumerate")
   ·wp_walk using a2i (t:=t) c'
    exact ⟨_,rfl,fin⟩
   ·wp_walk using a2i (t:=t) c'
    exact ⟨_,rfl,fin⟩
  ·wp_walk using a2i (t:=t) c'
   exact ⟨_,rfl,fin⟩
def ItE (k:Srk):It where
 go:=fun i H=>∃ xs x,its H k=some xs∧xs[i]? = some x
 yld:=fun i H v H'=>∃ xs x p,its H k=some xs∧xs[i]? = some x∧H p=none∧v = .ref p∧H'=upd H p (.tup [.int i,x])
 stop:=fun i H=>∃ xs,its H k=some xs∧i=xs.length
def tnE (e it:Addr) (t:Tok) (k:Srk) (i:Nat) (h:Heap):Prop:=(∃ old,IsEnum h e it i old)∧own it t k i h
theorem agq {P:Program} {w:World} {K:PySem.W.Frag} {elts:List Expr} {x1:Nat} {pos:Pos} {e it:Addr} {t:Tok} {k:Srk} (ne:e≠it):Turn P w K (.Tuple elts x1 pos) (ItE k) [e,it] e (tnE e it t k) where
 mem:=by simp
 obj:=fun i h st b hb=>by
  obtain ⟨⟨old,h1⟩,h4⟩:=st
  simp only [List.mem_cons,List.not_mem_nil,or_false] at hb
  rcases hb with rfl | rfl
  ·exact ⟨_,h1,fun v z=>(by cases z)⟩
  ·exact a3a h4
 keep:=fun i h h' st kk=>by
  obtain ⟨⟨old,h1⟩,h4⟩:=st
  exact ⟨⟨old,kk e (by simp) _ h1⟩,a0w h4 fun ob q=>kk it (by simp) ob q⟩
 item:=by
  intro X hP hw hK hc i pins s σ H E I hf st hg
  subst hP hw hK
  obtain ⟨xs,x,e1,g1⟩:=hg
  obtain ⟨⟨old,h1⟩,h4⟩:=st
  have n:∀ c∈[e,it],H c=none:=fun c hc=>(hf c hc).1
  obtain ⟨cs,P1,S1,D1,a1,b1,c1,d1⟩:=a3b I (t:=t) e1 (n it (by simp))
  have hd:=I.ok.hd hc
  have ef:e ∉ it::cs:=by
   intro z
   rcases List.mem_cons.mp z with z | z
   ·exact ne z
   ·exact c1 e z (n e (by simp))
  refine wpAny_pyNext_enum_itemD (D1 X.A.in1 hd) h1 (a1 i h4) (List.getElem?_eq_some_iff.mp g1).1 ne ef fun u h' tk pu eo s1' pr sz kp=>?_
  obtain ⟨x',q1,r1⟩:=d1 i u pu
  rw [g1] at q1;cases q1
  refine ⟨_,rfl,wpAny_letOwnedTupleGo_enum eo fun h2' z2' sb=>?_⟩
  have hp:H s.heap.objs.size=none:=I.hok.fresh (Nat.le_refl _)
  have lt:∀ c∈[e,it],c<s.heap.objs.size:=fun c hc=>by
   simp only [List.mem_cons,List.not_mem_nil,or_false] at hc
   rcases hc with rfl | rfl
   ·exact Heap.lt_size h1
   ·obtain ⟨_,q,_⟩:=a3a h4;exact Heap.lt_size q
  have nT:∀ c∈[e,it],c≠s.heap.objs.size:=fun c hc=>Nat.ne_of_lt (lt c hc)
  have all:∀ c o,c ∉ [e,it]→s.heap.get? c=some o→h2'.get? c=some o:=fun c o nc q=>by
   simp only [List.mem_cons,List.not_mem_nil,or_false,not_or] at nc
   exact (sb.2 c nc.1).trans (kp c o nc.1 nc.2 q)
  have I0:Inv X pins σ (upd H s.heap.objs.size (.tup [.int i,x])) { s with heap:=s.heap.push { cls:=.type "tuple",data:=.seq #[.int i tk,u] } } :=
   I.laid (t':=s.toks) (o:=.tup [.int i,x]) (fun b o q=>Heap.get?_push_of_some _ q) (Nat.le_refl _) ⟨by show 2≤sizeLine;decide,[.int i tk,u], .cons ⟨tk,rfl⟩ (.cons r1 .nil),⟨_,Heap.get?_push_size _ rfl,rfl,_,rfl⟩⟩
  have I1:Inv X pins σ (upd H s.heap.objs.size (.tup [.int i,x])) { s with heap:=h2',toks:=tk+1 }:=by
   refine a7c (s:={ s with heap:=s.heap.push { cls:=.type "tuple",data:=.seq #[.int i tk,u] } }) (ch:=[e,it]) I0 (fun b hb=>?_) fun c o nc q=>?_
   ·obtain ⟨f0,f1⟩:=hf b hb
    exact ⟨by rw [dw (nT b hb)];exact f0,f1⟩
   ·rcases Heap.get?_push_cases q with ⟨rfl,rfl⟩ | q
    ·exact (sb.2 _ (nT e (by simp)).symm).trans pr
    ·exact all c o nc q
  refine ⟨.ref s.heap.objs.size,_,I1,rfl,⟨xs,x,_,e1,g1,hp,rfl,rfl⟩,⟨⟨u,by simpa using z2'⟩,a0w (b1 _ _ s1') fun ob q=>(sb.2 _ ne.symm).trans q⟩,fun b hb=>?_⟩
  rw [dw (nT b hb)];exact n b hb
 done:=by
  intro X hP hw hK hc i pins s σ H E I hf st hg
  subst hP hw hK
  obtain ⟨xs,e1,rfl⟩:=hg
  obtain ⟨⟨old,h1⟩,h4⟩:=st
  have n:∀ c∈[e,it],H c=none:=fun c hc=>(hf c hc).1
  obtain ⟨cs,P1,S1,D1,a1,b1,c1,d1⟩:=a3b I (t:=t) e1 (n it (by simp))
  have hd:=I.ok.hd hc
  refine wpAny_pyNext_enum_endD (D1 X.A.in1 hd) h1 (a1 _ h4) fun h' ex=>⟨rfl,a7c (t':=s.toks) I hf fun c o nc q=>?_⟩
  simp only [List.mem_cons,List.not_mem_nil,or_false,not_or] at nc
  exact ex c o nc.2 q
 self:=fun _ _ _ _ _ st h=>by
  obtain ⟨⟨old,h1⟩,_⟩:=st
  exact wpAny_pyIter_enum h1 h
section
variable {X:Cx} {elts:List Expr} {x1:Nat} {tpos:Pos}
def avz (ta:TA):TI:=fun σ H R=>ta σ H fun vs H1=>∃ k xs,vs=[Srk.v k]∧its H1 k=some xs∧R (ItE k) H1
theorem aoo {e1:Expr} {ta:TA} {p pos:Pos} (hg:Gl X "enumerate") (hm:X.mg "enumerate" = none) (ha:PA X [e1] ta)
  (h1:starEach [e1] X.env=[(false,eval e1 X.env)]:=by rfl):PI X (.Tuple elts x1 tpos) (.Call (.Name "enumerate" p) [e1] [] pos) (avz ta):=by
 intro pins s σ H R I h
 refine wpAny_Call_Name_kw (a4d I hg hm PyProof.Rows.boot_enumerate ?_ (by decide) (by decide))
 refine PyProof.Rows.callWith_type1 (thn (ha pos pins s σ H _ I h) fun us s1 ⟨vs,H1,I1,r1,q1⟩=>?_) (by rw [h1];rfl) (by rfl)
 obtain ⟨k,xs,rfl,e1,q⟩:=q1
 obtain ⟨v1,rfl,rv1⟩:=vals1 r1
 obtain ⟨t,rfl⟩:=ag8 rv1
 obtain ⟨us1,c1,_⟩:=a4s I1 e1
 refine callType_new F.called_enumerate (by decide) (F.typeCall_enumerate_1 _) (F.newCall_enumerate_1 _) (fun obj=>F.args_object_init_2 obj _) F.entry_enumerate_new (agp t k us1) ⟨c1,?_⟩
 have at0:((s1.heap.push (iob t k)).push (a3t s1.heap.objs.size)).get? s1.heap.objs.size=some (iob t k):=Heap.get?_push_of_some _ (Heap.get?_push_size _ (by cases k<;>rfl))
 have at1:IsEnum ((s1.heap.push (iob t k)).push (a3t s1.heap.objs.size)) (s1.heap.objs.size+1) s1.heap.objs.size 0 .none:=by
  have:=Heap.get?_push_size (o:=a3t s1.heap.objs.size) (s1.heap.push (iob t k)) rfl
  rw [Heap.size_push] at this
  exact this
 have keepA:∀ b o,s1.heap.get? b=some o→((s1.heap.push (iob t k)).push (a3t s1.heap.objs.size)).get? b=some o:=fun b o q=>Heap.get?_push_of_some _ (Heap.get?_push_of_some _ q)
 have I2:Inv X pins σ H1 { s1 with heap:=(s1.heap.push (iob t k)).push (a3t s1.heap.objs.size) }:=I1.kept (t':=s1.toks) keepA
 refine ⟨⟨_,at1,rfl⟩,?_⟩
 refine wpAny_pyIter_enum (s:={ s1 with heap:=(s1.heap.push (iob t k)).push (a3t s1.heap.objs.size) }) at1 ?_
 refine ⟨s1.heap.objs.size+1,[s1.heap.objs.size+1,s1.heap.objs.size],tnE _ _ t k,ItE k,H1,rfl,I2,agq (by intro z;have z:(_:Nat)=_:=z;omega),⟨⟨.none,at1⟩,avt at0⟩,fun b hb=>?_,q⟩
 have:s1.heap.objs.size≤b:=by
  simp only [List.mem_cons,List.not_mem_nil,or_false] at hb
  rcases hb with rfl | rfl
  ·exact Nat.le_succ _
  ·exact Nat.le_refl _
 exact I1.fpOk this (I1.hok.fresh this)
end
end ZP
namespace MI
open PySem PySem.Spec L2 ZP
def adn (x:D) (h:Hd):R Itm:=match srcOf x h with
 | some (xs,c)=>.ok ⟨((List.range xs.length).zip xs).map fun p=>.tup [.int (p.1:Nat),p.2],c⟩ h
 | none=>.no
def a8z (f:SE):SI:=fun τ h=>(f τ h).bind adn
theorem aop {X:Cx} {E:XD} {elts:List Expr} {x1:Nat} {tpos:Pos} {e1:Expr} {f:SE} {p pos:Pos} (hg:Gl X "enumerate") (hm:X.mg "enumerate" = none) (ha:ME X E e1 f)
  (h1:starEach [e1] X.env=[(false,eval e1 X.env)]:=by rfl):MI X E (.Tuple elts x1 tpos) (.Call (.Name "enumerate" p) [e1] [] pos) (a8z f):=by
 intro pins s σ H Rr I ⟨ι,τ,h,S,Rh,o⟩
 refine aoo hg hm (a1k ha a66 (by rw [h1];rfl)) h1 pins s σ H Rr I ?_
 refine ⟨ι,τ,h,S,Rh,cj o fun d h1 ι1 H1 v g1 r1 hr1 o1=>?_⟩
 unfold adn at o1
 split at o1
 ·rename_i xs c q1
  obtain ⟨k,rfl,kc,kf⟩:=ag9 r1 hr1 q1
  obtain ⟨vs,w1,w2⟩:=kf ι1 H1 h1 (.refl _ _) hr1 kc
  refine ⟨k,vs,rfl,w1,o1 ι1 H1 _ (.refl _ _) ?_ hr1⟩
  intro ι3 H3 h3 g3 hr3 c3
  obtain ⟨us,a1,a2⟩:=kf ι3 H3 h3 g3 hr3 c3
  refine ⟨fun i d ed=>?_,us,a1,?_⟩
  ·simp only [List.getElem?_map,Option.map_eq_some_iff] at ed
   obtain ⟨⟨j,y⟩,ez,rfl⟩:=ed
   obtain ⟨ex,ey⟩:=List.getElem?_zip_eq_some.mp ez
   have hj:j=i:=by
    obtain ⟨_,q⟩:=List.getElem?_eq_some_iff.mp ex
    simpa using q.symm
   subst hj
   obtain ⟨v2,b3,b4⟩:=a2.get ey
   refine ⟨⟨us,v2,a1,b3⟩,fun x H' yl=>?_⟩
   obtain ⟨xs',x',p,c1,c3,c5,rfl,rfl⟩:=yl
   rw [a1] at c1;cases c1
   rw [b3] at c3;cases c3
   exact ⟨ye c5 _, .tup jq (.cons (.int _) (.cons (b4.mono (ye c5 _)) .nil)),hr3.aside c5 _⟩
  ·rw [List.length_map,List.length_zip,List.length_range,a2.len]
   omega
 ·exact o1.elim
end MI
namespace L2
open PySem PySem.Spec PyProof.Rows
end L2
namespace MI
open PySem PySem.Spec L2
end MI
namespace L2
open PySem PySem.Spec PyProof.Rows
end L2
namespace MI
open PySem PySem.Spec L2
def ay8 (lo:Int) (n:Nat):List D:=(List.range n).map fun i=>D.int (lo - (i:Nat))
def aoq (ds:List D) (h:Hd):R Itm:=match ds with
 | [.int i, .int j, .int k]=>if k = -1∧B62 i∧B62 j then .ok ⟨ay8 i (i - j).toNat,fun _=>True⟩ h else .no
 | _=>.no
end MI
namespace MI
open PySem PySem.Spec L2
theorem asi:bootBuiltins "any" = some (.builtin "any"):=by decide +kernel
end MI
namespace MI
open PySem PySem.Spec L2
theorem bx {α β:Type} (a:α) (h:Hd) (k:α→Hd→R β):(R.ok a h).bind k=k a h:=rfl
theorem a0p {α:Type} (a:α) (h:Hd) (k:α→Hd→Fl):(R.ok a h).fl k=k a h:=rfl
def thn (r:Fl) (g:SS):Fl:=match r with | .nx τ h=>g τ h | r=>r
theorem qp (f g:SS) (τ:Sd) (h:Hd):iz f g τ h=thn (f τ h) g:=by unfold iz thn;cases f τ h<;>rfl
theorem wy (τ:Sd) (h:Hd) (g:SS):thn (.nx τ h) g=g τ h:=rfl
theorem a4w (d:D) (h:Hd) (g:SS):thn (.rt d h) g = .rt d h:=rfl
def toR (r:Fl):R D:=match r with | .rt d h1=>.ok d h1 | .nx _ h1=>.ok .non h1 | .ex c h1=>.ex c h1 | _=>.no
theorem j7 (b:SS) (n:Nat) (ds:List D) (h:Hd):qu b n ds h=toR (b (a2d n ds) h):=by unfold qu toR;cases b (a2d n ds) h<;>rfl
theorem a4x (d:D) (h:Hd):toR (.rt d h) = .ok d h:=rfl
theorem a6f (τ:Sd) (h:Hd):toR (.nx τ h) = .ok .non h:=rfl
theorem a2j {n:Nat}:∀ {xs:List D},clos n xs↔∀ x∈xs,clo n x
 | []=>by simp [clos]
 | x::xs=>by simp [clos,a2j (xs:=xs)]
theorem ji {n:Nat} (i:Int):clo n (.int i):=by simp [clo]
theorem sr {n:Nat} (i:Str):clo n (.str i):=by simp [clo]
theorem a90 {n:Nat} (i:Bool):clo n (.bl i):=by simp [clo]
theorem aaf {n:Nat}:clo n .non:=by simp [clo]
theorem sy {n:Nat}:clos n []:=by simp [clos]
theorem jb {n:Nat} {x:D} {xs:List D} (a:clo n x) (b:clos n xs):clos n (x::xs):=by simp only [clos];exact ⟨a,b⟩
theorem iw {n:Nat} {xs:List D} (h:clos n xs):clo n (.tup xs):=by simpa [clo] using h
theorem a1q {n:Nat} {xs:List D} (h:clos n xs):clo n (.rol xs):=by simpa [clo] using h
theorem iu {α:Type} {n:Nat} {f:α→D} {l:List α} (h:∀ a∈l,clo n (f a)):clos n (l.map f):=by
 rw [a2j]
 intro x hx
 obtain ⟨a,ha,rfl⟩:=List.mem_map.mp hx
 exact h a ha
mutual
theorem agr {n m:Nat} (hm:n≤m):∀ {d:D},clo n d→clo m d
 | .non,_=>by simp [clo]
 | .bl _,_=>by simp [clo]
 | .int _,_=>by simp [clo]
 | .str _,_=>by simp [clo]
 | .ty _,_=>by simp [clo]
 | .tup xs,h=>by simp only [clo] at h ⊢;exact a07 hm h
 | .rol xs,h=>by simp only [clo] at h ⊢;exact a07 hm h
 | .scr xs,h=>by simp only [clo] at h ⊢;exact a07 hm h
 | .rod _ xs,h=>by simp only [clo] at h ⊢;exact a07 hm h
 | .rdT _ xs,h=>by simp only [clo] at h ⊢;exact a07 hm h
 | .exc _,_=>by simp [clo]
 | .ref i,h=>by simp only [clo] at h ⊢;omega
theorem a07 {n m:Nat} (hm:n≤m):∀ {xs:List D},clos n xs→clos m xs
 | [],_=>by simp [clos]
 | x::xs,h=>by simp only [clos] at h ⊢;exact ⟨agr hm h.1,a07 hm h.2⟩
end
theorem u5 {n m:Nat} (hm:n≤m) {o:O} (h:a1n n o):a1n m o:=by
 cases o with
 | lst xs=>exact a07 hm h
 | dK kvs=>exact a07 hm h
 | dT kvs=>exact a07 hm h
theorem aag {α:Type} {f:α→Option α}:∀ {xs:List α},(∀ x∈xs,f x=some x)→a01 f xs=some xs
 | [],_=>rfl
 | x::xs,h=>by
  unfold a01
  rw [h x List.mem_cons_self,aag fun y hy=>h y (List.mem_cons_of_mem _ hy)]
theorem abz {n k:Nat} {h:Hd} {d:D} (c:clo n d):a7d n h (k+1) d=some d:=by unfold a7d;rw [if_pos c]
theorem ajp {n k:Nat} {h:Hd} {o:O} (c:a1n n o):asa n h k o=some o:=by unfold asa;rw [if_pos c]
theorem ajq {n k i:Nat} {h:Hd} {xs:List D} (hi:n≤i) (e:h[i]? = some (.lst xs)) (c:clos n xs):a7d n h (k+2) (.ref i)=some (.rol xs):=by
 unfold a7d
 rw [if_neg (by simp only [clo];omega)]
 simp only [e]
 rw [aag fun x hx=>abz (a2j.mp c x hx)]
 rfl
theorem ags {n:Nat} {d d':D} {h1:Hd} (e:a7d n h1 FU d=some d') (c:∀ o∈h1.take n,a1n n o):adg n (.ok d h1) = .ok d' (h1.take n):=by
 unfold adg
 simp only [e]
 rw [aag fun o ho=>ajp (c o ho)]
theorem jy {n:Nat} {d:D} {h1:Hd} (e:clo n d) (c:∀ o∈h1.take n,a1n n o):adg n (.ok d h1) = .ok d (h1.take n):=ags (abz e) c
theorem a7l {n i:Nat} {h1:Hd} {xs:List D} (hi:n≤i) (e:h1[i]? = some (.lst xs)) (cx:clos n xs) (c:∀ o∈h1.take n,a1n n o):adg n (.ok (.ref i) h1) = .ok (.rol xs) (h1.take n):=ags (ajq hi e cx) c
theorem ug {f:SE} {τ:Sd} {h:Hd} {xs:List D} (e:f τ h = .ok (.ref h.length) (h++[.lst xs])) (cx:clos h.length xs) (c:∀ o∈h,a1n h.length o):sZ f τ h = .ok (.rol xs) h:=by
 unfold sZ
 rw [e,a7l (Nat.le_refl _) (by simp) cx (by simpa using c)]
 simp
theorem aw0 {f:SE} {τ:Sd} {h:Hd} {d:D} (e:f τ h = .ok d h) (cx:clo h.length d) (c:∀ o∈h,a1n h.length o):sZ f τ h = .ok d h:=by
 unfold sZ
 rw [e,jy cx (by simpa using c)]
 simp
def Pu (F:SF) (n:Nat) (ds:List D) (d:D):Prop:=∀ h,uf false n F ds h = .ok d h
def Dr (F:SF) (n:Nat) (ds:List D) (o:O) (d:D) (o':O):Prop:=∀ p h,h[p]? = some o→uf false n F (.ref p::ds) h = .ok d (h.set p o')
theorem a4a:∀ {ds:List D},(∀ d∈ds,clo 0 d)→a1o ds=[]∧a0n 0 ds=ds∧∀ k,a0n k ds=ds
 | [],_=>⟨rfl,rfl,fun _=>rfl⟩
 | d::ds,h=>by
  obtain ⟨a,b,c⟩:=a4a (ds:=ds) fun x hx=>h x (List.mem_cons_of_mem _ hx)
  have hd:=h d List.mem_cons_self
  have nr:refOf d=none:=by cases d<;>first | rfl | (simp only [clo] at hd;omega)
  refine ⟨?_,?_,fun k=>?_⟩
  ·simpa [a1o,nr] using a
  ·cases d<;>first | (simp only [clo] at hd;omega) | (simp only [a0n,b])
  ·cases d<;>first | (simp only [clo] at hd;omega) | (simp only [a0n,c])
theorem Pu.of {F:SF} {n:Nat} {ds:List D} {r:R D} {d:D} (hn:ds.length=n) (cd:∀ x∈ds,clo 0 x) (e:F ds []=r) (z:adg 0 r = .ok d []) (c:clo 0 d):Pu F n ds d:=fun h=>by
 obtain ⟨p1,p2,_⟩:=a4a cd
 unfold uf
 rw [if_pos hn]
 unfold asd
 rw [p1]
 simp only [a01,List.length_nil,Bool.false_eq_true,if_false]
 rw [if_pos ⟨List.nodup_nil,fun x hx=>.inl (cd x hx),fun o ho=>by simp at ho⟩,p2,e,z]
 simp [c,um]
theorem Dr.of {F:SF} {n:Nat} {ds:List D} {o o':O} {r:R D} {d:D} (hn:ds.length+1=n) (cd:∀ x∈ds,clo 0 x) (co:a1n 0 o) (e:F (.ref 0::ds) [o]=r) (z:adg 1 r = .ok d [o']) (c:clo 0 d) (co':a1n 0 o'):Dr F n ds o d o':=fun p h hp=>by
 obtain ⟨p1,_,p3⟩:=a4a cd
 have e1:a1o (.ref p::ds)=[p]:=by
  have:a1o (.ref p::ds)=p::a1o ds:=rfl
  rw [this,p1]
 have e2:a0n 0 (.ref p::ds) = .ref 0::ds:=by
  have:a0n 0 (.ref p::ds) = .ref 0::a0n 1 ds:=rfl
  rw [this,p3]
 unfold uf
 rw [if_pos (by simpa using hn)]
 unfold asd
 rw [e1]
 simp only [a01,hp,List.length_singleton,Bool.false_eq_true,if_false]
 have all:∀ x∈(D.ref p::ds),clo 0 x∨isRef x:=fun x hx=>by
  rcases List.mem_cons.mp hx with rfl | hx
  ·exact .inr ⟨p,rfl⟩
  ·exact .inl (cd x hx)
 rw [if_pos ⟨by simp,all,fun u hu=>by rw [List.mem_singleton.mp hu];exact co⟩,e2,e,z]
 simp [c,co',um]
theorem asj {F:SF} {n i:Nat} {ds:List D} {o:O} {h1:Hd} (hn:ds.length=n) (cd:∀ x∈ds,clo 0 x) (e:F ds [] = .ok (.ref i) h1) (ho:h1[i]? = some o) (co:a1n 0 o) (h:Hd):uf true n F ds h = .ok (.ref h.length) (h++[o]):=by
 obtain ⟨p1,p2,_⟩:=a4a cd
 unfold uf
 rw [if_pos hn]
 unfold asd
 rw [p1]
 simp only [a01,List.length_nil,if_true]
 rw [if_pos ⟨List.nodup_nil,fun x hx=>.inl (cd x hx),fun o ho=>by simp at ho⟩,p2,e]
 unfold apt
 simp only [ho]
 rw [if_pos ⟨Nat.zero_le _,co,by simp⟩]
 simp [co,um]
theorem ajr (g:SG) (b:SS) (τ:Sd) (h:Hd):forL (fun _=>True) g b [] τ h = .nx τ h:=by rw [forL,if_pos True.intro]
def trn (r:Fl) (k:Sd→Hd→Fl):Fl:=match r with | .nx τ h=>k τ h | .ct τ h=>k τ h | .bk τ h=>.nx τ h | r=>r
theorem agt (g:SG) (b:SS) (x:D) (xs:List D) (τ τ1:Sd) (h h1:Hd) (e:g x τ h = .nx τ1 h1):forL (fun _=>True) g b (x::xs) τ h=trn (b τ1 h1) (forL (fun _=>True) g b xs):=by
 rw [forL,if_pos True.intro,e]
 dsimp only
 unfold trn
 cases b τ1 h1<;>rfl
theorem asl (τ:Sd) (h:Hd) (k:Sd→Hd→Fl):trn (.nx τ h) k=k τ h:=rfl
theorem asm (d:D) (h:Hd) (k:Sd→Hd→Fl):trn (.rt d h) k = .rt d h:=rfl
theorem a4b {g:SG} {b:SS} {α:Type} (f:α→D) (I:List α→Sd→Hd→Prop) (Rt:D→Hd→Prop):∀ (xs pre:List α) (τ:Sd) (h:Hd),
  (∀ pre' x post τ h,pre++xs=pre'++x::post→I pre' τ h→∃ τ1 h1,g (f x) τ h = .nx τ1 h1∧((∃ τ2 h2,b τ1 h1 = .nx τ2 h2∧I (pre'++[x]) τ2 h2)∨∃ d h2,b τ1 h1 = .rt d h2∧Rt d h2))→I pre τ h →
  (∃ τ' h',forL (fun _=>True) g b (xs.map f) τ h = .nx τ' h'∧I (pre++xs) τ' h')∨∃ d h',forL (fun _=>True) g b (xs.map f) τ h = .rt d h'∧Rt d h'
 | [],pre,τ,h,_,i0=>.inl ⟨τ,h,ajr ..,by simpa using i0⟩
 | x::xs,pre,τ,h,st,i0=>by
  obtain ⟨τ1,h1,e1,q⟩:=st pre x xs τ h rfl i0
  rw [List.map_cons,agt _ _ _ _ _ _ _ _ e1]
  rcases q with ⟨τ2,h2,e2,i2⟩ | ⟨d,h2,e2,r⟩
  ·rw [e2,asl]
   have:=a4b f I Rt xs (pre++[x]) τ2 h2 (fun pre' y post τ h e=>st pre' y post τ h (by simpa using e)) i2
   simpa using this
  ·rw [e2,asm]
   exact .inr ⟨d,h2,rfl,r⟩
theorem u6 {g:SG} {b:SS} {α:Type} (f:α→D) (I:List α→Sd→Hd→Prop) (xs:List α) (τ:Sd) (h:Hd)
  (st:∀ pre x post τ h,xs=pre++x::post→I pre τ h→∃ τ1 h1,g (f x) τ h = .nx τ1 h1∧∃ τ2 h2,b τ1 h1 = .nx τ2 h2∧I (pre++[x]) τ2 h2) (i0:I [] τ h) :
  ∃ τ' h',forL (fun _=>True) g b (xs.map f) τ h = .nx τ' h'∧I xs τ' h':=by
 rcases a4b f I (fun _ _=>False) xs [] τ h (fun pre' x post τ h e i=>let ⟨τ1,h1,a,b⟩:=st pre' x post τ h e i; ⟨τ1,h1,a, .inl b⟩) i0 with ⟨τ',h',a,b⟩ | ⟨_,_,_,z⟩
 ·exact ⟨τ',h',a,b⟩
 ·exact z.elim
theorem ac0 {f:D→Hd→R D} {α:Type} (g:α→D) (I:List α→List D→Hd→Prop):∀ (xs pre:List α) (ys:List D) (h:Hd),
  (∀ pre' x post ys h,pre++xs=pre'++x::post→I pre' ys h→∃ y h',f (g x) h = .ok y h'∧I (pre'++[x]) (ys++[y]) h')→I pre ys h→∃ zs h',mapR (fun _=>True) f (xs.map g) h = .ok zs h'∧I (pre++xs) (ys++zs) h'
 | [],pre,ys,h,_,i0=>⟨[],h,by rw [List.map_nil,mapR,if_pos True.intro],by simpa using i0⟩
 | x::xs,pre,ys,h,st,i0=>by
  obtain ⟨y,h1,e1,i1⟩:=st pre x xs ys h rfl i0
  obtain ⟨zs,h',e2,i2⟩:=ac0 g I xs (pre++[x]) (ys++[y]) h1 (fun pre' z post ys h e=>st pre' z post ys h (by simpa using e)) i1
  refine ⟨y::zs,h',?_,by simpa using i2⟩
  rw [List.map_cons,mapR,if_pos True.intro,e1]
  show (mapR _ f (xs.map g) h1).bind _=_
  rw [e2];rfl
theorem a91 {f:D→Hd→R D} {α:Type} (g F:α→D) {h:Hd}:∀ {xs:List α},(∀ x∈xs,f (g x) h = .ok (F x) h)→mapR (fun _=>True) f (xs.map g) h = .ok (xs.map F) h
 | [],_=>by rw [List.map_nil,mapR,if_pos True.intro];rfl
 | x::xs,st=>by
  rw [List.map_cons,mapR,if_pos True.intro,st x List.mem_cons_self]
  show (mapR _ f (xs.map g) h).bind _=_
  rw [a91 g F fun y hy=>st y (List.mem_cons_of_mem _ hy)];rfl
theorem a92 {f:D→Hd→R (Option D)} {α:Type} (g:α→D) (F:α→Option D) {h:Hd}:∀ {xs:List α},(∀ x∈xs,f (g x) h = .ok (F x) h)→aif (fun _=>True) f (xs.map g) h = .ok (xs.filterMap F) h
 | [],_=>by rw [List.map_nil,aif,if_pos True.intro];rfl
 | x::xs,st=>by
  rw [List.map_cons,aif,if_pos True.intro,st x List.mem_cons_self]
  show (aif _ f (xs.map g) h).bind _=_
  rw [a92 g F fun y hy=>st y (List.mem_cons_of_mem _ hy)]
  show R.ok ((F x).toList++xs.filterMap F) h=_
  cases e:F x<;>simp [List.filterMap_cons,e]
theorem asn {c:ST} {f:SS} (I:Nat→Sd→Hd→Prop) (N:Sd→Hd→Prop) (Rt:D→Hd→Prop)
  (st:∀ m τ h,I m τ h→(∃ h1,c τ h = .ok false h1∧N τ h1)∨∃ h1,c τ h = .ok true h1∧((∃ τ2 h2 m',f τ h1 = .nx τ2 h2∧m'<m∧I m' τ2 h2)∨∃ d h2,f τ h1 = .rt d h2∧Rt d h2)) :
  ∀ (m n:Nat) (τ:Sd) (h:Hd),m<n→I m τ h→(∃ τ' h',sWh c f n τ h = .nx τ' h'∧N τ' h')∨∃ d h',sWh c f n τ h = .rt d h'∧Rt d h':=by
 intro m
 induction m using Nat.strongRecOn with
 | ind m ih =>
  intro n τ h hn i0
  cases n with
  | zero=>omega
  | succ n =>
   rcases st m τ h i0 with ⟨h1,e1,q⟩ | ⟨h1,e1,q⟩
   ·exact .inl ⟨τ,h1,by rw [sWh,e1];rfl,q⟩
   ·rcases q with ⟨τ2,h2,m',e2,lt,i2⟩ | ⟨d,h2,e2,r⟩
    ·have e3:sWh c f (n+1) τ h=sWh c f n τ2 h2:=by
      rw [sWh,e1,a0p,if_pos rfl,e2]
     rw [e3]
     exact ih m' lt n τ2 h2 (by omega) i2
    ·refine .inr ⟨d,h2,?_,r⟩
     rw [sWh,e1,a0p,if_pos rfl,e2]
end MI
namespace MI
open PySem PySem.Spec L2
structure KD (P:Program) (w:World) (K:PySem.W.Frag) (a:Addr) (kvs:List (Str × Str)):Prop where
 sys:(a == sysModules)=false
 ex:∃ (o:Obj) (vs:List (Key × Value)),K.lookup a=some o∧KV (kvs.map fun p=>((.inr p.1:Key),V.str p.2)) vs∧∀ h:Heap,h.get? a=some o→h.DictOf (n6 P w) a vs
section
variable {X:Cx} {E:XD} {e:Expr} {fa:SE} {pos p:Pos} {a:Addr} {kvs:List (Str × Str)} {x:Str}
theorem KD.at (kd:KD X.prog X.w X.K a kvs) {pins:List (Addr × Obj)} {σ:L2.St} {H:Hp} {s:Shared} (I:Inv X pins σ H s):∃ vs,KV (kvs.map fun p=>((.inr p.1:Key),V.str p.2)) vs∧s.heap.DictOf (n6 X.prog X.w) a vs:=by
 obtain ⟨o,vs,l,r,d⟩:=kd.ex
 exact ⟨vs,r,d _ (I.bk _ _ (I.mod.kin _ _ l))⟩
end
end MI
namespace MI
open PySem PySem.Spec L2
mutual
def toPy:D→Option PyData
 | .non=>some .none
 | .bl b=>some (.bool b)
 | .int i=>some (.int i)
 | .str x=>some (.str x)
 | .tup xs=>(aor xs).map .tuple
 | .rol xs=>(aor xs).map .list
 | .rod [] []=>some (.dict [])
 | _=>none
def aor:List D→Option (List PyData)
 | []=>some []
 | x::xs=>match toPy x,aor xs with | some p,some ps=>some (p::ps) | _,_=>none
end
mutual
def noL:D→Bool
 | .rol _=>false
 | .tup xs=>aww xs
 | _=>true
def aww:List D→Bool
 | []=>true
 | x::xs=>noL x && aww xs
end
open Classical in
theorem nj {X:Cx}:CallR X (.builtin "isinstance") (fun xs H Q=>∃ a o us T b,xs=[.ref a, .ty T]∧H a=some (.frz o (.dK us))∧PySem.W.kitOne X.K (.type "dict") (.type T)=some b∧Q (.bl b) H):=by
 intro pins s σ H xs us Q I r h
 obtain ⟨a,o,kv,T,b,rfl,ea,e,q⟩:=h
 obtain ⟨u,w',rfl,rx,rt⟩:=vals2 r
 cases rt
 obtain rfl:u=Value.ref a:=rx
 obtain ⟨_,_,_,vs,_,p⟩:=(show ObjOk X.prog X.w H s.heap a (.frz o (.dK kv)) from I.hok a _ ea)
 obtain ⟨o',es,ep,h1,h2,_⟩:=p
 exact PySem.W.kia_one PySem.W.kitx_dict I.kIn ⟨o',h1,h2.1⟩ e (fun z=>nomatch z) fun tk=>⟨.bl b,H,I.tok tk,rfl,q⟩
def a08:List D→Hd→R D
 | [.rod ks xs, .ty T],h=>(match aa9 "dict" T with | some b=>.ok (.bl b) h | none=>.no)
 | ds,h=>alk ds h
theorem a09 {K:PySem.W.Frag}:abf K a08 (fun xs H Q=>(∃ x T t b,xs=[x, .ty T]∧TyOf K H x t∧PySem.W.kitOne K t (.type T)=some b∧Q (.bl b) H)∨∃ a o us T b,xs=[.ref a, .ty T]∧H a=some (.frz o (.dK us))∧PySem.W.kitOne K (.type "dict") (.type T)=some b∧Q (.bl b) H):=by
 intro E ι H h xs ds Q r hr o
 unfold a08 at o
 split at o
 ·split at o
  ·rename_i b hb
   cases r with
   | cons r1 rs =>
    cases rs with
    | cons r2 rs2 =>
     cases rs2
     cases r2
     cases r1 with
     | rod hp ek rr=>exact .inr ⟨_,_,_,_,b,rfl,hp,aaa hb,ans o (.bl _) hr⟩
  ·exact o.elim
 ·exact .inl (ao2 E ι H h xs _ Q r hr o)
end MI
namespace TPM
open PySem PySem.Spec PySem.W L2 HT MI PyProof.Rows
end TPM
namespace MI
open PySem PySem.Spec L2 TPM
end MI
namespace L2
open PySem PySem.Spec PyProof.Rows
section
variable {X:Cx}
theorem a3e (hc:X.calm=true):CallR X (.builtin "max") (fun xs H Q=>∃ (p:Addr) (ns:List Int),xs=[.ref p]∧SqT X.K H p (ns.map V.int)∧ns≠[]∧Q (.int (mxI ns)) H):=by
 intro pins s σ H xs us Q I r h
 obtain ⟨p,ns,rfl,hq,hn,q⟩:=h
 obtain ⟨u,rfl,rx⟩:=vals1 r
 cases rx
 obtain ⟨its,r',ht,hz⟩:=I.tuple hq
 have hInts:IntsAre its ns:=intsAre_of r'
 obtain ⟨prs,ep⟩:=hInts.allInts.items
 have nums:prs.toList.map (·.1)=ns:=by
  rw [← nums_intItems,← ep]
  exact hInts.numsOf
 have sz:prs.size=ns.length:=by rw [← nums,List.length_map,Array.length_toList]
 have pos:0<ns.length:=List.length_pos_iff.mpr hn
 have at':∀ j,j<ns.length→ns[j]? = some (numAt prs j):=fun j hj=>by
  rw [← nums,List.getElem?_map,Array.getElem?_toList]
  unfold numAt
  rw [Array.getElem?_eq_getElem (by omega)]
  rfl
 have hT:s.heap.IsTuple p (intItems prs):=ep ▸ ht
 have hlt:p<s.heap.objs.size:=by obtain ⟨_,e,_⟩:=hT;exact Heap.lt_size e
 refine call_max_walk (wpAny_pyIter_tuple hT ⟨_,_,_,_,_,_,_,rfl,Walks.tuple (A:=X.A.in1) (I.ok.hd hc) s.heap.objs.size p (Nat.ne_of_lt hlt) (intItems prs),⟨⟨_,Heap.get?_push_size _ rfl,rfl,rfl⟩,hT.at fun o e=>Heap.get?_push_of_some _ e⟩,fun b hb=>?_,by simp [intItems];omega,CmpOf.ints_gt (numAt prs) (fun _ _=>intItems_at),fun v h' tk hv hk=>?_⟩)
 ·show b<(s.heap.push _).objs.size
  rw [Heap.size_push]
  simp only [List.mem_cons,List.not_mem_nil,or_false] at hb
  rcases hb with rfl | rfl
  ·exact Nat.lt_succ_self _
  ·exact Nat.lt_succ_of_lt hlt
 ·have hv':(intItems prs)[argBest (fun i j=>decide (numAt prs i > numAt prs j)) (prs.size - 1)]? = some v:=by simpa [intItems] using hv
  obtain ⟨t,rfl⟩:=intItems_at hv'
  obtain ⟨b1,b2⟩:=argBest_gt (numAt prs) (prs.size - 1)
  generalize argBest (fun i j=>decide (numAt prs i > numAt prs j)) (prs.size - 1)=b at b1 b2
  have e:numAt prs b=mxI ns:=arh (List.mem_of_getElem? (at' b (by omega))) fun x hx=>by
   obtain ⟨j,hj,rfl⟩:=List.getElem_of_mem hx
   have:=at' j hj
   rw [List.getElem?_eq_getElem hj] at this
   rw [Option.some.inj this]
   exact b2 j (by omega)
  refine ⟨.int (mxI ns),H,I.kept fun b o e=>hk b o (fun hm=>?_) (Heap.get?_push_of_some _ e),⟨t,by rw [e]⟩,q⟩
  rw [List.mem_singleton] at hm
  exact absurd (hm ▸ Heap.lt_size e) (Nat.lt_irrefl _)
end
end L2
namespace MI
open PySem PySem.Spec L2
def a7m:List D→Hd→R D
 | [.tup xs],h=>(match a2f xs with | some (n::ns)=>.ok (.int (mxI (n::ns))) h | _=>.no)
 | _,_=>.no
theorem a7n {K:PySem.W.Frag}:abf K a7m (fun xs H Q=>∃ (p:Addr) (ns:List Int),xs=[.ref p]∧SqT K H p (ns.map V.int)∧ns≠[]∧Q (.int (mxI ns)) H):=by
 intro E ι H h xs ds Q r hr o
 unfold a7m at o
 split at o
 ·cases r with
  | cons r rs =>
   cases rs
   split at o
   ·rename_i n ns e
    cases r with
    | @tup p vs xs hp r=>exact ⟨p,n::ns,rfl,by rw [← a2g r e];exact SqT.of hp,by simp,ans o (.int _) hr⟩
   ·exact o.elim
 ·exact o.elim
theorem als {xs:List Int} {h:Hd} (ne:xs≠[]):a7m [.tup (xs.map D.int)] h = .ok (.int (mxI xs)) h:=by
 have e:∀ l:List Int,a2f (l.map D.int)=some l:=fun l=>by
  induction l with
  | nil=>rfl
  | cons a l ih=>rw [List.map_cons];simp only [a2f,ih,Option.map_some]
 unfold a7m
 simp only [e]
 cases xs with
 | nil=>exact absurd rfl ne
 | cons n ns=>rfl
end MI
namespace PN
open PySem PySem.Spec L2 MI
noncomputable def a2k:SS :=
 (yf (sA a0v (aj (sZ (a5t (sV 0) oN (oS (sC (.int 63))))) (aj (sC (.int 0)) (aj (sC (.int 0)) d7)))))
noncomputable def a3f:SS :=
 (iz (sIf (sT (s2 gGt (s2 gIx (sV 0) (sC (.int 2))) (sC (.int 0))))
 (iz (kj 2 (s2 a5x (s2 gIx (sV 0) (sC (.int 2))) (sV 1)))
 (iz (aa6 (s2 adb (s2 gIx (sV 0) (sC (.int 2))) (sV 1)) (sV 0) (sC (.int 2)))
 (yf (sV 2))))
 sNx)
 (iz (kj 3 (s2 gIx (sV 0) (sC (.int 1))))
 (iz (aa6 (s2 j9 (sV 3) (sC (.int 1))) (sV 0) (sC (.int 1)))
 (iz (kj 4 (sC (.int 5)))
 (iz (sIf (sT (s2 gGt (sA yu (aj (s2 gIx (sV 0) (sC (.int 0))) d7)) (sC (.int 0))))
 (kj 4 (s2 gIx (s2 gIx (sV 0) (sC (.int 0))) (s2 a5x (sV 3) (sA yu (aj (s2 gIx (sV 0) (sC (.int 0))) d7)))))
 sNx)
 (iz (sIf (aa3 (sT (s2 gLt (sV 3) (sA yu (aj (s2 gIx (sV 0) (sC (.int 0))) d7)))) (sT (s2 gGe (sA as4 (aj (sV 4) d7)) (s2 afw (sC (.int 10)) (sC (.int 18))))))
 (iz (kj 5 (s2 j9 (s2 a1p (sC (.int 2)) (sA as4 (aj (sV 4) d7))) (sA aj8 (aj (s2 gLt (sV 4) (sC (.int 0))) d7))))
 (iz (aa6 (s2 adb (sV 5) (sV 1)) (sV 0) (sC (.int 2)))
 (yf (s2 a5x (sV 5) (sV 1)))))
 sNx)
 (iz (kj 6 (s2 a5x (s2 afw (s2 j9 (s2 j9 (s2 a5x (sV 4) (sC (.int 2147483587))) (s2 a1p (sC (.int 40709)) (sV 3))) (sC (.int 31))) (sC (.int 3))) (sC (.int 2147483647))))
 (iz (kj 6 (s2 a5x (s2 j9 (s2 j9 (s2 a1p (sV 6) (sV 6)) (s2 a1p (sC (.int 48271)) (sV 6))) (sV 3)) (sC (.int 2147483629))))
 (yf (s2 a5x (s2 adb (sV 6) (sC (.int 64))) (sV 1)))))))))))
noncomputable def yh:SS :=
 (iz (kj 0 (sC (.str " !\"#$&'()*+,-./0123456789:;<=>?@ABCDEFGHIJKLMNOPQRSTUVWXYZ[\\]^_`")))
 (yf (s2 j9 (sV 0) (sC (.str "abcdefghijklmnopqrstuvwxyz{|}~\n")))))
noncomputable def xj (ak:SF):SS :=
 (iz (kj 5 (sA (uf false 2 ak) (aj (sV 0) (aj (sA yu (aj (sV 1) d7)) d7))))
 (iz (kj 3 (s2 j9 (sV 3) (s2 gIx (sV 1) (sV 5))))
 (kj 1 (s2 j9 (a5t (sV 1) oN (oS (sV 5))) (a5t (sV 1) (oS (s2 j9 (sV 5) (sC (.int 1)))) oN)))))
noncomputable def a3g (ak:SF):SS :=
 (iz (kj 3 (sC (.str "")))
 (iz (a4q (sRg zx (aj (s2 j9 (sC (.int 1)) (sA (uf false 2 ak) (aj (sV 0) (aj (sV 2) d7)))) d7)) (kN 4) (xj ak))
 (yf (sV 3))))
noncomputable def o6:SS :=
 (sIf (sT (s2 (gIn true) (sV 6) (sV 4)))
 (a0i (sML a78 (sV 4) (aj (sV 6) d7)))
 sNx)
noncomputable def uq:ST :=
 (sT (s2 gLt (sV 5) (sA yu (aj (sV 4) d7))))
noncomputable def o7:SS :=
 (iz (a4q (sIt (s2 gIx (sV 1) (s2 gIx (sV 4) (sV 5)))) (kN 6) o6)
 (kj 5 (s2 j9 (sV 5) (sC (.int 1)))))
noncomputable def ur:SE :=
 (sML a4u (sV 1) (aj (sV 0) d7))
noncomputable def o8:SE :=
 (sA m9 (aj (sZ (m7 (sIt (s2 gIx (sV 1) (sV 0))) t1 ur [2])) d7))
noncomputable def o9:SE :=
 (s2 gIx (sV 1) (sV 0))
noncomputable def ux:SS :=
 (iz (kj 4 (sA a0v (aj (sC (.int 0)) d7)))
 (iz (kj 5 (sC (.int 0)))
 (iz (sWh uq o7 100000)
 (iz (kj 3 (s2 j9 (sC (.int 1)) (s2 a5x (sV 3) (sA yu (aj (sV 4) d7)))))
 (iz (kj 4 (s2 j9 (sZ (s2 j9 (sZ (sA a0v (aj (sC (.int 0)) d7))) (sZ (a5t (sV 4) (oS (sV 3)) oN)))) (sZ (a5t (sV 4) (oS (sC (.int 1))) (oS (sV 3))))))
 (iz (kj 7 (sA m9 (aj (sZ (m7 (sIt (sV 4)) t1 o8 [1,4])) d7)))
 (yf (sA yc (aj (sV 0) (aj (sV 7) (aj (sA m9 (aj (sZ (m7 (sIt (sV 4)) t1 o9 [2])) d7)) d7)))))))))))
noncomputable def uy (dh:SF) (ak:SF):SE :=
 (sA (uf false 2 ak) (aj (sV 1) (aj (sV 2) d7)))
noncomputable def qi (dh:SF) (ak:SF):SS :=
 (iz (kj 9 (m7 (sIt (sV 1)) t1 (uy dh ak) [0,3]))
 (iz (sIf (sT (s2 hEq (sV 4) (sC (.int 0))))
 (aa6 (sA a4r (aj (s2 j9 (sV 8) (sC (.int 1))) (aj (s2 ab2 (sV 3) (sC (.int 1))) d7))) (sV 9) (sA (uf false 2 ak) (aj (sV 0) (aj (sA yu (aj (sV 9) d7)) d7))))
 sNx)
 (iz (kj 10 (sA (uf false 2 ak) (aj (sV 0) (aj (sC (.int 6)) d7))))
 (iz (sIf (sOr (sT (s2 hEq (sV 8) (sC (.int 0)))) (sT (s2 gGt (sA (uf false 2 ak) (aj (sV 0) (aj (sV 5) d7))) (sC (.int 0)))))
 (kj 10 (s1 aa8 (sC (.int 1))))
 sNx)
 (iz (a0i (sML a78 (sV 6) (aj (sV 9) d7)))
 (a0i (sML a78 (sV 7) (aj (sV 10) d7))))))))
noncomputable def a0a (dh:SF) (ak:SF):SS :=
 (iz (kj 3 (s2 j9 (sC (.int 1)) (sA (uf false 2 ak) (aj (sV 0) (aj (sV 2) d7)))))
 (iz (kj 4 (sA (uf false 2 ak) (aj (sV 0) (aj (sC (.int 3)) d7))))
 (iz (kj 5 (s2 j9 (sC (.int 2)) (sA (uf false 2 ak) (aj (sV 0) (aj (sC (.int 2)) d7)))))
 (iz (kj 6 (sA a0v d7))
 (iz (kj 7 (sA a0v d7))
 (iz (a4q (sRg zx (aj (sV 3) d7)) (kN 8) (qi dh ak))
 (yf (sA (sN 4 dh) (aj (sV 1) (aj (sV 6) (aj (sV 7) (aj (sA (uf false 2 ak) (aj (sV 0) (aj (sC (.int 32)) d7))) d7))))))))))))
noncomputable def zc (ak:SF):SS :=
 (iz (kj 5 (sA (uf false 2 ak) (aj (sV 0) (aj (sV 2) d7))))
 (iz (kj 6 (sZ (sA a0v (aj (sA yc (aj (sC (.str "stay")) d7)) (aj (sA yc (aj (sC (.str "shut")) d7)) (aj (sA yc (aj (sC (.str "open")) (aj (sV 5) d7))) (aj (sA yc (aj (sC (.str "turn")) (aj (sV 5) d7))) (aj (sA yc (aj (sC (.str "shut")) d7)) (aj (sA yc (aj (sC (.str "open")) (aj (sV 5) d7))) d7)))))))))
 (a0i (sML a78 (sV 3) (aj (s2 gIx (sV 6) (sA (uf false 2 ak) (aj (sV 0) (aj (sC (.int 6)) d7)))) d7)))))
noncomputable def a0b (ak:SF):SS :=
 (iz (kj 3 (sA a0v d7))
 (iz (a4q (sRg zx (aj (sV 1) d7)) (kN 4) (zc ak))
 (yf (sA m9 (aj (sV 3) d7)))))
noncomputable def vy (jo:SF) (jn:SF) (ak:SF):SS :=
 (iz (kj 6 (sA (uf false 3 jn) (aj (sV 0) (aj (sV 1) (aj (sV 2) d7)))))
 (iz (kj 7 (s2 j9 (sA a7m (aj (s2 gIx (sV 6) (sC (.int 2))) d7)) (sC (.int 1))))
 (a0i (sML a78 (sV 4) (aj (sA yc (aj (s2 gIx (sV 6) (sC (.int 1))) (aj (s2 gIx (sV 6) (sC (.int 2))) (aj (sA (uf false 3 jo) (aj (sV 0) (aj (s2 j9 (sV 7) (sA (uf false 2 ak) (aj (sV 0) (aj (s2 ab2 (sC (.int 7)) (sV 7)) d7)))) (aj (sV 3) d7)))) d7)))) d7)))))
noncomputable def xm (jo:SF) (jn:SF) (ak:SF):SS :=
 (iz (kj 3 (s2 j9 (sC (.int 1)) (sA (uf false 2 ak) (aj (sV 0) (aj (sC (.int 4)) d7)))))
 (iz (kj 4 (sA a0v d7))
 (iz (a4q (sRg zx (aj (sV 3) d7)) (kN 5) (vy jo jn ak))
 (yf (sA yc (aj (sV 1) (aj (sA m9 (aj (sV 4) d7)) d7)))))))
end PN
namespace L2
open PySem PySem.Spec PySem.W PyProof.Rows
section
variable {P:Program} {w:World} {H H':Hp} {h h':Heap}
theorem HOk.is (x:HOk P w H h) {a:Addr} {o:HO} (e:H a=some o):∃ ob,h.get? a=some ob:=by
 have:=x a o e
 cases o with
 | lst xs=>obtain ⟨_,_,_,_,e⟩:=this;exact ⟨_,e⟩
 | tup xs=>obtain ⟨_,_,_,ob,e,_⟩:=this;exact ⟨_,e⟩
 | dK kvs=>obtain ⟨_,_,_,_,o,_,_,e,_⟩:=this;exact ⟨_,e⟩
 | dT kvs=>obtain ⟨_,_,_,_,o,_,_,e,_⟩:=this;exact ⟨_,e⟩
 | set S n=>obtain ⟨o,_,_,_,e,_⟩:=this;exact ⟨_,e⟩
 | ins C dx fs=>obtain ⟨_,_,_,e,_⟩:=this;exact ⟨_,e⟩
 | own y=>exact this
 | xd fs=>obtain ⟨_,⟨_,_,_,e,_⟩,_⟩:=this;exact ⟨_,e⟩
 | rng lo hi=>obtain ⟨_,_,_,e⟩:=this;exact ⟨_,e⟩
 | frz ob u=>exact ⟨_,this.1⟩
 | tbl ps=>exact ⟨_,this⟩
 | met f y=>exact ⟨_,this⟩
 | ext φ=>exact this.2.1
end
end L2
namespace L2
open PySem PySem.Spec PySem.W PyProof.Rows Builtin Builtin.ObjectAttr Builtin.Getset_descriptor
section
variable {prog:Program} {w:World} {A:Around} {E:Value→Shared→Prop} {s:Shared} {K:Frag} {x D:Addr} {ox:Obj} {odo:Option Obj}
structure XKit (K:Frag) (D:Addr):Prop where
 ga:findIn K (.ref D) "__getattribute__" = some (some (.builtin "BaseException.__getattribute__"))
 gn:findIn K (.ref D) "__getattr__" = some none
 cl:(clsIn K D).isSome=true
 ca:findIn K (.ref D) "__class__" = some (some (.builtin "object.__class__"))
 sp:specialIn K (.builtin "object.__class__") "__get__" = some (some (.builtin "getset_descriptor.__get__"))
 tk:takesIn K (.builtin "object.__class__")=some true
 ob:mroIn K D (.type "object")=some true
 be:subIn K (.ref D) (.type "BaseException")=some true
 kc:kitCls K (.ref D) (.ref D)=some true
abbrev ExAt (x D:Addr) (h:Heap):Prop:=∃ o,h.get? x=some o∧o.cls = .ref D
theorem ExAt.ty {M:Model} {h:Heap} (I:ExAt x D h):Looks M h (typeOf (.ref x)) (.ref D):=by
 obtain ⟨o,q,c⟩:=I
 exact c ▸ (Looks.ld q).andThen .now
theorem XKit.at (Z:XKit K D):∃ c o cd sl,K.lookup D=some ⟨c,o, .cls cd,sl⟩:=by
 have:=Z.cl
 unfold clsIn at this
 split at this
 ·exact ⟨_,_,_,_, ‹_›⟩
 ·cases this
theorem XKit.no (Z:XKit K D) {h:Heap} {tp:Addr} {dd:Option Addr} {its:List Value} {n:Nat} {sl:Array (Option Value)} (X:K.In h) (q:h.get? tp=some ⟨.type "tuple",dd, .seq its.toArray n,sl⟩):(Value.ref D == .ref tp)=false :=
 beq_eq_false_iff_ne.mpr fun e=>by
  obtain ⟨_,_,_,_,lo⟩:=Z.at
  rw [Value.ref.inj e] at lo
  have:=X _ _ lo
  rw [q] at this
  cases this
end
end L2
namespace L2
open PySem PySem.Spec PySem.W PyProof.Rows
end L2
namespace MI
open PySem PySem.Spec L2
end MI
namespace MI
open PySem PySem.Spec L2
end MI
namespace MI
open PySem PySem.Spec L2
end MI
namespace EVX
open PySem PySem.Spec L2 MI
end EVX
namespace MI
open PySem PySem.Spec L2
end MI
namespace EVX
open PySem PySem.Spec L2 MI
end EVX
namespace ZP
open PySem PySem.Spec PySem.Builtin PySem.Builtin.SmallTypes L2
end ZP
namespace MI
open PySem PySem.Spec L2 ZP
end MI
namespace AT
open L2
theorem ado {α:Type} (x0:α) (xs:List α):atI (x0::xs) 0=some x0:=uo (j:=0) rfl
theorem adp {α:Type} (x0 x1:α) (xs:List α):atI (x0::x1::xs) 1=some x1:=uo (j:=1) rfl
theorem adq {α:Type} (x0 x1 x2:α) (xs:List α):atI (x0::x1::x2::xs) 2=some x2:=uo (j:=2) rfl
theorem adt {α:Type} (x0 x1 x2 x3:α) (xs:List α):atI (x0::x1::x2::x3::xs) 3=some x3:=uo (j:=3) rfl
theorem adu {α:Type} (x0 x1 x2 x3 x4:α) (xs:List α):atI (x0::x1::x2::x3::x4::xs) 4=some x4:=uo (j:=4) rfl
theorem adv {α:Type} (x0 x1 x2 x3 x4 x5:α) (xs:List α):atI (x0::x1::x2::x3::x4::x5::xs) 5=some x5:=uo (j:=5) rfl
theorem adw {α:Type} (x0 x1 x2 x3 x4 x5 x6:α) (xs:List α):atI (x0::x1::x2::x3::x4::x5::x6::xs) 6=some x6:=uo (j:=6) rfl
theorem adx {α:Type} (x0 x1 x2 x3 x4 x5 x6 x7:α) (xs:List α):atI (x0::x1::x2::x3::x4::x5::x6::x7::xs) 7=some x7:=uo (j:=7) rfl
theorem x10:ixN 1 0=some 0:=rfl
theorem x20:ixN 2 0=some 0:=rfl
theorem x21:ixN 2 1=some 1:=rfl
theorem x30:ixN 3 0=some 0:=rfl
theorem x31:ixN 3 1=some 1:=rfl
theorem x32:ixN 3 2=some 2:=rfl
theorem x40:ixN 4 0=some 0:=rfl
theorem x41:ixN 4 1=some 1:=rfl
theorem x42:ixN 4 2=some 2:=rfl
theorem x43:ixN 4 3=some 3:=rfl
theorem x50:ixN 5 0=some 0:=rfl
theorem x51:ixN 5 1=some 1:=rfl
theorem x52:ixN 5 2=some 2:=rfl
theorem x53:ixN 5 3=some 3:=rfl
theorem x54:ixN 5 4=some 4:=rfl
theorem x60:ixN 6 0=some 0:=rfl
theorem x61:ixN 6 1=some 1:=rfl
theorem x62:ixN 6 2=some 2:=rfl
theorem x63:ixN 6 3=some 3:=rfl
theorem x64:ixN 6 4=some 4:=rfl
theorem x65:ixN 6 5=some 5:=rfl
theorem x70:ixN 7 0=some 0:=rfl
theorem x71:ixN 7 1=some 1:=rfl
theorem x72:ixN 7 2=some 2:=rfl
theorem x73:ixN 7 3=some 3:=rfl
theorem x74:ixN 7 4=some 4:=rfl
theorem x75:ixN 7 5=some 5:=rfl
theorem x76:ixN 7 6=some 6:=rfl
def alu (x:Int):Int:=if x<0 then -x else x
theorem ady (x:Int) (h:MI.Hd):MI.as4 [.int x] h = .ok (.int (alu x)) h:=rfl
theorem p18 (h:MI.Hd):MI.afw (.int 10) (.int 18) h = .ok (.int 1000000000000000000) h:=by rw [MI.afw,if_pos (by decide)];rfl
theorem aw1 {i j:Int} {h:MI.Hd} (c:0≤j∧j≤1000000∧i.natAbs<2 ^ 64):MI.afw (.int i) (.int j) h = .ok (.int (i ^ j.toNat)) h:=by rw [MI.afw,if_pos c]
end AT
namespace MI
open PySem PySem.Spec L2 SeqAt
def awx (neg:Bool) (K:PySem.W.Frag):R2:=fun x y H Q=>∃ (ι:List Addr) (p q:Addr) (vs us:List V) (xs ys:List D),x = .ref p∧y = .ref q∧Rd H p (.lst vs)∧Rd H q (.lst us)∧Reps K ι H vs xs∧Reps K ι H us ys∧xs.all (pur 59)=true∧ys.all (pur 59)=true∧Q (.bl (if neg then !abq xs ys else abq xs ys)) H
theorem ajs {X:Cx} {pins:List (Addr × Obj)} {s:Shared} {σ:St} {H:Hp} (I:Inv X pins σ H s) (hu:X.A.units+64<cLine) {ι:List Addr} {p q:Addr} {vs us:List V} {xs ys:List D} (h1:Rd H p (.lst vs)) (h2:Rd H q (.lst us)) (rs:Reps X.K ι H vs xs) (qs:Reps X.K ι H us ys) (p1:xs.all (pur 59)=true) (p2:ys.all (pur 59)=true) :
  RcAt X.A s (.ref p) (.ref q) (abq xs ys)∧RcNeAt X.A s (.ref p) (.ref q) (!abq xs ys):=by
 obtain ⟨its,r1,pl1,z1⟩:=I.list (.inl h1)
 obtain ⟨its2,r2,pl2,z2⟩:=I.list (.inl h2)
 have l1:its.toArray.size=xs.length:=by rw [List.size_toArray,← r1.length,rs.len]
 have l2:its2.toArray.size=ys.length:=by rw [List.size_toArray,← r2.length,qs.len]
 by_cases hl:xs.length=ys.length
 ·have step:∀ j (h1:j<its.toArray.size) (h2:j<its2.toArray.size),EqAt X.A.in1 s its.toArray[j] its2.toArray[j] (pairE xs ys j):=fun j h1 h2=>by
   have j1:j<xs.length:=by omega
   have j2:j<ys.length:=by omega
   obtain ⟨v1,e1,q1⟩:=rs.get (List.getElem?_eq_getElem j1)
   obtain ⟨v2,e2,q2⟩:=qs.get (List.getElem?_eq_getElem j2)
   obtain ⟨u1,e3,q3⟩:=r1.get e1
   obtain ⟨u2,e4,q4⟩:=r2.get e2
   have f1:its.toArray[j]=u1:=by simpa using (List.getElem?_eq_some_iff.mp e3).2
   have f2:its2.toArray[j]=u2:=by simpa using (List.getElem?_eq_some_iff.mp e4).2
   have pe:pairE xs ys j=eqD xs[j] ys[j]:=by simp [pairE,List.getElem?_eq_getElem j1,List.getElem?_eq_getElem j2]
   rw [f1,f2,pe]
   rw [List.all_eq_true] at p1 p2
   exact aln I.hok 59 X.A.in1 q1 q2 q3 q4 (p1 _ (List.getElem_mem j1)) (p2 _ (List.getElem_mem j2)) (by rw [Around.in1_units];omega)
  have c1:=RcAt.lists (A:=X.A) (s:=s) (e:=pairE xs ys) pl1.isList pl2.isList (by omega) (by omega) step
  have c2:=RcNeAt.lists (A:=X.A) (s:=s) (e:=pairE xs ys) pl1.isList pl2.isList (by omega) (by omega) step
  have ea:=a2h xs ys
  rw [hl,Nat.min_self,beq_self_eq_true,Bool.and_true,← hl] at ea
  rw [l1,ea] at c1 c2
  exact ⟨c1,c2⟩
 ·have ne:(its.toArray.size != its2.toArray.size)=true:=by rw [l1,l2];simpa using hl
  have ea:=a2h xs ys
  rw [beq_eq_false_iff_ne.mpr hl,Bool.and_false] at ea
  rw [← ea]
  exact ⟨RcAt.lists_lengths pl1.isList pl2.isList ne (by omega),RcNeAt.lists_lengths pl1.isList pl2.isList ne (by omega)⟩
theorem alv {X:Cx} (hu:X.A.units+64<cLine):OpR X (compareOp .NotEq) (awx true X.K):=by
 intro pins s σ H x y v u Q I rx ry h
 obtain ⟨ι,p,q,vs,us,xs,ys,rfl,rfl,h1,h2,r1,r2,p1,p2,hq⟩:=h
 cases rx;cases ry
 exact (ajs I hu h1 h2 r1 r2 p1 p2).2 X.prog X.w X.xe _ ⟨.bl _,H,I,rfl,hq⟩
def ajt (neg:Bool) (x y:D) (h:Hd):R D:=match pq x h,pq y h with
 | some xs,some ys=>if xs.all (pur 59)=true∧ys.all (pur 59)=true then .ok (.bl (if neg then !abq xs ys else abq xs ys)) h else .no
 | _,_=>.no
theorem agu (neg:Bool) {K:PySem.W.Frag}:a2b K (ajt neg) (awx neg K):=by
 intro E ι H h x y dx dy Q rx ry hr o
 unfold ajt at o
 split at o
 ·rename_i xs ys e1 e2
  split at o
  ·rename_i hc
   obtain ⟨a,vs,rfl,h1,r1⟩:=yw rx hr e1
   obtain ⟨b,us,rfl,h2,r2⟩:=yw ry hr e2
   exact ⟨ι,a,b,vs,us,xs,ys,rfl,rfl,h1,h2,r1,r2,hc.1,hc.2,ans o (.bl _) hr⟩
  ·exact o.elim
 ·exact o.elim
end MI
namespace SETA
open PySem PySem.SetTable
def aes (xs:Array Nat):Prop:=∀ i j (hi:i<xs.size) (hj:j<xs.size),i<j→xs[i]<xs[j]
theorem aos (xs:Array Nat) (ri:aes xs) (j:Nat):∀ (fuel lo hi:Nat),hi - lo≤fuel→lo≤hi→hi≤xs.size→(∀ i (h:i<xs.size),i<lo→xs[i]<j)→(∀ i (h:i<xs.size),hi≤i→j≤xs[i]) →
  lo≤below.go xs j fuel lo hi∧below.go xs j fuel lo hi≤hi∧(∀ i (h:i<xs.size),i<below.go xs j fuel lo hi→xs[i]<j)∧∀ i (h:i<xs.size),below.go xs j fuel lo hi≤i→j≤xs[i]:=by
 intro fuel
 induction fuel with
 | zero =>
  intro lo hi h1 h2 h3 a b
  have:lo=hi:=by omega
  subst this
  exact ⟨Nat.le_refl _,Nat.le_refl _,a,b⟩
 | succ fuel ih =>
  intro lo hi h1 h2 h3 a b
  unfold below.go
  split
  ·rename_i c
   have hm:(lo+hi) / 2<xs.size:=by omega
   have e:xs.getD ((lo+hi) / 2) j=xs[(lo+hi) / 2]:=by simp [Array.getD,hm]
   dsimp only
   rw [e]
   split
   ·rename_i q
    have r:=ih ((lo+hi) / 2+1) hi (by omega) (by omega) h3 (fun i h z=>by
     by_cases y:i=(lo+hi) / 2
     ·subst y;exact q
     ·exact Nat.lt_trans (ri i _ h hm (by omega)) q) b
    exact ⟨by omega,r.2.1,r.2.2⟩
   ·rename_i q
    have r:=ih lo ((lo+hi) / 2) (by omega) (by omega) (by omega) a (fun i h z=>by
     by_cases y:i=(lo+hi) / 2
     ·subst y;omega
     ·have:=ri _ i hm h (by omega);omega)
    exact ⟨r.1,by omega,r.2.2⟩
  ·have:lo=hi:=by omega
   subst this
   exact ⟨Nat.le_refl _,Nat.le_refl _,a,b⟩
theorem a03 {xs:Array Nat} (ri:aes xs) (j:Nat):below xs j≤xs.size∧(∀ i (h:i<xs.size),i<below xs j→xs[i]<j)∧∀ i (h:i<xs.size),below xs j≤i→j≤xs[i]:=by
 have:=aos xs ri j xs.size 0 xs.size (by omega) (by omega) (Nat.le_refl _) (fun i _ z=>absurd z (Nat.not_lt_zero i)) fun i h z=>absurd h (by omega)
 exact ⟨this.2.1,this.2.2⟩
theorem below_at {xs:Array Nat} (ri:aes xs) {k:Nat} (hk:k<xs.size):below xs xs[k]=k:=by
 obtain ⟨h1,h2,h3⟩:=a03 ri xs[k]
 apply Classical.byContradiction
 intro z
 rcases Nat.lt_or_gt_of_ne z with c | c
 ·have:=h3 (below xs xs[k]) (by omega) (Nat.le_refl _)
  have:=ri (below xs xs[k]) k (by omega) hk c
  omega
 ·have:=h2 k hk c
  omega
theorem adz {xs:Array Nat} (ri:aes xs) {k:Nat} (hk:k<xs.size):below xs (xs[k]+1)=k+1:=by
 obtain ⟨h1,h2,h3⟩:=a03 ri (xs[k]+1)
 apply Classical.byContradiction
 intro z
 rcases Nat.lt_or_gt_of_ne z with c | c
 ·have:=h3 k hk (by omega)
  omega
 ·have:=h2 (k+1) (by omega) c
  have:=ri k (k+1) hk (by omega) (by omega)
  omega
theorem aot {xs:Array Nat} (ri:aes xs):below xs 0=0:=by
 obtain ⟨h1,h2,h3⟩:=a03 ri 0
 apply Classical.byContradiction
 intro z
 have:=h2 0 (by omega) (by omega)
 omega
structure Gd (t:SetTable):Prop where
 ri:aes t.place
 dm:t.dummies = #[]
theorem ae0:aes #[]:=fun i j hi=>absurd hi (by simp)
theorem aju (f m:Nat) (l:Bool):Gd (.fresh f m l):=⟨ae0,rfl⟩
theorem ae1 (n:Nat):aes (Array.range n):=fun i j hi hj h=>by simpa using h
theorem a4y {l:List Nat} (h:l.Pairwise (· < ·)):aes l.toArray:=fun i j hi hj c=>by
 have:=List.pairwise_iff_getElem.mp h i j (by simpa using hi) (by simpa using hj) c
 simpa using this
theorem a93 {xs:Array Nat} (h:aes xs):xs.toList.Pairwise (· < ·):=List.pairwise_iff_getElem.mpr fun i j hi hj c=>by
 have:=h i j (by simpa using hi) (by simpa using hj) c
 simpa using this
theorem a6g (t:SetTable) (n:Nat):Gd (t.standIn n):=⟨ae1 n,rfl⟩
theorem a94 {t:SetTable} (g:Gd t) (n:Nat):Gd (t.orStandIn n):=by
 unfold SetTable.orStandIn
 split
 ·exact g
 ·exact a6g t n
theorem a4z (j:Nat):has #[] j=false:=by simp [has]
theorem ae2 {t:SetTable} (g:Gd t) {j:Nat} (h:t.slot j = .empty):∀ k (hk:k<t.place.size),t.place[k]≠j:=fun k hk e=>by
 subst e
 unfold SetTable.slot at h
 simp only [below_at g.ri hk] at h
 rw [if_pos (by simp [hk])] at h
 cases h
theorem ajv {t:SetTable} (g:Gd t) {ha:Nat→Int} {h:Int}:∀ (fuel:Nat) (p:Probe) (j:Nat) (d:Option Nat),p.dummy=none→SetTable.probe.go t ha h fuel p=some (.empty j d)→t.slot j = .empty∧d=none:=by
 intro fuel
 induction fuel with
 | zero=>intro p j d _ z;simp [SetTable.probe.go] at z
 | succ fuel ih =>
  intro p j d hp z
  unfold SetTable.probe.go at z
  cases e:t.slot p.j with
  | empty =>
   rw [e] at z
   simp only [Option.some.injEq,Met.empty.injEq] at z
   obtain ⟨rfl,rfl⟩:=z
   exact ⟨e,hp⟩
  | dummy =>
   exfalso
   unfold SetTable.slot at e
   rw [g.dm,a4z] at e
   dsimp only at e
   split at e<;>simp at e
  | live i =>
   rw [e] at z
   dsimp only at z
   split at z
   ·cases z
   ·refine ih _ j d ?_ z
    unfold SetTable.advance
    split
    ·exact hp
    ·exact hp
theorem a5a {t:SetTable} (g:Gd t) {h:Int} {j:Nat} {b:Bool} (e:t.freeSlot h=some (j,b)):(∀ k (hk:k<t.place.size),t.place[k]≠j)∧b=false:=by
 unfold SetTable.freeSlot at e
 split at e
 ·rename_i j' d q
  obtain ⟨h1,h2⟩:=ajv g _ _ _ _ rfl q
  subst h2
  simp only [Option.getD_none,Option.isSome_none,Option.some.injEq,Prod.mk.injEq] at e
  obtain ⟨rfl,rfl⟩:=e
  exact ⟨ae2 g h1,rfl⟩
 ·cases e
theorem aah {xs:Array Nat} (ri:aes xs) {j:Nat} (h:∀ k (hk:k<xs.size),xs[k]≠j):aes (SetTable.insertAt xs (below xs j) j):=by
 obtain ⟨h1,h2,h3⟩:=a03 ri j
 have e:(SetTable.insertAt xs (below xs j) j)=(xs.toList.take (below xs j)++j::xs.toList.drop (below xs j)).toArray:=by
  exact Array.ext' ((SetTable.toList_insertAt _ _ _).trans (by simp))
 rw [e]
 refine a4y ?_
 have rl:=a93 ri
 rw [List.pairwise_append]
 refine ⟨rl.sublist (List.take_sublist _ _),List.pairwise_cons.mpr ⟨fun a ha=>?_,rl.sublist (List.drop_sublist _ _)⟩,fun a ha b hb=>?_⟩
 ·obtain ⟨i,hi,rfl⟩:=List.mem_iff_getElem.mp ha
  rw [List.getElem_drop]
  rw [List.length_drop,Array.length_toList] at hi
  have h4:=h3 (below xs j+i) (by omega) (by omega)
  have h5:=h (below xs j+i) (by omega)
  rw [Array.getElem_toList]
  omega
 ·obtain ⟨i,hi,rfl⟩:=List.mem_iff_getElem.mp ha
  rw [List.getElem_take]
  rw [List.length_take,Array.length_toList] at hi
  have h4:=h2 i (by omega) (by omega)
  rw [Array.getElem_toList]
  rcases List.mem_cons.mp hb with rfl | hb
  ·exact h4
  ·obtain ⟨k,hk,rfl⟩:=List.mem_iff_getElem.mp hb
   rw [List.getElem_drop]
   rw [List.length_drop,Array.length_toList] at hk
   have h6:=h3 (below xs j+k) (by omega) (by omega)
   rw [Array.getElem_toList]
   omega
theorem alw {t:SetTable} (g:Gd t) {j:Nat} (h:∀ k (hk:k<t.place.size),t.place[k]≠j):Gd (t.put j).1:=by
 refine ⟨aah g.ri h,?_⟩
 show (if has t.dummies j=true then _ else t.dummies) = #[]
 rw [g.dm,a4z]
 rfl
theorem agv {t:SetTable} (g:Gd t) (es:Array (Int × Value)) (h:Int) (x:Value):Gd (layNew t es h x).2.1∧(layNew t es h x).2.2.1=false:=by
 unfold layNew
 split
 ·rename_i slot wd e
  obtain ⟨h1,h2⟩:=a5a g e
  exact ⟨a94 (alw g h1) _,h2⟩
 ·exact ⟨a6g _ _,rfl⟩
theorem agw {mask f m:Nat} {l p:Bool} {hs:Array Int} {t:SetTable} {o:Array Nat} (e:SetTable.laid mask f m l p hs=some (t,o)):Gd t∧t.led=l:=by
 unfold SetTable.laid at e
 cases q:layClean mask hs with
 | none=>rw [q] at e;cases e
 | some owner =>
  rw [q] at e
  simp only [Option.bind_eq_bind,Option.bind_some,Option.pure_def,Option.some.injEq,Prod.mk.injEq] at e
  obtain ⟨rfl,rfl⟩:=e
  refine ⟨⟨a4y ?_,rfl⟩,rfl⟩
  have:∀ l:List Nat,l.Pairwise (· < ·)→((l.filterMap fun j=>(owner.getD j none).map (j, ·)).map (·.1)).Pairwise (· < ·):=fun l hl=>by
   have sub:((l.filterMap fun j=>(owner.getD j none).map (j, ·)).map (·.1)).Sublist l:=by
    clear hl
    induction l with
    | nil=>exact .slnil
    | cons a l ih =>
     cases q:owner.getD a none with
     | none =>
      rw [List.filterMap_cons_none (by rw [q];rfl)]
      exact .cons _ ih
     | some b =>
      rw [List.filterMap_cons_some (b:=(a,b)) (by rw [q];rfl),List.map_cons]
      exact .cons₂ _ ih
   exact hl.sublist sub
  exact this _ List.pairwise_lt_range
theorem a7o (t:SetTable) (n:Nat):(t.orStandIn n).led=t.led:=by
 unfold SetTable.orStandIn
 split<;>rfl
theorem ae3 (t:SetTable) (es:Array (Int × Value)) (h:Int) (x:Value):(layNew t es h x).2.1.led=t.led:=by
 unfold layNew
 split
 ·exact a7o _ _
 ·rfl
theorem agx (t:SetTable) (es:Array (Int × Value)) (n:Nat):(relayAll t es n).2.1.led=t.led:=by
 unfold relayAll
 split
 ·rename_i t' o e
  dsimp only
  split
  ·exact (agw e).2
  ·rfl
 ·rfl
end SETA
namespace SETH
def it:Nat→Nat→Nat
 | 0,x=>x
 | n+1,x=>it n (5*x+1)
theorem agy (m:Nat):∀ (n x:Nat),it (n+m) x=it m (it n x)
 | 0,x=>by rw [Nat.zero_add];rfl
 | n+1,x=>by rw [show n+1+m=(n+m)+1 by omega];exact agy m n _
theorem alx:∀ k:Nat,∃ c,∀ x,it (2 ^ k) x=(4*(2 ^ k*(2*c+1))+1)*x+2 ^ k*(2*c+1)
 | 0=>⟨0,fun x=>by show 5*x+1=_;omega⟩
 | k+1=>by
  obtain ⟨c,h⟩:=alx k
  refine ⟨2*c*(2 ^ k*(2*c+1))+c+2 ^ k*(2*c+1),fun x=>?_⟩
  have e:2 ^ (k+1)=2 ^ k+2 ^ k:=by rw [Nat.pow_succ];omega
  rw [e,agy,h,h]
  generalize 2 ^ k=P
  grind
theorem full:∀ (k x y:Nat),∃ n,n<2 ^ k∧it n x % 2 ^ k=y % 2 ^ k
 | 0,x,y=>⟨0,by decide,by rw [Nat.pow_zero,Nat.mod_one,Nat.mod_one]⟩
 | k+1,x,y=>by
  obtain ⟨n,hn,e⟩:=full k x y
  obtain ⟨c,h⟩:=alx k
  have hp:0<2 ^ k:=Nat.pow_pos (by decide)
  rw [Nat.pow_succ]
  by_cases q:it n x / 2 ^ k % 2=y / 2 ^ k % 2
  ·exact ⟨n,by omega,by rw [Nat.mod_mul,Nat.mod_mul,e,q]⟩
  ·refine ⟨n+2 ^ k,by omega,?_⟩
   rw [agy,h]
   generalize 2 ^ k=P at *
   generalize it n x=z at *
   have:(4*(P*(2*c+1))+1)*z+P*(2*c+1)=(z+P)+P*2*(2*(2*c+1)*z+c):=by grind
   rw [this,Nat.add_mul_mod_self_left,Nat.mod_mul,Nat.mod_mul,Nat.add_mod_right,e,Nat.add_div_right _ hp]
   congr 2
   omega
def im (M:Nat):Nat→Nat→Nat
 | 0,x=>x
 | n+1,x=>im M n ((x*5+1) % M)
theorem aso (M:Nat):∀ (n x:Nat),im M n x % M=it n x % M
 | 0,x=>rfl
 | n+1,x=>by
  show im M n _ % M=it n _ % M
  rw [aso M n]
  have:∀ n a b,a % M=b % M→it n a % M=it n b % M:=by
   intro n
   induction n with
   | zero=>exact fun a b h=>h
   | succ n ih=>exact fun a b h=>ih _ _ (by rw [Nat.add_mod,Nat.mul_mod,h,← Nat.mul_mod,← Nat.add_mod])
  exact this n _ _ (by rw [Nat.mod_mod,Nat.mul_comm])
theorem asp {M:Nat} (hM:0<M):∀ (n x:Nat),x<M→im M n x<M
 | 0,x,h=>h
 | n+1,x,h=>asp hM n _ (Nat.mod_lt _ hM)
theorem aou {k x y:Nat} (hx:x<2 ^ k) (hy:y<2 ^ k):∃ n,n<2 ^ k∧im (2 ^ k) n x=y:=by
 obtain ⟨n,hn,e⟩:=full k x y
 refine ⟨n,hn,?_⟩
 rw [← aso,Nat.mod_eq_of_lt hy,Nat.mod_eq_of_lt (asp (by omega) n x hx)] at e
 exact e
open PySem PySem.SetTable
def ls (mask:Nat):Nat→Nat × Nat→Nat × Nat
 | 0,x=>x
 | n+1,x=>ls mask n (leap mask x.1 x.2)
theorem aly (mask m:Nat):∀ (n:Nat) (x:Nat × Nat),ls mask (n+m) x=ls mask m (ls mask n x)
 | 0,x=>by rw [Nat.zero_add];rfl
 | n+1,x=>by rw [show n+1+m=(n+m)+1 by omega];exact aly mask m n _
theorem a6h (mask:Nat):∀ (n:Nat) (x:Nat × Nat),(ls mask n x).2=x.2 / 32 ^ n
 | 0,x=>by rw [Nat.pow_zero,Nat.div_one];rfl
 | n+1,x=>by
  show (ls mask n _).2=_
  rw [a6h mask n,Nat.pow_succ,Nat.mul_comm,← Nat.div_div_eq_div_mul]
  rfl
theorem asq (mask:Nat):∀ (n:Nat) (x:Nat × Nat),x.1≤mask→(ls mask n x).1≤mask
 | 0,x,h=>h
 | n+1,x,h=>asq mask n _ (Nat.le_of_lt_succ (Nat.mod_lt _ (Nat.succ_pos _)))
theorem asr (mask:Nat):∀ (n i:Nat),ls mask n (i,0)=(im (mask+1) n i,0)
 | 0,i=>rfl
 | n+1,i=>by
  show ls mask n (leap mask i 0)=(im (mask+1) n _,0)
  rw [← asr mask n]
  rfl
theorem hit {mask k i p y:Nat} (hk:mask+1=2 ^ k) (hi:i≤mask) (hp:p<2 ^ 64) (hy:y≤mask):∃ m,m<mask+14∧(ls mask m (i,p)).1=y:=by
 have e:ls mask 13 (i,p)=((ls mask 13 (i,p)).1,0):=by
  refine Prod.ext rfl ?_
  rw [a6h]
  show p / 32 ^ 13=0
  exact Nat.div_eq_of_lt (by omega)
 have h13:=asq mask 13 (i,p) hi
 obtain ⟨n,hn,en⟩:=aou (k:=k) (x:=(ls mask 13 (i,p)).1) (y:=y) (by omega) (by omega)
 refine ⟨13+n,by omega,?_⟩
 rw [aly,e,asr]
 show im (mask+1) n _=y
 rw [hk]
 exact en
end SETH
namespace SETH
open PySem PySem.SetTable SETA
theorem a5b (mask i:Nat):i≤runEnd mask i:=by unfold runEnd;split<;>omega
theorem a5c {mask i:Nat} (h:i≤mask):runEnd mask i≤mask:=by unfold runEnd;split<;>omega
theorem ac1 (mask i:Nat):runEnd mask i - i≤9:=by unfold runEnd;split<;>omega
theorem a95 {mask:Nat} {owner:Array (Option Nat)}:∀ (fuel i p m:Nat),m<fuel→i≤mask→owner.getD (ls mask m (i,p)).1 (some 0)=none→∃ j,layClean.free mask owner fuel i p=some j∧j≤mask∧owner.getD j (some 0)=none
 | 0,i,p,m,h,_,_=>absurd h (Nat.not_lt_zero _)
 | fuel+1,i,p,m,h,hi,e=>by
  unfold layClean.free
  have ge:=a5b mask i
  have le:=a5c hi
  split
  ·rename_i k hk
   refine ⟨_,rfl,?_,?_⟩
   ·have:=List.mem_of_find?_eq_some hk
    rw [List.mem_range] at this
    omega
   ·have:=List.find?_some hk
    exact Option.isNone_iff_eq_none.mp this
  ·rename_i hk
   cases m with
   | zero =>
    have:=List.find?_eq_none.mp hk 0 (List.mem_range.mpr (by omega))
    exact absurd (Option.isNone_iff_eq_none.mpr e) this
   | succ m=>exact a95 fuel _ _ m (by omega) (Nat.le_of_lt_succ (Nat.mod_lt _ (Nat.succ_pos _))) e
theorem a3u {t:SetTable} {p:Probe} (h:p.more > 0):t.advance p={ p with j:=p.j+1,more:=p.more - 1 }:=by unfold advance;rw [if_pos h]
theorem a3v {t:SetTable} {p:Probe} (h:p.more=0):t.advance p={ p with j:=(leap t.mask p.i p.perturb).1,more:=runEnd t.mask (leap t.mask p.i p.perturb).1 - (leap t.mask p.i p.perturb).1,i:=(leap t.mask p.i p.perturb).1,perturb:=(leap t.mask p.i p.perturb).2 }:=by unfold advance;rw [if_neg (by omega)]
theorem aai {t:SetTable} {h:Int}:∀ (fuel m:Nat) (p:Probe),p.more+10*m+1<fuel→t.slot (ls t.mask (m+1) (p.i,p.perturb)).1 = .empty→∃ j d,probe.go t (fun _=>h+1) h fuel p=some (.empty j d)
 | 0,m,p,hf,_=>absurd hf (Nat.not_lt_zero _)
 | fuel+1,m,p,hf,e=>by
  have ne:(h+1 == h)=false:=by simpa using (by omega:h+1≠h)
  have next:∀ d,∃ j d',probe.go t (fun _=>h+1) h fuel (t.advance { p with dummy:=d })=some (.empty j d'):=fun d=>by
   by_cases hm:p.more > 0
   ·rw [a3u (by exact hm)]
    exact aai fuel m _ (by show p.more - 1+10*m+1<fuel;omega) e
   ·rw [a3v (by show p.more=0;omega)]
    cases m with
    | zero =>
     cases fuel with
     | zero=>omega
     | succ fuel =>
      have e:t.slot (leap t.mask p.i p.perturb).1 = .empty:=e
      unfold probe.go
      simp only [e]
      exact ⟨_,_,rfl⟩
    | succ m =>
     have:=ac1 t.mask (leap t.mask p.i p.perturb).1
     exact aai fuel m _ (by show runEnd t.mask (leap t.mask p.i p.perturb).1 - (leap t.mask p.i p.perturb).1+10*m+1<fuel;omega) e
  unfold probe.go
  split
  ·exact ⟨_,_,rfl⟩
  ·exact next _
  ·rw [ne]
   exact next p.dummy
theorem agz {t:SetTable} (hd:t.dummies = #[]) {y:Nat} (hy:∀ k (hk:k<t.place.size),t.place[k]≠y):t.slot y = .empty:=by
 unfold slot
 dsimp only
 rw [if_neg,hd,a4z]
 ·rfl
 ·intro c
  have c:t.place[below t.place y]? = some y:=by simpa using c
  obtain ⟨hk,e⟩:=Array.getElem?_eq_some_iff.mp c
  exact hy _ hk e
theorem a7p {t:SetTable} {k y:Nat} (hk:t.mask+1=2 ^ k) (hd:t.dummies = #[]) (hy:y≤t.mask) (fr:∀ k (hk:k<t.place.size),t.place[k]≠y) (h:Int):∃ r,t.freeSlot h=some r:=by
 have sl:=agz hd fr
 have hi:bits h % (t.mask+1)≤t.mask:=Nat.le_of_lt_succ (Nat.mod_lt _ (Nat.succ_pos _))
 have hb:bits h<2 ^ 64:=by unfold bits;omega
 obtain ⟨m,hm,e⟩:=hit hk hi hb hy
 have r9:=ac1 t.mask (bits h % (t.mask+1))
 have:∃ j d,t.probe (fun _=>h+1) h (t.probeStart h)=some (.empty j d):=by
  unfold probe turns
  cases m with
  | zero =>
   have e:bits h % (t.mask+1)=y:=e
   rw [show 10*(t.mask+15)=(10*(t.mask+15) - 1)+1 by omega]
   unfold probe.go probeStart
   simp only [e,sl]
   exact ⟨_,_,rfl⟩
  | succ m=>exact aai _ m _ (by show runEnd t.mask (bits h % (t.mask+1)) - bits h % (t.mask+1)+10*m+1<_;omega) (by rw [← e] at sl;exact sl)
 obtain ⟨j,d,x⟩:=this
 unfold freeSlot
 rw [x]
 exact ⟨_,rfl⟩
end SETH
namespace SETH
open PySem PySem.SetTable SETA
theorem ah0:∀ l:List (Option Nat),(l.filterMap id).length<l.length→∃ i,∃ h:i<l.length,l[i]=none
 | [],h=>absurd h (Nat.lt_irrefl _)
 | none::l,_=>⟨0,Nat.succ_pos _,rfl⟩
 | some x::l,h=>by
  obtain ⟨i,hi,e⟩:=ah0 l (by simpa using h)
  exact ⟨i+1,Nat.succ_lt_succ hi,e⟩
theorem ac2 (k:Nat):∀ (l:List (Option Nat)) (i:Nat) (h:i<l.length),l[i]=none→((l.set i (some k)).filterMap id).Perm (k::l.filterMap id)
 | x::l,0,_,e=>by
  have e:x=none:=e
  subst e
  simp
 | x::l,i+1,h,e=>by
  have ih:=ac2 k l i (Nat.lt_of_succ_lt_succ h) e
  cases x with
  | none=>simpa using ih
  | some x =>
   simp only [List.set_cons_succ,List.filterMap_cons,id]
   exact (ih.cons x).trans (List.Perm.swap ..)
structure Own (mask n:Nat) (o:Array (Option Nat)):Prop where
 size:o.size=mask+1
 all:(o.toList.filterMap id).Perm (List.range n)
theorem aw2 (mask:Nat):Own mask 0 (Array.replicate (mask+1) none) where
 size:=by simp
 all:=by simp
theorem Own.free {mask n:Nat} {o:Array (Option Nat)} (w:Own mask n o) (hn:n≤mask):∃ y,y≤mask∧o.getD y (some 0)=none:=by
 have:=w.all.length_eq
 rw [List.length_range] at this
 obtain ⟨i,hi,e⟩:=ah0 o.toList (by rw [this,Array.length_toList,w.size];omega)
 have hs:i<o.size:=by simpa using hi
 refine ⟨i,by have:=w.size;omega,?_⟩
 simp only [Array.getD,hs,dif_pos]
 simpa using e
theorem Own.put {mask n j:Nat} {o:Array (Option Nat)} (w:Own mask n o) (hj:j≤mask) (e:o.getD j (some 0)=none):Own mask (n+1) (o.setIfInBounds j (some n)) where
 size:=by rw [Array.size_setIfInBounds];exact w.size
 all:=by
  have hs:j<o.size:=by have:=w.size;omega
  have e:o.toList[j]'(by simpa using hs)=none:=by
   simp only [Array.getD,hs,dif_pos] at e
   simpa using e
  rw [Array.toList_setIfInBounds,List.range_succ]
  exact (ac2 n _ _ _ e).trans ((w.all.cons n).trans (List.perm_append_singleton n _).symm)
theorem ac3 {mask k:Nat} (hk:mask+1=2 ^ k) {F:Option (Array (Option Nat) × Nat)→Int→Option (Array (Option Nat) × Nat)}
  (hF:∀ o n h j,layClean.free mask o (turns mask) (bits h % (mask+1)) (bits h)=some j→F (some (o,n)) h=some (o.setIfInBounds j (some n),n+1)) :
  ∀ (hs:List Int) (o:Array (Option Nat)) (n:Nat),Own mask n o→n+hs.length≤mask+1→∃ o',hs.foldl F (some (o,n))=some (o',n+hs.length)∧Own mask (n+hs.length) o'
 | [],o,n,w,_=>⟨o,rfl,w⟩
 | h::hs,o,n,w,le=>by
  rw [List.length_cons] at le ⊢
  obtain ⟨y,hy,e⟩:=w.free (by omega)
  have hi:bits h % (mask+1)≤mask:=Nat.le_of_lt_succ (Nat.mod_lt _ (Nat.succ_pos _))
  obtain ⟨m,hm,em⟩:=hit hk hi (p:=bits h) (by unfold bits;omega) hy
  obtain ⟨j,ej,hj,fj⟩:=a95 (turns mask) (bits h % (mask+1)) (bits h) m (by unfold turns;omega) hi (by rw [em];exact e)
  obtain ⟨o',eo,wo⟩:=ac3 hk hF hs _ (n+1) (w.put hj fj) (by omega)
  refine ⟨o',?_,by rw [show n+(hs.length+1)=n+1+hs.length by omega];exact wo⟩
  rw [List.foldl_cons,hF o n h j ej,eo,show n+(hs.length+1)=n+1+hs.length by omega]
theorem ajw {mask k:Nat} (hk:mask+1=2 ^ k) (hs:Array Int) (le:hs.size≤mask+1) {F:Option (Array (Option Nat) × Nat)→Int→Option (Array (Option Nat) × Nat)}
  (hF:∀ o n h j,layClean.free mask o (turns mask) (bits h % (mask+1)) (bits h)=some j→F (some (o,n)) h=some (o.setIfInBounds j (some n),n+1)) :
  ∃ o,(hs.toList.foldl F (some (Array.replicate (mask+1) none,0))).map (·.1)=some o∧Own mask hs.size o:=by
 obtain ⟨o,e,w⟩:=ac3 hk hF hs.toList _ 0 (aw2 mask) (by simpa using le)
 rw [e]
 exact ⟨o,rfl,by simpa using w⟩
theorem ae4 {mask k:Nat} (hk:mask+1=2 ^ k) (hs:Array Int) (le:hs.size≤mask+1):∃ o,layClean mask hs=some o∧Own mask hs.size o:=by
 unfold layClean
 rw [← Array.foldl_toList]
 refine ajw hk hs le fun o n h j ej=>?_
 simp only [Option.bind_eq_bind,Option.bind_some,ej]
 rfl
theorem ajx {mask n:Nat} {o:Array (Option Nat)} (w:Own mask n o):((List.range (mask+1)).filterMap fun j=>(o.getD j none).map (j, ·)).map (·.2)=o.toList.filterMap id:=by
 have e:o.toList=(List.range (mask+1)).map fun j=>o.getD j none:=by
  refine List.ext_getElem (by simp [w.size]) fun i h1 h2=>?_
  have hs:i<o.size:=by simpa using h1
  simp [Array.getD,hs]
 rw [e,List.filterMap_map,List.map_filterMap]
 congr 1
 funext j
 show _=o.getD j none
 cases o.getD j none<;>rfl
theorem ah1 {mask k f m:Nat} {l p:Bool} (hk:mask+1=2 ^ k) (hs:Array Int) (le:hs.size≤mask+1):∃ t o,laid mask f m l p hs=some (t,o)∧t.mask=mask∧t.dummies = #[]∧t.plain=p∧t.place.size=hs.size∧(∀ i (h:i<t.place.size),t.place[i]≤mask)∧o.toList.Perm (List.range hs.size):=by
 obtain ⟨o,e,w⟩:=ae4 hk hs le
 unfold laid
 rw [e]
 have ls:=ajx w
 have len:((List.range (mask+1)).filterMap fun j=>(o.getD j none).map (j, ·)).length=hs.size:=by
  have:=w.all.length_eq
  rw [← ls,List.length_map,List.length_range] at this
  exact this
 refine ⟨_,_,rfl,rfl,rfl,rfl,by simpa using len,fun i hi=>?_,?_⟩
 ·have hm:=Array.getElem_mem hi
  simp only [List.mem_toArray,List.mem_map,List.mem_filterMap,List.mem_range] at hm
  obtain ⟨⟨a,b⟩,⟨j,hj,x⟩,y⟩:=hm
  cases g:o.getD j none with
  | none=>rw [g] at x;cases x
  | some z =>
   rw [g] at x
   cases x
   exact Nat.le_of_lt_succ (y ▸ hj)
 ·show List.Perm (List.map _ _) _
  exact (ls ▸ w.all)
theorem ac4 (n:Nat):∀ (fuel a:Nat),n<2 ^ (a+fuel)→∃ b,a≤b∧sizeAbove.go n fuel (2 ^ a)=2 ^ b∧n<2 ^ b
 | 0,a,h=>⟨a,Nat.le_refl _,rfl,h⟩
 | fuel+1,a,h=>by
  unfold sizeAbove.go
  split
  ·obtain ⟨b,h1,h2,h3⟩:=ac4 n fuel (a+1) (by rw [show a+1+fuel=a+(fuel+1) by omega];exact h)
   exact ⟨b,by omega,h2,h3⟩
  ·exact ⟨a,Nat.le_refl _,rfl,by omega⟩
theorem above {n:Nat} (h:n<2 ^ 67):∃ b,3≤b∧sizeAbove n=2 ^ b∧n<2 ^ b:=ac4 n 64 3 h
end SETH
namespace SETH
open PySem PySem.SetTable SETA
theorem gap:∀ (l:List Nat) (a:Nat),l.Pairwise (· < ·)→(∀ x∈l,a≤x)→∃ y,a≤y∧y≤a+l.length∧y ∉ l
 | [],a,_,_=>⟨a,Nat.le_refl _,Nat.le_refl _,List.not_mem_nil⟩
 | x::l,a,p,g=>by
  obtain ⟨p1,p2⟩:=List.pairwise_cons.mp p
  have gx:=g x (List.mem_cons_self ..)
  rw [List.length_cons]
  by_cases e:x=a
  ·obtain ⟨y,h1,h2,h3⟩:=gap l (a+1) p2 fun z hz=>by have:=p1 z hz;omega
   exact ⟨y,by omega,by omega,fun c=>(List.mem_cons.mp c).elim (fun c=>by omega) h3⟩
  ·exact ⟨a,Nat.le_refl _,by omega,fun c=>(List.mem_cons.mp c).elim (fun c=>e c.symm) fun c=>by have:=p1 a c;omega⟩
structure Gs (t:SetTable):Prop where
 gd:Gd t
 pow:∃ k,t.mask+1=2 ^ k
 big:7≤t.mask
 le:∀ i (h:i<t.place.size),t.place[i]≤t.mask
 plain:t.plain=true
theorem ajy (f m:Nat) (l:Bool):Gs (.fresh f m l):=⟨aju f m l,⟨3,rfl⟩,Nat.le_refl _,fun i h=>absurd h (Nat.not_lt_zero _),rfl⟩
theorem a7q {t:SetTable} (g:Gd t):t.fill=t.place.size:=by unfold fill;rw [g.dm];rfl
theorem a6i {t:SetTable} {p:Probe} (h:p.j+p.more≤t.mask):(t.advance p).j+(t.advance p).more≤t.mask:=by
 by_cases hm:p.more > 0
 ·rw [a3u hm]
  show p.j+1+(p.more - 1)≤_
  omega
 ·rw [a3v (by omega)]
  have h1:(leap t.mask p.i p.perturb).1≤t.mask:=Nat.le_of_lt_succ (Nat.mod_lt _ (Nat.succ_pos _))
  have h2:=a5c h1
  have h3:=a5b t.mask (leap t.mask p.i p.perturb).1
  show (leap t.mask p.i p.perturb).1+(runEnd t.mask (leap t.mask p.i p.perturb).1 - (leap t.mask p.i p.perturb).1)≤_
  omega
theorem aov {t:SetTable} {ha:Nat→Int} {h:Int}:∀ (fuel:Nat) (p:Probe) (j:Nat) (d:Option Nat),p.j+p.more≤t.mask→probe.go t ha h fuel p=some (.empty j d)→j≤t.mask
 | 0,p,j,d,_,e=>by cases e
 | fuel+1,p,j,d,hp,e=>by
  unfold probe.go at e
  split at e
  ·cases e
   omega
  ·exact aov fuel _ j d (a6i (p:={ p with dummy:=some p.j }) hp) e
  ·split at e
   ·cases e
   ·exact aov fuel _ j d (a6i hp) e
theorem aow {t:SetTable} {h:Int} {j:Nat} {b:Bool} (e:t.freeSlot h=some (j,b)) (hb:b=false):j≤t.mask:=by
 unfold freeSlot at e
 split at e
 ·rename_i j' d x
  have:=aov _ _ j' d (by
   have h1:bits h % (t.mask+1)≤t.mask:=Nat.le_of_lt_succ (Nat.mod_lt _ (Nat.succ_pos _))
   have h2:=a5c h1
   have h3:=a5b t.mask (bits h % (t.mask+1))
   show bits h % (t.mask+1)+(runEnd t.mask (bits h % (t.mask+1)) - bits h % (t.mask+1))≤t.mask
   omega) x
  cases d with
  | none=>cases e;exact this
  | some d=>cases e;cases hb
 ·cases e
theorem alz {xs:Array Nat} {a b z:Nat} (h:z∈xs.extract a b):z∈xs:=by
 obtain ⟨i,hi,e⟩:=Array.mem_iff_getElem.mp h
 rw [Array.getElem_extract] at e
 exact e ▸ Array.getElem_mem _
theorem a5d {α:Type} (xs:Array α) (p:Nat) (x:α) (hp:p≤xs.size):(insertAt xs p x).size=xs.size+1:=by
 simp [insertAt]
 omega
theorem ah2 {t:SetTable} (g:Gs t) (es:Array (Int × Value)) (hs:t.place.size=es.size) (rest:t.fill*5<t.mask*3) (h:Int) (x:Value) :
  Gs (layNew t es h x).2.1∧(layNew t es h x).2.2.2=false∧(layNew t es h x).2.1.fits (layNew t es h x).1.size=true∧(layNew t es h x).2.1.mask=t.mask∧(layNew t es h x).2.1.place.size=es.size+1:=by
 have big:=g.big
 have fl:=a7q g.gd
 obtain ⟨k,hk⟩:=g.pow
 obtain ⟨y,_,hy,ny⟩:=gap t.place.toList 0 (a93 g.gd.ri) fun _ _=>Nat.zero_le _
 rw [Array.length_toList] at hy
 obtain ⟨⟨j,b⟩,e⟩:=a7p hk g.gd.dm (y:=y) (by omega) (fun i hi c=>ny (by rw [← c];simp)) h
 obtain ⟨f1,f2⟩:=a5a g.gd e
 have hj:=aow e f2
 have bl:=(a03 g.gd.ri j).1
 have sz1:(t.put j).1.place.size=es.size+1:=by
  show (insertAt t.place _ j).size=_
  rw [a5d _ _ _ bl,hs]
 have sz2:(insertAt es (t.put j).2 (h,x)).size=es.size+1:=a5d _ _ _ (by show below t.place j≤_;omega)
 have gp:=alw g.gd f1
 have ft:(t.put j).1.fits (insertAt es (t.put j).2 (h,x)).size=true:=by
  unfold fits
  rw [a7q gp,sz1,sz2]
  have:es.size+1≤(t.put j).1.mask:=by show _≤t.mask;omega
  simp [this]
 have pl:∀ z∈(t.put j).1.place,z≤t.mask:=fun z hz=>by
  have hz:z∈insertAt t.place (below t.place j) j:=hz
  simp only [insertAt,Array.mem_append,Array.mem_push] at hz
  rcases hz with (hz | hz) | hz
  ·obtain ⟨i,hi,e⟩:=Array.mem_iff_getElem.mp (alz hz)
   exact e ▸ g.le i hi
  ·omega
  ·obtain ⟨i,hi,e⟩:=Array.mem_iff_getElem.mp (alz hz)
   exact e ▸ g.le i hi
 have gs:Gs (t.put j).1:=⟨gp,g.pow,g.big,fun i hi=>pl _ (Array.getElem_mem hi),g.plain⟩
 have eq:layNew t es h x=(insertAt es (t.put j).2 (h,x),(t.put j).1,b,false):=by
  unfold layNew
  rw [e]
  simp only [ft,orStandIn,if_true,Bool.not_true]
 rw [eq]
 exact ⟨gs,rfl,ft,rfl,sz1⟩
theorem am0 {es:Array (Int × Value)}:∀ l:List Nat,(∀ x∈l,x<es.size)→(l.filterMap (es[·]?)).length=l.length
 | [],_=>rfl
 | x::l,h=>by
  rw [List.filterMap_cons,Array.getElem?_eq_getElem (h x (List.mem_cons_self ..))]
  exact congrArg (·+1) (am0 l fun z hz=>h z (List.mem_cons_of_mem _ hz))
theorem ajz {t:SetTable} (g:Gs t) (es:Array (Int × Value)) {n:Nat} (hn:n<2 ^ 67) (big:es.size*2≤n) (pos:0<es.size) :
  Gs (relayAll t es n).2.1∧(relayAll t es n).2.2=false∧(relayAll t es n).2.1.fits (relayAll t es n).1.size=true∧(relayAll t es n).2.1.fill*5<(relayAll t es n).2.1.mask*3:=by
 obtain ⟨b,h3,eb,lb⟩:=above hn
 have p8:2 ^ 3≤2 ^ b:=Nat.pow_le_pow_right (by decide) h3
 have hk:sizeAbove n - 1+1=2 ^ b:=by omega
 obtain ⟨t',o,e,hm,hd,hp,hs,hl,ho⟩:=ah1 (f:=t.finger) (m:=t.movedTo (sizeAbove n - 1)) (l:=t.led) (p:=t.plain) hk (es.map (·.1)) (by rw [Array.size_map];omega)
 rw [Array.size_map] at hs ho
 have gd':=(agw e).1
 have cov:coversAll o es.size=true:=List.isPerm_iff.mpr ho
 have sz:(o.filterMap (es[·]?)).size=es.size:=by
  rw [← Array.length_toList,Array.toList_filterMap,am0 _ fun x hx=>List.mem_range.mp (ho.mem_iff.mp hx),ho.length_eq,List.length_range]
 have fl:=a7q gd'
 have ft:t'.fits (o.filterMap (es[·]?)).size=true:=by
  unfold fits
  rw [fl,sz,hs]
  have:es.size≤t'.mask:=by omega
  simp [this]
 have eq:relayAll t es n=(o.filterMap (es[·]?),t',false):=by
  unfold relayAll relaid
  rw [e]
  simp only [cov,ft,Bool.and_self,if_true]
 rw [eq]
 exact ⟨⟨gd',⟨b,by rw [hm];exact hk⟩,by rw [hm];omega,fun i hi=>by rw [hm];exact hl i hi,hp.trans g.plain⟩,rfl,ft,by show t'.fill*5<t'.mask*3;omega⟩
end SETH
namespace SETB
open PySem PySem.Spec PyProof.Rows SETA
def kOf:Int × Value→Int
 | (_, .int k _)=>k
 | _=>0
def AllI (l:List (Int × Value)):Prop:=∀ e∈l,∃ k t,e=(hashInt k,Value.int k t)
def Gr (t:SetTable):Prop:=SETH.Gs t∧t.fill*5<t.mask*3
def SetI (b:Bool) (a:Addr) (ks:List Int) (h:Heap):Prop :=
 ∃ o es ep t,h.get? a=some o∧o.ExactSet∧o.data = .set es ep t∧AllI es.toList∧(es.toList.map kOf).Perm ks∧es.size<scanBound∧t.fits es.size=true∧Gr t∧t.led=b
theorem SetI.keep {b:Bool} {a:Addr} {ks:List Int} {h h':Heap} (x:SetI b a ks h) (k:∀ o,h.get? a=some o→h'.get? a=some o):SetI b a ks h':=by
 obtain ⟨o,es,ep,t,ho,r⟩:=x
 exact ⟨o,es,ep,t,k o ho,r⟩
theorem SetI.len {b:Bool} {a:Addr} {ks:List Int} {h:Heap} (x:SetI b a ks h):ks.length<scanBound:=by
 obtain ⟨o,es,ep,t,_,_,_,_,p,hb,_⟩:=x
 have:=p.length_eq
 rw [List.length_map,Array.length_toList] at this
 omega
section
variable {prog:Program} {w:World} {E:Value→Shared→Prop} {A:Around} {s:Shared}
theorem AllI.el {l:List (Int × Value)} (h:AllI l):ElemsOf (intKind prog w) l:=fun e he=>by
 obtain ⟨k,t,rfl⟩:=h e he
 exact ⟨⟨k,by simp [intKind,Value.isInt],rfl⟩,rfl⟩
theorem awy {e:Int × Value} {k j:Int} {t:Tok} (h:e=(hashInt j,Value.int j t)):(intKind prog w).is k e.2=decide (k=j):=by
 subst h
 by_cases q:k=j
 ·subst q;simp [intKind,Value.isInt]
 ·rw [decide_eq_false q]
  show Value.isInt k (Value.int j t)=false
  simp only [Value.isInt,beq_eq_false_iff_ne,ne_eq]
  first | exact q | exact fun z=>q z.symm
theorem ac6 {l:List (Int × Value)} (h:AllI l) {k:Int}:l.findIdx? (fun e=>(intKind prog w).is k e.2)=none↔k ∉ l.map kOf:=by
 rw [List.findIdx?_eq_none_iff]
 constructor
 ·intro n m
  obtain ⟨e,he,q⟩:=List.mem_map.mp m
  have:=n e he
  obtain ⟨j,t,rfl⟩:=h e he
  rw [awy rfl] at this
  have:¬ k=j:=of_decide_eq_false this
  exact this q.symm
 ·intro n e he
  obtain ⟨j,t,rfl⟩:=h e he
  rw [awy rfl]
  exact decide_eq_false fun z=>n (List.mem_map.mpr ⟨_,he,z.symm⟩)
theorem stored (prog:Program) (w:World) {b:Bool} {a:Addr} {o:Obj} {es es':Array (Int × Value)} {ep:Nat} {t t':SetTable} {ks:List Int} {h:Heap} (ho:h.get? a=some o) (hex:o.ExactSet) (hd:o.data = .set es ep t) (al:AllI es'.toList) (p:(es'.toList.map kOf).Perm ks) (sz:es'.size<scanBound) (f:t'.fits es'.size=true) (g:Gr t') (l:t'.led=b) :
  SetI b a ks (h.update a (Obj.putSet es' t')):=by
 have e:=SetOf_store (knd:=intKind prog w) (S':=fun k=>es'.toList.any fun e=>(intKind prog w).is k e.2) ho hex hd al.el (fun k=>List.any_eq_true) sz f
 exact ⟨_,es',ep+1,t',e.1,hex,rfl,al,p,sz,f,g,l⟩
theorem held (prog:Program) (w:World) {a:Addr} {o:Obj} {es es':Array (Int × Value)} {ep:Nat} {t t':SetTable} {h:Heap} (ho:h.get? a=some o) (hex:o.ExactSet) (hd:o.data = .set es ep t) (al:AllI es'.toList) (sz:es'.size<scanBound) (f:t'.fits es'.size=true) :
  ∃ o1 ep1,(h.update a (Obj.putSet es' t')).get? a=some o1∧o1.ExactSet∧o1.data = .set es' ep1 t':=by
 have e:=SetOf_store (knd:=intKind prog w) (S':=fun k=>es'.toList.any fun e=>(intKind prog w).is k e.2) ho hex hd al.el (fun k=>List.any_eq_true) sz f
 exact ⟨_,ep+1,e.1,hex,rfl⟩
theorem size_of {t:SetTable} {n:Nat} (hf:t.fits n=true):t.place.size=n:=by
 simp only [SetTable.fits,Bool.and_eq_true,beq_iff_eq] at hf
 exact hf.1
theorem aox {b:Bool} {a:Addr} {o:Obj} {es es1:Array (Int × Value)} {ep:Nat} {t t2:SetTable} {ks:List Int} {wd:Bool} {g:Bool→Sem Unit} {R:Option Bool→Shared→Prop} {rl:Array (Int × Value) × SetTable × Bool}
  (hrl:rl=relayAll t2 es1 (SetTable.grown es1.size))
  (hg:∀ (c:Bool) (z:Shared) (R':Unit→Shared→Prop),R' () z→wpAny (model prog w) A (g c) R' E z)
  (ho:s.heap.get? a=some o) (hex:o.ExactSet) (hd:o.data = .set es ep t) (al:AllI es1.toList) (pm:(es1.toList.map kOf).Perm ks) (sz:es1.size<scanBound) (f:t2.fits es1.size=true) (gs:SETH.Gs t2) (ld:t2.led=b) (hwd:wd=false)
  (fin:∀ h',Heap.SameBut a s.heap h'→SetI b a ks h'→R (some true) { s with heap:=h' }) :
  wpAny (model prog w) A (storeSet a es1 t2>>=fun _=>if (!wd && t2.tooFull)=true then (g rl.2.2>>=fun _=>storeSet a rl.1 rl.2.1>>=fun _=>pure (some true)) else pure (some true)) R E s:=by
 have fl:=SETH.a7q gs.gd
 have ps:=size_of f
 have big:=gs.big
 have sb:=Heap.SameBut.update s.heap a (Obj.putSet es1 t2)
 refine wpAny_bind (wpAny_storeSet_of ho hd ?_ (fits_of_scanBound sz))
 split
 ·rename_i full
  have full:t2.fill*5≥t2.mask*3:=by
   rw [hwd] at full
   simpa [SetTable.tooFull] using full
  have lt:es1.size<4096:=sz
  have p2:=relayAll_perm t2 es1 (SetTable.grown es1.size)
  obtain ⟨g2,_,f2,r2⟩:=SETH.ajz gs es1 (n:=SetTable.grown es1.size) (by unfold SetTable.grown;split<;>omega) (by unfold SetTable.grown;split<;>omega) (by omega)
  have l2:=agx t2 es1 (SetTable.grown es1.size)
  rw [← hrl] at p2 f2 g2 l2 r2
  clear hrl
  obtain ⟨es2,t3,gv⟩:=rl
  have z2:es2.size<scanBound:=by
   have:=p2.length_eq
   simp only [Array.length_toList] at this
   omega
  obtain ⟨o1,p1,ho1,hex1,hd1⟩:=held prog w ho hex hd al sz f
  refine wpAny_bind (hg _ _ _ (wpAny_bind (wpAny_storeSet_of ho1 hd1 (wpAny_pure (fin _ (sb.trans (Heap.SameBut.update _ a _)) ?_)) (fits_of_scanBound z2))))
  exact stored prog w ho1 hex1 hd1 (fun e he=>al e (p2.mem_iff.mp he)) ((p2.map kOf).trans pm) z2 f2 ⟨g2,r2⟩ (l2.trans ld)
 ·rename_i full
  have full:t2.fill*5<t2.mask*3:=by
   rw [hwd] at full
   simpa [SetTable.tooFull] using full
  exact wpAny_pure (fin _ sb (stored prog w ho hex hd al pm sz f ⟨gs,full⟩ ld))
theorem a6j {b:Bool} {a:Addr} {ks:List Int} {k:Int} {tk:Tok} {Q:Bool→Shared→Prop} (hS:SetI b a ks s.heap) (few:ks.length+1<scanBound)
  (q:∀ (h':Heap) (r:Bool),Heap.SameBut a s.heap h'→SetI b a (L2.stepK ks k) h'→Q r { s with heap:=h' }):wpAny (model prog w) A (setAddHashed a (.int k tk) (hashInt k)) Q E s:=by
 obtain ⟨o,es,ep,t,ho,hex,hd,al,pm,sz,ft,gd,ld⟩:=hS
 have hk:(intKind prog w).is k (Value.int k tk)=true:=by simp [intKind,Value.isInt]
 have lk:es.size=ks.length:=by have:=pm.length_eq;rwa [List.length_map,Array.length_toList] at this
 unfold setAddHashed setAddHashedIn
 refine wpAny_holding (wpAny_bind (wpAny_setState_of ho hd ft ?_))
 dsimp only
 rw [byScan_of (knd:=intKind prog w) rfl sz al.el,if_pos rfl]
 unfold setAddByScan
 refine wpAny_bind (wpAny_bind (wpAny_rule (wpAny_bind (wpAny_setScan_of (knd:=intKind prog w) hk ho hd ft al.el ?_))))
 cases c:es.toList.findIdx? (fun e=>(intKind prog w).is k e.2) with
 | some j =>
  have mem:k∈ks:=by
   apply Classical.byContradiction
   intro n
   have:=(ac6 (prog:=prog) (w:=w) al (k:=k)).mpr fun m=>n (pm.mem_iff.mp m)
   rw [this] at c
   cases c
  refine wpAny_pure (wpAny_pure ?_)
  have:=q s.heap false (Heap.SameBut.refl a s.heap) (by rw [show L2.stepK ks k=ks from if_pos mem];exact ⟨o,es,ep,t,ho,hex,hd,al,pm,sz,ft,gd,ld⟩)
  exact this
 | none =>
  have nm:k ∉ ks:=fun m=>(ac6 (prog:=prog) (w:=w) al).mp c (pm.mem_iff.mpr m)
  have es1p:=layNew_perm t es (hashInt k) (.int k tk)
  have wd1:=(agv gd.1.gd es (hashInt k) (.int k tk)).2
  obtain ⟨gs1,_,ft1,_,_⟩:=SETH.ah2 gd.1 es (size_of ft) gd.2 (hashInt k) (.int k tk)
  have ld1:=ae3 t es (hashInt k) (.int k tk)
  generalize layNew t es (hashInt k) (.int k tk)=L at es1p ft1 gs1 ld1 wd1 ⊢
  obtain ⟨es1,t1,wd,gave⟩:=L
  dsimp only at es1p ft1 gs1 ld1 wd1 ⊢
  rw [Array.toList_push] at es1p
  have al1:AllI es1.toList:=fun e he=>by
   rcases List.mem_append.mp (es1p.mem_iff.mp he) with m | m
   ·exact al e m
   ·rw [List.mem_singleton] at m;exact ⟨k,tk,m⟩
  have pm1:(es1.toList.map kOf).Perm (L2.stepK ks k):=by
   rw [show L2.stepK ks k=ks++[k] from if_neg nm]
   refine (es1p.map kOf).trans ?_
   rw [List.map_append]
   exact pm.append_right _
  have sz1:es1.size<scanBound:=by
   have:=es1p.length_eq
   rw [Array.length_toList,List.length_append,Array.length_toList,List.length_singleton] at this
   omega
  have fin:∀ h':Heap,Heap.SameBut a s.heap h'→SetI b a (L2.stepK ks k) h'→wpAny (model prog w) A (pure true) Q E { s with heap:=h' }:=fun h' sb x=>wpAny_pure (q h' true sb x)
  have way:∀ (c:Bool) (z:Shared) (R:Unit→Shared→Prop),R () z→wpAny (model prog w) A (match c with | true=>rule "set.scan.the-table-gave-way" | false=>pure ()) R E z:=fun c z R h=>by
   cases c
   ·exact wpAny_pure h
   ·exact wpAny_rule h
  refine wpAny_bind (way gave _ _ ?_)
  split
  ·refine wpAny_bind ?_
   rw [hashByValue_scannable 8 (x:=.int k tk) rfl]
   refine wpAny_pure ?_
   exact aox rfl way ho hex hd al1 pm1 sz1 ft1 gs1 (ld1.trans ld) wd1 fin
  ·rename_i z
   exact absurd gs1.plain z
end
end SETB
namespace SETB
open PySem PySem.Spec PyProof.Rows SETA
section
variable {prog:Program} {w:World} {E:Value→Shared→Prop} {A:Around} {s:Shared}
theorem SetI.typeIs {b:Bool} {a:Addr} {ks:List Int} (x:SetI b a ks s.heap):s.TypeIs (.ref a) "set":=by
 obtain ⟨o,_,_,_,ho,hex,_⟩:=x
 exact ⟨o,ho,hex.1⟩
theorem ak0 {b:Bool} {a:Addr} {ks:List Int} {k:Int} {tk:Tok} {Q:Value→Shared→Prop} (hS:SetI b a ks s.heap) (few:ks.length+1<scanBound)
  (q:∀ h':Heap,Heap.SameBut a s.heap h'→SetI b a (L2.stepK ks k) h'→Q .none { s with heap:=h',toks:=s.toks+1 }):wpAny (model prog w) A (call (.builtin "set.add") [.ref a, .int k tk]) Q E s:=by
 refine wpAny_call_entry F.slot_set_add hS.typeIs F.entry_set_add ?_ (F.args_set_add_2 _ _)
 show wpAny (model prog w) _ (Builtin.«set.add» ⟨[.ref a, .int k tk],[]⟩) _ _ s
 have e:Builtin.«set.add» ⟨[.ref a, .int k tk],[]⟩=(setAdd a (.int k tk)>>=fun _=>ret .none):=by
  unfold Builtin.«set.add» Builtin.Frozenset.oneOther
  rfl
 rw [e]
 unfold setAdd
 refine wpAny_bind (wpAny_holding (wpAny_bind ((intKind prog w).pyHash (k:=k) (by simp [intKind,Value.isInt]) ?_)))
 exact a6j (s:={ s with toks:=s.toks+1 }) hS few fun h' r sb x=>wpAny_pure ⟨_,rfl,q h' sb x⟩
def a1r (b:Bool):Obj:={ cls:=.type "set",dict:=none,data:=.set #[] 0 (.fresh 0 0 b) }
theorem ah3 {a:Addr} {b:Bool} {h:Heap} (e:h.get? a=some (a1r b)):SetI b a [] h :=
 ⟨_, #[],0,_,e,⟨rfl,rfl,rfl⟩,rfl,fun e he=>by simp at he,by simp,by decide,by simp [SetTable.fits,SetTable.fresh,SetTable.fill],⟨SETH.ajy _ _ _,by show 0*5<7*3;decide⟩,rfl⟩
def byT (w:World):Bool:=w.params.followText "set-order"
theorem aaj {Q:Value→Shared→Prop} (q:Q (.ref s.heap.objs.size) { s with heap:=s.heap.push (a1r (!byT w)) }):wpAny (model prog w) A (newSet (.type "set")) Q E s:=by
 unfold newSet setsByText
 refine wpAny_bind (wpAny_bind (wpAny_askSetting (wpAny_pure ?_)))
 exact wpAny_newObj_type q
end
end SETB
set_option maxHeartbeats 1000000
namespace SETB
open PySem PySem.Spec PyProof.Rows SETA PySem.Builtin
def itO (f:Value) (i:Nat) (a:Addr) (n ep:Nat):Obj:={ cls:=.type "set_iterator",data:=.fields #[f,rawInt i, .ref a,rawInt n,rawInt ep] }
theorem slot_next:Slot "set_iterator" "__next__" "set_iterator.__next__" :=
 .of (owner := "set_iterator") (n := "__next__") (by rw [typeLookup_type,builtinLookup_eq_fast];kernel_rfl) (by decide +kernel) (by decide +kernel) (by decide +kernel)
  (Or.inl (by decide +kernel)) (by rw [isSubtype_type];kernel_rfl)
theorem entry_next:entryFor table "set_iterator.__next__" = some Builtin.«set_iterator.__next__»:=entryFor_of_fast (by kernel_rfl)
theorem args_next (a:Value):argsOk "set_iterator.__next__" ⟨[a],[]⟩:=by unfold argsOk;kernel_rfl
theorem ae5:entryFor table "set.__iter__" = some Builtin.«frozenset.__iter__» :=
 entryFor_alias (id' := "frozenset.__iter__") (by kernel_rfl) rfl (by decide +kernel) (by kernel_rfl)
theorem ah4 (a:Value):argsOk "set.__iter__" ⟨[a],[]⟩:=by unfold argsOk;kernel_rfl
section
variable {prog:Program} {w:World} {E:Value→Shared→Prop} {A:Around} {s:Shared}
theorem a7r {Q:Bool→Shared→Prop} (q:Q (byT w) s):wpAny (model prog w) A setsByText Q E s:=by
 unfold setsByText
 exact wpAny_bind (wpAny_askSetting (wpAny_pure q))
theorem a5e {a:Addr} {o:Obj} {es:Array (Int × Value)} {ep i slot ep' k:Nat} {t:SetTable} {Q:Option (Value × Nat)→Shared→Prop} (ho:s.heap.get? a=some o) (hd:o.data = .set es ep t) (hf:t.fits es.size=true) (bt:byT w=false) (pl:t.plain=true∨es.size≤1) (ld:t.led=true) (hk:SetTable.below t.place slot=k)
  {r:Option (Value × Nat)} (hr:(∃ h x j,es[k]? = some (h,x)∧t.place[k]? = some j∧r=some (x,j+1))∨(es[k]? = none∧r=none)) (q:Q r s):wpAny (model prog w) A (setNext a slot i ep') Q E s:=by
 subst hk
 unfold setNext
 apply wpAny_bind
 apply wpAny_setState_of ho hd hf
 apply wpAny_bind
 apply a7r
 simp only [bt,Bool.false_eq_true,if_false]
 split
 ·rename_i z
  have z:(!t.plain && decide (es.size > 1))=true:=z
  rcases pl with p | p
  ·rw [p] at z
   cases z
  ·rw [decide_eq_false (by omega),Bool.and_false] at z
   cases z
 have led:∀ R:Unit→Shared→Prop,R () s→wpAny (model prog w) A (if (!t.led && !es.isEmpty)=true then unsupported "set:maker-not-led" else pure ()) R E s:=fun R r=>by
  rw [ld]
  exact wpAny_pure r
 refine wpAny_bind (led _ (wpAny_pure ?_))
 rcases hr with ⟨h,x,j,e,f,rfl⟩ | ⟨e,rfl⟩
 ·rw [e,f];exact q
 ·rw [e];exact q
def Tells (w:World) (a:Addr) (slot i ep:Nat) (r:Option (Value × Nat)) (s:Shared):Prop:=∀ (prog:Program) (A:Around) (E:Value→Shared→Prop) (Q:Option (Value × Nat)→Shared→Prop),Q r s→wpAny (model prog w) A (setNext a slot i ep) Q E s
theorem next_item {it a:Addr} {o:Obj} {es:Array (Int × Value)} {ep i slot nx:Nat} {t:SetTable} {x:Value} {Q:Option Value→Shared→Prop} (hi:s.heap.get? it=some (itO (rawInt slot) i a es.size ep)) (ho:s.heap.get? a=some o) (hd:o.data = .set es ep t) (hf:t.fits es.size=true) (hn:Tells w a slot i ep (some (x,nx)) s)
  (q:∀ h':Heap,h'.get? it=some (itO (rawInt nx) (i+1) a es.size ep)→Heap.SameBut it s.heap h'→Q (some x) { s with heap:=h' }):wpAny (model prog w) A (pyNext (.ref it)) Q E s:=by
 have hT:s.TypeIs (.ref it) "set_iterator":=⟨_,hi,rfl⟩
 unfold pyNext
 refine wpAny_bind (wpAny_attempt (wpAny_callSpecial?_slot (name:=Str.ofString "__next__") hT slot_next (wpAny_call_entry slot_next hT entry_next ?_ (args_next _))))
 unfold Builtin.«set_iterator.__next__»
 have hn':∀ {A:Around} {E:Value→Shared→Prop} {Q:Option (Value × Nat)→Shared→Prop},Q _ s→wpAny (model prog w) A (setNext a (slot:Int).toNat (i:Int).toNat (ep:Int).toNat) Q E s:=fun {A E Q} r=>hn prog A E Q r
 wp_walk using hn',wpAny_setState_of ho hd hf
 exact ⟨x,rfl,wpAny_pure (q _ (Heap.get?_update_self _ (Heap.get?_update_self _ hi rfl) rfl) ((Heap.SameBut.update ..).trans (Heap.SameBut.update ..)))⟩
theorem ah5 {it a:Addr} {o:Obj} {es:Array (Int × Value)} {ep i slot:Nat} {t:SetTable} {Q:Option Value→Shared→Prop} (hh:A.handled=none) (hi:s.heap.get? it=some (itO (rawInt slot) i a es.size ep)) (ho:s.heap.get? a=some o) (hd:o.data = .set es ep t) (hf:t.fits es.size=true) (hn:Tells w a slot i ep none s)
  (q:∀ h':Heap,Heap.ExtBut it s.heap h'→Q none { s with heap:=h' }):wpAny (model prog w) A (pyNext (.ref it)) Q E s:=by
 have hT:s.TypeIs (.ref it) "set_iterator":=⟨_,hi,rfl⟩
 unfold pyNext
 refine wpAny_bind (wpAny_attempt (wpAny_callSpecial?_slot (name:=Str.ofString "__next__") hT slot_next (wpAny_call_entry slot_next hT entry_next ?_ (args_next _))))
 unfold Builtin.«set_iterator.__next__»
 have hn':∀ {A:Around} {E:Value→Shared→Prop} {Q:Option (Value × Nat)→Shared→Prop},Q _ s→wpAny (model prog w) A (setNext a (slot:Int).toNat (i:Int).toNat (ep:Int).toNat) Q E s:=fun {A E Q} r=>hn prog A E Q r
 wp_walk using hn',wpAny_setState_of ho hd hf
 unfold raiseNew
 apply wpAny_bind
 apply wpAny_handled
 rw [show A.in1.handled=_ from hh]
 wp_walk
 show wpAny (model prog w) A (isSubtype (.type "StopIteration") (.type "StopIteration")) _ _ _
 rw [isSubtype_stop]
 exact wpAny_pure (wpAny_pure (q _ fun b o hb e=>Heap.get?_push_of_some _ (Heap.get?_push_of_some _ ((Heap.SameBut.update s.heap it _).extBut b o hb e))))
end
end SETB
set_option maxHeartbeats 1000000
namespace SETB
open PySem PySem.Spec PyProof.Rows SETA PySem.Builtin
def slotAt (t:SetTable) (i:Nat):Nat:=if i=0 then 0 else t.place.getD (i - 1) 0+1
theorem ah6 {t:SetTable} (g:Gd t) {i:Nat} (h:i≤t.place.size):SetTable.below t.place (slotAt t i)=i:=by
 unfold slotAt
 split
 ·rename_i z
  subst z
  exact aot g.ri
 ·have hk:i - 1<t.place.size:=by omega
  have e:t.place.getD (i - 1) 0=t.place[i - 1]:=by simp [Array.getD,hk]
  rw [e,adz g.ri hk]
  omega
section
variable {prog:Program} {w:World} {E:Value→Shared→Prop} {A:Around} {s:Shared} {a:Addr} {o:Obj} {es:Array (Int × Value)} {ep i:Nat} {t:SetTable}
theorem ae6 (ho:s.heap.get? a=some o) (hd:o.data = .set es ep t) (hf:t.fits es.size=true) (bt:byT w=false) (pl:t.plain=true∨es.size≤1) (ld:t.led=true) (g:Gd t) (hi:i<es.size):Tells w a (slotAt t i) i ep (some (es[i].2,slotAt t (i+1))) s:=fun prog A E Q q=>by
 have sz:=size_of hf
 refine a5e ho hd hf bt pl ld (ah6 g (by omega)) (.inl ⟨_,_,_,Array.getElem?_eq_getElem hi,Array.getElem?_eq_getElem (by omega),rfl⟩) ?_
 have e:slotAt t (i+1)=t.place[i]'(by omega)+1:=by
  unfold slotAt
  rw [if_neg (by omega)]
  simp [Array.getD,show i<t.place.size by omega]
 rw [e] at q
 exact q
theorem ae7 (ho:s.heap.get? a=some o) (hd:o.data = .set es ep t) (hf:t.fits es.size=true) (bt:byT w=false) (pl:t.plain=true∨es.size≤1) (ld:t.led=true) (g:Gd t):Tells w a (slotAt t es.size) es.size ep none s:=fun prog A E Q q=>by
 have sz:=size_of hf
 exact a5e ho hd hf bt pl ld (ah6 g (by omega)) (.inr ⟨Array.getElem?_eq_none (by omega),rfl⟩) q
theorem ak1 {Q:Value→Shared→Prop} (ho:s.heap.get? a=some o) (hex:o.ExactSet) (hd:o.data = .set es ep t) (hf:t.fits es.size=true) (nd:byT w=true∨t.plain=true∨es.size≤1)
  (q:Q (.ref s.heap.objs.size) { s with heap:=s.heap.push (itO (rawInt 0) 0 a es.size ep) }):wpAny (model prog w) A (pyIter (.ref a)) Q E s:=by
 have ht:s.TypeIs (.ref a) "set":=⟨_,ho,hex.1⟩
 refine wpAny_pyIter_slot ht F.slot_set_iter (wpAny_call_entry F.slot_set_iter ht ae5 ?_ (ah4 _))
 have dr:∀ {A:Around} {E:Value→Shared→Prop} {Q:Bool→Shared→Prop},Q false s→wpAny (model prog w) A (setDrawn a) Q E s:=fun {A E Q} r=>by
  unfold setDrawn
  refine wpAny_bind (wpAny_setState_of ho hd hf (wpAny_bind (a7r (wpAny_pure ?_))))
  have:(!byT w && (!t.plain && decide (es.size > 1)))=false:=by
   rcases nd with z | z | z
   ·rw [z];rfl
   ·rw [z];simp
   ·rw [decide_eq_false (by omega)];simp
  rw [← this] at r
  exact r
 unfold Builtin.«frozenset.__iter__»
 wp_walk using dr,wpAny_setState_of ho hd hf
 exact ⟨_,rfl, "set_iterator",_,⟨_,Heap.get?_push_size _ rfl,rfl⟩,slot_next.lookup,q⟩
end
end SETB
set_option maxHeartbeats 1000000
namespace SETB
open PySem PySem.Spec PyProof.Rows SETA PySem.Builtin
theorem a6k {α:Type}:∀ (l:List α) (i:Nat) (h:i<l.length),(l[i]::l.eraseIdx i).Perm l
 | x::l,0,_=>.refl _
 | x::l,i+1,h=>(List.Perm.swap ..).trans ((a6k l i (Nat.lt_of_succ_lt_succ h)).cons x)
theorem ah7 {α:Type} (nx:Nat→Nat):∀ (n k:Nat) (l:List α) (out:Array α),l.length=n→(pickOrder.go nx n k l out).toList.Perm (out.toList++l)
 | 0,k,l,out,e=>by
  cases l with
  | nil=>simp [pickOrder.go]
  | cons x l=>cases e
 | n+1,k,l,out,e=>by
  have hi:nx k % l.length<l.length:=Nat.mod_lt _ (by omega)
  unfold pickOrder.go
  rw [List.getElem?_eq_getElem hi]
  refine (ah7 nx n (k+1) _ _ (by rw [List.length_eraseIdx_of_lt hi];omega)).trans ?_
  rw [Array.toList_push,List.append_assoc]
  exact (a6k l _ hi).append_left _
theorem ah8 {α:Type} (nx:Nat→Nat) (xs:Array α):(pickOrder nx xs).toList.Perm xs.toList:=by
 have:=ah7 nx xs.size 0 xs.toList #[] (by simp)
 simpa [pickOrder] using this
def ac8 (w:World) (a:Addr) (ep:Nat) (es:Array (Int × Value)):Array (Int × Value):=if byT w then pickOrder (w.params.setOrder a ep) es else es
theorem aca (w:World) (a:Addr) (ep:Nat) (es:Array (Int × Value)):(ac8 w a ep es).toList.Perm es.toList:=by
 unfold ac8
 split
 ·exact ah8 _ _
 ·exact .refl _
theorem a2l (w:World) (a:Addr) (ep:Nat) (es:Array (Int × Value)):(ac8 w a ep es).size=es.size:=by
 have:=(aca w a ep es).length_eq
 simpa using this
def a7s (w:World) (t:SetTable) (i:Nat):Nat:=if byT w then 0 else slotAt t i
section
variable {prog:Program} {w:World} {E:Value→Shared→Prop} {A:Around} {s:Shared} {a:Addr} {o:Obj} {es:Array (Int × Value)} {ep i:Nat} {t:SetTable}
theorem a96 {Q:Array (Int × Value)→Shared→Prop} (ho:s.heap.get? a=some o) (hd:o.data = .set es ep t) (hf:t.fits es.size=true) (bt:byT w=true) (q:Q (pickOrder (w.params.setOrder a ep) es) s):wpAny (model prog w) A (setWalk a) Q E s:=by
 unfold setWalk
 apply wpAny_bind
 apply wpAny_setState_of ho hd hf
 apply wpAny_bind
 apply a7r
 simp only [bt,if_true]
 exact wpAny_bind (wpAny_askSetting (wpAny_pure q))
theorem a97 {slot:Nat} {Q:Option (Value × Nat)→Shared→Prop} (ho:s.heap.get? a=some o) (hd:o.data = .set es ep t) (hf:t.fits es.size=true) (bt:byT w=true)
  (q:Q (((pickOrder (w.params.setOrder a ep) es)[i]?).map fun e=>(e.2,slot)) s):wpAny (model prog w) A (setNext a slot i ep) Q E s:=by
 unfold setNext
 apply wpAny_bind
 apply wpAny_setState_of ho hd hf
 apply wpAny_bind
 apply a7r
 simp only [bt,if_true,bne_self_eq_false,Bool.false_eq_true,if_false]
 first
 | exact wpAny_bind (a96 ho hd hf bt (wpAny_pure q))
 | exact wpAny_bind (wpAny_pure (wpAny_bind (a96 ho hd hf bt (wpAny_pure q))))
theorem aoy (ho:s.heap.get? a=some o) (hd:o.data = .set es ep t) (hf:t.fits es.size=true) (nd:byT w=true∨t.plain=true∨es.size≤1) (ld:t.led = !byT w) (g:Gd t) (hi:i<(ac8 w a ep es).size):Tells w a (a7s w t i) i ep (some ((ac8 w a ep es)[i].2,a7s w t (i+1))) s:=by
 have sz:=a2l w a ep es
 cases bt:byT w with
 | true =>
  intro prog A E Q q
  refine a97 ho hd hf bt ?_
  have e:pickOrder (w.params.setOrder a ep) es=ac8 w a ep es:=by unfold ac8;rw [bt];rfl
  rw [e,Array.getElem?_eq_getElem hi]
  unfold a7s at q ⊢
  rw [bt] at q ⊢
  exact q
 | false =>
  have e:ac8 w a ep es=es:=by unfold ac8;rw [bt];rfl
  rw [bt] at ld
  have:=ae6 (i:=i) ho hd hf bt (nd.resolve_left (by rw [bt];decide)) ld g (by omega)
  unfold a7s
  rw [bt]
  simp only [e,Bool.false_eq_true,if_false]
  exact this
theorem ah9 (ho:s.heap.get? a=some o) (hd:o.data = .set es ep t) (hf:t.fits es.size=true) (nd:byT w=true∨t.plain=true∨es.size≤1) (ld:t.led = !byT w) (g:Gd t):Tells w a (a7s w t es.size) es.size ep none s:=by
 have sz:=a2l w a ep es
 cases bt:byT w with
 | true =>
  intro prog A E Q q
  refine a97 ho hd hf bt ?_
  have e:pickOrder (w.params.setOrder a ep) es=ac8 w a ep es:=by unfold ac8;rw [bt];rfl
  rw [e,Array.getElem?_eq_none (by omega)]
  exact q
 | false =>
  rw [bt] at ld
  have:=ae7 ho hd hf bt (nd.resolve_left (by rw [bt];decide)) ld g
  unfold a7s
  rw [bt]
  exact this
end
end SETB
set_option maxHeartbeats 1000000
namespace SETB
open PySem PySem.Spec PyProof.Rows SETA PySem.Builtin
theorem slot_self:Slot "set_iterator" "__iter__" "set_iterator.__iter__" :=
 .of (owner := "set_iterator") (n := "__iter__") (by rw [typeLookup_type,builtinLookup_eq_fast];kernel_rfl) (by decide +kernel) (by decide +kernel) (by decide +kernel)
  (Or.inl (by decide +kernel)) (by rw [isSubtype_type];kernel_rfl)
theorem entry_self:entryFor table "set_iterator.__iter__" = some Builtin.«dict_keyiterator.__iter__»:=entryFor_alias (id' := "dict_keyiterator.__iter__") (by kernel_rfl) rfl (by decide +kernel) (by kernel_rfl)
theorem args_self (a:Value):argsOk "set_iterator.__iter__" ⟨[a],[]⟩:=by unfold argsOk;kernel_rfl
section
variable {prog:Program} {w:World} {A:Around} {a I:Addr} {o:Obj} {es:Array (Int × Value)} {ep:Nat} {t:SetTable}
theorem aoz {s:Shared} {E:Value→Shared→Prop} {Q:Value→Shared→Prop} (ht:s.TypeIs (.ref I) "set_iterator") (q:Q (.ref I) s):wpAny (model prog w) A (pyIter (.ref I)) Q E s:=by
 refine wpAny_pyIter_slot ht slot_self (wpAny_call_entry slot_self ht entry_self ?_ (args_self _))
 show wpAny (model prog w) _ (ret (.ref I)) _ _ s
 exact wpAny_pure ⟨_,rfl, "set_iterator",_,ht,slot_next.lookup,q⟩
theorem aha (hh:A.handled=none) (ne:a≠I) (hd:o.data = .set es ep t) (hf:t.fits es.size=true) (nd:byT w=true∨t.plain=true∨es.size≤1) (ld:t.led = !byT w) (g:Gd t) :
  Walks prog w A I [I,a] [I] es.size (fun i v=>((ac8 w a ep es)[i]?).map (·.2)=some v) (fun i h=>h.get? I=some (itO (rawInt (a7s w t i)) i a es.size ep)∧h.get? a=some o) where
 sub:=fun b hb=>List.mem_cons.mpr (.inl (List.mem_singleton.mp hb))
 frame:=fun _ _ _ st hk=>⟨hk I (by simp) _ st.1,hk a (by simp) _ st.2⟩
 item:=fun i s Q E hi st q=>by
  have hi':i<(ac8 w a ep es).size:=by rw [a2l];exact hi
  refine next_item st.1 st.2 hd hf (aoy st.2 hd hf nd ld g hi') fun h' e sb=>?_
  exact q _ h' s.toks (by rw [Array.getElem?_eq_getElem hi'];rfl) ⟨e,sb.extBut a o ne st.2⟩ fun b o hb e=>sb.extBut b o (fun h=>hb (by simp [h])) e
 done:=fun s Q E st q=>ah5 hh st.1 st.2 hd hf (ah9 st.2 hd hf nd ld g) fun h' e=>q h' s.toks fun b o hb x=>e b o (fun h=>hb (by simp [h])) x
 self:=fun i s Q E st q=>aoz ⟨_,st.1,rfl⟩ q
end
end SETB
namespace SETB
open PySem PySem.Spec PyProof.Rows SETA PySem.Builtin
theorem ahb {prog:Program} {w:World} {A:Around} {s:Shared} {E:Value→Shared→Prop} {a:Addr} {ks:List Int} {Q:Value→Shared→Prop} (hh:A.handled=none) (hS:SetI (!byT w) a ks s.heap)
  (q:∀ (es:Array (Int × Value)) (St:Nat→Heap→Prop),AllI es.toList→(es.toList.map kOf).Perm ks→∀ h':Heap,(∀ b o,s.heap.get? b=some o→h'.get? b=some o)→h'.objs.size=s.heap.objs.size+1→St 0 h' →
   Walks prog w A s.heap.objs.size [s.heap.objs.size,a] [s.heap.objs.size] es.size (fun i v=>(es[i]?).map (·.2)=some v) St→Q (.ref s.heap.objs.size) { s with heap:=h' }):wpAny (model prog w) A (pyIter (.ref a)) Q E s:=by
 obtain ⟨o,es,ep,t,ho,hex,hd,al,pm,sz,ft,gr,ld⟩:=hS
 have nd:byT w=true∨t.plain=true∨es.size≤1:=.inr (.inl gr.1.plain)
 refine ak1 ho hex hd ft nd ?_
 have ne:a≠s.heap.objs.size:=fun c=>by
  rw [c] at ho
  simp [Heap.get?] at ho
 have W:=aha (prog:=prog) (I:=s.heap.objs.size) hh ne hd ft nd ld gr.1.gd
 have pp:=aca w a ep es
 rw [← a2l w a ep es] at W
 refine q (ac8 w a ep es) _ (fun e he=>al e (pp.mem_iff.mp he)) ((pp.map kOf).trans pm) _ (fun b o e=>Heap.get?_push_of_some _ e) (by simp [Heap.push]) ⟨?_,Heap.get?_push_of_some _ ho⟩ W
 have s0:a7s w t 0=0:=by unfold a7s slotAt;simp
 rw [s0,a2l]
 exact Heap.get?_push_size _ rfl
end SETB
set_option maxHeartbeats 1000000
namespace SETB
open PySem PySem.Spec PyProof.Rows SETA PySem.Builtin
section
variable {prog:Program} {w:World} {A:Around} {s:Shared} {E:Value→Shared→Prop} {a:Addr} {ks:List Int}
theorem ak2 {Q:Bool→Shared→Prop} (ht:s.TypeIs (.ref a) "set") (q:Q false s):wpAny (model prog w) A (Builtin.List.listLengthHint (.ref a)) Q E s:=by
 unfold Builtin.List.listLengthHint
 refine wpAny_bind (wpAny_specialOf ht F.slot_set_len.lookup ?_)
 have sp:splitId "set.__len__" = some ("set", "__len__"):=by decide +kernel
 dsimp only
 rw [sp]
 dsimp only
 apply wpAny_bind
 apply wpAny_isInstance (T := "set") (b:=true) ht (by rw [isSubtype_type];kernel_rfl)
 rw [if_neg (by decide)]
 refine wpAny_ite_split (fun _=>?_) fun n=>absurd (by decide +kernel) n
 apply wpAny_bind
 apply wpAny_typeOf ht
 exact wpAny_pure q
theorem aak {Q:List Value→Shared→Prop} (hh:A.handled=none) (hS:SetI (!byT w) a ks s.heap)
  (q:∀ (vs:List Value) (js:List Int) (s':Shared),js.Perm ks→vs.length=js.length→(∀ (i:Nat) (v:Value),vs[i]? = some v→∃ k t,js[i]? = some k∧v=Value.int k t)→Moved [] (fun x y=>y=x) s s'→s.heap.objs.size≤s'.heap.objs.size→Q vs s'):wpAny (model prog w) A (collect (.ref a)) Q E s:=by
 unfold collect
 apply wpAny_bind
 apply wpAny_runValue
 apply codeAny_builtin F.entry_proto_collect
 rw [Around.under_plainId F.plain_proto_collect _]
 unfold Builtin.«proto.collect»
 wp_walk
 refine ⟨plainId_quiet F.plain_list_iadd _,codeAny_builtin F.entry_list_iadd ?_⟩
 rw [Around.under_plainId F.plain_list_iadd _]
 obtain ⟨o,ho,hT⟩:∃ o,s.heap.get? a=some o∧o.cls = .type "set":=by
  obtain ⟨o,es,ep,t,ho,hex,_⟩:=hS
  exact ⟨o,ho,hex.1⟩
 have lt:=Heap.lt_size ho
 have up:∀ b x,s.heap.get? b=some x→(s.heap.push { cls:=.type "list",data:=.seq #[] }).get? b=some x:=fun b x e=>Heap.get?_push_of_some _ e
 have sz0:(s.heap.push { cls:=.type "list",data:=.seq #[] }).objs.size=s.heap.objs.size+1:=by simp [Heap.push]
 have hL:(s.heap.push { cls:=.type "list",data:=.seq #[] }).get? s.heap.objs.size=some { cls:=.type "list",data:=.seq #[] }:=Heap.get?_push_size _ rfl
 have hS0:=hS.keep fun x e=>up a x e
 have few:=hS.len
 generalize s.heap.push { cls:=.type "list",data:=.seq #[] }=h0 at up sz0 hL hS0 ⊢
 show wpAny (model prog w) A.in1 (Builtin.List.listExtendWith (.ref s.heap.objs.size) (.ref a) (.ref s.heap.objs.size)) _ _ _
 unfold Builtin.List.listExtendWith
 apply wpAny_bind
 have ht0:({ s with heap:=h0 }:Shared).TypeIs (.ref a) "set":=⟨o,up a o ho,hT⟩
 apply wpAny_typeOf ht0
 have far:s.heap.objs.size≠a:=Nat.ne_of_gt lt
 rw [if_neg (by simp [Builtin.List.listSameRef,far])]
 apply wpAny_bind
 refine ahb (s:={ s with heap:=h0 }) hh hS0 fun es St al pm h1 ext sz1 st W=>?_
 apply wpAny_bind
 apply wpAny_holding
 have ht1:({ s with heap:=h1 }:Shared).TypeIs (.ref a) "set":=⟨o,ext a o (up a o ho),hT⟩
 apply ak2 ht1
 refine wpAny_ite_split (fun _=>?_) fun n=>absurd (by decide +kernel) n
 apply wpAny_bind
 apply wpAny_rule
 apply wpAny_bind
 have n1:es.size=ks.length:=by
  have:=pm.length_eq
  rwa [List.length_map,Array.length_toList] at this
 have hL1:=ext _ _ hL
 show wpAny (model prog w) A.in1 (updateSeq s.heap.objs.size (·.push .none)>>=fun _=>updateSeq s.heap.objs.size (·.pop)) _ _ _
 refine wpAny_bind (wpAny_updateSeq hL1 rfl ?_)
 have hL2:=Heap.get?_update_self (Obj.mapSeq (·.push Value.none)) hL1 rfl
 refine wpAny_updateSeq hL2 rfl ?_
 have hL3:=Heap.get?_update_self (Obj.mapSeq (·.pop)) hL2 rfl
 have oth:∀ b x,b≠s.heap.objs.size→h1.get? b=some x→((h1.update s.heap.objs.size (Obj.mapSeq (·.push Value.none))).update s.heap.objs.size (Obj.mapSeq (·.pop))).get? b=some x :=
  fun b x hb e=>(Heap.get?_update_other _ _ (Ne.symm hb)).trans ((Heap.get?_update_other _ _ (Ne.symm hb)).trans e)
 have hf:s.heap.objs.size ∉ [h0.objs.size,a]:=fun c=>by
  simp only [List.mem_cons,List.not_mem_nil,or_false] at c
  rcases c with c | c
  ·exact Nat.ne_of_lt (Nat.lt_of_lt_of_eq (Nat.lt_succ_self _) sz0.symm) c
  ·exact far c
 refine wpAny_pure ⟨plainId_quiet F.plain_extend_loop _,codeAny_extend_loopS W.toS (by have:ks.length<4096:=few;rw [n1];unfold sizeLine;omega) _ hf _ es.size 0 _ _ _ rfl (Nat.zero_le _)
  (W.frame 0 h1 _ st fun b hb x e=>oth b x (fun c=>hf (c ▸ hb)) e) hL3 (ItemsOf.nil _) fun s' acc c' hm hA hI=>?_⟩
 show wpAny (model prog w) A (load s.heap.objs.size>>=_) _ _ s'
 apply wpAny_bind
 apply wpAny_load hA
 refine wpAny_pure (q acc.toList (es.toList.map kOf) s' pm (by rw [Array.length_toList,hI.1,List.length_map,Array.length_toList]) (fun i v e=>?_) ⟨fun b x _ e=>?_,hm.gens,hm.drawn,hm.os,hm.toks⟩ (Nat.le_of_lt (Heap.lt_size hA)))
 ·have this:(es[i]?).map (·.2)=some v:=hI.2 i v (by simpa using e)
  cases g:es[i]? with
  | none=>rw [g] at this;cases this
  | some y =>
   rw [g] at this
   have m:y∈es.toList:=by
    obtain ⟨hi,z⟩:=Array.getElem?_eq_some_iff.mp g
    rw [← z]
    simp
   obtain ⟨k,t,rfl⟩:=al y m
   cases this
   exact ⟨k,t,by simp [g,kOf],rfl⟩
 ·have lb:=Heap.lt_size e
  refine hm.heap b x (fun c=>?_) (oth b x (Nat.ne_of_lt lb) (ext b x (up b x e)))
  simp only [List.mem_cons,List.not_mem_nil,or_false] at c
  rcases c with c | c
  ·exact Nat.ne_of_lt lb c
  ·exact Nat.ne_of_lt (Nat.lt_of_lt_of_eq (Nat.lt_succ_of_lt lb) sz0.symm) c
end
end SETB
set_option maxHeartbeats 1000000
namespace SETB
open PySem PySem.Spec PyProof.Rows SETA PySem.Builtin
section
variable {prog:Program} {w:World} {A:Around} {s:Shared} {E:Value→Shared→Prop} {a:Addr} {ks:List Int}
theorem ints_of {vs:List Value} {js:List Int} (len:vs.length=js.length) (h:∀ (i:Nat) (v:Value),vs[i]? = some v→∃ k t,js[i]? = some k∧v=Value.int k t):IntsAre vs js:=by
 have all:∀ v,v∈vs→∃ n t,v=Value.int n t:=fun v hv=>by
  obtain ⟨i,hi,e⟩:=List.mem_iff_getElem.mp hv
  obtain ⟨k,t,_,z⟩:=h i v (by rw [List.getElem?_eq_getElem hi,e])
  exact ⟨k,t,z⟩
 have e:vs.map numOf=js:=by
  refine List.ext_getElem (by rw [List.length_map,len]) fun i h1 h2=>?_
  have hi:i<vs.length:=by omega
  obtain ⟨k,t,x,z⟩:=h i vs[i] (List.getElem?_eq_getElem hi)
  rw [List.getElem_map,z]
  rw [List.getElem?_eq_getElem h2] at x
  cases x
  rfl
 have:=intsAre_map vs all
 rwa [e] at this
theorem ae8 {Q:Value→Shared→Prop} (hh:A.handled=none) (hS:SetI (!byT w) a ks s.heap) (h64:ks.length<64)
  (q:∀ (l:Addr) (out:Array Value) (e:Nat) (s':Shared),s.heap.objs.size≤l→IntsAre out.toList (PySem.W.sortI ks)→s'.heap.get? l=some (seqObj "list" out e)→Moved [] (fun x y=>y=x) s s'→Q (.ref l) s') :
  wpAny (model prog w) A (call (.builtin "sorted") [.ref a]) Q E s:=by
 refine Calls.call_function_entry kind_sorted plain_sorted entry_sorted (args_sorted1 _) ?_
 unfold Builtin.«sorted»
 apply wpAny_bind (m:=checkCount "sorted" 1 1 _)
 apply wpAny_pure
 apply wpAny_bind
 refine aak hh hS fun vs js s1 pj len it mv up=>?_
 have hI:=ints_of len it
 have l64:vs.length<64:=by rw [len,pj.length_eq];exact h64
 apply wpAny_bind
 refine wpAny_newList ?_ (hsz:=by rw [sizeLine_eq];omega)
 have hL:(s1.heap.push (seqObj "list" vs.toArray 0)).get? s1.heap.objs.size=some (seqObj "list" vs.toArray 0):=Heap.get?_push_size _ rfl
 apply wpAny_bind
 apply wpAny_holding
 refine wpAny_call_entry slot_list_sort (s:={ s1 with heap:=s1.heap.push (seqObj "list" vs.toArray 0) }) ⟨_,hL,rfl⟩ entry_list_sort (list_sort_tree hL hI l64 fun out ns a1 a2 a3=>⟨_,rfl,?_⟩) (args_list_sort _)
 have e2:ns=PySem.W.sortI ks:=PySem.W.eq_sortI (a2.trans pj) a3
 subst e2
 obtain ⟨e,he⟩:=sortedHeap_at (out:=out) hL
 refine wpAny_pure ⟨_,rfl,q _ out e _ ?_ a1 he ⟨fun b x hb g=>?_,mv.gens,mv.drawn,mv.os,mv.toks⟩⟩
 ·exact up
 ·have g1:=mv.heap b x hb g
  have lt:=Heap.lt_size g1
  show (sortedHeap _ _ _ _).get? b=some x
  rw [sortedHeap_old (Nat.ne_of_lt lt) (by rw [size_push'];exact Nat.lt_succ_of_lt lt)]
  exact Heap.get?_push_of_some _ g1
end
end SETB
set_option maxHeartbeats 1000000
namespace L2
open PySem PySem.Spec PyProof.Rows SETB
def ap0 (w:World) (a:Addr) (ks:List Int):HO:=.ext fun h=>SetI (!byT w) a ks h
section
variable {X:Cx}
theorem a0q (hc:X.calm=true):CallR X (.builtin "sorted") (fun xs H Q=>∃ (p:Addr) (ks:List Int),xs=[.ref p]∧H p=some (ap0 X.w p ks)∧ks.length<64∧∀ l,H l=none→Q (.ref l) (upd H l (.lst ((PySem.W.sortI ks).map V.int)))):=by
 intro pins s σ H xs us Q I r ⟨p,ks,e,hp,h64,q⟩
 subst e
 obtain ⟨u,rfl,ru⟩:=vals1 r
 cases ru
 obtain ⟨hS,_⟩:=I.hok p _ hp
 refine ae8 (I.ok.hd hc) hS h64 fun l out e s' hl a1 he mv=>?_
 obtain ⟨h',g',d',t',o'⟩:=s'
 obtain ⟨mh,mg,md,mo,mt⟩:=mv
 dsimp only at mh mg md mo mt he
 subst mg md mo
 have ln:(PySem.W.sortI ks).length=ks.length:=(PySem.W.sortI_perm ks).length_eq
 refine ⟨.ref l,_,I.laid (t':=t') (fun b u g=>mh b u (by simp) g) hl (show ObjOk X.prog X.w _ _ _ (.lst ((PySem.W.sortI ks).map V.int)) from ⟨by rw [List.length_map,ln];have:=sizeLine_eq;omega,out.toList,e,a4j a1,by simpa [seqObj] using he⟩),rfl,q _ (I.hok.fresh hl)⟩
theorem ahc {P:Program} {w:World} {H:Hp} {h:Heap} {a:Addr} {ks:List Int} (x:SetI (!byT w) a ks h):ObjOk P w H h a (ap0 w a ks):=by
 refine ⟨x,?_,fun h1 h2 p k=>p.keep k⟩
 obtain ⟨o,_,_,_,ho,_⟩:=x
 exact ⟨o,ho⟩
end
end L2
set_option maxHeartbeats 1000000
namespace L2
open PySem PySem.Spec PyProof.Rows SETB
section
variable {prog:Program} {w:World} {A:Around} {R:Result→Shared→Prop} {s:Shared} {elt t0 i0 t1 i1:Expr} {scope:Scope} {pos:Pos} {it acc:Value} {env:Env}
theorem ae9 (J:Nat→Shared→Prop)
  (step:∀ m z,J m z→wpAny (model prog w) A (pyNext it) (fun got z1=>match got with
   | none=>R (.ok .next) z1
   | some v=>wpAny (model prog w) A (letOwnedTupleGo t1 it v) (fun _ z2=>wpAny (model prog w) A (assign t1 env v) (fun _ z3=>wpAny (model prog w) A (eval elt env) (fun x z4 =>
     wpAny (model prog w) A (call (.builtin "set.add") [acc,x]) (fun _ z5=>∃ m',m'<m∧J m' z5) (fun _ _=>False) z4)
     (fun _ _=>False) z3) (fun _ _=>False) z2) (fun _ _=>False) z1) (fun _ _=>False) z)
  (m:Nat) (j0:J m s):codeAny (model prog w) A (.compLoop (.SetComp elt [⟨t0,i0,[],0⟩,⟨t1,i1,[],0⟩] scope pos) 1 it acc env) R s:=by
 refine codeAny_loop rfl J (fun m z hj=>(wpAny_noted ?_:wpAny _ _ ((compTurn (.SetComp elt [⟨t0,i0,[],0⟩,⟨t1,i1,[],0⟩] scope pos) 1 it acc env).onRaise _) _ _ z)) m j0
 show wpAny (model prog w) _ (standAt i1.pos>>=fun _=>pyNext it>>=_) _ _ z
 apply wpAny_bind
 apply wpAny_standAt
 apply wpAny_bind
 refine wpAny_mono (step m z hj) (fun got z1 h1=>?_) fun _ _ no=>no.elim
 match got,h1 with
 | none,h1=>exact wpAny_pure h1
 | some v,h1 =>
  apply wpAny_bind
  refine wpAny_mono h1 (fun _ z2 h2=>?_) fun _ _ no=>no.elim
  apply wpAny_bind
  refine wpAny_mono h2 (fun _ z3 h3=>?_) fun _ _ no=>no.elim
  show wpAny (model prog w) _ ((eval elt env>>=fun x=>standAt elt.pos>>=fun _=>call (.builtin "set.add") [acc,x]>>=fun _=>pure ())>>=_) _ _ _
  apply wpAny_bind
  apply wpAny_bind
  refine wpAny_mono h3 (fun x z4 h4=>?_) fun _ _ no=>no.elim
  apply wpAny_bind
  apply wpAny_standAt
  apply wpAny_bind
  exact wpAny_mono h4 (fun _ z5 h5=>wpAny_pure (wpAny_pure ⟨rfl,h5⟩)) fun _ _ no=>no.elim
theorem aal (h0:codeAny (model prog w) A (.compLoop (.SetComp elt [⟨t0,i0,[],0⟩,⟨t1,i1,[],0⟩] scope pos) 1 it acc env) R s)
  (h:wpAny (model prog w) A (pyIter it) (fun it' s'=>codeAny (model prog w) A (.compLoop (.SetComp elt [⟨t0,i0,[],0⟩,⟨t1,i1,[],0⟩] scope pos) 1 it' acc env) R s') (fun _ _=>False) s) :
  codeAny (model prog w) A (.compStart (.SetComp elt [⟨t0,i0,[],0⟩,⟨t1,i1,[],0⟩] scope pos) 1 it acc env) R s:=by
 apply codeAny_of_tree
 show wpAny (model prog w) _ ((compStart (.SetComp elt [⟨t0,i0,[],0⟩,⟨t1,i1,[],0⟩] scope pos) 1 it acc env).onRaise _) _ _ s
 apply wpAny_onRaise
 unfold compStart
 show wpAny (model prog w) _ (ask>>=_) _ _ s
 apply wpAny_bind
 apply wpAny_askSetting
 refine wpAny_ite ?_
 split
 ·first
  | exact wpAny_pure ⟨rfl,h0⟩
  | exact wpAny_bind (wpAny_pure (wpAny_pure ⟨rfl,h0⟩))
 ·apply wpAny_bind
  apply wpAny_rule
  show wpAny (model prog w) _ (standAt i1.pos>>=_) _ _ s
  apply wpAny_bind
  apply wpAny_standAt
  apply wpAny_bind
  exact wpAny_mono h (fun it' s' h'=>wpAny_pure ⟨rfl,h'⟩) fun _ _ no=>no.elim
theorem aam (J:Nat→Shared→Prop)
  (step:∀ m z,J m z→wpAny (model prog w) A (pyNext it) (fun got z1=>match got with
   | none=>R (.ok .next) z1
   | some v=>wpAny (model prog w) A (letOwnedTupleGo t0 it v) (fun _ z2=>wpAny (model prog w) A (assign t0 env v) (fun _ z3=>wpAny (model prog w) A (eval i1 env) (fun x z4 =>
     wpAny (model prog w) A (foldedSetIterable i1 env x) (fun y z5=>wpAny (model prog w) A (pyIter y) (fun it1 z6 =>
      codeAny (model prog w) A (.compStart (.SetComp elt [⟨t0,i0,[],0⟩,⟨t1,i1,[],0⟩] scope pos) 1 it1 acc env) (fun r z7=>∃ f,r = .ok f∧∃ m',m'<m∧J m' z7) z6) (fun _ _=>False) z5) (fun _ _=>False) z4)
     (fun _ _=>False) z3) (fun _ _=>False) z2) (fun _ _=>False) z1) (fun _ _=>False) z)
  (m:Nat) (j0:J m s):codeAny (model prog w) A (.compLoop (.SetComp elt [⟨t0,i0,[],0⟩,⟨t1,i1,[],0⟩] scope pos) 0 it acc env) R s:=by
 refine codeAny_loop rfl J (fun m z hj=>(wpAny_noted ?_:wpAny _ _ ((compTurn (.SetComp elt [⟨t0,i0,[],0⟩,⟨t1,i1,[],0⟩] scope pos) 0 it acc env).onRaise _) _ _ z)) m j0
 show wpAny (model prog w) _ (standAt i0.pos>>=fun _=>pyNext it>>=_) _ _ z
 apply wpAny_bind
 apply wpAny_standAt
 apply wpAny_bind
 refine wpAny_mono (step m z hj) (fun got z1 h1=>?_) fun _ _ no=>no.elim
 match got,h1 with
 | none,h1=>exact wpAny_pure h1
 | some v,h1 =>
  apply wpAny_bind
  refine wpAny_mono h1 (fun _ z2 h2=>?_) fun _ _ no=>no.elim
  apply wpAny_bind
  refine wpAny_mono h2 (fun _ z3 h3=>?_) fun _ _ no=>no.elim
  show wpAny (model prog w) _ (eval i1 env>>=_) _ _ _
  apply wpAny_bind
  refine wpAny_mono h3 (fun x z4 h4=>?_) fun _ _ no=>no.elim
  apply wpAny_bind
  apply wpAny_standAt
  show wpAny (model prog w) _ (foldedSetIterable i1 env x>>=_) _ _ _
  apply wpAny_bind
  refine wpAny_mono h4 (fun y z5 h5=>?_) fun _ _ no=>no.elim
  show wpAny (model prog w) _ (holding [y] (pyIter y)>>=_) _ _ _
  apply wpAny_bind
  apply wpAny_holding
  refine wpAny_mono h5 (fun it1 z6 h6=>?_) fun _ _ no=>no.elim
  apply wpAny_bind
  refine wpAny_runOwn (codeAny_mono h6 fun r z7 h7=>?_)
  obtain ⟨f,rfl,h8⟩:=h7
  exact wpAny_pure ⟨rfl,h8⟩
end
end L2
namespace L2
open PySem PySem.Spec PyProof.Rows SETB
theorem ahd {elt:Expr} {gens:List Comprehension} {scope:Scope} {pos:Pos} {env:Env}:eval (.SetComp elt gens scope pos) env =
  comprehension (.SetComp elt gens scope pos) scope env (firstIterPos gens pos) (newSet (.type "set")) (firstAsync gens) (firstIter gens env):=rfl
section
variable {prog:Program} {w:World} {A:Around} {R:Result→Shared→Prop} {s:Shared} {elt t0 i0 t1 i1:Expr} {scope:Scope} {pos:Pos} {it acc:Value} {env:Env}
theorem a98 (h0:codeAny (model prog w) A (.compLoop (.SetComp elt [⟨t0,i0,[],0⟩,⟨t1,i1,[],0⟩] scope pos) 0 it acc env) R s)
  (h:wpAny (model prog w) A (pyIter it) (fun it' s'=>codeAny (model prog w) A (.compLoop (.SetComp elt [⟨t0,i0,[],0⟩,⟨t1,i1,[],0⟩] scope pos) 0 it' acc env) R s') (fun _ _=>False) s) :
  codeAny (model prog w) A (.compStart (.SetComp elt [⟨t0,i0,[],0⟩,⟨t1,i1,[],0⟩] scope pos) 0 it acc env) R s:=by
 apply codeAny_of_tree
 show wpAny (model prog w) _ ((compStart (.SetComp elt [⟨t0,i0,[],0⟩,⟨t1,i1,[],0⟩] scope pos) 0 it acc env).onRaise _) _ _ s
 apply wpAny_onRaise
 unfold compStart
 show wpAny (model prog w) _ (ask>>=_) _ _ s
 apply wpAny_bind
 apply wpAny_askSetting
 refine wpAny_ite ?_
 split
 ·first
  | exact wpAny_pure ⟨rfl,h0⟩
  | exact wpAny_bind (wpAny_pure (wpAny_pure ⟨rfl,h0⟩))
 ·apply wpAny_bind
  apply wpAny_rule
  show wpAny (model prog w) _ (standAt i0.pos>>=_) _ _ s
  apply wpAny_bind
  apply wpAny_standAt
  apply wpAny_bind
  exact wpAny_mono h (fun it' s' h'=>wpAny_pure ⟨rfl,h'⟩) fun _ _ no=>no.elim
end
section
variable {X:Cx}
theorem aea {pins:List (Addr × Obj)} {σ σ':St} {H H':Hp} {s s':Shared} {scope:Scope} {cl:List (Str × Addr)} {N:List Str} {C acc:Addr} {fp:List Addr} {h':Heap} {ho:HO} (I:Inv X pins σ H s)
  (hf:∀ b∈fp,FpOk X pins H b) (hC:s.heap.objs.size≤C) (hacc:s.heap.objs.size≤acc)
  (J:Inv (cxC X N scope cl C fp s H) [] σ' H' s') (hn:H' acc=none) (hob:ObjOk X.prog X.w (upd H' acc ho) h' acc ho) (sb:Heap.SameBut C s'.heap h') :
  Inv X pins σ (upd H' acc ho) { s' with heap:=h' }:=by
 have k:∀ b o,b≠C→s'.heap.get? b=some o→h'.get? b=some o:=fun b o hb e=>sb.extBut b o hb e
 have old:∀ b o,s.heap.get? b=some o→b≠C∧b≠acc:=fun b o e=>⟨Nat.ne_of_lt (Nat.lt_of_lt_of_le (Heap.lt_size e) hC),Nat.ne_of_lt (Nat.lt_of_lt_of_le (Heap.lt_size e) hacc)⟩
 have u0:Un (frs X.stack) fp H H' s.heap s'.heap:=J.base
 have fC:H' C=none:=J.free
 have u:Un (frs X.stack) fp H (upd H' acc ho) s.heap h':=by
  refine ⟨fun b o e n' hb hx=>k b o (old b o e).1 (u0.keep b o e n' hb hx),fun b o e n' hb hx=>?_,fun b o e n' hx=>?_,fun b o e hx=>?_,fun b xs e=>?_,fun b o v e=>?_,fun b ps e=>?_⟩
  ·obtain ⟨sl,e1⟩:=u0.slot b o e n' hb hx
   exact ⟨sl,k b _ (old b o e).1 e1⟩
  ·rw [dw (old b o e).2];exact u0.free b o e n' hx
  ·obtain ⟨o',e1⟩:=u0.there b o e hx
   exact ⟨o',k b _ (old b o e).1 e1⟩
  ·rw [dw (d8 (u0.tups b xs e) hn)];exact u0.tups b xs e
  ·rw [dw (d8 (u0.frzs b o v e) hn)];exact u0.frzs b o v e
  ·obtain ⟨more,e1⟩:=u0.tbls b ps e
   exact ⟨more,by rw [dw (d8 e1 hn)];exact e1⟩
 have hok:HOk X.prog X.w (upd H' acc ho) h':=fun b o e=>by
  by_cases hb:b=acc
  ·subst hb;rw [jq] at e;cases e
   exact hob
  ·rw [dw hb] at e
   refine (J.hok b o e).stay (fun c v hc q=>k c v ?_ q) (fun c q=>by rw [dw (d8 q hn)];exact q) fun c xs q=>by rw [dw (d8 q hn)];exact q
   rcases hc with z | z
   ·rw [z];exact d8 e fC
   ·exact d8 z fC
 have J':=I.call (g':=s'.gens) (t':=s'.toks) (d':=s'.drawn) (ch:=fp) u hok J.bare fun b hb=>⟨(hf b hb).2.2.2.1,(hf b hb).2.1,(hf b hb).2.2.2.2.1,(hf b hb).2.2.2.2.2⟩
 have eo:s'.os=s.os:=J.os
 obtain ⟨hp,g,d,t,o⟩:=s'
 have eo':o=s.os:=eo
 subst eo'
 exact J'
theorem FpOk.on {Y:Cx} {pins:List (Addr × Obj)} {H H':Hp} {b:Addr} {L:List Addr} {h:Heap} (f:FpOk Y pins H b) (hp:Y.pn=[]) (hn:H' b=none) (ne:b ∉ L):FpOk Y (v7 L h) H' b:=by
 obtain ⟨_,f1,f2,f3,f4,_⟩:=f
 refine ⟨hn,f1,f2,f3,f4,fun p hq z=>ne ?_⟩
 rw [hp] at hq
 have:=(a8a (show p∈v7 L h from hq)).1
 rw [← z];exact this
def awz (w:World) (wi1:TI) (s0:St) (g0 g1:TG) (te:TE) (Q:VK) (J0:It) (H1:Hp):Prop :=
 ∃ W:Nat→Nat→List Int→Hp→Prop,(∃ m,W 0 m [] H1)∧∀ i m ks H,W i m ks H →
  (J0.stop i H∧∀ p,H p=none→Q (.ref p) (upd H p (ap0 w p ks))) ∨
  (J0.go i H∧∀ x H',J0.yld i H x H'→g0 x s0 H' fun σ2 H2=>Ext s0 σ2∧wi1 σ2 H2 fun J1 H3=>∃ V:Nat→Nat→List Int→Hp→Prop,(∃ n,V 0 n ks H3)∧∀ j n ks H,V j n ks H →
   (J1.stop j H∧∃ m',m'<m∧W (i+1) m' ks H) ∨
   (J1.go j H∧∀ y H',J1.yld j H y H'→g1 y σ2 H' fun σ3 H4=>Ext σ2 σ3∧te σ3 H4 fun z H5=>∃ k,z = .int k∧ks.length+1<scanBound∧∃ n',n'<n∧V (j+1) n' (stepK ks k) H5))
def aw3 (w:World) (wi0 wi1:TI) (s0:St→St) (g0 g1:TG) (te:TE):TE:=fun σ H Q=>wi0 σ H fun J0 H1=>awz w wi1 (s0 σ) g0 g1 te Q J0 H1
theorem ap1 {elt t0 i0 t1 i1:Expr} {scope:Scope} {pos:Pos} {cl:List (Str × Addr)} {ts fr:List Str} {ix:List Nat} {wi0 wi1:TI} {g0 g1:TG} {te:TE} (hc:X.calm=true) (S:CSc X scope cl ts fr ix) (hi0:PI X t0 i0 wi0)
  (hg0:∀ C fp s H,PG (cxC X (ts++fr) scope cl C fp s H) t0 g0) (hi1:∀ C fp s H,PI (cxC X (ts++fr) scope cl C fp s H) t1 i1 wi1) (hg1:∀ C fp s H,PG (cxC X (ts++fr) scope cl C fp s H) t1 g1) (he:∀ C fp s H,PE (cxC X (ts++fr) scope cl C fp s H) elt te)
  (hs0:∀ x,foldedSetIterable i0 X.env x=pure x:=by intro _;rfl) (hs1:∀ env x,foldedSetIterable i1 env x=pure x:=by intro _ _;rfl) :
  PE X (.SetComp elt [⟨t0,i0,[],0⟩,⟨t1,i1,[],0⟩] scope pos) (aw3 X.w wi0 wi1 (ju ts.length ix) g0 g1 te):=by
 intro pins s σ H Q I h
 rw [ahd]
 refine wpAny_comprehension_free (use:=none) rfl hs0 S.clos S.kind S.names (thn (hi0 pins s σ H _ I h) fun v s1 h1=>thn h1 fun itv s2 h2=>?_)
 obtain ⟨it,fp,tn,J,H2,e,I2,T,st2,f2,W,⟨m0,w0⟩,turn⟩:=h2
 subst e
 have hob:∀ b∈fp,b<s2.heap.objs.size:=fun b hb=>let ⟨o,e,_⟩:=T.obj _ _ st2 b hb;Heap.lt_size e
 refine aaj (wpAny_newFunctionEnv S.nocell (by intro y hy;simp at hy) (fun h4 hns4 hsb4=>?_) S.kind)
 dsimp only at hns4 hsb4 ⊢
 generalize hH2:s2.heap.push (a1r (!byT X.w))=G at hns4 hsb4 ⊢
 have hCs:G.objs.size=s2.heap.objs.size+1:=by rw [← hH2,Heap.size_push]
 have hCle:s2.heap.objs.size≤G.objs.size:=by omega
 have hne:G.objs.size≠s2.heap.objs.size:=by omega
 have old:∀ b o,s2.heap.get? b=some o→h4.get? b=some o:=fun b o e=>by
  have hlt:=Heap.lt_size e
  exact hsb4.extBut b o (Nat.ne_of_lt (Nat.lt_of_lt_of_le hlt hCle)) (Heap.get?_push_of_some _ (hH2 ▸ Heap.get?_push_of_some _ e))
 have hacc:SetI (!byT X.w) s2.heap.objs.size [] h4 :=
  ah3 (hsb4.extBut _ _ (Ne.symm hne) (Heap.get?_push_of_some _ (hH2 ▸ Heap.get?_push_size _ rfl)))
 have K0:Inv (cxC X (ts++fr) scope cl G.objs.size fp s2 H2) [] (ju ts.length ix σ) H2 { s2 with heap:=h4,toks:=s2.toks+([]:List (Str × Value)).length } :=
  aa1 S I2 f2 hob hCle old hns4 rfl rfl
 have st4:tn 0 h4:=T.keep _ _ _ st2 fun b _ o e=>old b o e
 have accF:s2.heap.objs.size ∉ fp:=fun z=>Nat.lt_irrefl _ (hob _ z)
 generalize hY:cxC X (ts++fr) scope cl G.objs.size fp s2 H2=Y at K0
 have Yc:Y.calm=true:=by rw [← hY];exact hc
 have Yp:Y.prog=X.prog:=by rw [← hY];rfl
 have Yw:Y.w=X.w:=by rw [← hY];rfl
 have YK:Y.K=X.K:=by rw [← hY];rfl
 have YA:Y.A=X.A:=by rw [← hY];rfl
 have Yn:Y.pn=[]:=by rw [← hY];rfl
 have Ye:Y.env=compEnvC scope cl G.objs.size X.env:=by rw [← hY];rfl
 have Yx:Y.xe=fun _ _=>False:=by rw [← hY];rfl
 have YG0:PG Y t0 g0:=by rw [← hY];exact hg0 _ _ _ _
 have YG1:PG Y t1 g1:=by rw [← hY];exact hg1 _ _ _ _
 have YI1:PI Y t1 i1 wi1:=by rw [← hY];exact hi1 _ _ _ _
 have YE:PE Y elt te:=by rw [← hY];exact he _ _ _ _
 have stat:∀ {H':Hp},(∀ b∈fp,H' b=none)→∀ b∈fp,FpOk Y [] H' b:=fun hn b hb=>by
  rw [← hY]
  exact ⟨hn b hb,fun z=>by have h1:=hob b hb;have z':b=G.objs.size:=z;exact Nat.ne_of_lt (Nat.lt_of_lt_of_le h1 hCle) z',fun z=>(a4k S I2 f2 hob hCle).exfs b hb z, .inl hb,fun x c e=>(f2 b hb).2.2.2.2.1 x c (S.sub x c e),fun p hp=>absurd (show p∈([]:List (Addr × Obj)) from hp) (by simp)⟩
 have statA:∀ {H':Hp},H' s2.heap.objs.size=none→FpOk Y [] H' s2.heap.objs.size:=fun hn=>by
  rw [← hY]
  exact ⟨hn,fun z=>hne (show G.objs.size=s2.heap.objs.size from z.symm),fun z=>by
   obtain ⟨_,o,ho,_⟩:=(a4k S I2 f2 hob hCle).funs.mem z
   exact Nat.lt_irrefl _ (Heap.lt_size ho), .inr (Nat.le_refl _),fun x c e z=>by
   obtain ⟨v,o,ho,_⟩:=I2.cell x c (S.sub x c e)
   rw [z] at ho
   exact Nat.lt_irrefl _ (Heap.lt_size ho),fun p hp=>absurd (show p∈([]:List (Addr × Obj)) from hp) (by simp)⟩
 generalize hacca:s2.heap.objs.size=ac at hacc accF statA hne hCle
 rw [← Yw] at hacc
 have loop:∀ s4:Shared,s4={ s2 with heap:=h4,toks:=s2.toks+([]:List (Str × Value)).length } →
   codeAny (model X.prog X.w) X.A (.compLoop (.SetComp elt [⟨t0,i0,[],0⟩,⟨t1,i1,[],0⟩] scope pos) 0 (.ref it) (.ref ac) (compEnvC scope cl G.objs.size X.env))
    (compPost (model X.prog X.w) X.A X.xe none (EP X pins σ Q) (.ref ac) G.objs.size) s4:=by
  rintro s4 rfl
  refine aam (fun n s'=>∃ i σ' H' ks,Inv Y [] σ' H' s'∧Ext (ju ts.length ix σ) σ'∧tn i s'.heap∧(∀ b∈fp,H' b=none)∧H' ac=none ∧
   SetI (!byT Y.w) ac ks s'.heap∧W i n ks H') ?_ m0
   ⟨0,_,H2,[],K0,⟨rfl,fun _ _ z=>z⟩,st4,fun b hb=>(f2 b hb).1,I2.hok.fresh (by omega),hacc,w0⟩
  rintro n s5 ⟨i,σ5,H5,ks,I5,x5,st5,fr5,fa5,ac5,w5⟩
  have I5':Inv Y [] (ju ts.length ix σ) H5 s5:=I5.weak x5.1.symm x5.2
  have hao:∃ o,s5.heap.get? ac=some o∧∀ v,o.data≠.cell v:=by
   obtain ⟨o,es,ep,t,ho,_,hd,_⟩:=ac5
   exact ⟨o,ho,fun v z=>by rw [hd] at z;cases z⟩
  have I5p:Inv Y (v7 [ac] s5.heap) (ju ts.length ix σ) H5 s5:=Inv.pinned (pins:=[]) (fp:=[ac]) I5' (fun b hb=>by rw [List.mem_singleton.mp hb];exact statA fa5) (fun b hb=>by rw [List.mem_singleton.mp hb];exact hao)
  have F5:∀ b∈fp,FpOk Y (v7 [ac] s5.heap) H5 b:=fun b hb=>(stat fr5 b hb).on Yn (fr5 b hb) (fun z=>accF (by rw [List.mem_singleton.mp z] at hb;exact hb))
  obtain ⟨ao,hao1,hao2⟩:=hao
  have pa:(ac,ao)∈v7 [ac] s5.heap:=j4 (by simp) hao1
  rcases turn i n ks H5 w5 with ⟨stop,qn⟩ | ⟨go,step⟩
  ·rw [← YA]
   refine thn (T.done Y Yp Yw YK Yc i _ s5 _ H5 _ I5p F5 st5 stop) fun r s6 ⟨hr,I6⟩=>?_
   subst hr
   have e6:=(I6.pin (ac,ao) (List.mem_append_right _ pa)).1
   have S6:SetI (!byT Y.w) ac ks s6.heap:=ac5.keep fun o ho=>by rw [hao1] at ho;cases ho;exact e6
   have I6':Inv (cxC X (ts++fr) scope cl G.objs.size fp s2 H2) [] (ju ts.length ix σ) H5 s6:=by rw [hY];exact I6.unpinned'
   obtain ⟨m6,hn6,_⟩:=I6'.loc
   rw [YA]
   refine a71 (X:=X) ac G.objs.size s6 (upd H5 ac (ap0 X.w ac ks)) m6 hn6 (I2.fpOk (by omega) (by rw [dw hne];exact I6'.free)) (fun h' sb=>?_) (qn _ fa5)
   exact aea I2 f2 (by omega) (by omega) I6' fa5 (ahc ((by rw [← Yw];exact S6:SetI (!byT X.w) ac ks s6.heap).keep fun o ho=>sb.extBut _ _ (Ne.symm hne) ho)) sb
  ·rw [← YA]
   refine thn (T.item Y Yp Yw YK Yc i _ s5 _ H5 _ I5p F5 st5 go) fun r s6 ⟨u,hr,h6⟩=>?_
   subst hr
   refine thn h6 fun _ s7 ⟨x,H7,I7,r7,y7,st7,fr7⟩=>?_
   have fa7:H7 ac=none:=(I7.pin (ac,ao) (List.mem_append_right _ pa)).2.1
   have ac7:=(I7.pin (ac,ao) (List.mem_append_right _ pa)).1
   have S7:SetI (!byT Y.w) ac ks s7.heap:=ac5.keep fun o ho=>by rw [hao1] at ho;cases ho;exact ac7
   have obj7:∀ b∈ac::fp,∃ o,s7.heap.get? b=some o∧∀ v,o.data≠.cell v:=fun b hb=>by
    rcases List.mem_cons.mp hb with e | e
    ·subst e;exact ⟨_,ac7,hao2⟩
    ·exact T.obj _ _ st7 b e
   have I7':Inv Y (v7 (ac::fp) s7.heap) (ju ts.length ix σ) H7 s7:=by
    refine Inv.pinned (pins:=[]) (fp:=ac::fp) I7.unpinned' (fun b hb=>?_) obj7
    rcases List.mem_cons.mp hb with e | e
    ·subst e;exact statA fa7
    ·exact stat fr7 b e
   rw [← Ye,← Yp,← Yw]
   refine wpAny_mono (YG0 _ s7 _ H7 x u _ I7' r7 (step x H7 y7)) (fun _ s8 ⟨σ8,H8,I8,x8,q8⟩=>?_) (fun _ _ z=>by rw [Yx] at z;exact z)
   refine wpAny_mono (YI1 _ s8 _ H8 _ I8 q8) (fun v8 z4 h8=>wpAny_of_eq (hs1 _ v8) (wpAny_mono h8 (fun itv z6 h9=>?_) (fun _ _ z=>by rw [Yx] at z;exact z))) (fun _ _ z=>by rw [Yx] at z;exact z)
   obtain ⟨it1,fp1,tn1,J1,H9,e1,I9,T1,st9,f9,V,⟨n0,v0⟩,turn1⟩:=h9
   subst e1
   have pin9:∀ b∈ac::fp,∀ o,s7.heap.get? b=some o→z6.heap.get? b=some o∧H9 b=none:=fun b hb o e=>by
    obtain ⟨z1,z2,_⟩:=I9.pin (b,o) (List.mem_append_right _ (j4 hb e))
    exact ⟨z1,z2⟩
   have apart:∀ b∈fp1,b ∉ ac::fp:=fun b hb z=>by
    obtain ⟨o,e,_⟩:=obj7 b z
    exact (f9 b hb).2.2.2.2.2 (b,o) (List.mem_append_right _ (j4 z e)) rfl
   have stat1:∀ {H':Hp},(∀ b∈fp1,H' b=none)→∀ b∈fp1,FpOk Y [] H' b:=fun hn b hb=>by
    obtain ⟨_,k1,k2,k3,k4,_⟩:=f9 b hb
    refine ⟨hn b hb,k1,k2,k3,k4,fun p hp=>?_⟩
    rw [Yn] at hp
    exact absurd (show p∈([]:List (Addr × Obj)) from hp) (by simp)
   have S9:SetI (!byT Y.w) ac ks z6.heap:=S7.keep fun o ho=>(pin9 ac (by simp) o ho).1
   have inner:codeAny (model Y.prog Y.w) Y.A (.compLoop (.SetComp elt [⟨t0,i0,[],0⟩,⟨t1,i1,[],0⟩] scope pos) 1 (.ref it1) (.ref ac) Y.env)
     (fun r z7=>∃ f,r = .ok f∧∃ m',m'<n∧∃ i σ' H' ks,Inv Y [] σ' H' z7∧Ext (ju ts.length ix σ) σ'∧tn i z7.heap∧(∀ b∈fp,H' b=none)∧H' ac=none∧SetI (!byT Y.w) ac ks z7.heap∧W i m' ks H') z6:=by
    refine ae9 (fun n s'=>∃ j σ' H' ks,Inv Y [] σ' H' s'∧Ext σ8 σ'∧tn1 j s'.heap∧(∀ b∈fp1,H' b=none)∧(∀ b∈fp,∀ o,s7.heap.get? b=some o→s'.heap.get? b=some o∧H' b=none)∧H' ac=none∧SetI (!byT Y.w) ac ks s'.heap∧V j n ks H') ?_ n0
     ⟨0,_,H9,ks,I9.unpinned',⟨rfl,fun _ _ z=>z⟩,st9,fun b hb=>(f9 b hb).1,fun b hb=>pin9 b (List.mem_cons_of_mem _ hb),(pin9 ac (by simp) _ ac7).2,S9,v0⟩
    rintro k a5 ⟨j,τ5,G5,ks5,Q5,y5,t5,e5,o5,c5,d5,v5⟩
    have Q5':Inv Y [] σ8 G5 a5:=Q5.weak y5.1.symm y5.2
    have fp5:∀ b∈fp,G5 b=none:=fun b hb=>by
     obtain ⟨o,e,_⟩:=T.obj _ _ st7 b hb
     exact (o5 b hb o e).2
    have dob:∃ o,a5.heap.get? ac=some o∧∀ v,o.data≠.cell v:=by
     obtain ⟨o,es,ep,t,ho,_,hd,_⟩:=d5
     exact ⟨o,ho,fun v z=>by rw [hd] at z;cases z⟩
    have objs:∀ b∈ac::fp,∃ o,a5.heap.get? b=some o∧∀ v,o.data≠.cell v:=fun b hb=>by
     rcases List.mem_cons.mp hb with e | e
     ·subst e;exact dob
     ·obtain ⟨o,e',d⟩:=T.obj _ _ st7 b e
      exact ⟨o,(o5 b e o e').1,d⟩
    have Q5p:Inv Y (v7 (ac::fp) a5.heap) σ8 G5 a5:=by
     refine Inv.pinned (pins:=[]) (fp:=ac::fp) Q5' (fun b hb=>?_) objs
     rcases List.mem_cons.mp hb with e | e
     ·subst e;exact statA c5
     ·exact stat fp5 b e
    have FF:∀ b∈fp1,FpOk Y (v7 (ac::fp) a5.heap) G5 b:=fun b hb=>(f9 b hb).on Yn (e5 b hb) (apart b hb)
    obtain ⟨bo,hbo1,hbo2⟩:=dob
    have keep6:∀ {G6:Hp} {τ:St} {a6:Shared} {P:List (Addr × Obj)},Inv Y (v7 (ac::fp) a5.heap++P) τ G6 a6→(∀ b∈fp,∀ o,s7.heap.get? b=some o→a6.heap.get? b=some o∧G6 b=none)∧G6 ac=none∧SetI (!byT Y.w) ac ks5 a6.heap:=fun {G6 τ a6 P} I6=>by
     refine ⟨fun b hb o e=>?_,?_,?_⟩
     ·obtain ⟨z1,z2,_⟩:=I6.pin (b,o) (List.mem_append_right _ (List.mem_append_left _ (j4 (List.mem_cons_of_mem _ hb) (o5 b hb o e).1)))
      exact ⟨z1,z2⟩
     ·exact (I6.pin (ac,bo) (List.mem_append_right _ (List.mem_append_left _ (j4 (by simp) hbo1)))).2.1
     ·exact d5.keep fun o ho=>by
       rw [hbo1] at ho;cases ho
       exact (I6.pin (ac,bo) (List.mem_append_right _ (List.mem_append_left _ (j4 (by simp) hbo1)))).1
    rcases turn1 j k ks5 G5 v5 with ⟨stop1,m',hm',w6⟩ | ⟨go1,step1⟩
    ·refine thn (T1.done Y rfl rfl rfl Yc j _ a5 _ G5 _ Q5p FF t5 stop1) fun r a6 ⟨hr,Q6⟩=>?_
     subst hr
     obtain ⟨kk1,kk2,kk3⟩:=keep6 (P:=[]) (by rw [List.append_nil];exact Q6)
     refine ⟨_,rfl,m',hm',i+1,σ8,G5,ks5,Q6.unpinned',x8,?_,fp5,c5,kk3,w6⟩
     exact T.keep _ _ _ st7 fun b hb o e=>(kk1 b hb o e).1
    ·refine thn (T1.item Y rfl rfl rfl Yc j _ a5 _ G5 _ Q5p FF t5 go1) fun r a6 ⟨u1,hr,h6'⟩=>?_
     subst hr
     refine thn h6' fun _ a7 ⟨y,G7,Q7,ry,yy,t7,e7⟩=>?_
     obtain ⟨p1,p2,p3⟩:=keep6 (P:=[]) (by rw [List.append_nil];exact Q7)
     have Q7p:Inv Y (v7 (ac::fp) a5.heap++v7 fp1 a7.heap) σ8 G7 a7:=by
      refine Inv.pinned (fp:=fp1) Q7 (fun b hb=>(f9 b hb).on Yn (e7 b hb) (apart b hb)) (T1.obj _ _ t7)
     refine wpAny_mono (YG1 _ a7 _ G7 y u1 _ Q7p ry (step1 y G7 yy)) (fun _ a8 ⟨τ8,G8,Q8,z8,q8'⟩=>?_) (fun _ _ z=>by rw [Yx] at z;exact z)
     refine wpAny_mono (YE _ a8 _ G8 _ Q8 q8') (fun yv a9 ⟨z,G9,Q9,rz,kz,ez,few,n',hn',v9⟩=>?_) (fun _ _ z=>by rw [Yx] at z;exact z)
     subst ez
     obtain ⟨tk,rfl⟩:=rz
     obtain ⟨r1,r2,r3⟩:=keep6 Q9
     refine ak0 r3 few fun h' sb x'=>?_
     have qo:∀ b o,b≠ac→a9.heap.get? b=some o→h'.get? b=some o:=fun b o hb e=>sb.extBut b o hb e
     obtain ⟨a0,a1,a2,a3,a4,a5'⟩:=statA (show G9 ac=none from r2)
     have nac:∀ b∈fp,b≠ac:=fun b hb z=>accF (z ▸ hb)
     have nac1:∀ b∈fp1,b≠ac:=fun b hb z=>apart b hb (by rw [z];simp)
     refine ⟨n',hn',j+1,τ8,G9,_,(Q9.unpinned').turned (t':=a9.toks+1) qo a0 a1 a3 a4 a5',z8,?_,?_,?_,r2,x',v9⟩
     ·exact T1.keep _ _ _ t7 fun b hb o e=>qo b o (nac1 b hb) (Q9.pin (b,o) (List.mem_append_right _ (List.mem_append_right _ (j4 hb e)))).1
     ·intro b hb
      obtain ⟨o,e,_⟩:=T1.obj _ _ t7 b hb
      exact (Q9.pin (b,o) (List.mem_append_right _ (List.mem_append_right _ (j4 hb e)))).2.1
     ·intro b hb o e
      obtain ⟨z1,z2⟩:=r1 b hb o e
      exact ⟨qo b o (nac b hb) z1,z2⟩
   exact aal inner (T1.self _ 0 _ _ _ st9 inner)
 exact a98 (loop _ rfl) (T.self _ 0 _ _ _ st4 (loop _ rfl))
end
end L2
namespace MI
open PySem PySem.Spec L2 SETB
open Classical in
noncomputable def setIn (ck:Hd→Prop) (fe:SE) (x:D) (rd:Sd):List D→List Int→Hd→R (List Int)
 | [],ks,h=>if ck h then .ok ks h else .no
 | y::ys,ks,h=>if ck h then (fe (some x::some y::rd) h).bind fun d h1=>(match d with
   | .int k=>if ks.length<63 then setIn ck fe x rd ys (stepK ks k) h1 else .no
   | _=>.no) else .no
open Classical in
noncomputable def a1g (ck:Hd→Prop) (fj:SI) (fe:SE) (rd:Sd):List D→List Int→Hd→R (List Int)
 | [],ks,h=>if ck h then .ok ks h else .no
 | x::xs,ks,h=>if ck h then (fj (some x::none::rd) h).bind fun jt h1=>(setIn jt.ck fe x rd jt.xs ks h1).bind fun ks1 h2=>a1g ck fj fe rd xs ks1 h2 else .no
def aii (ks:List Int) (h:Hd):R D:=if ks.length<64 then .ok (.ref h.length) (h++[.lst ((PySem.W.sortI ks).map D.int)]) else .no
noncomputable def ak3 (fi fj:SI) (fe:SE) (ix:List Nat):SE:=fun τ h=>(fi τ h).bind fun it h1=>(a1g it.ck fj fe (frs' ix τ) it.xs [] h1).bind aii
theorem a04:∀ {K:PySem.W.Frag} {ι:List Addr} {H:Hp} (ns:List Int),Reps K ι H (ns.map V.int) (ns.map D.int)
 | _,_,_,[]=>.nil
 | _,_,_,n::ns=>.cons (.int n) (a04 ns)
def aya (w:World):List V→Hp→VK→Prop:=fun xs H Q=>∃ (p:Addr) (ks:List Int),xs=[.ref p]∧H p=some (ap0 w p ks)∧ks.length<64∧∀ l,H l=none→Q (.ref l) (upd H l (.lst ((PySem.W.sortI ks).map V.int)))
theorem ass {K:PySem.W.Frag} {E:XD} {w:World} {J:It} {jt:Itm} {fe:SE} {x:D} {vx:V} {r:St} {rd:Sd} {k1:List Int→Hd→R D} {ι0:List Addr} {H0:Hp} {h0:Hd} {Q:VK} {M:List Int→Hp→Prop} {ks0:List Int}
  (ir:alc K ι0 H0 J jt) (rx:Rep K ι0 H0 vx x) (S:SRep K ι0 H0 r rd) (Rh:HRep K ι0 H0 h0) (o:out K E (xf K) ι0 H0 ((setIn jt.ck fe x rd jt.xs ks0 h0).bind k1) Q)
  (fin:∀ ks ι H h,Gr ι0 H0 ι H→HRep K ι H h→out K E (xf K) ι H (k1 ks h) Q→M ks H) :
  ∃ V:Nat→Nat→List Int→Hp→Prop,(∃ n,V 0 n ks0 H0)∧∀ j n ks H,V j n ks H →
   (J.stop j H∧M ks H) ∨
   (J.go j H∧∀ y H',J.yld j H y H'→a1c 1 y (some vx::none::r) H' fun σ3 H4=>L2.Ext (some vx::none::r) σ3∧lift K E (xf K) fe σ3 H4 fun z H5=>∃ k,z = .int k∧ks.length+1<scanBound∧∃ n',n'<n∧V (j+1) n' (stepK ks k) H5):=by
 refine ⟨fun j n ks H=>n=jt.xs.length - j∧j≤jt.xs.length∧∃ ι h,Gr ι0 H0 ι H∧HRep K ι H h∧out K E (xf K) ι H ((setIn jt.ck fe x rd (jt.xs.drop j) ks h).bind k1) Q,⟨_,rfl,Nat.zero_le _,ι0,h0, .refl _ _,Rh,o⟩,?_⟩
 rintro j n ks H ⟨rfl,hj,ι,h,g0,Rh,o⟩
 by_cases hlt:j<jt.xs.length
 ·rw [List.drop_eq_getElem_cons hlt,setIn] at o
  by_cases hc:jt.ck h
  ·rw [if_pos hc,R.bind_assoc] at o
   obtain ⟨go,yl⟩:=(ir ι H h g0 Rh hc).1 j _ (List.getElem?_eq_getElem hlt)
   refine .inr ⟨go,fun y H' yy=>?_⟩
   obtain ⟨g1,r1,hr1⟩:=yl y H' yy
   have o':=wz o g1
   refine ⟨⟨rfl,fun i v e=>?_⟩,ι,some x::some jt.xs[j]::rd,h,qe (rx.mono (g0.trans g1)) (qe r1 (S.mono (g0.trans g1))),hr1,cj o' fun d h1 ι1 H1 u g2 r2 hr2 o2=>?_⟩
   ·match i,e with
    | 0,e=>exact e
    | 1,e=>simp at e
    | i+2,e=>simpa using e
   ·cases d with
    | int k =>
     cases r2
     by_cases h6:ks.length<63
     ·simp only [if_pos h6] at o2
      exact ⟨k,rfl,by have:scanBound=4096:=rfl;omega,jt.xs.length - (j+1),by omega,rfl,hlt,ι1,h1,(g0.trans g1).trans g2,hr2,o2⟩
     ·simp only [if_neg h6] at o2;exact o2.elim
    | _=>exact o2.elim
  ·rw [if_neg hc] at o;exact o.elim
 ·have e:j=jt.xs.length:=by omega
  subst e
  rw [List.drop_eq_nil_of_le (Nat.le_refl _),setIn] at o
  by_cases hc:jt.ck h
  ·rw [if_pos hc] at o
   exact .inl ⟨(ir ι H h g0 Rh hc).2,fin ks ι H h g0 Rh o⟩
  ·rw [if_neg hc] at o;exact o.elim
theorem ap2 {K:PySem.W.Frag} {E:XD} {w:World} {J:It} {it:Itm} {fj:SI} {fe:SE} {r:St} {rd:Sd} {ι0:List Addr} {H0:Hp} {h0:Hd} {Q:VK}
  (ir:alc K ι0 H0 J it) (S:SRep K ι0 H0 r rd) (Rh:HRep K ι0 H0 h0) (o:out K E (xf K) ι0 H0 ((a1g it.ck fj fe rd it.xs [] h0).bind aii) Q) :
  awz w (lift K E (arp K) fj) (List.replicate 2 none++r) (a1c 0) (a1c 1) (lift K E (xf K) fe) (fun v H=>aya w [v] H Q) J H0:=by
 refine ⟨fun i m ks H=>m=it.xs.length - i∧i≤it.xs.length∧∃ ι h,Gr ι0 H0 ι H∧HRep K ι H h∧out K E (xf K) ι H ((a1g it.ck fj fe rd (it.xs.drop i) ks h).bind aii) Q,⟨_,rfl,Nat.zero_le _,ι0,h0, .refl _ _,Rh,o⟩,?_⟩
 rintro i m ks H ⟨rfl,hi,ι,h,g0,Rh,o⟩
 by_cases hlt:i<it.xs.length
 ·rw [List.drop_eq_getElem_cons hlt,a1g] at o
  by_cases hc:it.ck h
  ·rw [if_pos hc,R.bind_assoc] at o
   obtain ⟨go,yl⟩:=(ir ι H h g0 Rh hc).1 i _ (List.getElem?_eq_getElem hlt)
   refine .inr ⟨go,fun x H' y=>?_⟩
   obtain ⟨g1,r1,hr1⟩:=yl x H' y
   have o':=wz o g1
   refine ⟨⟨rfl,fun k v e=>?_⟩,ι,some it.xs[i]::none::rd,h,qe r1 ?_,hr1,cj o' fun jt h1 ι1 H1 J1 g2 r2 hr2 o2=>?_⟩
   ·match k,e with
    | 0,e=>simp at e
    | 1,e=>simp at e
    | k+2,e=>simpa using e
   ·have S':=S.mono (g0.trans g1)
    refine ⟨by simp [S'.len],fun k d e=>?_⟩
    cases k with
    | zero=>simp at e
    | succ k=>simpa using S'.val k d (by simpa using e)
   ·rw [R.bind_assoc] at o2
    refine ass (w:=w) (k1:=fun ks1 h2=>(a1g it.ck fj fe rd (it.xs.drop (i+1)) ks1 h2).bind aii) r2 (r1.mono g2) (S.mono ((g0.trans g1).trans g2)) hr2 o2 fun ks' ι3 H3 h3 g3 hr3 o3=>?_
    exact ⟨it.xs.length - (i+1),by omega,rfl,hlt,ι3,h3,((g0.trans g1).trans g2).trans g3,hr3,o3⟩
  ·rw [if_neg hc] at o;exact o.elim
 ·have e:i=it.xs.length:=by omega
  subst e
  rw [List.drop_eq_nil_of_le (Nat.le_refl _),a1g] at o
  by_cases hc:it.ck h
  ·rw [if_pos hc] at o
   refine .inl ⟨(ir ι H h g0 Rh hc).2,fun p hp=>?_⟩
   have o1:out K E (xf K) ι H (aii ks h) Q:=o
   unfold aii at o1
   by_cases h6:ks.length<64
   ·rw [if_pos h6] at o1
    exact ⟨p,ks,rfl,jq,h6,p7 (E:=E) (a04 _) (Rh.aside hp _) (wz o1 (ye hp _))⟩
   ·rw [if_neg h6] at o1;exact o1.elim
  ·rw [if_neg hc] at o;exact o.elim
theorem ap3 {X:Cx} {E:XD} {elt t0 i0 t1 i1:Expr} {scope:Scope} {p pos spos:Pos} {cl:List (Str × Addr)} {a b:Str} {fr:List Str} {ix:List Nat} {fi fj:SI} {fe:SE} (hg:Gl X "sorted") (hm:X.mg "sorted" = none) (hc:X.calm=true) (S:CSc X scope cl [a,b] fr ix) (hi:MI X E t0 i0 fi)
  (hg0:∀ C fp s H,PG (cxC X ([a,b]++fr) scope cl C fp s H) t0 (a1c 0)) (hj:∀ C fp s H,MI (cxC X ([a,b]++fr) scope cl C fp s H) E t1 i1 fj) (hg1:∀ C fp s H,PG (cxC X ([a,b]++fr) scope cl C fp s H) t1 (a1c 1)) (he:∀ C fp s H,ME (cxC X ([a,b]++fr) scope cl C fp s H) E elt fe)
  (hs0:∀ x,foldedSetIterable i0 X.env x=pure x:=by intro _;rfl) (hs1:∀ env x,foldedSetIterable i1 env x=pure x:=by intro _ _;rfl) :
  ME X E (.Call (.Name "sorted" p) [.SetComp elt [⟨t0,i0,[],0⟩,⟨t1,i1,[],0⟩] scope spos] [] pos) (ak3 fi fj fe ix):=by
 refine PE.weak (a6v (a0q hc) hg hm rfl (a1k (ap1 (te:=lift X.K E (xf X.K) fe) (wi1:=lift X.K E (arp X.K) fj) hc S hi hg0 hj hg1 he hs0 hs1) a66)) fun σ H Q ⟨ι,τ,h,Sr,Rh,o⟩=>?_
 refine ⟨ι,τ,h,Sr,Rh,cj o fun it h1 ι1 H1 J g1 r1 hr1 o1=>?_⟩
 exact ap2 r1 (a2c (Sr.mono g1) ix) hr1 o1
end MI
namespace RCH
open PySem PySem.Spec L2 MI
noncomputable def u9 (dj:SF):SE :=
 (sA (uf false 2 dj) (aj (sV 1) (aj (sV 0) d7)))
noncomputable def qz (dj:SF):SS :=
 (yf (sA m9 (aj (sZ (m7 (sRg zx (aj (sA yu (aj (s2 gIx (sV 0) (sC (.int 1))) d7)) d7)) t1 (u9 dj) [0])) d7)))
noncomputable def ig:SS :=
 (iz (sIf (sT (s2 hNe (s2 gIx (sV 4) (sV 11)) (s1 aa8 (sC (.int 1)))))
 (yf (s2 j9 (sV 9) (sV 10)))
 sNx)
 (sIf (sT (s2 (apw true) (sV 11) (sV 6)))
 (iz (a4v (sC (.bl true)) (sV 6) (sV 11))
 (a0i (sML a78 (sV 5) (aj (sA yc (aj (sV 11) (aj (s2 j9 (sV 9) (sV 10)) d7))) d7))))
 sNx))
noncomputable def qj:ST :=
 (sT (s2 gLt (sV 7) (sA yu (aj (sV 5) d7))))
noncomputable def kh:SS :=
 (iz (a88 (s2 gIx (sV 5) (sV 7)) (a3x 2 (jx (kN 8) (jx (kN 9) a4p))))
 (iz (a4q (aer (sV 2) (s2 gIx (sV 3) (sV 8))) (a3x 2 (jx (kN 10) (jx (kN 11) a4p))) ig)
 (aep 7 ade (sC (.int 1)))))
noncomputable def ut:SS :=
 (iz (a88 (sV 0) (a3x 3 (jx (kN 2) (jx (kN 3) (jx (kN 4) a4p)))))
 (iz (kj 5 (sA a0v (aj (sA yc (aj (sV 1) (aj (sC (.str "")) d7))) d7)))
 (iz (kj 6 (s2 gD1 (sV 1) (sC (.bl true))))
 (iz (kj 7 (sC (.int 0)))
 (iz (sWh qj kh 100000)
 (yf (sC .non)))))))
noncomputable def a0y (d9:SF):SE :=
 (s2 a6c (sV 0) (sC .non))
noncomputable def a3h (d9:SF):SS :=
 (yf (sA m9 (aj (sZ (m7 (sIt (sA (uf false 1 d9) (aj (sV 0) d7))) t1 (a0y d9) [])) d7)))
noncomputable def aeb (qb:SF) (jd:SF):SE :=
 (sV 0)
noncomputable def aec (qb:SF) (jd:SF):ST :=
 (sT (s2 hNe (sV 1) (s1 aa8 (sC (.int 1)))))
noncomputable def a7t (qb:SF) (jd:SF):SS :=
 (iz (kj 1 (s2 gIx (sV 0) (sC (.int 2))))
 (yf (sA (uf false 3 jd) (aj (sV 0) (aj (sA (uf false 1 qb) (aj (sV 0) d7)) (aj (sZ (p6 (a8z (sV 1)) (tN 2) (aec qb jd) (aeb qb jd) [])) d7))))))
noncomputable def yj:SE :=
 (s2 hNe (s2 gIx (sV 1) (sV 0)) (s1 aa8 (sC (.int 1))))
noncomputable def ym:SE :=
 (sV 0)
noncomputable def nq:ST :=
 (aa3 (sT (s2 hEq (s2 gIx (sV 2) (sV 0)) (s1 aa8 (sC (.int 1))))) (a5s (s2 gIx (sV 1) (sV 0))))
noncomputable def uc:SS :=
 (iz (kj 9 (sZ (ak3 (sIt (sV 7)) (sIt (s2 gIx (sV 2) (sV 0))) (sV 1) [4])))
 (iz (sIf (a5s (sA apu (aj (sZ (m7 (sIt (sV 9)) t1 yj [5])) d7)))
 (kj 6 (sV 8))
 sNx)
 (iz (kj 7 (sZ (p6 (sIt (sV 9)) t1 nq ym [1,5])))
 (sIf (aa4 (a5s (sV 7)))
 (yf (sV 6))
 sNx))))
noncomputable def yx:SS :=
 (iz (a88 (sV 0) (a3x 3 (jx (kN 3) (jx (kN 4) (jx (kN 5) a4p)))))
 (iz (kj 6 (sC (.int 0)))
 (iz (kj 7 (sV 2))
 (iz (a4q (sRg a5w (aj (sC (.int 1)) (aj (s2 j9 (sA yu (aj (sV 4) d7)) (sC (.int 2))) d7))) (kN 8) uc)
 (yf (sC .non))))))
end RCH
namespace L2
open PySem PySem.Spec
section
variable {X:Cx}
theorem acb:∀ {ts:List String} {us:List Value},Vals (ts.map V.ty) us→us=ts.map Value.type
 | [],_,r=>by cases r;rfl
 | t::ts,us,r=>by
  cases r with
  | cons r rs =>
   rw [List.map_cons,← acb rs]
   congr 1
theorem a99:CallR X (.builtin "isinstance") (fun xs H Q=>∃ x tp t b,∃ ts:List String,xs=[x, .ref tp]∧H tp=some (.tup (ts.map V.ty))∧TyOf X.K H x (.type t)∧PySem.W.kitAny X.K (.type t) (ts.map Value.type)=some b∧Q (.bl b) H):=by
 intro pins s σ H xs us Q I r h
 obtain ⟨x,tp,t,b,ts,rfl,et,ty,e,q⟩:=h
 obtain ⟨u,w',rfl,rx,rt⟩:=vals2 r
 obtain rfl:w'=Value.ref tp:=rt
 obtain ⟨_,its,vr,o',h1,h2,n,h3⟩:=(show ObjOk X.prog X.w H s.heap tp (.tup (ts.map V.ty)) from I.hok tp _ et)
 obtain rfl:=acb vr
 have htp:s.heap.get? tp=some ⟨.type "tuple",o'.dict, .seq (ts.map Value.type).toArray n,o'.slots⟩:=by
  rw [h1]
  obtain ⟨c,dd,dt,sl⟩:=o'
  simp only at h2 h3
  rw [h2,h3]
 have fin:∀ tk,∃ y H',Inv X pins σ H' { s with toks:=tk }∧RelV y (Value.bool b)∧Q y H':=fun tk=>⟨.bl b,H,I.tok tk,rfl,q⟩
 cases ty with
 | non=>cases (show u=Value.none from rx);exact PySem.W.kia_tup PySem.W.kitx_none I.kIn True.intro htp e (fun z=>nomatch z) fin
 | bl y=>cases (show u=Value.bool y from rx);exact PySem.W.kia_tup PySem.W.kitx_bool I.kIn True.intro htp e (fun z=>nomatch z) fin
 | int i=>obtain ⟨t,q⟩:=(show ∃ t,u=Value.int i t from rx);cases q;exact PySem.W.kia_tup PySem.W.kitx_int I.kIn True.intro htp e (fun z=>nomatch z) fin
 | str y=>obtain ⟨t,q⟩:=(show ∃ t,u=Value.str y t from rx);cases q;exact PySem.W.kia_tup PySem.W.kitx_str I.kIn True.intro htp e (fun z=>nomatch z) fin
 | flt y=>obtain ⟨t,q⟩:=(show ∃ t,u=Value.float y t from rx);cases q;exact PySem.W.kia_tup PySem.W.kitx_float I.kIn True.intro htp e (fun z=>nomatch z) fin
 | @lst a xs ea =>
  cases (show u=Value.ref a from rx)
  obtain ⟨_,_,n,_,h1⟩:=(show ObjOk X.prog X.w H s.heap a (.lst xs) from I.hok a _ ea)
  exact PySem.W.kia_tup PySem.W.kitx_list I.kIn ⟨_,h1,rfl⟩ htp e (fun z=>nomatch z) fin
 | @frz a ob xs ea =>
  cases (show u=Value.ref a from rx)
  obtain ⟨_,_,_,n,_,h1⟩:=(show ObjOk X.prog X.w H s.heap a (.frz ob (.lst xs)) from I.hok a _ ea)
  exact PySem.W.kia_tup PySem.W.kitx_list I.kIn ⟨_,h1,rfl⟩ htp e (fun z=>nomatch z) fin
 | @tup a xs ea =>
  cases (show u=Value.ref a from rx)
  obtain ⟨_,_,_,p⟩:=(show ObjOk X.prog X.w H s.heap a (.tup xs) from I.hok a _ ea)
  obtain ⟨o,h1,h2,_⟩:=p
  exact PySem.W.kia_tup PySem.W.kitx_tuple I.kIn ⟨o,h1,h2⟩ htp e (fun z=>nomatch z) fin
 | @dK a kvs ea =>
  cases (show u=Value.ref a from rx)
  obtain ⟨_,_,vs,_,p⟩:=(show ObjOk X.prog X.w H s.heap a (.dK kvs) from I.hok a _ ea)
  obtain ⟨o,es,ep,h1,h2,_⟩:=p
  exact PySem.W.kia_tup PySem.W.kitx_dict I.kIn ⟨o,h1,h2.1⟩ htp e (fun z=>nomatch z) fin
 | @dT a kvs ea =>
  cases (show u=Value.ref a from rx)
  obtain ⟨_,_,xs,_,o,es,ep,h1,h2,_⟩:=(show ObjOk X.prog X.w H s.heap a (.dT kvs) from I.hok a _ ea)
  exact PySem.W.kia_tup PySem.W.kitx_dict I.kIn ⟨o,h1,h2.1⟩ htp e (fun z=>nomatch z) fin
end
end L2
namespace MI
open PySem PySem.Spec L2
section
variable {K:PySem.W.Frag}
def ak4:List D→Option (List String)
 | []=>some []
 | .ty t::r=>(ak4 r).map (t::·)
 | _=>none
def a5f (t:String):List String→Option Bool
 | []=>some false
 | T::r=>match aa9 t T with | some true=>some true | some false=>a5f t r | none=>none
theorem a9a {t:String}:∀ {ts:List String} {b:Bool},a5f t ts=some b→PySem.W.kitAny K (.type t) (ts.map Value.type)=some b
 | [],b,e=>e
 | T::ts,b,e=>by
  unfold a5f at e
  show (match PySem.W.kitOne K (.type t) (.type T) with | some true=>some true | some false=>PySem.W.kitAny K (.type t) (ts.map Value.type) | none=>none)=some b
  cases h:aa9 t T with
  | none=>rw [h] at e;cases e
  | some c =>
   rw [h] at e
   rw [aaa h]
   cases c
   ·exact a9a e
   ·exact e
theorem ahe {ι:List Addr} {H:Hp}:∀ {vs:List V} {xs:List D} {ts:List String},Reps K ι H vs xs→ak4 xs=some ts→vs=ts.map V.ty
 | _,[],ts,r,e=>by cases r;cases e;rfl
 | _,x::xs,ts,r,e=>by
  cases r with
  | cons r rs =>
   cases r with
   | ty t =>
    unfold ak4 at e
    cases h:ak4 xs with
    | none=>rw [h] at e;cases e
    | some us=>rw [h] at e;cases e;rw [ahe rs h];rfl
   | _=>unfold ak4 at e;cases e
def a7u:List D→Hd→R D
 | [d, .tup xs],h=>(match ak4 xs,tyD d h with | some ts,some t=>(match a5f t ts with | some b=>.ok (.bl b) h | none=>.no) | _,_=>.no)
 | _,_=>.no
theorem ak5:abf K a7u (fun xs H Q=>∃ x tp t b,∃ ts:List String,xs=[x, .ref tp]∧H tp=some (.tup (ts.map V.ty))∧TyOf K H x (.type t)∧PySem.W.kitAny K (.type t) (ts.map Value.type)=some b∧Q (.bl b) H):=by
 intro E ι H h xs ds Q r hr o
 unfold a7u at o
 split at o
 ·rename_i d xs
  cases r with
  | cons r rs =>
   cases rs with
   | cons q rs =>
    cases rs
    cases q with
    | @tup p vs _ hp qs =>
     split at o
     ·rename_i ts t e1 e2
      split at o
      ·rename_i b e3
       exact ⟨_,p,t,b,ts,rfl,by rw [hp,ahe qs e1],alm r hr e2,a9a e3,ans o (.bl _) hr⟩
      ·exact o.elim
     ·exact o.elim
 ·exact o.elim
end
end MI
namespace TPM
open PySem PySem.Spec PySem.W L2 HT MI
theorem aed (t:Addr) (items:Array Value) (n:Nat) (dd:Option Addr) (sl:Array (Option Value)) (u:Tok) :
  Meets (Builtin.«tuple.__mul__» ⟨[.ref t, .int 1 u],[]⟩) (fun _ R s=>s.heap.get? t=some { cls:=.type "tuple",dict:=dd,data:=.seq items n,slots:=sl }∧R (.ok (.ret (.ref t))) s) :=
 .of_wp fun prog w A R s h=>by
  obtain ⟨hp,g,d,tk,os⟩:=s;obtain ⟨hl,h⟩:=h
  wp_walk
  exact ⟨_,rfl,h⟩
def asu (K:PySem.W.Frag):R2:=fun x y H Q=>∃ a xs,x = .ref a∧y = .int 1∧SqT K H a xs∧Q (.ref a) H
theorem ap4 {X:Cx}:OpR X (binaryOp .Mult) (asu X.K):=by
 intro pins s σ H x y v u Q I rx ry h
 obtain ⟨a,xs,rfl,rfl,ha,q⟩:=h
 cases rx
 obtain ⟨t,rfl⟩:=ry
 obtain ⟨its,r1,p1,_⟩:=I.tuple ha
 obtain ⟨⟨cls,dd,data,sl⟩,ho,hc,n,hd⟩:=id p1
 simp only at hc hd
 subst hc hd
 exact wpAny_binaryOp_repeat_ref (T := "tuple") (U := "int") (by decide) ⟨_,ho,rfl⟩ (fun s'=>typeIs_int s' 1 t) a0h F.fills_int_mul F.slot_int_rmul a8v F.slot_int_index.lookup
  (call_meets F.slot_int_rmul (typeIs_int s 1 t) F.entry_int_rmul (F.args_int_rmul_2 _ _) (a3s 1 t a its.toArray n dd sl)
   ⟨ho,rfl,⟨_,ho,rfl⟩,call_meets F.slot_tuple_mul ⟨_,ho,rfl⟩ F.entry_tuple_mul (F.args_tuple_mul_2 _ _) (aed a its.toArray n dd sl t) ⟨ho, .ref a,H,I,rfl,q⟩⟩)
end TPM
namespace MI
open PySem PySem.Spec L2 TPM
noncomputable def aee (x y:D) (h:Hd):R D:=match x,y with
 | .tup xs, .int k=>if k=1 then .ok (.tup xs) h else agh (.tup xs) (.int k) h
 | x,y=>agh x y h
theorem ak6 {K:PySem.W.Frag}:a2b K aee (fun x y H Q=>((rI CMul (fun i j=>.int (i*j)) x y H Q∨auk x y H Q)∨aod K x y H Q)∨asu K x y H Q):=by
 intro E ι H h x y dx dy Q rx ry hr o
 cases rx with
 | @tup a vs xs ha rs =>
  cases ry with
  | int k =>
   simp only [aee] at o
   split at o
   ·rename_i hc
    subst hc
    exact .inr ⟨a,vs,rfl,rfl,SqT.of ha,ans o (.tup ha rs) hr⟩
   ·exact .inl (a7h _ _ _ _ _ _ _ _ _ (.tup ha rs) (.int k) hr o)
  | _=>exact o.elim
 | int i=>exact .inl (a7h _ _ _ _ _ _ _ _ _ (.int i) ry hr o)
 | ref e=>exact .inl (a7h _ _ _ _ _ _ _ _ _ (.ref e) ry hr o)
 | _=>exact o.elim
theorem ap5 {X:Cx} {E:XD} {a b:Expr} {fa fb:SE} {pos:Pos} (ha:ME X E a fa) (hb:ME X E b fb):ME X E (.BinOp a .Mult b pos) (s2 aee fa fb):=aa2 (((akz.or ar5).or aoe).or ap4) ak6 ha hb
theorem ayb {xs:List D} {k:Nat} {h:Hd} (ne:xs≠[]) (k1:1≤k) (k2:k≤1000) (xl:xs.length≤1000):aee (.tup xs) (.int (k:Nat)) h = .ok (.tup (List.replicate k xs).flatten) h:=by
 unfold aee
 dsimp only
 by_cases e:(k:Int)=1
 ·rw [if_pos e]
  have:k=1:=by omega
  subst this
  simp
 ·rw [if_neg e]
  unfold agh
  dsimp only
  have hl:xs.length*(k:Int).toNat≤LINE:=by
   rw [Int.toNat_natCast]
   have:xs.length*k≤1000*1000:=Nat.mul_le_mul xl k2
   show xs.length*k≤16777216
   omega
  exact (if_pos ⟨⟨ne,by omega,by omega⟩,hl⟩).trans (by rw [Int.toNat_natCast])
end MI
namespace SETB
open PySem PySem.Spec PyProof.Rows SETA
section
variable {prog:Program} {w:World} {A:Around} {E:Value→Shared→Prop} {R:Result→Shared→Prop} {s:Shared}
theorem a5g {b:Bool} {I S:Addr} {fp wr:List Addr} {n:Nat} {P:Nat→Value→Prop} {St:Nat→Heap→Prop} (W:Walks prog w A.in1 I fp wr n P St) (apart:S ∉ fp) (val:Nat→Int) (key:∀ i v,P i v→∃ t,v = .int (val i) t) (few:n+1<scanBound) :
  ∀ (left i:Nat) (s:Shared) (ks:List Int),i+left=n→ks.length≤i→St i s.heap→SetI b S ks s.heap →
   (∀ h' tk,SetI b S (((List.range' i left).map val).foldl L2.stepK ks) h'→(∀ c o,c≠S→c ∉ wr→s.heap.get? c=some o→h'.get? c=some o)→R (.ok (.ret .none)) { s with heap:=h',toks:=tk }) →
   codeAny (model prog w) A (.builtin "set.update.loop" ⟨[.ref S, .ref I],[]⟩) R s
 | 0,i,s,ks,hi,hl,st,x,fin=>codeAny_builtin F.entry_set_update_loop (by
   obtain rfl:i=n:=by omega
   simp only [Around.under_plainId F.plain_set_update_loop]
   exact wpAny_bind (W.done s _ _ st fun h' tk k=>wpAny_pure (fin h' tk (x.keep fun o e=>k S o (fun z=>apart (W.sub S z)) e) fun c o _ hc e=>k c o hc e)))
 | left+1,i,s,ks,hi,hl,st,x,fin=>codeAny_builtin F.entry_set_update_loop (by
   simp only [Around.under_plainId F.plain_set_update_loop]
   refine wpAny_bind (W.item i s _ _ (by omega) st fun v h1 t1 p st1 k1=>?_)
   obtain ⟨tk,rfl⟩:=key i v p
   refine wpAny_bind (wpAny_holding ?_)
   unfold setAdd
   refine wpAny_holding (wpAny_bind ((intKind prog w).pyHash (k:=val i) (by simp [intKind,Value.isInt]) ?_))
   refine a6j (s:={ s with heap:=h1,toks:=t1+1 }) (x.keep fun o e=>k1 S o (fun z=>apart (W.sub S z)) e) (by omega) fun h2 r sb x2=>?_
   have sl:(L2.stepK ks (val i)).length≤i+1:=by
    unfold L2.stepK
    split
    ·omega
    ·rw [List.length_append,List.length_singleton];omega
   refine wpAny_pure ⟨plainId_quiet F.plain_set_update_loop _,a5g W apart val key few left (i+1) _ _ (by omega) sl (W.frame _ _ _ st1 fun c hc o e=>sb.extBut c o (fun z=>apart (z ▸ hc)) e) x2 fun h3 t3 x3 k3=>?_⟩
   exact fin h3 t3 (by rw [List.range'_succ,List.map_cons,List.foldl_cons];exact x3) fun c o cS cw e=>k3 c o cS cw (sb.extBut c o cS (k1 c o cw e)))
theorem ahf (a:Value) {Q₁:Value→Shared→Prop} (h:Q₁ (.ref s.heap.objs.size) { s with heap:=s.heap.push (a1r (!byT w)) }) :
  codeAny (model prog w) A (.call (.builtin "set.__new__") ⟨[.type "set",a],[]⟩) (wants Q₁ E) s:=by
 apply codeAny_of_tree
 apply wpAny_bind
 refine wpAny_of_eq (F.newCall_set_1 a) ?_
 refine wpAny_pure ⟨plainId_quiet F.plain_set_new _,codeAny_builtin F.entry_set_new ?_⟩
 simp only [Around.under_plainId F.plain_set_new]
 have self:=sub_set_self
 unfold Builtin.«set.__new__» Builtin.Frozenset.newClass
 generalize en:newSet=mk
 wp_walk
 subst en
 first
  | exact aaj (wpAny_pure h)
  | exact wpAny_bind (aaj (wpAny_pure h))
theorem ahg {l:Addr} {tn:String} {od:Option Addr} {dt:Data} {sl:Array (Option Value)} {ns:List Int} {b:Bool} {R:Result→Shared→Prop} (hh:A.handled=none)
  (hl:s.heap.get? l=some { cls:=.type tn,dict:=od,data:=dt,slots:=sl }) (no1:isSubtype (.type tn) (.type "set")=pure false) (no2:isSubtype (.type tn) (.type "frozenset")=pure false) (no3:(Value.type tn == Value.type "dict")=false) (few:ns.length+1<scanBound)
  (it:∀ (s1:Shared) (Q:Value→Shared→Prop) (E:Value→Shared→Prop),s1.heap.get? l=some { cls:=.type tn,dict:=od,data:=dt,slots:=sl } →
   (∀ (o:Obj) (St:Nat→Heap→Prop) (P:Nat→Value→Prop),(∀ A':Around,A'.handled=none→Walks prog w A' s1.heap.objs.size [s1.heap.objs.size,l] [s1.heap.objs.size] ns.length P St)→(∀ i v,P i v→∃ t,v = .int (ns.getD i 0) t)→St 0 (s1.heap.push o)→Q (.ref s1.heap.objs.size) { s1 with heap:=s1.heap.push o })→wpAny (model prog w) A.in1 (pyIter (.ref l)) Q E s1)
  (q:∀ h' tk,SetI b s.heap.objs.size (ns.foldl L2.stepK []) h'→(∀ c o,s.heap.get? c=some o→h'.get? c=some o)→R (.ok (.ret .none)) { s with heap:=h',toks:=tk }) :
  wpAny (model prog w) A.in1 (Builtin.«set.__init__» ⟨[.ref s.heap.objs.size, .ref l],[]⟩)
   (fun fin s'=>match fin with | .done f=>R (.ok f) s' | .again c'=>c'.quiet=true∧codeAny (model prog w) A c' R s') (fun e s'=>R (.error e) s') { s with heap:=s.heap.push (a1r b) }:=by
 have at0:(s.heap.push (a1r b)).get? s.heap.objs.size=some (a1r b):=Heap.get?_push_size _ rfl
 have hl':(s.heap.push (a1r b)).get? l=some { cls:=.type tn,dict:=od,data:=dt,slots:=sl }:=Heap.get?_push_of_some _ hl
 have ll:=Heap.lt_size hl
 unfold Builtin.«set.__init__»
 unfold noKeywords Builtin.Frozenset.updateFrom
 generalize ep:pyIter=walker
 unfold a1r at at0 hl' ⊢
 wp_walk
 subst ep
 refine it _ _ _ hl' fun o St P W key st=>wpAny_bind (wpAny_runValue ?_)
 dsimp only at W st ⊢
 have far:s.heap.objs.size ∉ [(s.heap.push (a1r b)).objs.size,l]:=fun z=>by
  rcases List.mem_cons.mp z with z | z
  ·rw [Heap.size_push] at z;exact absurd z (Nat.ne_of_lt (Nat.lt_succ_self _))
  ·rw [List.mem_singleton] at z;rw [← z] at ll;exact Nat.lt_irrefl _ ll
 have e0:(List.range' 0 ns.length).map (fun i=>ns.getD i 0)=ns:=by
  refine List.ext_getElem? fun i=>?_
  by_cases hi:i<ns.length
  ·rw [List.getElem?_map,List.getElem?_range' hi,List.getElem?_eq_getElem hi]
   simp [List.getD_eq_getElem?_getD,hi]
  ·rw [List.getElem?_eq_none (by simp;omega),List.getElem?_eq_none (by omega)]
 refine a5g (b:=b) (W _ (by simp [hh])) far (fun i=>ns.getD i 0) key few ns.length 0 { s with heap:=(s.heap.push (a1r b)).push o } [] (by omega) (by simp) st (ah3 (b:=b) (Heap.get?_push_of_some _ (show (s.heap.push (a1r b)).get? s.heap.objs.size=some (a1r b) from at0))) fun h' tk held k=>?_
 rw [e0] at held
 refine wpAny_pure (wpAny_pure ?_)
 refine q h' tk held fun c o e=>k c o ?_ ?_ (Heap.get?_push_of_some _ (Heap.get?_push_of_some _ e))
 ·exact Nat.ne_of_lt (Heap.lt_size e)
 ·intro z
  have z:=List.mem_singleton.mp z
  have:=Heap.lt_size e
  rw [z,Heap.size_push] at this
  exact absurd this (Nat.not_lt.mpr (Nat.le_succ _))
theorem a2m {l:Addr} {tn:String} {od:Option Addr} {dt:Data} {sl:Array (Option Value)} {ns:List Int} {Q:Value→Shared→Prop}
  (hl:s.heap.get? l=some { cls:=.type tn,dict:=od,data:=dt,slots:=sl }) (no1:isSubtype (.type tn) (.type "set")=pure false) (no2:isSubtype (.type tn) (.type "frozenset")=pure false) (no3:(Value.type tn == Value.type "dict")=false) (few:ns.length+1<scanBound)
  (it:∀ (A:Around) (s1:Shared) (Q:Value→Shared→Prop) (E:Value→Shared→Prop),s1.heap.get? l=some { cls:=.type tn,dict:=od,data:=dt,slots:=sl } →
   (∀ (o:Obj) (St:Nat→Heap→Prop) (P:Nat→Value→Prop),(∀ A':Around,A'.handled=none→Walks prog w A' s1.heap.objs.size [s1.heap.objs.size,l] [s1.heap.objs.size] ns.length P St)→(∀ i v,P i v→∃ t,v = .int (ns.getD i 0) t)→St 0 (s1.heap.push o)→Q (.ref s1.heap.objs.size) { s1 with heap:=s1.heap.push o })→wpAny (model prog w) A (pyIter (.ref l)) Q E s1)
  (hh:A.handled=none)
  (q:∀ h' tk,SetI (!byT w) s.heap.objs.size (ns.foldl L2.stepK []) h'→(∀ c o,s.heap.get? c=some o→h'.get? c=some o)→Q (.ref s.heap.objs.size) { s with heap:=h',toks:=tk }) :
  wpAny (model prog w) A (call (.type "set") [.ref l]) Q E s:=by
 obtain ⟨_,_,order⟩:=F.called_set.mro
 have made:=F.called_set.made
 have self:=F.called_set.sub
 have nt:=F.called_set.notType
 have cc:=F.called_set.canCreate
 have tc:=F.typeCall_set_1 (.ref l)
 refine wpAny_call (codeAny_of_tree (wpAny_pure ⟨Code.quiet_builtin _ (by decide +kernel),codeAny_builtin F.entry_type_call ?_⟩))
 simp only [Around.under_plain (weight_type_call_type "set" [.ref l] []) rfl]
 repeat any_goals first | assumption | wp_step
 refine codeAny_mono (ahf (.ref l) (E:=E) (Q₁:=fun obj s1=>obj = .ref s.heap.objs.size∧s1={ s with heap:=s.heap.push (a1r (!byT w)) }) ⟨rfl,rfl⟩) fun r s1 hr=>?_
 match r,hr with
 | .error _,hr=>exact hr
 | .ok (.ret _),⟨eo,es⟩ =>
  subst eo es
  have ty:Shared.TypeIs { s with heap:=s.heap.push (a1r (!byT w)) } (.ref s.heap.objs.size) "set":=⟨_,Heap.get?_push_size _ rfl,rfl⟩
  have look:=F.called_set.init.lookup
  have bound:=F.called_set.init.bind (.ref s.heap.objs.size)
  repeat any_goals first | assumption | wp_step
  refine codeAny_mono (codeAny_call_builtin (R:=wants (fun r s2=>r = .none∧Q (.ref s.heap.objs.size) s2) E) F.called_set.init.plain F.entry_set_init (check_set_init_1 ty (ahg hh hl no1 no2 no3 few (it _) fun h' tk x1 k1=>⟨rfl,q h' tk x1 k1⟩))) fun r2 s2 hr2=>?_
  match r2,hr2 with
  | .error _,hr2=>exact hr2
  | .ok (.ret _),⟨e2,q2⟩ =>
   subst e2
   repeat any_goals first | assumption | wp_step
  | .ok .next,hr2=>exact hr2.elim
  | .ok .brk,hr2=>exact hr2.elim
  | .ok .cont,hr2=>exact hr2.elim
 | .ok .next,hr=>exact hr.elim
 | .ok .brk,hr=>exact hr.elim
 | .ok .cont,hr=>exact hr.elim
end
end SETB
namespace L2
open PySem PySem.Spec PyProof.Rows SETB
theorem sub_tuple_set:isSubtype (.type "tuple") (.type "set")=pure false∧isSubtype (.type "tuple") (.type "frozenset")=pure false:=by
 constructor<;>(rw [isSubtype_type];kernel_rfl)
section
variable {X:Cx}
theorem acd {its:List Value} {ns:List Int} {v:Value} (h:IntsAre its ns) {i:Nat} (e:its.toArray[i]? = some v):∃ t,v = .int (ns.getD i 0) t:=by
 replace e:its[i]? = some v:=by simpa using e
 induction h generalizing i with
 | nil=>simp at e
 | cons n t _ ih =>
  cases i with
  | zero=>simp at e;subst e;exact ⟨_,rfl⟩
  | succ i=>simpa using ih (by simpa using e)
theorem aef (hc:X.calm=true):CallR X (.type "set") (fun xs H Q=>∃ (p:Addr) (ns:List Int),xs=[.ref p]∧(SqL X.K H p (ns.map V.int)∨SqT X.K H p (ns.map V.int))∧ns.length+1<scanBound∧∀ l,H l=none→Q (.ref l) (upd H l (ap0 X.w l (ns.foldl stepK [])))):=by
 intro pins s σ H xs us Q I r h
 obtain ⟨p,ns,rfl,hq,few,q⟩:=h
 obtain ⟨u,rfl,rx⟩:=vals1 r
 cases rx
 have fin:∀ (h':Heap) (tk:Nat),SetI (!byT X.w) s.heap.objs.size (ns.foldl stepK []) h'→(∀ c o,s.heap.get? c=some o→h'.get? c=some o)→EP X pins σ Q (.ref s.heap.objs.size) { s with heap:=h',toks:=tk }:=fun h' tk hS kp =>
  ⟨.ref s.heap.objs.size,_,I.laid (t':=tk) (o:=ap0 X.w s.heap.objs.size (ns.foldl stepK [])) kp (Nat.le_refl _) (ahc hS),rfl,q _ (I.hok.fresh (Nat.le_refl _))⟩
 rcases hq with hq | hq
 ·obtain ⟨its,r',pl,hz⟩:=I.list hq
  have hI:IntsAre its ns:=intsAre_of r'
  have hl:its.length=ns.length:=by have:=r'.length;simp at this;omega
  obtain ⟨o,ho,hcl,n,hd⟩:=pl.isList
  obtain ⟨oc,od,odt,osl⟩:=o
  simp only at hcl hd
  subst hcl hd
  have hlt:=Heap.lt_size ho
  refine a2m (ns:=ns) ho F.sub_list_set F.sub_list_frozenset (by decide) few (fun A s1 Q E e1 k=>?_) (I.ok.hd hc) fin
  have hlt1:=Heap.lt_size e1
  have il:s1.heap.IsList p its.toArray:=⟨_,e1,rfl,n,rfl⟩
  refine wpAny_pyIter_list il (k _ (fun i h=>h.IsListIter s1.heap.objs.size p i∧h.IsList p its.toArray) (fun i v=>its.toArray[i]? = some v) (fun A' hA=>?_) (fun i v e=>acd hI e) ⟨⟨_,Heap.get?_push_size _ rfl,rfl,rfl⟩,il.at fun o e=>Heap.get?_push_of_some _ e⟩)
  have W:=Walks.list (prog:=X.prog) (w:=X.w) (A:=A') hA s1.heap.objs.size p (Nat.ne_of_lt hlt1) its.toArray
  rwa [show its.toArray.size=ns.length by simpa using hl] at W
 ·obtain ⟨its,r',pl,hz⟩:=I.tuple hq
  have hI:IntsAre its ns:=intsAre_of r'
  have hl:its.length=ns.length:=by have:=r'.length;simp at this;omega
  obtain ⟨o,ho,hcl,n,hd⟩:=pl
  obtain ⟨oc,od,odt,osl⟩:=o
  simp only at hcl hd
  subst hcl hd
  refine a2m (ns:=ns) ho sub_tuple_set.1 sub_tuple_set.2 (by decide) few (fun A s1 Q E e1 k=>?_) (I.ok.hd hc) fin
  have hlt1:=Heap.lt_size e1
  have il:s1.heap.IsTuple p its.toArray:=⟨_,e1,rfl,n,rfl⟩
  refine wpAny_pyIter_tuple il (k _ (fun i h=>h.IsTupleIter s1.heap.objs.size p i∧h.IsTuple p its.toArray) (fun i v=>its.toArray[i]? = some v) (fun A' hA=>?_) (fun i v e=>acd hI e) ⟨⟨_,Heap.get?_push_size _ rfl,rfl,rfl⟩,il.at fun o e=>Heap.get?_push_of_some _ e⟩)
  have W:=Walks.tuple (prog:=X.prog) (w:=X.w) (A:=A') hA s1.heap.objs.size p (Nat.ne_of_lt hlt1) its.toArray
  rwa [show its.toArray.size=ns.length by simpa using hl] at W
end
end L2
namespace MI
open PySem PySem.Spec L2 SETB
def ahh (d:D) (h:Hd):Option (List Int):=match d with
 | .tup xs=>a2f xs
 | d=>a6e d h
def aeg:D→Hd→R D:=fun d h=>match ahh d h with
 | some ns=>if ns.length≤4000 then aii (ns.foldl stepK []) h else .no
 | none=>.no
theorem ak7 {K:PySem.W.Frag} {ι:List Addr} {H:Hp} {h:Hd} {v:V} {d:D} {ns:List Int} (r:Rep K ι H v d) (hr:HRep K ι H h) (e:ahh d h=some ns):∃ p,v = .ref p∧(SqL K H p (ns.map V.int)∨SqT K H p (ns.map V.int)):=by
 cases d with
 | tup xs =>
  cases r with
  | tup hh rs =>
   have e:a2f xs=some ns:=e
   exact ⟨_,rfl, .inr (by rw [← a2g rs e];exact SqT.of hh)⟩
 | _ =>
  obtain ⟨p,e1,q⟩:=a8x r hr e
  exact ⟨p,e1, .inl q⟩
theorem ap6 {X:Cx} {E:XD} {e:Expr} {f:SE} {p p2 pos pos2:Pos} (hg:Gl X "sorted") (hm:X.mg "sorted" = none) (hg2:Gl X "set") (hm2:X.mg "set" = none) (hc:X.calm=true) (he:ME X E e f)
  (hs:starEach [e] X.env=[(false,eval e X.env)]:=by rfl) (hs2:starEach [Expr.Call (.Name "set" p2) [e] [] pos2] X.env=[(false,eval (.Call (.Name "set" p2) [e] [] pos2) X.env)]:=by rfl) :
  ME X E (.Call (.Name "sorted" p) [.Call (.Name "set" p2) [e] [] pos2] [] pos) (s1 aeg f):=by
 refine PE.weak (a6v (a0q hc) hg hm rfl (a1k (a8g (aef hc) hg2 hm2 rfl (a1k he a66 (by rw [hs];rfl)) (by decide) (by decide) (by rw [hs];rfl)) a66 (by rw [hs2];rfl)) (by decide) (by decide) (by rw [hs2];rfl)) fun σ H Q ⟨ι,τ,h,S,Rh,o⟩=>?_
 refine ⟨ι,τ,h,S,Rh,cj o fun d h1 ι1 H1 v g1 r1 hr1 o1=>?_⟩
 unfold aeg at o1
 cases e1:ahh d h1 with
 | none=>rw [e1] at o1;exact o1.elim
 | some ns =>
  rw [e1] at o1
  simp only at o1
  by_cases hl:ns.length≤4000
  ·rw [if_pos hl] at o1
   obtain ⟨q,rfl,sq⟩:=ak7 r1 hr1 e1
   refine ⟨q,ns,rfl,sq,by have:scanBound=4096:=rfl;omega,fun l hl'=>?_⟩
   unfold aii at o1
   by_cases h6:(ns.foldl stepK []).length<64
   ·rw [if_pos h6] at o1
    exact ⟨l,_,rfl,jq,h6,p7 (E:=E) (a04 _) (hr1.aside hl' _) (wz o1 (ye hl' _))⟩
   ·rw [if_neg h6] at o1;exact o1.elim
  ·rw [if_neg hl] at o1;exact o1.elim
end MI
namespace L2
open PySem PySem.Spec PyProof.Rows
section
variable {prog:Program} {w:World} {A:Around} {E:Value→Shared→Prop} {R:Result→Shared→Prop}
abbrev stO (T:Addr) (c:Nat):Obj:={ cls:=.type "list",dict:=none,data:=.seq #[.ref T] c,slots := #[] }
theorem a1h {I S:Addr} {fp wr:List Addr} {n:Nat} {P:Nat→Value→Prop} {St:Nat→Heap→Prop} (W:Walks prog w A.in1 I fp wr n P St) (hS:S ∉ fp) (its:Nat→List Value) (ad cn:Nat→Nat) (key:∀ i v,i<n→P i v→v = .ref (ad i)) (aw:∀ i,i<n→ad i ∉ wr∧ad i≠S) (fS:∀ b∈fp,b<S) :
  ∀ (left i:Nat) (s:Shared) (T:Addr) (tot:List Value) (c m:Nat),i+left=n→St i s.heap→s.heap.get? S=some (stO T c)→T≠S→T ∉ wr→IsL s.heap T tot.toArray m→(∀ j,j<n→IsL s.heap (ad j) (its j).toArray (cn j))  →
   (tot++((List.range' i left).map its).flatten).length≤sizeLine →
   (∀ (h':Heap) (tk:Nat) (T':Addr) (m':Nat),IsL h' T' (tot++((List.range' i left).map its).flatten).toArray m'→(left=0→T'=T)→(left≠0→S<T')→(∀ b o,b ∉ wr→b≠S→s.heap.get? b=some o→h'.get? b=some o)→R (.ok (.ret (.ref T'))) { s with heap:=h',toks:=tk }) →
   codeAny (model prog w) A (.builtin "sum.loop" ⟨[.ref I, .ref S,rawInt 2,rawInt 0],[]⟩) R s
 | 0,i,s,T,tot,c,m,hi,st,eS,hTS,hTw,eT,el,hz,fin=>codeAny_builtin F.entry_sum_loop (by
   obtain rfl:i=n:=by omega
   simp only [Around.under_plainId F.plain_sum_loop]
   show wpAny _ A.in1 (seqItems? (.ref S)>>=_) _ _ s
   refine wpAny_bind (wpAny_seqItems eS rfl ?_)
   show wpAny _ A.in1 (tryCatch (pyNext (.ref I)) _>>=_) _ _ s
   refine wpAny_bind (wpAny_tryCatch (W.done s _ _ st fun h' tk k=>?_))
   exact wpAny_pure (fin h' tk T m (by simpa using k T _ hTw eT) (fun _=>rfl) (fun z=>absurd rfl z) fun b o hb _ e=>k b o hb e))
 | left+1,i,s,T,tot,c,m,hi,st,eS,hTS,hTw,eT,el,hz,fin=>codeAny_builtin F.entry_sum_loop (by
   have hin:i<n:=by omega
   have hSw:S ∉ wr:=fun z=>hS (W.sub _ z)
   simp only [Around.under_plainId F.plain_sum_loop]
   show wpAny _ A.in1 (seqItems? (.ref S)>>=_) _ _ s
   refine wpAny_bind (wpAny_seqItems eS rfl ?_)
   show wpAny _ A.in1 (tryCatch (pyNext (.ref I)) _>>=_) _ _ s
   refine wpAny_bind (wpAny_tryCatch (W.item i s _ _ hin st fun v h1 t1 p st1 k1=>?_))
   obtain rfl:=key i v hin p
   have eS1:=k1 S _ hSw eS
   have eT1:IsL h1 T tot.toArray m:=k1 T _ hTw eT
   have ei1:IsL h1 (ad i) (its i).toArray (cn i):=k1 _ _ (aw i hin).1 (el i hin)
   have zl:tot.length+(its i).length≤sizeLine:=by
    rw [List.range'_succ,List.map_cons,List.flatten_cons,List.length_append,List.length_append] at hz
    omega
   show wpAny _ A.in1 ((holding [Value.ref (ad i)] (binaryOp .Add (.ref T) (.ref (ad i)))).attempt>>=_) _ _ { s with heap:=h1,toks:=t1 }
   refine wpAny_bind (wpAny_attempt (wpAny_holding (PySem.P.add_list (s:={ s with heap:=h1,toks:=t1 }) eT1 ei1 ?_ (by simpa using zl))))
   have app:tot.toArray++(its i).toArray=(tot++its i).toArray:=by simp
   rw [app]
   dsimp only
   generalize hG:h1.push { cls:=.type "list",dict:=none,data:=.seq (tot++its i).toArray }=G
   have kG:∀ b o,h1.get? b=some o→G.get? b=some o:=fun b o e=>by rw [← hG];exact Heap.get?_push_of_some _ e
   have lS:=Heap.lt_size eS1
   have neS:h1.objs.size≠S:=Nat.ne_of_gt lS
   have eN:IsL G h1.objs.size (tot++its i).toArray 0:=by rw [← hG];exact Heap.get?_push_size _ rfl
   have eS2:=kG S _ eS1
   show wpAny _ A.in1 (updateSeq S (fun _ => #[.ref h1.objs.size])>>=_) _ _ _
   refine wpAny_bind (wpAny_updateSeq eS2 rfl ?_)
   have eS3:=Heap.get?_update_self (Obj.mapSeq fun _ => #[Value.ref h1.objs.size]) eS2 rfl
   refine wpAny_bind (wpAny_letGo ?_)
   refine wpAny_bind (wpAny_updateSeq eS3 rfl ?_)
   have eS4:=Heap.get?_update_self (Obj.mapSeq fun _ => #[Value.ref h1.objs.size]) eS3 rfl
   have k2:∀ b o,b≠S→G.get? b=some o→((G.update S (Obj.mapSeq fun _ => #[Value.ref h1.objs.size])).update S (Obj.mapSeq fun _ => #[Value.ref h1.objs.size])).get? b=some o:=fun b o hb e=>(Heap.get?_update_other _ _ (Ne.symm hb)).trans ((Heap.get?_update_other _ _ (Ne.symm hb)).trans e)
   have lw:h1.objs.size ∉ wr:=fun z=>Nat.lt_irrefl _ (Nat.lt_trans lS (fS _ (W.sub _ z)))
   refine wpAny_pure ⟨plainId_quiet F.plain_sum_loop _,a1h W hS its ad cn key aw fS left (i+1) _ h1.objs.size (tot++its i) _ _ (by omega) (W.frame _ _ _ st1 fun b hb o e=>k2 b o (fun z=>hS (z ▸ hb)) (kG b o e)) eS4 neS lw (k2 _ _ neS eN) (fun j hj=>k2 _ _ (aw j hj).2 (kG _ _ (k1 _ _ (aw j hj).1 (el j hj)))) ?_ fun h' tk T' m' e1 e2 e3 e4=>?_⟩
   ·rw [List.range'_succ,List.map_cons,List.flatten_cons,← List.append_assoc] at hz;exact hz
   ·refine fin h' tk T' m' (by rw [List.range'_succ,List.map_cons,List.flatten_cons,← List.append_assoc];exact e1) (fun z=>absurd z (by omega)) (fun _=>?_) fun b o hb hbS e=>e4 b o hb hbS (k2 b o hbS (kG b o (k1 b o hb e)))
    by_cases z:left=0
    ·rw [e2 z];exact lS
    ·exact e3 z)
theorem ahi (a b:Value):argsOk "sum" ⟨[a,b],[]⟩:=by unfold argsOk;kernel_rfl
theorem ahj {p q:Addr} {ps qs:List Value} {cp cq:Nat} {s:Shared} (its:Nat→List Value) (ad cn:Nat→Nat) {Q:Value→Shared→Prop} (hh:A.handled=none) (ep:IsL s.heap p ps.toArray cp) (eq:IsL s.heap q qs.toArray cq) (key:∀ (i:Nat) v,ps[i]? = some v→v = .ref (ad i)∧IsL s.heap (ad i) (its i).toArray (cn i))
  (hz:(qs++((List.range' 0 ps.length).map its).flatten).length≤sizeLine)
  (fin:∀ (h':Heap) (tk:Nat) (T':Addr) (m':Nat),IsL h' T' (qs++((List.range' 0 ps.length).map its).flatten).toArray m'→(ps.length=0→T'=q)→(ps.length≠0→s.heap.objs.size≤T')→(∀ b o,s.heap.get? b=some o→h'.get? b=some o)→Q (.ref T') { s with heap:=h',toks:=tk }) :
  wpAny (model prog w) A (call (.builtin "sum") [.ref p, .ref q]) Q E s:=by
 refine call_function_tree F.kind_sum F.plain_sum F.entry_sum (ahi _ _) ?_
 unfold Builtin.«sum»
 simp only [List.length_cons,List.length_nil]
 rw [if_neg (by decide)]
 refine wpAny_bind (wpAny_of_eq (show Builtin.Builtins.bindParams "sum" ["start"] 0 ⟨[.ref q],[]⟩=pure [some (.ref q)] from rfl) ?_)
 have lp:=Heap.lt_size ep
 have lq:=Heap.lt_size eq
 refine wpAny_bind (wpAny_pyIter_list (⟨_,ep,rfl,cp,rfl⟩:s.heap.IsList p ps.toArray) ?_)
 generalize hG:s.heap.push _=G
 have kG:∀ b o,s.heap.get? b=some o→G.get? b=some o:=fun b o e=>by rw [← hG];exact Heap.get?_push_of_some _ e
 have iG:G.IsListIter s.heap.objs.size p 0:=by rw [← hG];exact ⟨_,Heap.get?_push_size _ rfl,rfl,rfl⟩
 have sG:G.objs.size=s.heap.objs.size+1:=by rw [← hG,Heap.size_push]
 have ty:Shared.TypeIs { s with heap:=G } (.ref q) "list":=⟨_,kG _ _ eq,rfl⟩
 refine wpAny_bind (wpAny_pure ?_)
 simp only [List.forIn_cons,List.forIn_nil]
 refine wpAny_bind (wpAny_bind (wpAny_bind (wpAny_isInstance (T := "list") (b:=false) ty F.sub_list_str ?_)))
 simp only [Bool.false_eq_true,if_false]
 refine wpAny_pure (wpAny_bind (wpAny_bind (wpAny_isInstance (T := "list") (b:=false) ty F.sub_list_bytes ?_)))
 simp only [Bool.false_eq_true,if_false]
 refine wpAny_pure (wpAny_bind (wpAny_bind (wpAny_isInstance (T := "list") (b:=false) ty F.sub_list_bytearray ?_)))
 simp only [Bool.false_eq_true,if_false]
 refine wpAny_pure (wpAny_pure ?_)
 refine wpAny_bind (wpAny_newObj_type ?_)
 generalize hK:({ s with heap:=G }:Shared).heap.push _=G2
 have kK:∀ b o,G.get? b=some o→G2.get? b=some o:=fun b o e=>by rw [← hK];exact Heap.get?_push_of_some _ e
 have eS:G2.get? G.objs.size=some (stO q 0):=by rw [← hK];exact Heap.get?_push_size _ rfl
 have W:=Walks.list (prog:=prog) (w:=w) (A:=A.in1) (by simpa using hh) s.heap.objs.size p (Nat.ne_of_lt lp) ps.toArray
 have nw:∀ b o,s.heap.get? b=some o→b ∉ [s.heap.objs.size]∧b≠G.objs.size:=fun b o e=>by
  have:=Heap.lt_size e
  refine ⟨fun z=>?_,fun z=>?_⟩
  ·rw [List.mem_singleton.mp z] at this;exact Nat.lt_irrefl _ this
  ·rw [z,sG] at this;exact absurd this (Nat.not_lt.mpr (Nat.le_succ _))
 have ff:∀ b∈[s.heap.objs.size,p],b<G.objs.size:=fun b hb=>by
  rw [sG]
  simp only [List.mem_cons,List.not_mem_nil,or_false] at hb
  rcases hb with rfl | rfl
  ·exact Nat.lt_succ_self _
  ·exact Nat.lt_succ_of_lt lp
 have ky:∀ i,i<ps.length→ps[i]? = some (.ref (ad i))∧IsL s.heap (ad i) (its i).toArray (cn i):=fun i hi=>by
  obtain ⟨a,b⟩:=key i _ (List.getElem?_eq_getElem hi)
  exact ⟨by rw [List.getElem?_eq_getElem hi,a],b⟩
 have n0:ps.toArray.size=ps.length:=by simp
 refine wpAny_pure ⟨plainId_quiet F.plain_sum_loop _,a1h W (fun z=>Nat.lt_irrefl _ (ff _ z)) its ad cn (fun i v hi e=>(key i v (by simpa using e)).1) (fun i hi=>nw _ _ (ky i (by simpa using hi)).2) ff ps.length 0 _ q qs 0 cq (by simp) ⟨iG.at fun o e=>kK _ _ e,(⟨_,kK _ _ (kG _ _ ep),rfl,cp,rfl⟩:G2.IsList p ps.toArray)⟩ eS (nw _ _ eq).2 (nw _ _ eq).1 (kK _ _ (kG _ _ eq)) (fun j hj=>kK _ _ (kG _ _ (ky j (by simpa using hj)).2)) hz fun h' tk T' m' e1 e2 e3 e4=>?_⟩
 refine fin h' tk T' m' e1 e2 (fun z=>?_) fun b o e=>e4 b o (nw b o e).1 (nw b o e).2 (kK _ _ (kG _ _ e))
 have:=e3 z
 rw [sG] at this
 exact Nat.le_of_lt (Nat.lt_of_succ_lt this)
end
end L2
namespace L2
open PySem PySem.Spec PyProof.Rows
section
variable {X:Cx}
def Lss (H:Hp):List V→List (List V)→Prop
 | [],[]=>True
 | v::vs,zs::zss=>(∃ a,v = .ref a∧Rd H a (.lst zs))∧Lss H vs zss
 | _,_=>False
theorem a9b {pins:List (Addr × Obj)} {σ:St} {H:Hp} {s:Shared} (I:Inv X pins σ H s):∀ {vs:List V} {zss:List (List V)} {us:List Value},Lss H vs zss→Vals vs us →
  ∃ (its:List (List Value)) (ad cn:List Nat),its.length=us.length∧ad.length=us.length∧cn.length=us.length∧Vals zss.flatten its.flatten∧∀ (i:Nat) v,us[i]? = some v→v = .ref (ad.getD i 0)∧IsL s.heap (ad.getD i 0) (its.getD i []).toArray (cn.getD i 0)
 | [],[],_,_, .nil=>⟨[],[],[],rfl,rfl,rfl, .nil,fun i v e=>by simp at e⟩
 | v::vs,zs::zss,_,⟨⟨a,e,h⟩,hs⟩, .cons r rs=>by
  subst e
  cases r
  obtain ⟨_,as,n,va,la,ea⟩:=I.lstR h
  obtain ⟨its,ad,cn,l1,l2,l3,vf,k⟩:=a9b I hs rs
  refine ⟨as::its,a::ad,n::cn,by simp [l1],by simp [l2],by simp [l3],by rw [List.flatten_cons,List.flatten_cons];exact va.append vf,fun i v e=>?_⟩
  cases i with
  | zero=>simp at e;subst e;exact ⟨rfl,ea⟩
  | succ i=>simpa using k i v (by simpa using e)
theorem ahk (hc:X.calm=true):CallR X (.builtin "sum") (fun xs H Q=>∃ (p q:Addr) (vs ys:List V) (zss:List (List V)),xs=[.ref p, .ref q]∧Rd H p (.lst vs)∧Rd H q (.lst ys)∧Lss H vs zss∧(ys++zss.flatten).length≤sizeLine∧(vs=[]→Q (.ref q) H)∧(vs≠[]→∀ l,H l=none→Q (.ref l) (upd H l (.lst (ys++zss.flatten))))):=by
 intro pins s σ H xs us Q I r h
 obtain ⟨p,q,vs,ys,zss,rfl,hp,hq,hl,hz,q1,q2⟩:=h
 cases r with
 | cons r1 r =>
  cases r with
  | cons r2 r =>
   cases r;cases r1;cases r2
   obtain ⟨_,ps,cp,vp,lp,ep⟩:=I.lstR hp
   obtain ⟨_,qs,cq,vq,lq,eq⟩:=I.lstR hq
   obtain ⟨its,ad,cn,l1,l2,l3,vf,k⟩:=a9b I hl vp
   have e0:(List.range' 0 ps.length).map (fun i=>its.getD i [])=its:=by
    refine List.ext_getElem? fun i=>?_
    by_cases hi:i<ps.length
    ·rw [List.getElem?_map,List.getElem?_range' hi,List.getElem?_eq_getElem (by omega)]
     simp [List.getD_eq_getElem?_getD,show i<its.length by omega]
    ·rw [List.getElem?_eq_none (by simp;omega),List.getElem?_eq_none (by omega)]
   refine ahj (fun i=>its.getD i []) (fun i=>ad.getD i 0) (fun i=>cn.getD i 0) (I.ok.hd hc) ep eq k ?_ fun h' tk T' m' e1 e2 e3 e4=>?_
   ·rw [e0,List.length_append,← vq.length,← vf.length,← List.length_append];exact hz
   ·rw [e0] at e1
    by_cases z:vs=[]
    ·have:ps.length=0:=by rw [← lp,z];rfl
     rw [e2 this]
     exact ⟨.ref q,H,I.kept (t':=tk) e4,rfl,q1 z⟩
    ·have:ps.length≠0:=by rw [← lp];exact fun w=>z (List.length_eq_zero_iff.mp w)
     exact ⟨.ref T',_,I.laid (t':=tk) e4 (e3 this) (show ObjOk X.prog X.w _ _ _ (.lst (ys++zss.flatten)) from ⟨hz,_,m',vq.append vf,e1⟩),rfl,q2 z _ (I.hok.fresh (e3 this))⟩
end
end L2
namespace MI
open PySem PySem.Spec L2
noncomputable def aeh:List D→Hd→R D
 | [x,y],h=>(match pq x h,pq y h with
  | some xs,some ys=>(match a01 (fun d=>pq d h) xs with
   | some zss=>if (ys++zss.flatten).length≤LINE then (if xs=[] then .ok y h else .ok (.ref h.length) (h++[.lst (ys++zss.flatten)])) else .no
   | none=>.no)
  | _,_=>.no)
 | _,_=>.no
theorem am1 {K:PySem.W.Frag} {ι:List Addr} {H:Hp} {h:Hd} (hr:HRep K ι H h):∀ {vs:List V} {xs:List D} {zss:List (List D)},Reps K ι H vs xs→a01 (fun d=>pq d h) xs=some zss→∃ wss:List (List V),Lss H vs wss∧Reps K ι H wss.flatten zss.flatten
 | _,_,_, .nil,e=>by cases e;exact ⟨[],trivial, .nil⟩
 | _,_,_, .cons (d:=d) (ds:=ds) r rs,e=>by
  unfold a01 at e
  cases e1:pq d h with
  | none=>rw [e1] at e;cases e
  | some ys =>
   cases e2:a01 (fun d=>pq d h) ds with
   | none=>rw [e1,e2] at e;cases e
   | some yss =>
    rw [e1,e2] at e
    cases e
    obtain ⟨a,ws,rfl,hw,rw'⟩:=yw r hr e1
    obtain ⟨wss,hs,rr⟩:=am1 hr rs e2
    exact ⟨ws::wss,⟨⟨a,rfl,hw⟩,hs⟩,by rw [List.flatten_cons,List.flatten_cons];exact rw'.app rr⟩
theorem ak8 {K:PySem.W.Frag}:abf K aeh (fun xs H Q=>∃ (p q:Addr) (vs ys:List V) (zss:List (List V)),xs=[.ref p, .ref q]∧Rd H p (.lst vs)∧Rd H q (.lst ys)∧Lss H vs zss∧(ys++zss.flatten).length≤sizeLine∧(vs=[]→Q (.ref q) H)∧(vs≠[]→∀ l,H l=none→Q (.ref l) (upd H l (.lst (ys++zss.flatten))))):=by
 intro E ι H h xs ds Q r hr o
 unfold aeh at o
 split at o
 ·rename_i x y
  cases r with
  | cons r1 r =>
   cases r with
   | cons r2 r =>
    cases r
    cases e1:pq x h with
    | none=>simp only [e1] at o;exact o.elim
    | some xs =>
     cases e2:pq y h with
     | none=>simp only [e1,e2] at o;exact o.elim
     | some ys =>
      cases e3:a01 (fun d=>pq d h) xs with
      | none=>simp only [e1,e2,e3] at o;exact o.elim
      | some zss =>
       simp only [e1,e2,e3] at o
       by_cases hl:(ys++zss.flatten).length≤LINE
       ·rw [if_pos hl] at o
        obtain ⟨p,vs,rfl,hp,rp⟩:=yw r1 hr e1
        obtain ⟨q,us,rfl,hq,rq⟩:=yw r2 hr e2
        obtain ⟨wss,hw,rr⟩:=am1 hr rp e3
        refine ⟨p,q,vs,us,wss,rfl,hp,hq,hw,?_,fun z=>?_,fun z=>?_⟩
        ·have a:=rq.len
         have b:=rr.len
         rw [List.length_append] at hl ⊢
         rw [a,b]
         exact ll hl
        ·subst z
         cases rp
         rw [if_pos rfl] at o
         exact o ι H _ (.refl _ _) r2 hr
        ·rw [if_neg (fun w=>z (by subst w;cases rp;rfl))] at o
         exact p7 (rq.app rr) hr o
       ·rw [if_neg hl] at o;exact o.elim
 ·exact o.elim
end MI
namespace K71
open PySem PySem.Spec L2 MI
noncomputable def mq:SE :=
 (sA yc (aj (sV 3) (aj (sV 0) (aj (sV 1) d7))))
noncomputable def oh:SS :=
 (iz (a88 (sV 0) (a3x 2 (jx (kN 1) (jx (kN 2) a4p))))
 (yf (m7 (sIt (sV 2)) (tN 3) mq [1])))
noncomputable def a05 (ie:SF) (zp:SF):SE :=
 (sA (uf false 1 zp) (aj (sV 0) d7))
noncomputable def uz (ie:SF) (zp:SF):SS :=
 (yf (sA m9 (aj (sZ (m7 (sIt (sA (uf false 1 ie) (aj (sV 0) d7))) t1 (a05 ie zp) [])) d7)))
noncomputable def xn (bz:SF):SS :=
 (iz (kj 1 (sA (uf false 1 bz) (aj (sV 0) d7)))
 (yf (aeo (sT (s2 (gIn false) (sC .non) (sV 1))) (sC .non) (sA a7m (aj (sV 1) d7)))))
noncomputable def a0c:SE :=
 (sC (.bl false))
noncomputable def a0d:SS :=
 (sIf (sOr (sT (s2 gGe (s2 gIx (sV 1) (sV 5)) (sC (.int 0)))) (a5s (s2 gIx (sV 2) (sV 5))))
 (aa6 (sC (.bl true)) (sV 2) (sV 4))
 sNx)
noncomputable def xq:SS :=
 (a4q (sIt (s2 gIx (sV 0) (sV 4))) (kN 5) a0d)
noncomputable def xr:SS :=
 (a4q (sRg zx (aj (sA yu (aj (sV 2) d7)) d7)) (kN 4) xq)
noncomputable def a0z:SS :=
 (iz (kj 2 (m7 (sIt (sV 0)) t1 a0c []))
 (iz (a4q (sRg zx (aj (sA yu (aj (sV 2) d7)) d7)) (kN 3) xr)
 (yf (sV 2))))
noncomputable def a0e (dg:SF):SS :=
 (sIf (aa4 (a5s (sA (uf false 2 dg) (aj (sV 2) (aj (sV 3) d7)))))
 aoa
 sNx)
noncomputable def xx (dg:SF):SS :=
 (iz (sIf (a5s (sA a7u (aj (sV 1) (aj (sA yc (aj (sC (.ty "list")) (aj (sC (.ty "tuple")) d7))) d7))))
 (iz (sIf (sOr (sT (s2 hNe (sA a08 (aj (sV 1) (aj (sC (.ty "list")) d7))) (sA a08 (aj (sV 0) (aj (sC (.ty "list")) d7))))) (sT (s2 hNe (sA a08 (aj (sV 1) (aj (sC (.ty "tuple")) d7))) (sA a08 (aj (sV 0) (aj (sC (.ty "tuple")) d7))))))
 aoa
 sNx)
 (iz (sIf (sT (s2 hNe (sA yu (aj (sV 0) d7)) (sA yu (aj (sV 1) d7))))
 aoa
 sNx)
 (iz (a4q (aer (sV 0) (sV 1)) (a3x 2 (jx (kN 2) (jx (kN 3) a4p))) (a0e dg))
 (yf (sC (.bl true))))))
 sNx)
 (iz (sIf (sT (s2 gIs (sV 1) (sC .non)))
 (yf (s2 gIs (sV 0) (sC .non)))
 sNx)
 (iz (sIf (a5s (sA a08 (aj (sV 1) (aj (sC (.ty "str")) d7))))
 aoa
 sNx)
 (yf (a4o (sA a08 (aj (sV 0) (aj (sC (.ty "int")) d7))) (a4o (a5v (sA a08 (aj (sV 0) (aj (sC (.ty "bool")) d7)))) (s2 hEq (sV 0) (sV 1))))))))
noncomputable def v4 (bf:SF):SE :=
 (sV 0)
noncomputable def my (bf:SF):ST :=
 (sT (s2 gGe (s2 gIx (sV 1) (sV 0)) (sC (.int 0))))
noncomputable def ql (bf:SF):SE :=
 (sZ (sA a79 (aj (s2 gIx (sV 1) (sV 0)) d7)))
noncomputable def zf (bf:SF):SE :=
 (sV 0)
noncomputable def zg (bf:SF):ST :=
 (sT (s2 gGe (s2 gIx (sV 1) (sV 0)) (sC (.int 0))))
noncomputable def a1i (bf:SF):SE :=
 (sV 0)
noncomputable def a1j (bf:SF):ST :=
 (aa3 (sT (s2 gLt (s2 gIx (sV 1) (sV 0)) (sC (.int 0)))) (a5s (s2 gIx (sV 2) (sV 0))))
noncomputable def zj (bf:SF):SS :=
 (iz (kj 6 (sZ (s1 aeg (sZ (sA aeh (aj (sZ (m7 (sIt (sV 3)) t1 (ql bf) [0])) (aj (sZ (sA a0v d7)) d7)))))))
 (iz (sIf (sT (s2 (ajt true) (sZ (p6 (sIt (sV 6)) t1 (zg bf) (zf bf) [1])) (sZ (sA a0v d7))))
 (kj 4 (sV 5))
 sNx)
 (kj 3 (sZ (p6 (sIt (sV 6)) t1 (a1j bf) (a1i bf) [1,2])))))
noncomputable def uv (bf:SF):SS :=
 (iz (kj 2 (sA (uf false 2 bf) (aj (sV 0) (aj (sV 1) d7))))
 (iz (kj 3 (sZ (p6 (sRg zx (aj (sA yu (aj (sV 1) d7)) d7)) t1 (my bf) (v4 bf) [1])))
 (iz (kj 4 (sC (.int 0)))
 (iz (a4q (sRg a5w (aj (sC (.int 1)) (aj (s2 j9 (sA yu (aj (sV 1) d7)) (sC (.int 2))) d7))) (kN 5) (zj bf))
 (iz (sIf (sT (s2 (ajt true) (sV 3) (sZ (sA a0v d7))))
 (yf (sC .non))
 sNx)
 (yf (sV 4)))))))
noncomputable def ace (di:SF) (jc:SF) (gk:SF) (dg:SF) (gj:SF) (ik:SF) (ak:SF) (bz:SF) (dz:SF):SE :=
 (sA (uf false 2 gk) (aj (s2 gIx (sV 0) (sC (.int 0))) (aj (s2 gIx (sV 0) (sC (.int 1))) d7)))
noncomputable def acf (di:SF) (jc:SF) (gk:SF) (dg:SF) (gj:SF) (ik:SF) (ak:SF) (bz:SF) (dz:SF):SE :=
 (sA yc (aj (s2 gIx (sV 0) (sC (.int 0))) (aj (s2 gIx (sV 0) (sC (.int 1))) (aj (s2 aee (sA yc (aj (sA yc (aj (sC (.str "shut")) d7)) d7)) (sC (.int 6))) d7))))
noncomputable def a7v (di:SF) (jc:SF) (gk:SF) (dg:SF) (gj:SF) (ik:SF) (ak:SF) (bz:SF) (dz:SF):SS :=
 (sIf (sOr (aa4 (a5s (sA (uf false 2 dg) (aj (sA (uf false 1 bz) (aj (sV 7) d7)) (aj (sV 4) d7))))) (aa4 (a5s (sA (uf false 2 dg) (aj (sA (uf false 1 dz) (aj (sV 7) d7)) (aj (sV 5) d7))))))
 aoa
 sNx)
noncomputable def ak9 (di:SF) (jc:SF) (gk:SF) (dg:SF) (gj:SF) (ik:SF) (ak:SF) (bz:SF) (dz:SF):SS :=
 (iz (kj 1 (sA (uf true 1 jc) (aj (sV 0) d7)))
 (iz (kj 2 (sA (uf false 3 ik) (aj (sV 1) (aj (sA (uf false 0 gj) d7) (aj (sC (.int 4)) d7)))))
 (iz (kj 3 (sA (uf false 3 di) (aj (sV 1) (aj (sV 2) (aj (s2 gIx (sZ (sA a0v (aj (sC (.int 8)) (aj (sC (.int 8)) (aj (sC (.int 16)) (aj (sC (.int 32)) d7)))))) (sA (uf false 2 ak) (aj (sV 1) (aj (sC (.int 4)) d7)))) d7)))))
 (iz (kj 4 (sA m9 (aj (sZ (m7 (sIt (s2 gIx (sV 3) (sC (.int 1)))) t1 (ace di jc gk dg gj ik ak bz dz) [])) d7)))
 (iz (kj 5 (sC .non))
 (iz (sIf (sT (s2 (gIn true) (sC .non) (sV 4)))
 (kj 5 (sA a7m (aj (sV 4) d7)))
 sNx)
 (iz (kj 6 (sA yc (aj (sV 2) (aj (sA m9 (aj (sZ (m7 (sIt (s2 gIx (sV 3) (sC (.int 1)))) t1 (acf di jc gk dg gj ik ak bz dz) [])) d7)) d7))))
 (iz (a4q (sIt (sA yc (aj (sV 3) (aj (sV 6) (aj (sV 3) d7))))) (kN 7) (a7v di jc gk dg gj ik ak bz dz))
 (yf (sC (.bl true)))))))))))
end K71
namespace K71
open PySem PySem.Spec L2 MI
def top (i:Nat):Stmt:=PySem.Challenge.pw_nearreach_k71_reaches_of_modes.main.body.getD i (.Pass ⟨0,0,0,0⟩)
structure Nm (mg:Str→Option Value):Prop where
 abs:mg "abs" = none
 any:mg "any" = none
 bool:mg "bool" = none
 enumerate:mg "enumerate" = none
 int:mg "int" = none
 isinstance:mg "isinstance" = none
 len:mg "len" = none
 list:mg "list" = none
 max:mg "max" = none
 min:mg "min" = none
 range:mg "range" = none
 set:mg "set" = none
 sorted:mg "sorted" = none
 str:mg "str" = none
 sum:mg "sum" = none
 tuple:mg "tuple" = none
 zip:mg "zip" = none
section
variable {P:Program} {w:World} {K:PySem.W.Frag} {mg:Str→Option Value} {base:Heap} {f:Addr}
theorem ax0:FnScope ["table"] ["table"] (bc (top 1)):=⟨rfl,rfl,rfl,by decide +kernel,rfl,by decide +kernel,by decide +kernel⟩
theorem m_0 {k:Nat} (M:Nm mg) {a_1:Addr} {d_1:FuncData} {k_1:Nat} {F_1:SF} (D_1:Dn P w K mg base k_1 "hope_word" ["table", "start"] (uw K 2 F_1) a_1 d_1) (h_1:k_1≤k) (cdv:Value) (A:Around) (outer:List Env) (s:Shared) (H:Hp) (E:XK) (hr:Room k (A.deeper (PyProof.Rows.envOfC "hope_words" (bc (top 1)) s.heap.objs.size f cdv))):MSs (a2r CX0 P w K mg base ["table"] "hope_words" (bc (top 1)) f cdv A outer s H E).nox X0 (iy (top 1)) (RCH.qz F_1) :=
 have SC:=ax0
 (cu (lz (vo (L2.CallR.or j6 (jk rfl)) qg rfl M.tuple nu (aa (a3r (yg rfl (CSc.of (ts:=["room"]) (fr:=["table"]) (ix:=[0]) rfl rfl rfl rfl (by intro p hp;cases List.mem_singleton.mp hp;rfl) rfl rfl rfl rfl) (a0m rfl M.range (aa (qd (L2.CallR.or g8 gf) ph rfl M.len wj (aa (du (bu 0) bj (fun _ _=>rfl)) az)) az)) (fun _ _ _ _=>(jj (i:=0) (show (["room", "table"]:List Str).Nodup by decide +kernel) rfl (Or.inl rfl) (.inr rfl))) ww (fun _ _ _ _=>(dq false D_1 (hr.mono h_1) rfl (aa (bu 1) (aa (bu 0) az)))))) az))))
theorem ax1:FnScope ["table", "start", "tongue", "goes", "kinds", "found", "seen", "looked", "room", "word", "sign", "to"] ["table", "start"] (bc (top 2)):=⟨rfl,rfl,rfl,by decide +kernel,rfl,by decide +kernel,by decide +kernel⟩
theorem m_1 {k:Nat} (M:Nm mg) (cdv:Value) (A:Around) (outer:List Env) (s:Shared) (H:Hp) (E:XK) (hr:Room k (A.deeper (PyProof.Rows.envOfC "hope_word" (bc (top 2)) s.heap.objs.size f cdv))):MSs (a2r CX0 P w K mg base ["table", "start", "tongue", "goes", "kinds", "found", "seen", "looked", "room", "word", "sign", "to"] "hope_word" (bc (top 2)) f cdv A outer s H E).nox X0 (iy (top 2)) (RCH.ut) :=
 have SC:=ax1
 (au (abj (bu 0) (a6b rfl (n8 (jg (i:=2) SC.nd rfl (Or.inl rfl)) (n8 (jg (i:=3) SC.nd rfl (Or.inl rfl)) (n8 (jg (i:=4) SC.nd rfl (Or.inl rfl)) a2v)))))
 (au (fu (i:=5) SC.nd rfl (Or.inl rfl) (zr (aa (uh (aa (bu 1) (aa a0k az))) az)))
 (au (fu (i:=6) SC.nd rfl (Or.inl rfl) (avy (bu 1) ad9))
 (au (fu (i:=7) SC.nd rfl (Or.inl rfl) bj)
 (au (abi 100000 PassesOwn.never (j8 (af2.or a0j) a8q (bu 7) (qd (L2.CallR.or g8 gf) ph rfl M.len wj (aa (bu 5) az)) (km _)) (au (abj (du (bu 5) (bu 7) (fun _ _=>rfl)) (a6b rfl (n8 (jg (i:=8) SC.nd rfl (Or.inl rfl)) (n8 (jg (i:=9) SC.nd rfl (Or.inl rfl)) a2v))))
 (au (zy PassesOwn.never rfl (alo rfl M.zip alp (bu 2) (du (bu 3) (bu 8) (fun _ _=>rfl))) (a6b rfl (n8 (jg (i:=10) SC.nd rfl (Or.inl rfl)) (n8 (jg (i:=11) SC.nd rfl (Or.inl rfl)) a2v))) (au (zb (j8 (a6d hr.u) a2z (du (bu 4) (bu 11) (fun _ _=>rfl)) (a8p bj) (km _))
 (cu (lz (jh (bu 9) (bu 10))))
 jz)
 (cu (zb (j8 (agn hr.u) adm (bu 11) (bu 6) (by with_unfolding_all rfl))
 (au (aon hr.u ad9 (bu 6) (bu 11))
 (cu (a2u (aab PySem.F.slot_list_append PySem.F.type_list_append zq a2x (bu 5) (aa (uh (aa (bu 11) (aa (jh (bu 9) (bu 10)) az))) az)))))
 jz))))
 (cu (aro (i:=7) SC.nd rfl (Or.inl rfl) (amo.or a9u) aje bj)))))
 (cu (lz a1e)))))))
theorem ax2:FnScope ["table"] ["table"] (bc (top 3)):=⟨rfl,rfl,rfl,by decide +kernel,rfl,by decide +kernel,by decide +kernel⟩
theorem m_2 {k:Nat} (M:Nm mg) {a_0:Addr} {d_0:FuncData} {k_0:Nat} {F_0:SF} (D_0:Dn P w K mg base k_0 "hope_words" ["table"] (uw K 1 F_0) a_0 d_0) (h_0:k_0≤k) (cdv:Value) (A:Around) (outer:List Env) (s:Shared) (H:Hp) (E:XK) (hr:Room k (A.deeper (PyProof.Rows.envOfC "hopes" (bc (top 3)) s.heap.objs.size f cdv))):MSs (a2r CX0 P w K mg base ["table"] "hopes" (bc (top 3)) f cdv A outer s H E).nox X0 (iy (top 3)) (RCH.a3h F_0) :=
 have SC:=ax2
 (cu (lz (vo (L2.CallR.or j6 (jk rfl)) qg rfl M.tuple nu (aa (a3r (yg rfl (CSc.noFree (ts:=["word"]) rfl (by decide +kernel) (by decide +kernel) (by decide +kernel)) (qx (dq false D_0 (hr.mono h_0) rfl (aa (bu 0) az))) (fun _ _ _ _=>(jj (i:=0) (show (["word"]:List Str).Nodup by decide +kernel) rfl (Or.inl rfl) (.inr rfl))) ww (fun _ _ _ _=>(a4n (amr.or a9z) ag0 (bu 0) a1e (km _))))) az))))
theorem ax3:FnScope ["table", "kinds"] ["table"] (bc (top 5)):=⟨rfl,rfl,rfl,by decide +kernel,rfl,by decide +kernel,by decide +kernel⟩
theorem m_3 {k:Nat} (M:Nm mg) {a_2:Addr} {d_2:FuncData} {k_2:Nat} {F_2:SF} (D_2:Dn P w K mg base k_2 "hopes" ["table"] (uw K 1 F_2) a_2 d_2) (h_2:k_2≤k) {a_4:Addr} {d_4:FuncData} {k_4:Nat} {F_4:SF} (D_4:Dn P w K mg base k_4 "reach_from" ["table", "hope", "starts"] (uw K 3 F_4) a_4 d_4) (h_4:k_4≤k) (cdv:Value) (A:Around) (outer:List Env) (s:Shared) (H:Hp) (E:XK) (hr:Room k (A.deeper (PyProof.Rows.envOfC "reach" (bc (top 5)) s.heap.objs.size f cdv))):MSs (a2r CX0 P w K mg base ["table", "kinds"] "reach" (bc (top 5)) f cdv A outer s H E).nox X0 (iy (top 5)) (RCH.a7t F_2 F_4) :=
 have SC:=ax3
 (au (fu (i:=1) SC.nd rfl (Or.inl rfl) (du (bu 0) bj (fun _ _=>rfl)))
 (cu (lz (dq false D_4 (hr.mono h_4) rfl (aa (bu 0) (aa (dq false D_2 (hr.mono h_2) rfl (aa (bu 0) az)) (aa (a3r (abm rfl (CSc.noFree (ts:=["room", "kind"]) rfl (by decide +kernel) (by decide +kernel) (by decide +kernel)) (aop rfl M.enumerate (bu 1)) (fun _ _ _ _=>aex rfl (a0u (jj (i:=0) (show (["room", "kind"]:List Str).Nodup by decide +kernel) rfl (Or.inl rfl) (.inr rfl)) (a0u (jj (i:=1) (show (["room", "kind"]:List Str).Nodup by decide +kernel) rfl (Or.inl rfl) (.inr rfl)) a9t))) ars (fun _ _ _ _=>(bu 0)) (fun _ _ _ _=>(j8 (a6d hr.u) a2z (bu 1) (a8p bj) (km _))))) az)))))))
theorem ax4:FnScope ["table", "hope", "starts", "tongue", "goes", "kinds", "most", "layer", "count", "led"] ["table", "hope", "starts"] (bc (top 6)):=⟨rfl,rfl,rfl,by decide +kernel,rfl,by decide +kernel,by decide +kernel⟩
theorem m_4 {k:Nat} (M:Nm mg) (cdv:Value) (A:Around) (outer:List Env) (s:Shared) (H:Hp) (E:XK) (hr:Room k (A.deeper (PyProof.Rows.envOfC "reach_from" (bc (top 6)) s.heap.objs.size f cdv))):MSs (a2r CX0 P w K mg base ["table", "hope", "starts", "tongue", "goes", "kinds", "most", "layer", "count", "led"] "reach_from" (bc (top 6)) f cdv A outer s H E).nox X0 (iy (top 6)) (RCH.yx) :=
 have SC:=ax4
 (au (abj (bu 0) (a6b rfl (n8 (jg (i:=3) SC.nd rfl (Or.inl rfl)) (n8 (jg (i:=4) SC.nd rfl (Or.inr rfl)) (n8 (jg (i:=5) SC.nd rfl (Or.inr rfl)) a2v)))))
 (au (fu (i:=6) SC.nd rfl (Or.inl rfl) bj)
 (au (fu (i:=7) SC.nd rfl (Or.inl rfl) (bu 2))
 (au (zy PassesOwn.never rfl (aft rfl M.range (aa bj (aa (jh (qd (L2.CallR.or g8 gf) ph rfl M.len wj (aa (bu 4) az)) bj) az))) (jg (i:=8) SC.nd rfl (Or.inl rfl)) (au (fu (i:=9) SC.nd rfl (Or.inl rfl) (a3r (ap3 rfl M.sorted rfl (CSc.of (ts:=["room", "to"]) (fr:=["goes"]) (ix:=[4]) rfl rfl rfl rfl (by intro p hp;cases List.mem_singleton.mp hp;rfl) rfl rfl rfl rfl) (qx (bu 7)) (fun _ _ _ _=>jj (i:=0) (show (["room", "to", "goes"]:List Str).Nodup by decide +kernel) rfl (Or.inl rfl) (.inr rfl)) (fun _ _ _ _=>(qx (du (bu 2) (bu 0) (fun _ _=>rfl)))) (fun _ _ _ _=>jj (i:=1) (show (["room", "to", "goes"]:List Str).Nodup by decide +kernel) rfl (Or.inl rfl) (.inr rfl)) (fun _ _ _ _=>(bu 1)))))
 (au (zb (a1f (qd (aad rfl) aog rfl M.any asi (aa (a3r (yg rfl (CSc.of (ts:=["to"]) (fr:=["kinds"]) (ix:=[5]) rfl rfl rfl rfl (by intro p hp;cases List.mem_singleton.mp hp;rfl) rfl rfl rfl rfl) (qx (bu 9)) (fun _ _ _ _=>(jj (i:=0) (show (["to", "kinds"]:List Str).Nodup by decide +kernel) rfl (Or.inl rfl) (.inr rfl))) ww (fun _ _ _ _=>(a4n (a6d hr.u) a2z (du (bu 1) (bu 0) (fun _ _=>rfl)) (a8p bj) (km _))))) az)))
 (cu (fu (i:=6) SC.nd rfl (Or.inl rfl) (bu 8)))
 jz)
 (au (a7g (i:=7) SC.nd rfl (Or.inl rfl) rfl (CSc.of (ts:=["to"]) (fr:=["hope", "kinds"]) (ix:=[1,5]) rfl rfl rfl rfl (by intro p hp;simp only [List.mem_cons,List.not_mem_nil,or_false] at hp;rcases hp with rfl | rfl<;>rfl) rfl rfl rfl rfl) (qx (bu 9)) (fun _ _ _ _=>(jj (i:=0) (show (["to", "hope", "kinds"]:List Str).Nodup by decide +kernel) rfl (Or.inl rfl) (.inr rfl))) ww (fun _ _ _ _=>(bu 0)) (fun _ _ _ _=>(PW.pt (afr (j8 (abr hr.u) a7b (du (bu 2) (bu 0) (fun _ _=>rfl)) (a8p bj) (km _)) (aa5 (a1f (du (bu 1) (bu 0) (fun _ _=>rfl))))))))
 (cu (zb (abh (a1f (bu 7)))
 (cu (lz (bu 6)))
 jz))))))
 (cu (lz a1e))))))
theorem ax5:FnScope ["machine", "tongue", "modes"] ["machine"] (bc (top 8)):=⟨rfl,rfl,rfl,by decide +kernel,rfl,by decide +kernel,by decide +kernel⟩
theorem m_5 {k:Nat} (cdv:Value) (A:Around) (outer:List Env) (s:Shared) (H:Hp) (E:XK) (hr:Room k (A.deeper (PyProof.Rows.envOfC "mode_tables" (bc (top 8)) s.heap.objs.size f cdv))):MSs (a2r CX0 P w K mg base ["machine", "tongue", "modes"] "mode_tables" (bc (top 8)) f cdv A outer s H E).nox X0 (iy (top 8)) (oh) :=
 have SC:=ax5
 (au (abj (bu 0) (a6b rfl (n8 (jg (i:=1) SC.nd rfl (Or.inr rfl)) (n8 (jg (i:=2) SC.nd rfl (Or.inl rfl)) a2v))))
 (cu (lz (yg rfl (CSc.of (ts:=["goes", "kinds", "deeds"]) (fr:=["tongue"]) (ix:=[1]) rfl rfl rfl rfl (by intro p hp;cases List.mem_singleton.mp hp;rfl) rfl rfl rfl rfl) (qx (bu 2)) (fun _ _ _ _=>aex rfl (a0u (jj (i:=0) (show (["goes", "kinds", "deeds", "tongue"]:List Str).Nodup by decide +kernel) rfl (Or.inl rfl) (.inr rfl)) (a0u (jj (i:=1) (show (["goes", "kinds", "deeds", "tongue"]:List Str).Nodup by decide +kernel) rfl (Or.inl rfl) (.inr rfl)) (a0u (jj (i:=2) (show (["goes", "kinds", "deeds", "tongue"]:List Str).Nodup by decide +kernel) rfl (Or.inl rfl) (.inr rfl)) a9t)))) aj4 (fun _ _ _ _=>(uh (aa (bu 3) (aa (bu 0) (aa (bu 1) az)))))))))
theorem ax6:FnScope ["machine"] ["machine"] (bc (top 9)):=⟨rfl,rfl,rfl,by decide +kernel,rfl,by decide +kernel,by decide +kernel⟩
theorem m_6 {k:Nat} (M:Nm mg) {a_5:Addr} {d_5:FuncData} {k_5:Nat} {F_5:SF} (D_5:Dn P w K mg base k_5 "mode_tables" ["machine"] (uw K 1 F_5) a_5 d_5) (h_5:k_5≤k) {a_3:Addr} {d_3:FuncData} {k_3:Nat} {F_3:SF} (D_3:Dn P w K mg base k_3 "reach" ["table"] (uw K 1 F_3) a_3 d_3) (h_3:k_3≤k) (cdv:Value) (A:Around) (outer:List Env) (s:Shared) (H:Hp) (E:XK) (hr:Room k (A.deeper (PyProof.Rows.envOfC "mode_reaches" (bc (top 9)) s.heap.objs.size f cdv))):MSs (a2r CX0 P w K mg base ["machine"] "mode_reaches" (bc (top 9)) f cdv A outer s H E).nox X0 (iy (top 9)) (uz F_5 F_3) :=
 have SC:=ax6
 (cu (lz (vo (L2.CallR.or j6 (jk rfl)) qg rfl M.tuple nu (aa (a3r (yg rfl (CSc.noFree (ts:=["table"]) rfl (by decide +kernel) (by decide +kernel) (by decide +kernel)) (qx (dq false D_5 (hr.mono h_5) rfl (aa (bu 0) az))) (fun _ _ _ _=>(jj (i:=0) (show (["table"]:List Str).Nodup by decide +kernel) rfl (Or.inl rfl) (.inr rfl))) ww (fun _ _ _ _=>(dq false D_3 (hr.mono h_3) rfl (aa (bu 0) az))))) az))))
theorem ax7:FnScope ["machine", "reaches"] ["machine"] (bc (top 10)):=⟨rfl,rfl,rfl,by decide +kernel,rfl,by decide +kernel,by decide +kernel⟩
theorem m_7 {k:Nat} (M:Nm mg) {a_6:Addr} {d_6:FuncData} {k_6:Nat} {F_6:SF} (D_6:Dn P w K mg base k_6 "mode_reaches" ["machine"] (uw K 1 F_6) a_6 d_6) (h_6:k_6≤k) (cdv:Value) (A:Around) (outer:List Env) (s:Shared) (H:Hp) (E:XK) (hr:Room k (A.deeper (PyProof.Rows.envOfC "moded_reach" (bc (top 10)) s.heap.objs.size f cdv))):MSs (a2r CX0 P w K mg base ["machine", "reaches"] "moded_reach" (bc (top 10)) f cdv A outer s H E).nox X0 (iy (top 10)) (xn F_6) :=
 have SC:=ax7
 (au (fu (i:=1) SC.nd rfl (Or.inl rfl) (dq false D_6 (hr.mono h_6) rfl (aa (bu 0) az)))
 (cu (lz (arl (j8 (anl.or afe) ao0 a1e (bu 1) (by with_unfolding_all rfl)) a1e (qd (a3e rfl) a7n rfl M.max ag4 (aa (bu 1) az))))))
theorem ax8:FnScope ["_law_script"] ["_law_script"] (bc (top 12)):=⟨rfl,rfl,rfl,by decide +kernel,rfl,by decide +kernel,by decide +kernel⟩
theorem m_8 {k:Nat} (cdv:Value) (A:Around) (outer:List Env) (s:Shared) (H:Hp) (E:XK) (hr:Room k (A.deeper (PyProof.Rows.envOfC "_law_pen" (bc (top 12)) s.heap.objs.size f cdv))):MSs (a2r CX0 P w K mg base ["_law_script"] "_law_pen" (bc (top 12)) f cdv A outer s H E).nox X0 (iy (top 12)) (PN.a2k) :=
 have SC:=ax8
 (cu (lz (zr (aa (a3r (a0o (bu 0) a77 (a2w bj))) (aa bj (aa bj az))))))
theorem ax9:FnScope ["_law_pen_here", "_law_many", "_law_found", "_law_at", "_law_cell", "_law_great", "_law_number"] ["_law_pen_here", "_law_many"] (bc (top 13)):=⟨rfl,rfl,rfl,by decide +kernel,rfl,by decide +kernel,by decide +kernel⟩
theorem m_9 {k:Nat} (M:Nm mg) (cdv:Value) (A:Around) (outer:List Env) (s:Shared) (H:Hp) (E:XK) (hr:Room k (A.deeper (PyProof.Rows.envOfC "_law_take" (bc (top 13)) s.heap.objs.size f cdv))):MSs (a2r CX0 P w K mg base ["_law_pen_here", "_law_many", "_law_found", "_law_at", "_law_cell", "_law_great", "_law_number"] "_law_take" (bc (top 13)) f cdv A outer s H E).nox X0 (iy (top 13)) (PN.a3f) :=
 have SC:=ax9
 (au (zb (j8 amq afz (du (bu 0) bj (fun _ _=>rfl)) bj (km _))
 (au (fu (i:=2) SC.nd rfl (Or.inl rfl) (a3p (du (bu 0) bj (fun _ _=>rfl)) (bu 1)))
 (au (a8n (afy (du (bu 0) bj (fun _ _=>rfl)) (bu 1)) (bu 0) bj)
 (cu (lz (bu 2)))))
 jz)
 (au (fu (i:=3) SC.nd rfl (Or.inl rfl) (du (bu 0) bj (fun _ _=>rfl)))
 (au (a8n (jh (bu 3) bj) (bu 0) bj)
 (au (fu (i:=4) SC.nd rfl (Or.inl rfl) bj)
 (au (zb (j8 amq afz (qd (L2.CallR.or g8 gf) ph rfl M.len wj (aa (du (bu 0) bj (fun _ _=>rfl)) az)) bj (km _))
 (cu (fu (i:=4) SC.nd rfl (Or.inl rfl) (du (du (bu 0) bj (fun _ _=>rfl)) (a3p (bu 3) (qd (L2.CallR.or g8 gf) ph rfl M.len wj (aa (du (bu 0) bj (fun _ _=>rfl)) az))) (fun _ _=>rfl))))
 jz)
 (au (zb (PW.pt (afr (j8 (af2.or a0j) a8q (bu 3) (qd (L2.CallR.or g8 gf) ph rfl M.len wj (aa (du (bu 0) bj (fun _ _=>rfl)) az)) (km _)) (aa5 (j8 aiq abn (qd ab4 ag3 rfl M.abs al8 (aa (bu 4) az)) (alh bj bj) (km _)))))
 (au (fu (i:=5) SC.nd rfl (Or.inl rfl) (jh (a7i bj (qd ab4 ag3 rfl M.abs al8 (aa (bu 4) az))) (vo af5 ao1 rfl M.int al9 (aa (a4n (af2.or a0j) a8q (bu 4) bj (km _)) az))))
 (au (a8n (afy (bu 5) (bu 1)) (bu 0) bj)
 (cu (lz (a3p (bu 5) (bu 1))))))
 jz)
 (au (fu (i:=6) SC.nd rfl (Or.inl rfl) (a3p (alh (jh (jh (a3p (bu 4) bj) (a7i bj (bu 3))) bj) bj) bj))
 (au (fu (i:=6) SC.nd rfl (Or.inl rfl) (a3p (jh (jh (a7i (bu 6) (bu 6)) (a7i bj (bu 6))) (bu 3)) bj))
 (cu (lz (a3p (afy (bu 6) bj) (bu 1))))))))))))
theorem asv:FnScope ["_law_some_here"] [] (bc (top 14)):=⟨rfl,rfl,rfl,by decide +kernel,rfl,by decide +kernel,by decide +kernel⟩
theorem ayc {k:Nat} (cdv:Value) (A:Around) (outer:List Env) (s:Shared) (H:Hp) (E:XK) (hr:Room k (A.deeper (PyProof.Rows.envOfC "_law_signs" (bc (top 14)) s.heap.objs.size f cdv))):MSs (a2r CX0 P w K mg base ["_law_some_here"] "_law_signs" (bc (top 14)) f cdv A outer s H E).nox X0 (iy (top 14)) (PN.yh) :=
 have SC:=asv
 (au (fu (i:=0) SC.nd rfl (Or.inl rfl) a0k)
 (cu (lz (jh (bu 0) a0k))))
theorem asw:FnScope ["_law_pen_here", "_law_rest", "_law_most", "_law_found", "_law_k", "_law_at"] ["_law_pen_here", "_law_rest", "_law_most"] (bc (top 15)):=⟨rfl,rfl,rfl,by decide +kernel,rfl,by decide +kernel,by decide +kernel⟩
theorem ayd {k:Nat} (M:Nm mg) {a_9:Addr} {d_9:FuncData} {k_9:Nat} {F_9:SF} (D_9:Dn P w K mg base k_9 "_law_take" ["_law_pen_here", "_law_many"] (uw K 2 F_9) a_9 d_9) (h_9:k_9≤k) (cdv:Value) (A:Around) (outer:List Env) (s:Shared) (H:Hp) (E:XK) (hr:Room k (A.deeper (PyProof.Rows.envOfC "_law_some" (bc (top 15)) s.heap.objs.size f cdv))):MSs (a2r CX0 P w K mg base ["_law_pen_here", "_law_rest", "_law_most", "_law_found", "_law_k", "_law_at"] "_law_some" (bc (top 15)) f cdv A outer s H E).nox X0 (iy (top 15)) (PN.a3g F_9) :=
 have SC:=asw
 (au (fu (i:=3) SC.nd rfl (Or.inl rfl) a0k)
 (au (zy PassesOwn.never rfl (a0m rfl M.range (aa (jh bj (dq false D_9 (hr.mono h_9) rfl (aa (bu 0) (aa (bu 2) az)))) az)) (jg (i:=4) SC.nd rfl (Or.inl rfl)) (au (fu (i:=5) SC.nd rfl (Or.inl rfl) (dq false D_9 (hr.mono h_9) rfl (aa (bu 0) (aa (qd (L2.CallR.or g8 gf) ph rfl M.len wj (aa (bu 1) az)) az))))
 (au (fu (i:=3) SC.nd rfl (Or.inl rfl) (jh (bu 3) (du (bu 1) (bu 5) (fun _ _=>rfl))))
 (cu (fu (i:=1) SC.nd rfl (Or.inl rfl) (jh (a0o (bu 1) a77 (a2w (bu 5))) (a0o (bu 1) (a2w (jh (bu 5) bj)) a77)))))))
 (cu (lz (bu 3)))))
theorem asx:FnScope ["_law_tongue", "_law_goes", "_law_kinds", "_law_turn", "_law_met", "_law_at", "_law_there", "_law_rows"] ["_law_tongue", "_law_goes", "_law_kinds", "_law_turn"] (bc (top 16)):=⟨rfl,rfl,rfl,by decide +kernel,rfl,by decide +kernel,by decide +kernel⟩
theorem aye {k:Nat} (M:Nm mg) (cdv:Value) (A:Around) (outer:List Env) (s:Shared) (H:Hp) (E:XK) (hr:Room k (A.deeper (PyProof.Rows.envOfC "_law_cut_down" (bc (top 16)) s.heap.objs.size f cdv))):MSs (a2r CX0 P w K mg base ["_law_tongue", "_law_goes", "_law_kinds", "_law_turn", "_law_met", "_law_at", "_law_there", "_law_rows"] "_law_cut_down" (bc (top 16)) f cdv A outer s H E).nox X0 (iy (top 16)) (PN.ux) :=
 have SC:=asx
 (au (fu (i:=4) SC.nd rfl (Or.inr rfl) (zr (aa bj az)))
 (au (fu (i:=5) SC.nd rfl (Or.inl rfl) bj)
 (au (abi 100000 PassesOwn.never (j8 (af2.or a0j) a8q (bu 5) (qd (L2.CallR.or g8 gf) ph rfl M.len wj (aa (bu 4) az)) (km _)) (au (zy PassesOwn.never rfl (qx (du (bu 1) (du (bu 4) (bu 5) (fun _ _=>rfl)) (fun _ _=>rfl))) (jg (i:=6) SC.nd rfl (Or.inl rfl)) (cu (zb (j8 (a6a.or a3o) ag2 (bu 6) (bu 4) (by with_unfolding_all rfl))
 (cu (a2u (aab PySem.F.slot_list_append PySem.F.type_list_append zq a2x (bu 4) (aa (bu 6) az))))
 jz)))
 (cu (fu (i:=5) SC.nd rfl (Or.inl rfl) (jh (bu 5) bj)))))
 (au (fu (i:=3) SC.nd rfl (Or.inl rfl) (jh bj (a3p (bu 3) (qd (L2.CallR.or g8 gf) ph rfl M.len wj (aa (bu 4) az)))))
 (au (fu (i:=4) SC.nd rfl (Or.inr rfl) (jh (a3r (jh (a3r (zr (aa bj az))) (a3r (a0o (bu 4) (a2w (bu 3)) a77)))) (a3r (a0o (bu 4) (a2w bj) (a2w (bu 3))))))
 (au (fu (i:=7) SC.nd rfl (Or.inl rfl) (vo (L2.CallR.or j6 (jk rfl)) qg rfl M.tuple nu (aa (a3r (yg rfl (CSc.of (ts:=["_law_room"]) (fr:=["_law_goes", "_law_met"]) (ix:=[1,4]) rfl rfl rfl rfl (by intro p hp;simp only [List.mem_cons,List.not_mem_nil,or_false] at hp;rcases hp with rfl | rfl<;>rfl) rfl rfl rfl rfl) (qx (bu 4)) (fun _ _ _ _=>(jj (i:=0) (show (["_law_room", "_law_goes", "_law_met"]:List Str).Nodup by decide +kernel) rfl (Or.inl rfl) (.inr rfl))) ww (fun _ _ _ _=>(vo (L2.CallR.or j6 (jk rfl)) qg rfl M.tuple nu (aa (a3r (yg rfl (CSc.of (ts:=["_law_there"]) (fr:=["_law_met"]) (ix:=[2]) rfl rfl rfl rfl (by intro p hp;cases List.mem_singleton.mp hp;rfl) rfl rfl rfl rfl) (qx (du (bu 1) (bu 0) (fun _ _=>rfl))) (fun _ _ _ _=>(jj (i:=0) (show (["_law_there", "_law_met"]:List Str).Nodup by decide +kernel) rfl (Or.inl rfl) (.inr rfl))) ww (fun _ _ _ _=>(aab PySem.F.slot_list_index PySem.F.type_list_index agj adl (bu 1) (aa (bu 0) az))))) az))))) az)))
 (cu (lz (uh (aa (bu 0) (aa (bu 7) (aa (vo (L2.CallR.or j6 (jk rfl)) qg rfl M.tuple nu (aa (a3r (yg rfl (CSc.of (ts:=["_law_room"]) (fr:=["_law_kinds"]) (ix:=[2]) rfl rfl rfl rfl (by intro p hp;cases List.mem_singleton.mp hp;rfl) rfl rfl rfl rfl) (qx (bu 4)) (fun _ _ _ _=>(jj (i:=0) (show (["_law_room", "_law_kinds"]:List Str).Nodup by decide +kernel) rfl (Or.inl rfl) (.inr rfl))) ww (fun _ _ _ _=>(du (bu 1) (bu 0) (fun _ _=>rfl))))) az)) az))))))))))))
theorem asy:FnScope ["_law_pen_here", "_law_tongue", "_law_most", "_law_many", "_law_road", "_law_often", "_law_goes", "_law_kinds", "_law_room", "_law_row", "_law_kind"] ["_law_pen_here", "_law_tongue", "_law_most"] (bc (top 17)):=⟨rfl,rfl,rfl,by decide +kernel,rfl,by decide +kernel,by decide +kernel⟩
theorem ayf {k:Nat} (M:Nm mg) {a_12:Addr} {d_12:FuncData} {k_12:Nat} {F_12:SF} (D_12:Dn P w K mg base k_12 "_law_cut_down" ["_law_tongue", "_law_goes", "_law_kinds", "_law_turn"] (uw K 4 F_12) a_12 d_12) (h_12:k_12≤k) {a_9:Addr} {d_9:FuncData} {k_9:Nat} {F_9:SF} (D_9:Dn P w K mg base k_9 "_law_take" ["_law_pen_here", "_law_many"] (uw K 2 F_9) a_9 d_9) (h_9:k_9≤k) (cdv:Value) (A:Around) (outer:List Env) (s:Shared) (H:Hp) (E:XK) (hr:Room k (A.deeper (PyProof.Rows.envOfC "_law_table" (bc (top 17)) s.heap.objs.size f cdv))):MSs (a2r CX0 P w K mg base ["_law_pen_here", "_law_tongue", "_law_most", "_law_many", "_law_road", "_law_often", "_law_goes", "_law_kinds", "_law_room", "_law_row", "_law_kind"] "_law_table" (bc (top 17)) f cdv A outer s H E).nox X0 (iy (top 17)) (PN.a0a F_12 F_9) :=
 have SC:=asy
 (au (fu (i:=3) SC.nd rfl (Or.inr rfl) (jh bj (dq false D_9 (hr.mono h_9) rfl (aa (bu 0) (aa (bu 2) az)))))
 (au (fu (i:=4) SC.nd rfl (Or.inl rfl) (dq false D_9 (hr.mono h_9) rfl (aa (bu 0) (aa bj az))))
 (au (fu (i:=5) SC.nd rfl (Or.inl rfl) (jh bj (dq false D_9 (hr.mono h_9) rfl (aa (bu 0) (aa bj az)))))
 (au (fu (i:=6) SC.nd rfl (Or.inl rfl) (zr az))
 (au (fu (i:=7) SC.nd rfl (Or.inl rfl) (zr az))
 (au (zy PassesOwn.never rfl (a0m rfl M.range (aa (bu 3) az)) (jg (i:=8) SC.nd rfl (Or.inl rfl)) (au (agf (i:=9) SC.nd rfl (Or.inl rfl) rfl (CSc.of (ts:=["_law_sign"]) (fr:=["_law_pen_here", "_law_many"]) (ix:=[0,3]) rfl rfl rfl rfl (by intro p hp;simp only [List.mem_cons,List.not_mem_nil,or_false] at hp;rcases hp with rfl | rfl<;>rfl) rfl rfl rfl rfl) (qx (bu 1)) (fun _ _ _ _=>(jj (i:=0) (show (["_law_sign", "_law_pen_here", "_law_many"]:List Str).Nodup by decide +kernel) rfl (Or.inl rfl) (.inr rfl))) ww (fun _ _ _ _=>(dq false D_9 (hr.mono h_9) rfl (aa (bu 1) (aa (bu 2) az)))))
 (au (zb (j8 (abr hr.u) a7b (bu 4) bj (km _))
 (cu (a8n (qd (af4 rfl) aj7 rfl M.min as7 (aa (jh (bu 8) bj) (aa (alg (bu 3) bj) az))) (bu 9) (dq false D_9 (hr.mono h_9) rfl (aa (bu 0) (aa (qd (L2.CallR.or g8 gf) ph rfl M.len wj (aa (bu 9) az)) az)))))
 jz)
 (au (fu (i:=10) SC.nd rfl (Or.inl rfl) (dq false D_9 (hr.mono h_9) rfl (aa (bu 0) (aa bj az))))
 (au (zb (PW.pt (aj2 (j8 (abr hr.u) a7b (bu 8) bj (km _)) (abg (j8 amq afz (dq false D_9 (hr.mono h_9) rfl (aa (bu 0) (aa (bu 5) az))) bj (km _)))))
 (cu (fu (i:=10) SC.nd rfl (Or.inl rfl) (a8p bj)))
 jz)
 (au (a2u (aab PySem.F.slot_list_append PySem.F.type_list_append zq a2x (bu 6) (aa (bu 9) az)))
 (cu (a2u (aab PySem.F.slot_list_append PySem.F.type_list_append zq a2x (bu 7) (aa (bu 10) az))))))))))
 (cu (lz (anu D_12 (hr.mono h_12) rfl (aa (bu 1) (aa (bu 6) (aa (bu 7) (aa (dq false D_9 (hr.mono h_9) rfl (aa (bu 0) (aa bj az))) az)))))))))))))
theorem asz:FnScope ["_law_pen_here", "_law_size", "_law_many", "_law_found", "_law_k", "_law_there", "_law_some_here"] ["_law_pen_here", "_law_size", "_law_many"] (bc (top 18)):=⟨rfl,rfl,rfl,by decide +kernel,rfl,by decide +kernel,by decide +kernel⟩
theorem ayg {k:Nat} (M:Nm mg) {a_9:Addr} {d_9:FuncData} {k_9:Nat} {F_9:SF} (D_9:Dn P w K mg base k_9 "_law_take" ["_law_pen_here", "_law_many"] (uw K 2 F_9) a_9 d_9) (h_9:k_9≤k) (cdv:Value) (A:Around) (outer:List Env) (s:Shared) (H:Hp) (E:XK) (hr:Room k (A.deeper (PyProof.Rows.envOfC "_law_deeds" (bc (top 18)) s.heap.objs.size f cdv))):MSs (a2r CX0 P w K mg base ["_law_pen_here", "_law_size", "_law_many", "_law_found", "_law_k", "_law_there", "_law_some_here"] "_law_deeds" (bc (top 18)) f cdv A outer s H E).nox X0 (iy (top 18)) (PN.a0b F_9) :=
 have SC:=asz
 (au (fu (i:=3) SC.nd rfl (Or.inl rfl) (zr az))
 (au (zy PassesOwn.never rfl (a0m rfl M.range (aa (bu 1) az)) (jg (i:=4) SC.nd rfl (Or.inl rfl)) (au (fu (i:=5) SC.nd rfl (Or.inl rfl) (dq false D_9 (hr.mono h_9) rfl (aa (bu 0) (aa (bu 2) az))))
 (au (fu (i:=6) SC.nd rfl (Or.inl rfl) (a3r (zr (aa (uh (aa a0k az)) (aa (uh (aa a0k az)) (aa (uh (aa a0k (aa (bu 5) az))) (aa (uh (aa a0k (aa (bu 5) az))) (aa (uh (aa a0k az)) (aa (uh (aa a0k (aa (bu 5) az))) az)))))))))
 (cu (a2u (aab PySem.F.slot_list_append PySem.F.type_list_append zq a2x (bu 3) (aa (du (bu 6) (dq false D_9 (hr.mono h_9) rfl (aa (bu 0) (aa bj az))) (fun _ _=>rfl)) az)))))))
 (cu (lz (vo (L2.CallR.or j6 (jk rfl)) qg rfl M.tuple nu (aa (bu 3) az))))))
theorem at5:FnScope ["_law_pen_here", "_law_tongue", "_law_most", "_law_many", "_law_modes", "_law_k", "_law_table_here", "_law_least"] ["_law_pen_here", "_law_tongue", "_law_most"] (bc (top 19)):=⟨rfl,rfl,rfl,by decide +kernel,rfl,by decide +kernel,by decide +kernel⟩
theorem ayh {k:Nat} (M:Nm mg) {a_14:Addr} {d_14:FuncData} {k_14:Nat} {F_14:SF} (D_14:Dn P w K mg base k_14 "_law_deeds" ["_law_pen_here", "_law_size", "_law_many"] (uw K 3 F_14) a_14 d_14) (h_14:k_14≤k) {a_13:Addr} {d_13:FuncData} {k_13:Nat} {F_13:SF} (D_13:Dn P w K mg base k_13 "_law_table" ["_law_pen_here", "_law_tongue", "_law_most"] (uw K 3 F_13) a_13 d_13) (h_13:k_13≤k) {a_9:Addr} {d_9:FuncData} {k_9:Nat} {F_9:SF} (D_9:Dn P w K mg base k_9 "_law_take" ["_law_pen_here", "_law_many"] (uw K 2 F_9) a_9 d_9) (h_9:k_9≤k) (cdv:Value) (A:Around) (outer:List Env) (s:Shared) (H:Hp) (E:XK) (hr:Room k (A.deeper (PyProof.Rows.envOfC "_law_machine" (bc (top 19)) s.heap.objs.size f cdv))):MSs (a2r CX0 P w K mg base ["_law_pen_here", "_law_tongue", "_law_most", "_law_many", "_law_modes", "_law_k", "_law_table_here", "_law_least"] "_law_machine" (bc (top 19)) f cdv A outer s H E).nox X0 (iy (top 19)) (PN.xm F_14 F_13 F_9) :=
 have SC:=at5
 (au (fu (i:=3) SC.nd rfl (Or.inl rfl) (jh bj (dq false D_9 (hr.mono h_9) rfl (aa (bu 0) (aa bj az)))))
 (au (fu (i:=4) SC.nd rfl (Or.inl rfl) (zr az))
 (au (zy PassesOwn.never rfl (a0m rfl M.range (aa (bu 3) az)) (jg (i:=5) SC.nd rfl (Or.inl rfl)) (au (fu (i:=6) SC.nd rfl (Or.inl rfl) (dq false D_13 (hr.mono h_13) rfl (aa (bu 0) (aa (bu 1) (aa (bu 2) az)))))
 (au (fu (i:=7) SC.nd rfl (Or.inl rfl) (jh (qd (a3e rfl) a7n rfl M.max ag4 (aa (du (bu 6) bj (fun _ _=>rfl)) az)) bj))
 (cu (a2u (aab PySem.F.slot_list_append PySem.F.type_list_append zq a2x (bu 4) (aa (uh (aa (du (bu 6) bj (fun _ _=>rfl)) (aa (du (bu 6) bj (fun _ _=>rfl)) (aa (dq false D_14 (hr.mono h_14) rfl (aa (bu 0) (aa (jh (bu 7) (dq false D_9 (hr.mono h_9) rfl (aa (bu 0) (aa (alg bj (bu 7)) az)))) (aa (bu 3) az)))) az)))) az)))))))
 (cu (lz (uh (aa (bu 1) (aa (vo (L2.CallR.or j6 (jk rfl)) qg rfl M.tuple nu (aa (bu 4) az)) az))))))))
theorem at6:FnScope ["_law_goes", "_law_kinds", "_law_hope_here", "_law_k", "_law_room", "_law_there"] ["_law_goes", "_law_kinds"] (bc (top 20)):=⟨rfl,rfl,rfl,by decide +kernel,rfl,by decide +kernel,by decide +kernel⟩
theorem ayi {k:Nat} (M:Nm mg) (cdv:Value) (A:Around) (outer:List Env) (s:Shared) (H:Hp) (E:XK) (hr:Room k (A.deeper (PyProof.Rows.envOfC "_law_hope" (bc (top 20)) s.heap.objs.size f cdv))):MSs (a2r CX0 P w K mg base ["_law_goes", "_law_kinds", "_law_hope_here", "_law_k", "_law_room", "_law_there"] "_law_hope" (bc (top 20)) f cdv A outer s H E).nox X0 (iy (top 20)) (a0z) :=
 have SC:=at6
 (au (agf (i:=2) SC.nd rfl (Or.inl rfl) rfl (CSc.noFree (ts:=["_law_row"]) rfl (by decide +kernel) (by decide +kernel) (by decide +kernel)) (qx (bu 0)) (fun _ _ _ _=>(jj (i:=0) (show (["_law_row"]:List Str).Nodup by decide +kernel) rfl (Or.inl rfl) (.inr rfl))) ww (fun _ _ _ _=>ad9))
 (au (zy PassesOwn.never rfl (a0m rfl M.range (aa (qd (L2.CallR.or g8 gf) ph rfl M.len wj (aa (bu 2) az)) az)) (jg (i:=3) SC.nd rfl (Or.inl rfl)) (cu (zy PassesOwn.never rfl (a0m rfl M.range (aa (qd (L2.CallR.or g8 gf) ph rfl M.len wj (aa (bu 2) az)) az)) (jg (i:=4) SC.nd rfl (Or.inl rfl)) (cu (zy PassesOwn.never rfl (qx (du (bu 0) (bu 4) (fun _ _=>rfl))) (jg (i:=5) SC.nd rfl (Or.inl rfl)) (cu (zb (PW.pt (aj2 (j8 aiq abn (du (bu 1) (bu 5) (fun _ _=>rfl)) bj (km _)) (abg (a1f (du (bu 2) (bu 5) (fun _ _=>rfl))))))
 (cu (a8n ad9 (bu 2) (bu 4)))
 jz)))))))
 (cu (lz (bu 2)))))
theorem at7:FnScope ["_law_found", "_law_due", "_law_one", "_law_other"] ["_law_found", "_law_due"] (bc (top 21)):=⟨rfl,rfl,rfl,by decide +kernel,rfl,by decide +kernel,by decide +kernel⟩
theorem ayj {k:Nat} (M:Nm mg) {a_17:Addr} {aue:FuncData} {k_17:Nat} {F_17:SF} (D_17:Dn P w K mg base k_17 "_law_same" ["_law_found", "_law_due"] (uw K 2 F_17) a_17 aue) (h_17:k_17≤k) (cdv:Value) (A:Around) (outer:List Env) (s:Shared) (H:Hp) (E:XK) (hr:Room k (A.deeper (PyProof.Rows.envOfC "_law_same" (bc (top 21)) s.heap.objs.size f cdv))):MSs (a2r CX0 P w K mg base ["_law_found", "_law_due", "_law_one", "_law_other"] "_law_same" (bc (top 21)) f cdv A outer s H E).nox X0 (iy (top 21)) (xx F_17) :=
 have SC:=at7
 (au (zb (a1f (qd a99 ak5 rfl M.isinstance jw (aa (bu 1) (aa (uh (aa (a75 rfl M.list a72) (aa (a75 rfl M.tuple nu) az))) az))))
 (au (zb (PW.pt (aj2 (j8 (a6d hr.u) a2z (qd (L2.CallR.or qt nj) a09 rfl M.isinstance jw (aa (bu 1) (aa (a75 rfl M.list a72) az))) (qd (L2.CallR.or qt nj) a09 rfl M.isinstance jw (aa (bu 0) (aa (a75 rfl M.list a72) az))) (km _)) (abg (j8 (a6d hr.u) a2z (qd (L2.CallR.or qt nj) a09 rfl M.isinstance jw (aa (bu 1) (aa (a75 rfl M.tuple nu) az))) (qd (L2.CallR.or qt nj) a09 rfl M.isinstance jw (aa (bu 0) (aa (a75 rfl M.tuple nu) az))) (km _)))))
 a8u
 jz)
 (au (zb (j8 (a6d hr.u) a2z (qd (L2.CallR.or g8 gf) ph rfl M.len wj (aa (bu 0) az)) (qd (L2.CallR.or g8 gf) ph rfl M.len wj (aa (bu 1) az)) (km _))
 a8u
 jz)
 (au (zy PassesOwn.never rfl (alo rfl M.zip alp (bu 0) (bu 1)) (a6b rfl (n8 (jg (i:=2) SC.nd rfl (Or.inl rfl)) (n8 (jg (i:=3) SC.nd rfl (Or.inl rfl)) a2v))) (cu (zb (abh (a1f (dq false D_17 (hr.mono h_17) rfl (aa (bu 2) (aa (bu 3) az)))))
 a8u
 jz)))
 (cu (lz ad9)))))
 jz)
 (au (zb (j8 (al0.or abb) ali (bu 1) a1e (km _))
 (cu (lz (a4n (al0.or abb) ali (bu 0) a1e (km _))))
 jz)
 (au (zb (a1f (qd (L2.CallR.or qt nj) a09 rfl M.isinstance jw (aa (bu 1) (aa (a75 rfl M.str arf) az))))
 a8u
 jz)
 (cu (lz (alb (qd (L2.CallR.or qt nj) a09 rfl M.isinstance jw (aa (bu 0) (aa (a75 rfl M.int al9) az))) (alb (ark (qd (L2.CallR.or qt nj) a09 rfl M.isinstance jw (aa (bu 0) (aa (a75 rfl M.bool ao5) az)))) (arj (a4n (abr hr.u) a7b (bu 0) (bu 1) (km _))))))))))
theorem at8:FnScope ["_law_goes", "_law_kinds", "_law_hope_here", "_law_rooms", "_law_due", "_law_size", "_law_there"] ["_law_goes", "_law_kinds"] (bc (top 22)):=⟨rfl,rfl,rfl,by decide +kernel,rfl,by decide +kernel,by decide +kernel⟩
theorem ayk {k:Nat} (M:Nm mg) {a_16:Addr} {d_16:FuncData} {k_16:Nat} {F_16:SF} (D_16:Dn P w K mg base k_16 "_law_hope" ["_law_goes", "_law_kinds"] (uw K 2 F_16) a_16 d_16) (h_16:k_16≤k) (cdv:Value) (A:Around) (outer:List Env) (s:Shared) (H:Hp) (E:XK) (hr:Room k (A.deeper (PyProof.Rows.envOfC "_law_reach" (bc (top 22)) s.heap.objs.size f cdv))):MSs (a2r CX0 P w K mg base ["_law_goes", "_law_kinds", "_law_hope_here", "_law_rooms", "_law_due", "_law_size", "_law_there"] "_law_reach" (bc (top 22)) f cdv A outer s H E).nox X0 (iy (top 22)) (uv F_16) :=
 have SC:=at8
 (au (fu (i:=2) SC.nd rfl (Or.inr rfl) (dq false D_16 (hr.mono h_16) rfl (aa (bu 0) (aa (bu 1) az))))
 (au (a7g (i:=3) SC.nd rfl (Or.inl rfl) rfl (CSc.of (ts:=["_law_room"]) (fr:=["_law_kinds"]) (ix:=[1]) rfl rfl rfl rfl (by intro p hp;cases List.mem_singleton.mp hp;rfl) rfl rfl rfl rfl) (a0m rfl M.range (aa (qd (L2.CallR.or g8 gf) ph rfl M.len wj (aa (bu 1) az)) az)) (fun _ _ _ _=>(jj (i:=0) (show (["_law_room", "_law_kinds"]:List Str).Nodup by decide +kernel) rfl (Or.inl rfl) (.inr rfl))) ww (fun _ _ _ _=>(bu 0)) (fun _ _ _ _=>(j8 aiq abn (du (bu 1) (bu 0) (fun _ _=>rfl)) bj (km _))))
 (au (fu (i:=4) SC.nd rfl (Or.inl rfl) bj)
 (au (zy PassesOwn.never rfl (aft rfl M.range (aa bj (aa (jh (qd (L2.CallR.or g8 gf) ph rfl M.len wj (aa (bu 1) az)) bj) az))) (jg (i:=5) SC.nd rfl (Or.inl rfl)) (au (fu (i:=6) SC.nd rfl (Or.inl rfl) (a3r (ap6 rfl M.sorted rfl M.set rfl (a3r (qd (ahk rfl) ak8 rfl M.sum as8 (aa (a3r (yg rfl (CSc.of (ts:=["_law_room"]) (fr:=["_law_goes"]) (ix:=[0]) rfl rfl rfl rfl (by intro p hp;cases List.mem_singleton.mp hp;rfl) rfl rfl rfl rfl) (qx (bu 3)) (fun _ _ _ _=>(jj (i:=0) (show (["_law_room", "_law_goes"]:List Str).Nodup by decide +kernel) rfl (Or.inl rfl) (.inr rfl))) ww (fun _ _ _ _=>(a3r (vo (L2.CallR.or a8i (aa0 rfl)) aja rfl M.list a72 (aa (du (bu 1) (bu 0) (fun _ _=>rfl)) az)))))) (aa (a3r (zr az)) az)))))))
 (au (zb (j8 (alv hr.u) (agu true) (a3r (abm rfl (CSc.of (ts:=["_law_room"]) (fr:=["_law_kinds"]) (ix:=[1]) rfl rfl rfl rfl (by intro p hp;cases List.mem_singleton.mp hp;rfl) rfl rfl rfl rfl) (qx (bu 6)) (fun _ _ _ _=>(jj (i:=0) (show (["_law_room", "_law_kinds"]:List Str).Nodup by decide +kernel) rfl (Or.inl rfl) (.inr rfl))) ww (fun _ _ _ _=>(bu 0)) (fun _ _ _ _=>(j8 aiq abn (du (bu 1) (bu 0) (fun _ _=>rfl)) bj (km _))))) (a3r (zr az)) (km _))
 (cu (fu (i:=4) SC.nd rfl (Or.inl rfl) (bu 5)))
 jz)
 (cu (a7g (i:=3) SC.nd rfl (Or.inl rfl) rfl (CSc.of (ts:=["_law_room"]) (fr:=["_law_kinds", "_law_hope_here"]) (ix:=[1,2]) rfl rfl rfl rfl (by intro p hp;simp only [List.mem_cons,List.not_mem_nil,or_false] at hp;rcases hp with rfl | rfl<;>rfl) rfl rfl rfl rfl) (qx (bu 6)) (fun _ _ _ _=>(jj (i:=0) (show (["_law_room", "_law_kinds", "_law_hope_here"]:List Str).Nodup by decide +kernel) rfl (Or.inl rfl) (.inr rfl))) ww (fun _ _ _ _=>(bu 0)) (fun _ _ _ _=>(PW.pt (afr (j8 (af2.or a0j) a8q (du (bu 1) (bu 0) (fun _ _=>rfl)) bj (km _)) (aa5 (a1f (du (bu 2) (bu 0) (fun _ _=>rfl))))))))))))
 (au (zb (j8 (alv hr.u) (agu true) (bu 3) (a3r (zr az)) (km _))
 (cu (lz a1e))
 jz)
 (cu (lz (bu 4))))))))
theorem at9:FnScope ["_law_script", "_law_pen_here", "_law_tongue", "_law_machine_here", "_law_due", "_law_most", "_law_other", "_law_one"] ["_law_script"] (bc (top 23)):=⟨rfl,rfl,rfl,by decide +kernel,rfl,by decide +kernel,by decide +kernel⟩
theorem ayl {k:Nat} (M:Nm mg) {a_15:Addr} {d_15:FuncData} {k_15:Nat} {F_15:SF} (D_15:Dn P w K mg base k_15 "_law_machine" ["_law_pen_here", "_law_tongue", "_law_most"] (uw K 3 F_15) a_15 d_15) (h_15:k_15≤k) {a_8:Addr} {d_8:FuncData} {k_8:Nat} {F_8:SF} (D_8:Dn P w K mg base k_8 "_law_pen" ["_law_script"] (uw K 1 F_8) a_8 d_8) (h_8:k_8≤k) {a_18:Addr} {d_18:FuncData} {k_18:Nat} {F_18:SF} (D_18:Dn P w K mg base k_18 "_law_reach" ["_law_goes", "_law_kinds"] (uw K 2 F_18) a_18 d_18) (h_18:k_18≤k) {a_17:Addr} {aue:FuncData} {k_17:Nat} {F_17:SF} (D_17:Dn P w K mg base k_17 "_law_same" ["_law_found", "_law_due"] (uw K 2 F_17) a_17 aue) (h_17:k_17≤k) {a_10:Addr} {d_10:FuncData} {k_10:Nat} {F_10:SF} (D_10:Dn P w K mg base k_10 "_law_signs" [] (uw K 0 F_10) a_10 d_10) (h_10:k_10≤k) {a_11:Addr} {d_11:FuncData} {k_11:Nat} {F_11:SF} (D_11:Dn P w K mg base k_11 "_law_some" ["_law_pen_here", "_law_rest", "_law_most"] (uw K 3 F_11) a_11 d_11) (h_11:k_11≤k) {a_9:Addr} {d_9:FuncData} {k_9:Nat} {F_9:SF} (D_9:Dn P w K mg base k_9 "_law_take" ["_law_pen_here", "_law_many"] (uw K 2 F_9) a_9 d_9) (h_9:k_9≤k) {a_6:Addr} {d_6:FuncData} {k_6:Nat} {F_6:SF} (D_6:Dn P w K mg base k_6 "mode_reaches" ["machine"] (uw K 1 F_6) a_6 d_6) (h_6:k_6≤k) {a_7:Addr} {d_7:FuncData} {k_7:Nat} {F_7:SF} (D_7:Dn P w K mg base k_7 "moded_reach" ["machine"] (uw K 1 F_7) a_7 d_7) (h_7:k_7≤k) (cdv:Value) (A:Around) (outer:List Env) (s:Shared) (H:Hp) (E:XK) (hr:Room k (A.deeper (PyProof.Rows.envOfC "law" (bc (top 23)) s.heap.objs.size f cdv))):MSs (a2r CX0 P w K mg base ["_law_script", "_law_pen_here", "_law_tongue", "_law_machine_here", "_law_due", "_law_most", "_law_other", "_law_one"] "law" (bc (top 23)) f cdv A outer s H E).nox X0 (iy (top 23)) (ak9 F_15 F_8 F_18 F_17 F_10 F_11 F_9 F_6 F_7) :=
 have SC:=at9
 (au (fu (i:=1) SC.nd rfl (Or.inl rfl) (dq true D_8 (hr.mono h_8) rfl (aa (bu 0) az)))
 (au (fu (i:=2) SC.nd rfl (Or.inl rfl) (dq false D_11 (hr.mono h_11) rfl (aa (bu 1) (aa (age false D_10 (hr.mono h_10) rfl) (aa bj az)))))
 (au (fu (i:=3) SC.nd rfl (Or.inl rfl) (dq false D_15 (hr.mono h_15) rfl (aa (bu 1) (aa (bu 2) (aa (du (a3r (zr (aa bj (aa bj (aa bj (aa bj az)))))) (dq false D_9 (hr.mono h_9) rfl (aa (bu 1) (aa bj az))) (fun _ _=>rfl)) az)))))
 (au (fu (i:=4) SC.nd rfl (Or.inl rfl) (vo (L2.CallR.or j6 (jk rfl)) qg rfl M.tuple nu (aa (a3r (yg rfl (CSc.noFree (ts:=["_law_mode"]) rfl (by decide +kernel) (by decide +kernel) (by decide +kernel)) (qx (du (bu 3) bj (fun _ _=>rfl))) (fun _ _ _ _=>(jj (i:=0) (show (["_law_mode"]:List Str).Nodup by decide +kernel) rfl (Or.inl rfl) (.inr rfl))) ww (fun _ _ _ _=>(dq false D_18 (hr.mono h_18) rfl (aa (du (bu 0) bj (fun _ _=>rfl)) (aa (du (bu 0) bj (fun _ _=>rfl)) az)))))) az)))
 (au (fu (i:=5) SC.nd rfl (Or.inl rfl) a1e)
 (au (zb (j8 (a6a.or a3o) ag2 a1e (bu 4) (by with_unfolding_all rfl))
 (cu (fu (i:=5) SC.nd rfl (Or.inl rfl) (qd (a3e rfl) a7n rfl M.max ag4 (aa (bu 4) az))))
 jz)
 (au (fu (i:=6) SC.nd rfl (Or.inl rfl) (uh (aa (bu 2) (aa (vo (L2.CallR.or j6 (jk rfl)) qg rfl M.tuple nu (aa (a3r (yg rfl (CSc.noFree (ts:=["_law_mode"]) rfl (by decide +kernel) (by decide +kernel) (by decide +kernel)) (qx (du (bu 3) bj (fun _ _=>rfl))) (fun _ _ _ _=>(jj (i:=0) (show (["_law_mode"]:List Str).Nodup by decide +kernel) rfl (Or.inl rfl) (.inr rfl))) ww (fun _ _ _ _=>(uh (aa (du (bu 0) bj (fun _ _=>rfl)) (aa (du (bu 0) bj (fun _ _=>rfl)) (aa (ap5 (uh (aa (uh (aa a0k az)) az)) bj) az))))))) az)) az))))
 (au (zy PassesOwn.never rfl (qx (uh (aa (bu 3) (aa (bu 6) (aa (bu 3) az))))) (jg (i:=7) SC.nd rfl (Or.inl rfl)) (cu (zb (PW.pt (aj2 (abh (a1f (dq false D_17 (hr.mono h_17) rfl (aa (dq false D_6 (hr.mono h_6) rfl (aa (bu 7) az)) (aa (bu 4) az))))) (abg (abh (a1f (dq false D_17 (hr.mono h_17) rfl (aa (dq false D_7 (hr.mono h_7) rfl (aa (bu 7) az)) (aa (bu 5) az))))))))
 a8u
 jz)))
 (cu (lz ad9))))))))))
end
end K71
namespace K69
open PySem PySem.Spec L2 MI
noncomputable def mq:SE :=
 (sA yc (aj (sV 3) (aj (sV 0) (aj (sV 1) d7))))
noncomputable def oh:SS :=
 (iz (a88 (sV 0) (a3x 2 (jx (kN 1) (jx (kN 2) a4p))))
 (yf (m7 (sIt (sV 2)) (tN 3) mq [1])))
end K69
namespace HND
open PySem PySem.Spec L2 MI
noncomputable def yh:SS :=
 (iz (kj 0 (sC (.str " !\"#$&'()*+,-./0123456789:;<=>?@ABCDEFGHIJKLMNOPQRSTUVWXYZ[\\]^_`")))
 (yf (s2 j9 (sV 0) (sC (.str "abcdefghijklmnopqrstuvwxyz{|}~\n")))))
end HND
namespace MI
open PySem PySem.Spec L2
abbrev S (l:List Nat):Str:=⟨l.toArray⟩
theorem ahl (l:List Nat):(S l).cps.toList=l:=by simp
theorem ahm (l:List Nat):(S l).length=l.length:=by simp [Str.length]
theorem ap7 (x:Str):S x.cps.toList=x:=by cases x;simp
theorem aw4 (a b:List Nat):S a++S b=S (a++b):=by rw [← ap7 (S a++S b),avo]
section
variable {h:Hd} {a b l:List Nat} {i:Nat} {c:Nat}
theorem aym (hl:l.length≤LINE) (e:l[i]? = some c):gIx (.str (S l)) (.int (i:Nat)) h = .ok (.str (S [c])) h:=by
 unfold gIx
 simp only [ahm,if_pos hl,ahl,uo e]
theorem aka (hl:a.length+b.length≤LINE):j9 (.str (S a)) (.str (S b)) h = .ok (.str (S (a++b))) h:=by
 unfold j9
 simp only [ahm,if_pos hl,aw4]
theorem aw5 (hl:l.length≤LINE):yu [.str (S l)] h = .ok (.int l.length) h:=by
 unfold yu
 simp only [ahm,if_pos hl]
theorem ayn (k:Nat) (hl:l.length≤LINE):aig (.str (S l)) none (some (k:Int)) h = .ok (.str (S (l.take k))) h:=by
 show gSl (.str (S l)) none (some (k:Int)) h=_
 unfold gSl
 simp only [ahm,if_pos hl,ahl,afn]
theorem ata (k:Nat) (hl:l.length≤LINE):aig (.str (S l)) (some (k:Int)) none h = .ok (.str (S (l.drop k))) h:=by
 show gSl (.str (S l)) (some (k:Int)) none h=_
 unfold gSl
 simp only [ahm,if_pos hl,ahl,a8m]
end
section
variable {h:Hd} {i j:Int} {xs ys:List D}
theorem a1y:gIx (.tup xs) (.int i) h=(match atI xs i with | some d=>.ok d h | none=>.no):=rfl
theorem a5h:gIx (.rol xs) (.int i) h=(match atI xs i with | some d=>.ok d h | none=>.no):=rfl
theorem a5i {k:Nat}:gIx (.ref k) (.int i) h=(match a00 (.ref k) h with | some xs=>(match atI xs i with | some d=>.ok d h | none=>.no) | none=>.no):=rfl
theorem a0r:yu [.tup xs] h = .ok (.int xs.length) h:=rfl
theorem a1s:yu [.rol xs] h = .ok (.int xs.length) h:=rfl
theorem a1t {k:Nat}:yu [.ref k] h=(match a00 (.ref k) h with | some xs=>.ok (.int xs.length) h | none=>.no):=rfl
theorem vg:j9 (.int i) (.int j) h = .ok (.int (i+j)) h:=rfl
theorem a1u:ade (.int i) (.int j) h = .ok (.int (i+j)) h:=rfl
open Classical in
theorem a5j:a1p (.int i) (.int j) h=if CMul i j then .ok (.int (i*j)) h else .no:=by unfold a1p;rfl
theorem vh (b:Bool):tru (.bl b) h = .ok b h:=rfl
theorem a3i:tru (.int i) h = .ok (i != 0) h:=rfl
theorem a1v:tru (.rol xs) h = .ok (!xs.isEmpty) h:=rfl
theorem a3j:tru (.tup xs) h = .ok (!xs.isEmpty) h:=rfl
theorem a3k:tru .non h = .ok false h:=rfl
theorem a9c:hEq (.int i) (.int j) h = .ok (.bl (i == j)) h:=rfl
theorem a9d:hNe (.int i) (.int j) h = .ok (.bl (!(i == j))) h:=rfl
theorem aei (a b:Bool):hEq (.bl a) (.bl b) h = .ok (.bl (a == b)) h:=rfl
theorem aej (a b:Bool):hNe (.bl a) (.bl b) h = .ok (.bl (!(a == b))) h:=rfl
theorem a6l (x:D):gIs x .non h = .ok (.bl (xg x)) h:=by cases x<;>rfl
theorem yo (x:D):a6c x .non h = .ok (.bl (!xg x)) h:=by cases x<;>rfl
theorem aek (a b:Bool):gIs (.bl a) (.bl b) h = .ok (.bl (a == b)) h:=rfl
theorem a1a (a b:Bool):a6c (.bl a) (.bl b) h = .ok (.bl (a != b)) h:=rfl
theorem apy:xg (.int i)=false:=rfl
theorem apz (x:Str):xg (.str x)=false:=rfl
theorem aq0:xg .non=true:=rfl
theorem aq1:xg (.tup xs)=false:=rfl
end
end MI
namespace HND
open PySem PySem.Spec L2 MI AT
local macro_rules | `(tactic| walk_at "ev") => `(tactic| simp only [qp,wy,a4w,a4x,a6f,kj,aep,adi,sIf,yf,a0i,aa6,put,a4v,a88,a3x,jx,a4p,kN,sV,sC,s2,s1,sA,aj,d7,sNx,sT,asB,a5s,vh,a3i,a1v,a3j,a3k,aa3,sOr,aa4,a4o,apr,a5v,sCh,aeo,bx,a0p,MI.a1y,MI.a5h,MI.a5i,aof,a00,gLt,gGt,gGe,gLe,a9c,a9d,aei,aej,a6l,yo,aek,a1a,apy,apz,aq0,aq1,vg,MI.ab2,a5x,adb,a5j,AT.ady,AT.p18,a0r,a1s,a1t,aj8,a1u,aa8,a4r,adc,MI.yc,MI.a0v,sML,isL,a78,oN,oS,a5t,pq,sIt,aeq,sRg,List.length_map,List.length_cons,List.length_nil,List.length_append,List.getElem?_cons_zero,List.getElem?_cons_succ,List.set_cons_zero,List.set_cons_succ,List.nil_append,List.cons_append,AT.ado,AT.adp,AT.adq,AT.adt,AT.adu,AT.adv,AT.adw,AT.adx,AT.x10,AT.x20,AT.x21,AT.x30,AT.x31,AT.x32,AT.x40,AT.x41,AT.x42,AT.x43,AT.x50,AT.x51,AT.x52,AT.x53,AT.x54,AT.x60,AT.x61,AT.x62,AT.x63,AT.x64,AT.x65,AT.x70,AT.x71,AT.x72,AT.x73,AT.x74,AT.x75,AT.x76,decide_true,decide_false,reduceIte,Bool.true_and,Bool.and_self,Bool.not_true,Bool.not_false,and_self,true_and,and_true,beq_self_eq_true,Nat.reduceAdd,Nat.reduceLeDiff,Nat.reduceLT,Nat.reducePow,Int.reduceLT,Int.reduceLE,Int.reduceNeg,Int.reduceEq,Int.reduceBEq,Bool.false_eq_true,Bool.true_eq_false,ite_true,ite_false,if_true,if_false, *])
end HND
namespace HND
open PySem PySem.Spec L2 MI AT
local macro_rules | `(tactic| walk_at "ev") => `(tactic| simp only [qp,wy,a4w,a4x,a6f,kj,aep,adi,sIf,yf,a0i,aa6,put,a4v,a88,a3x,jx,a4p,kN,sV,sC,s2,s1,sA,aj,d7,sNx,sT,asB,a5s,vh,a3i,a1v,a3j,a3k,aa3,sOr,aa4,a4o,apr,a5v,sCh,aeo,bx,a0p,MI.a1y,MI.a5h,MI.a5i,aof,a00,gLt,gGt,gGe,gLe,a9c,a9d,aei,aej,a6l,yo,aek,a1a,apy,apz,aq0,aq1,vg,MI.ab2,a5x,adb,a5j,AT.ady,AT.p18,a0r,a1s,a1t,aj8,a1u,aa8,a4r,adc,MI.yc,MI.a0v,sML,isL,a78,oN,oS,a5t,pq,sIt,aeq,sRg,a4q,zx,a5w,aoq,a8z,adn,aer,aps,srcOf,  List.length_map,List.length_cons,List.length_nil,List.length_append,List.getElem?_cons_zero,List.getElem?_cons_succ,List.set_cons_zero,List.set_cons_succ,List.nil_append,List.cons_append,AT.ado,AT.adp,AT.adq,AT.adt,AT.adu,AT.adv,AT.adw,AT.adx,AT.x10,AT.x20,AT.x21,AT.x30,AT.x31,AT.x32,AT.x40,AT.x41,AT.x42,AT.x43,AT.x50,AT.x51,AT.x52,AT.x53,AT.x54,AT.x60,AT.x61,AT.x62,AT.x63,AT.x64,AT.x65,AT.x70,AT.x71,AT.x72,AT.x73,AT.x74,AT.x75,AT.x76,decide_true,decide_false,reduceIte,Bool.true_and,Bool.and_self,Bool.not_true,Bool.not_false,and_self,true_and,and_true,beq_self_eq_true,Nat.reduceAdd,Nat.reduceLeDiff,Nat.reduceLT,Nat.reducePow,Int.reduceLT,Int.reduceLE,Int.reduceNeg,Int.reduceEq,Int.reduceBEq,Bool.false_eq_true,Bool.true_eq_false,ite_true,ite_false,if_true,if_false, *])
def aun:Str := " !\"#$&'()*+,-./0123456789:;<=>?@ABCDEFGHIJKLMNOPQRSTUVWXYZ[\\]^_`"
def auo:Str := "abcdefghijklmnopqrstuvwxyz{|}~\n"
def sig:List Nat:=aun.cps.toList++auo.cps.toList
theorem ahn:sig.length=95:=by decide +kernel
theorem atb:sig.Nodup:=by decide +kernel
noncomputable def gj:SF:=qu yh 1
theorem lits {h:Hd}:j9 (.str aun) (.str auo) h = .ok (.str (S sig)) h:=by
 rw [← ap7 aun,← ap7 auo,aka (by decide +kernel)]
 rfl
theorem a7w:Pu gj 0 [] (.str (S sig)):=by
 refine Pu.of rfl (by simp) (r:=.ok (.str (S sig)) []) ?_ (by rw [jy (sr _) (by simp)];rfl) (sr _)
 unfold gj
 rw [j7]
 unfold yh
 have e:=@lits []
 unfold aun auo at e
 show toR (iz (kj 0 _) _ [none] [])=_
 simp only [qp,kj,sC,a0p,wy,yf,s2,sV,List.set_cons_zero,List.getElem?_cons_zero,bx,e,a4x]
structure Tongue (l:List Nat):Prop where
 lo:1≤l.length
 hi:l.length≤6
 nd:l.Nodup
 sub:∀ c∈l,c∈sig
theorem aho (a r:List Nat) (i:Nat) (c:Nat) (e:r[i]? = some c):List.Perm (a++r) ((a++[c])++(r.take i++r.drop (i+1))):=by
 obtain ⟨hi,e⟩:=List.getElem?_eq_some_iff.mp e
 have:r=r.take i++c::r.drop (i+1):=by rw [← e];simp
 rw [List.append_assoc]
 refine List.Perm.append_left a ?_
 rw [List.singleton_append]
 conv=>lhs;rw [this]
 exact List.perm_middle
end HND
namespace MI
open PySem PySem.Spec L2
theorem aw6 (n:Nat):rng 0 n=(List.range n).map fun i:Nat=>D.int (i:Nat):=by
 unfold rng
 exact List.map_congr_left fun i _=>by rw [Int.zero_add]
theorem aw7 (a:Int) (n:Nat):rng a n=(List.range n).map fun i:Nat=>D.int (a+(i:Nat)):=rfl
theorem aan {n:Nat} (h:n≤LINE):B62 (n:Int):=by
 have:n≤16777216:=h
 unfold B62;omega
theorem atc {n:Nat} (h:Hd) (z:n≤LINE):zx [.int (n:Nat)] h = .ok ⟨(List.range n).map fun i:Nat=>D.int (i:Nat),fun _=>True⟩ h:=by
 unfold zx
 simp only [aan z,if_true,Int.toNat_natCast,aw6]
theorem atd {a n:Nat} (h:Hd) (za:a≤LINE) (z:n≤LINE):a5w [.int (a:Nat), .int (n:Nat)] h = .ok ⟨(List.range (n - a)).map fun i:Nat=>D.int ((a+i:Nat)),fun _=>True⟩ h:=by
 unfold a5w
 simp only [aan z,aan za,and_self,if_true,aw7]
 rw [show ((n:Int) - (a:Int)).toNat=n - a by omega]
 congr 2
theorem aw8 {f:SE} {τ:Sd} {h:Hd} {d:D} (e:f τ h = .ok d h):aj f d7 τ h = .ok [d] h:=by unfold aj d7;rw [e];rfl
theorem a5k {f g:SE} {τ:Sd} {h:Hd} {c d:D} (e:f τ h = .ok c h) (e':g τ h = .ok d h):aj f (aj g d7) τ h = .ok [c,d] h:=by unfold aj;rw [e,bx,e',bx];rfl
theorem a3l {f:SE} {τ:Sd} {h:Hd} {n:Nat} (e:f τ h = .ok (.int (n:Nat)) h) (z:n≤LINE):sRg zx (aj f d7) τ h = .ok ⟨(List.range n).map fun i:Nat=>D.int (i:Nat),fun _=>True⟩ h:=by
 unfold sRg
 rw [aw8 e,bx]
 exact atc h z
theorem aao {f g:SE} {τ:Sd} {h:Hd} {a n:Nat} (e':g τ h = .ok (.int (a:Nat)) h) (e:f τ h = .ok (.int (n:Nat)) h) (za:a≤LINE) (z:n≤LINE):sRg a5w (aj g (aj f d7)) τ h = .ok ⟨(List.range (n - a)).map fun i:Nat=>D.int ((a+i:Nat)),fun _=>True⟩ h:=by
 unfold sRg
 rw [a5k e' e,bx]
 exact atd h za z
theorem bw {i:Nat} {τ:Sd} {h:Hd} {d:D} (e:τ[i]? = some (some d)):sV i τ h = .ok d h:=by unfold sV;rw [e]
theorem ud {fi:SI} {t:D→Option Sd} {fe:SE} {ix:List Nat} {τ:Sd} {h:Hd} {α:Type} (g F:α→D) (xs:List α) (e:fi τ h = .ok ⟨xs.map g,fun _=>True⟩ h) (z:xs.length≤LINE)
  (st:∀ x∈xs,a76 t fe (frs' ix τ) (g x) h = .ok (F x) h):m7 fi t fe ix τ h = .ok (.ref h.length) (h++[.lst (xs.map F)]):=by
 unfold m7
 rw [e,bx]
 dsimp only
 rw [if_pos (by rw [List.length_map];exact z),a91 g F st]
 rfl
theorem a0s {fi:SI} {t:D→Option Sd} {c:ST} {fe:SE} {ix:List Nat} {τ:Sd} {h:Hd} {α:Type} (g:α→D) (F:α→Option D) (xs:List α) (e:fi τ h = .ok ⟨xs.map g,fun _=>True⟩ h) (z:xs.length≤LINE)
  (st:∀ x∈xs,aa7 t c fe (frs' ix τ) (g x) h = .ok (F x) h):p6 fi t c fe ix τ h = .ok (.ref h.length) (h++[.lst (xs.filterMap F)]):=by
 unfold p6
 rw [e,bx]
 dsimp only
 rw [if_pos (by rw [List.length_map];exact z),a92 g F st]
 rfl
theorem yp (fe:SE) (r:Sd) (x:D) (h:Hd):a76 t1 fe r x h=fe (some x::r) h:=rfl
theorem a7x (c:ST) (fe:SE) (r:Sd) (x:D) (h:Hd):aa7 t1 c fe r x h=(c (some x::r) h).bind fun b h1=>if b=true then (fe (some x::r) h1).bind fun y h2=>.ok (some y) h2 else .ok none h1:=rfl
theorem v6 (i:Nat) (ix:List Nat) (τ:Sd):frs' (i::ix) τ=(τ[i]?).join::frs' ix τ:=rfl
theorem a1w (τ:Sd):frs' [] τ=[]:=rfl
end MI
namespace MI
open PySem PySem.Spec L2
section
variable {f k f1 f2 f3:SE} {c c1 c2:ST} {g p q:SS} {τ τ1:Sd} {h h1 h2 h3 h4:Hd} {a b d v:D} {i:Nat} {t u:Bool}
theorem jf (d:D) (τ:Sd) (h:Hd):sC d τ h = .ok d h:=rfl
theorem ayo {G:List D→Hd→R D} (e3:G [] h = .ok v h1):sA G d7 τ h = .ok v h1:=e3
theorem yt {G:List D→Hd→R D} (e1:f τ h = .ok a h1) (e3:G [a] h1 = .ok v h2):sA G (aj f d7) τ h = .ok v h2:=by
 have:aj f d7 τ h = .ok [a] h1:=by unfold aj;rw [e1];rfl
 unfold sA
 rw [this,bx,e3]
theorem zm {G:List D→Hd→R D} (e1:f τ h = .ok a h1) (e2:k τ h1 = .ok b h2) (e3:G [a,b] h2 = .ok v h3):sA G (aj f (aj k d7)) τ h = .ok v h3:=by
 have:aj f (aj k d7) τ h = .ok [a,b] h2:=by unfold aj;rw [e1,bx,e2];rfl
 unfold sA
 rw [this,bx,e3]
theorem ahp {G:List D→Hd→R D} (e0:f1 τ h = .ok d h1) (e1:f τ h1 = .ok a h2) (e2:k τ h2 = .ok b h3) (e3:G [d,a,b] h3 = .ok v h4):sA G (aj f1 (aj f (aj k d7))) τ h = .ok v h4:=by
 have:aj f1 (aj f (aj k d7)) τ h = .ok [d,a,b] h3:=by unfold aj;rw [e0,bx,e1,bx,e2];rfl
 unfold sA
 rw [this,bx,e3]
theorem jr (e:f τ h = .ok d h1):iz (kj i f) g τ h=g (τ.set i (some d)) h1:=by
 rw [qp]
 unfold kj
 rw [e]
 rfl
theorem aij (e:f τ h = .ok d h1):kj i f τ h = .nx (τ.set i (some d)) h1:=by
 unfold kj
 rw [e]
 rfl
theorem a1x (e:p τ h = .nx τ1 h1):iz p g τ h=g τ1 h1:=by rw [qp,e];rfl
theorem ahq (e:p τ h = .rt d h1):iz p g τ h = .rt d h1:=by rw [qp,e];rfl
theorem ifT (e:c τ h = .ok true h1):sIf c p q τ h=p τ h1:=by unfold sIf;rw [e];rfl
theorem ifF (e:c τ h = .ok false h1):sIf c p q τ h=q τ h1:=by unfold sIf;rw [e];rfl
theorem ifN (e:c τ h = .ok false h1):iz (sIf c p sNx) g τ h=g τ h1:=by rw [qp,ifF e];rfl
theorem tof (e:f τ h = .ok (.bl t) h1):sT f τ h = .ok t h1:=by unfold sT;rw [e];rfl
theorem a2n (e:f τ h = .ok d h1) (e':tru d h1 = .ok t h2):a5s f τ h = .ok t h2:=by unfold a5s;rw [e,bx,e']
theorem ayp (e:c1 τ h = .ok true h1) (e':c2 τ h1 = .ok t h2):aa3 c1 c2 τ h = .ok t h2:=by unfold aa3;rw [e,bx,if_pos rfl,e']
theorem ayq (e:c1 τ h = .ok false h1):aa3 c1 c2 τ h = .ok false h1:=by unfold aa3;rw [e,bx,if_neg (by simp)]
theorem orT (e:c1 τ h = .ok true h1):sOr c1 c2 τ h = .ok true h1:=by unfold sOr;rw [e,bx,if_pos rfl]
theorem orF (e:c1 τ h = .ok false h1) (e':c2 τ h1 = .ok t h2):sOr c1 c2 τ h = .ok t h2:=by unfold sOr;rw [e,bx,if_neg (by simp),e']
theorem ap8 (e:c τ h = .ok t h1):aa4 c τ h = .ok (!t) h1:=by unfold aa4;rw [e];rfl
theorem aw9 (e:c τ h = .ok true h1):aa4 c τ h = .ok false h1:=ap8 e
theorem yq (e:f τ h = .ok d h1):yf f τ h = .rt d h1:=by unfold yf;rw [e];rfl
theorem ate (e:f τ h = .ok (.bl true) h1) (e':k τ h1 = .ok d h2):a4o f k τ h = .ok d h2:=by unfold a4o;rw [e,bx];exact e'
theorem a6m {G:D→List D→Hd→R D} {A:SA} {ds:List D} (e1:f τ h = .ok d h1) (l:isL d h1=true) (e2:A τ h1 = .ok ds h2) (e3:G d ds h2 = .ok v h3):a0i (sML G f A) τ h = .nx τ h3:=by
 unfold a0i sML
 rw [e1,bx,if_pos l,e2,bx,e3]
 rfl
theorem awa {G:D→List D→Hd→R D} {A:SA} {ds:List D} (e1:f τ h = .ok d h1) (l:isL d h1=true) (e2:A τ h1 = .ok ds h2) (e3:G d ds h2 = .ok v h3):sML G f A τ h = .ok v h3:=by
 unfold sML
 rw [e1,bx,if_pos l,e2,bx,e3]
theorem arg1 (e:f τ h = .ok d h1):aj f d7 τ h = .ok [d] h1:=by unfold aj d7;rw [e];rfl
theorem jm {G:D→D→Hd→R D} (e1:f τ h = .ok a h1) (e2:k τ h1 = .ok b h2) (e3:G a b h2 = .ok v h3):s2 G f k τ h = .ok v h3:=by
 unfold s2
 rw [e1,bx,e2,bx,e3]
theorem am2 {G:D→Hd→R D} (e1:f τ h = .ok a h1) (e3:G a h1 = .ok v h2):s1 G f τ h = .ok v h2:=by
 unfold s1
 rw [e1,bx,e3]
theorem awb {G:D→D→Hd→R D} (ht:τ[i]? = some (some a)) (e:f τ h = .ok b h1) (e2:G a b h1 = .ok d h2):aep i G f τ h = .nx (τ.set i (some d)) h2:=by
 unfold aep
 rw [ht]
 dsimp only
 rw [e,a0p,e2]
 rfl
theorem akb {G:SG} (e:f τ h = .ok d h1) (e2:G d τ h1 = .nx τ1 h2):a88 f G τ h = .nx τ1 h2:=by
 unfold a88
 rw [e,a0p,e2]
theorem atf (e1:f1 τ h = .ok v h1) (e2:f2 τ h1 = .ok a h2) (e3:f3 τ h2 = .ok b h3) (e4:put a b v h3=some h4):aa6 f1 f2 f3 τ h = .nx τ h4:=by
 unfold aa6
 rw [e1,a0p,e2,a0p,e3,a0p,e4]
theorem atg (e1:f1 τ h = .ok v h1) (e2:f2 τ h1 = .ok a h2) (e3:f3 τ h2 = .ok b h3) (e4:apx a b v h3=some h4):a4v f1 f2 f3 τ h = .nx τ h4:=by
 unfold a4v
 rw [e1,a0p,e2,a0p,e3,a0p,e4]
theorem a5l {fi:SI} {G:SG} {b:SS} {xs:List D} {ck:Hd→Prop} (e:fi τ h = .ok ⟨xs,ck⟩ h1):iz (a4q fi G b) g τ h=thn (forL ck G b xs τ h1) g:=by
 rw [qp]
 unfold a4q
 rw [e]
 rfl
theorem a5u {xs:List D} {ck:Hd→Prop} (e:f τ h = .ok d h1) (e2:aeq d h1 = .ok ⟨xs,ck⟩ h1):sIt f τ h = .ok ⟨xs,ck⟩ h1:=by
 unfold sIt
 rw [e,bx,e2]
theorem a6n {xs:List D} (e:h[i]? = some (.lst xs)) (z:xs.length<LINE):a78 (.ref i) [a] h = .ok .non (h.set i (.lst (xs++[a]))):=by
 unfold a78
 simp only [e,if_pos z]
theorem ath {xs:List D} {j:Nat} (e:h[i]? = some (.lst xs)) (hj:j<xs.length):put (.ref i) (.int (j:Nat)) v h=some (h.set i (.lst (xs.set j v))):=by
 have:ixN xs.length (j:Int)=some j:=by unfold ixN;rw [if_pos (by omega),if_pos (by omega)];simp
 unfold put
 simp only [e,this]
theorem a9e {xs:List D} {j:Nat} {y:D} (e:h[i]? = some (.lst xs)) (hj:xs[j]? = some y):gIx (.ref i) (.int (j:Nat)) h = .ok y h:=by
 rw [a5i]
 unfold a00
 simp only [e,uo hj]
theorem aup {xs:List D} {j:Nat} {y:D} (hj:xs[j]? = some y):gIx (.rol xs) (.int (j:Nat)) h = .ok y h:=by
 rw [a5h]
 simp only [uo hj]
theorem acg {xs:List D} {j:Nat} {y:D} (hj:xs[j]? = some y):gIx (.tup xs) (.int (j:Nat)) h = .ok y h:=by
 rw [a1y]
 simp only [uo hj]
theorem aap {xs:List D} (e:h[i]? = some (.lst xs)):yu [.ref i] h = .ok (.int (xs.length:Nat)) h:=by
 rw [a1t]
 unfold a00
 simp only [e]
theorem ati {x y:Int} (c:0<y):a5x (.int x) (.int y) h = .ok (.int (x % y)) h:=by unfold a5x;exact if_pos c
theorem ayr {x y:Int} (c:y<x):gGt (.int x) (.int y) h = .ok (.bl true) h:=by unfold gGt;simp only [c,decide_true]
theorem ays {x y:Int} (c:¬ y<x):gGt (.int x) (.int y) h = .ok (.bl false) h:=by unfold gGt;simp only [c,decide_false]
theorem axa {x y:Int} (c:x<y):gLt (.int x) (.int y) h = .ok (.bl true) h:=by unfold gLt;simp only [c,decide_true]
theorem axb {x y:Int} (c:¬ x<y):gLt (.int x) (.int y) h = .ok (.bl false) h:=by unfold gLt;simp only [c,decide_false]
theorem akc {x y:Int} (c:x=y):hEq (.int x) (.int y) h = .ok (.bl true) h:=by rw [a9c,c,beq_self_eq_true]
theorem akd {x y:Int} (c:¬ x=y):hEq (.int x) (.int y) h = .ok (.bl false) h:=by rw [a9c,beq_eq_false_iff_ne.mpr c]
theorem ap9 {x y:Int} (c:x=y):hNe (.int x) (.int y) h = .ok (.bl false) h:=by rw [a9d,c,beq_self_eq_true];rfl
theorem atj {x y:Int} (c:¬ x=y):hNe (.int x) (.int y) h = .ok (.bl true) h:=by rw [a9d,beq_eq_false_iff_ne.mpr c];rfl
theorem aaq (x:Int):aa8 (.int x) h = .ok (.int (-x)) h:=rfl
theorem am3 (x y:Int):MI.ab2 (.int x) (.int y) h = .ok (.int (x - y)) h:=rfl
theorem j5 {n:Nat} (h:n≤1000000):n≤LINE:=by show n≤16777216;omega
theorem a5m {n:Nat} (h:n≤1000000):n<LINE:=by show n<16777216;omega
theorem am4:MI.yc [a,b] h = .ok (.tup [a,b]) h:=by unfold MI.yc;rw [if_pos (j5 (by simp))]
theorem atk:MI.yc [a,b,v] h = .ok (.tup [a,b,v]) h:=by unfold MI.yc;rw [if_pos (j5 (by simp))]
end
end MI
namespace EVX
open PySem PySem.Spec L2 MI
section
variable {i:Nat} {cs:Str→Bool} {fb fs p g:SS} {τ τ1 τ2:Sd} {h h1 h2:Hd} {c:Str} {f:SE} {ka:SA} {ds:List D} {F:SF} {n:Nat}
theorem atl {b:Bool} (e:f τ h = .ok (.bl b) h1):a5v f τ h = .ok (.bl (!b)) h1:=by unfold a5v;rw [e];rfl
theorem yz {d:D} (e:f τ h = .ok d h1) (e2:ka τ h1 = .ok ds h2):aj f ka τ h = .ok (d::ds) h2:=by
 unfold aj
 rw [e,bx,e2]
 rfl
theorem axc {a:D}:MI.yc [a] h = .ok (.tup [a]) h:=by unfold MI.yc;rw [if_pos (j5 (by simp))]
end
end EVX
namespace PN
open PySem PySem.Spec L2 MI AT HND EVX
local macro_rules | `(tactic| walk_at "ev") => `(tactic| simp only [qp,wy,a4w,a4x,a6f,kj,aep,adi,sIf,yf,a0i,aa6,put,a4v,a88,a3x,jx,a4p,kN,sV,sC,s2,s1,sA,aj,d7,sNx,sT,asB,a5s,vh,a3i,a1v,a3j,a3k,aa3,sOr,aa4,a4o,apr,a5v,sCh,aeo,bx,a0p,MI.a1y,MI.a5h,MI.a5i,aof,a00,gLt,gGt,gGe,gLe,a9c,a9d,aei,aej,a6l,yo,aek,a1a,apy,apz,aq0,aq1,vg,MI.ab2,a5x,adb,a5j,AT.ady,AT.p18,a0r,a1s,a1t,aj8,a1u,aa8,a4r,adc,MI.yc,MI.a0v,sML,isL,a78,oN,oS,a5t,pq,sIt,aeq,sRg,List.length_map,List.length_cons,List.length_nil,List.length_append,List.getElem?_cons_zero,List.getElem?_cons_succ,List.set_cons_zero,List.set_cons_succ,List.nil_append,List.cons_append,AT.ado,AT.adp,AT.adq,AT.adt,AT.adu,AT.adv,AT.adw,AT.adx,AT.x10,AT.x20,AT.x21,AT.x30,AT.x31,AT.x32,AT.x40,AT.x41,AT.x42,AT.x43,AT.x50,AT.x51,AT.x52,AT.x53,AT.x54,AT.x60,AT.x61,AT.x62,AT.x63,AT.x64,AT.x65,AT.x70,AT.x71,AT.x72,AT.x73,AT.x74,AT.x75,AT.x76,decide_true,decide_false,reduceIte,Bool.true_and,Bool.and_self,Bool.not_true,Bool.not_false,and_self,true_and,and_true,beq_self_eq_true,Nat.reduceAdd,Nat.reduceLeDiff,Nat.reduceLT,Nat.reducePow,Int.reduceLT,Int.reduceLE,Int.reduceNeg,Int.reduceEq,Int.reduceBEq,Bool.false_eq_true,Bool.true_eq_false,ite_true,ite_false,if_true,if_false, *])
structure Pen (o:O) (N:Nat):Prop where
 ex:∃ (cells:List Int) (a l:Int),o = .lst [.rol (cells.map D.int), .int a, .int l]∧0≤a∧a≤N∧0≤l
theorem Pen.clo {o:O} {N:Nat} (P:Pen o N):a1n 0 o:=by
 obtain ⟨cells,a,l,rfl,_⟩:=P.ex
 exact jb (a1q (iu fun x _=>ji x)) (jb (ji _) (jb (ji _) sy))
theorem Pen.up {o:O} {N M:Nat} (P:Pen o N) (h:N≤M):Pen o M:=by
 obtain ⟨cells,a,l,e,h1,h2,h3⟩:=P.ex
 exact ⟨cells,a,l,e,h1,by omega,h3⟩
noncomputable def ak:SF:=qu a3f 7
theorem ahr {o:O} {N:Nat} {m:Int} (P:Pen o N) (hN:N≤1000000000) (m0:0<m) (m1:m<1073741824):∃ r o',ak [.ref 0, .int m] [o] = .ok (.int r) [o']∧0≤r∧r<m∧Pen o' (N+1):=by
 obtain ⟨cells,a,l,rfl,a0,a1,l0⟩:=P.ex
 unfold ak
 rw [j7]
 unfold a3f a2d
 simp only [List.map_cons,List.map_nil,List.length_cons,List.length_nil,Nat.reduceSub,Nat.reduceAdd,List.replicate,List.cons_append,List.nil_append]
 have k3:(0<m∧m<1073741824)=True:=by simp [m0,m1]
 have k3':(0<m)=True:=by simp [m0]
 by_cases hl:0<l
 ·have kl:decide (0<l)=true:=decide_eq_true hl
  refine ⟨l % m,_,?_,Int.emod_nonneg _ (by omega),Int.emod_lt_of_pos _ m0,⟨cells,a,l / m,rfl,a0,by omega,Int.ediv_nonneg (by omega) (by omega)⟩⟩
  walk_at "ev"
 ·have:l=0:=by omega
  subst this
  have last:∀ c:Int,∃ r q q2,0≤r∧r<m∧(c % 2147483587+40709*a+31) ^ (3:Int).toNat % 2147483647=q∧(q*q+48271*q+a) % 2147483629=q2∧q2 / 64 % m=r∧CMul 40709 a∧CMul q q∧CMul 48271 q ∧
    (∀ h,afw (.int (c % 2147483587+40709*a+31)) (.int 3) h = .ok (.int ((c % 2147483587+40709*a+31) ^ (3:Int).toNat)) h):=fun c=>by
   have p0:0≤c % 2147483587:=Int.emod_nonneg _ (by decide)
   have p1:c % 2147483587<2147483587:=Int.emod_lt_of_pos _ (by decide)
   have q0:0≤(c % 2147483587+40709*a+31) ^ (3:Int).toNat % 2147483647:=Int.emod_nonneg _ (by decide)
   have q1:(c % 2147483587+40709*a+31) ^ (3:Int).toNat % 2147483647<2147483647:=Int.emod_lt_of_pos _ (by decide)
   refine ⟨_,_,_,Int.emod_nonneg _ (by omega),Int.emod_lt_of_pos _ m0,rfl,rfl,rfl, .inl ⟨by decide,by decide⟩, .inl ⟨by omega,by omega⟩, .inl ⟨by decide,by decide⟩,fun h=>aw1 ⟨by decide,by decide,by omega⟩⟩
  obtain ⟨n,rfl⟩:=Int.eq_ofNat_of_zero_le a0
  by_cases hc:0<(cells.length:Int)
  ·have kc:decide (0<(cells.length:Int))=true:=decide_eq_true hc
   have ic:(0<(cells.length:Int))=True:=by simpa using hc
   have im:((n:Int) % (cells.length:Int))=((n % cells.length:Nat):Int):=by omega
   have hj:n % cells.length<cells.length:=Nat.mod_lt _ (by omega)
   have hat:atI (cells.map D.int) ((n % cells.length:Nat):Int)=some (.int cells[n % cells.length]):=uo (by simp [hj])
   generalize cells[n % cells.length]=x at hat
   by_cases hA:(n:Int)<(cells.length:Int)
   ·have ka:decide ((n:Int)<(cells.length:Int))=true:=decide_eq_true hA
    by_cases hB:(1000000000000000000:Int)≤alu x
    ·have kb:decide ((1000000000000000000:Int)≤alu x)=true:=decide_eq_true hB
     have cm:CMul 2 (alu x):=.inl ⟨by decide,by decide⟩
     have g0:0≤2*alu x+(if decide (x<0)=true then 1 else 0):=by split<;>omega
     refine ⟨(2*alu x+(if decide (x<0)=true then 1 else 0)) % m,_,?_,Int.emod_nonneg _ (by omega),Int.emod_lt_of_pos _ m0,⟨cells,(n:Int)+1,(2*alu x+(if decide (x<0)=true then 1 else 0)) / m,rfl,by omega,by omega,Int.ediv_nonneg g0 (by omega)⟩⟩
     walk_at "ev"
    ·have kb:decide ((1000000000000000000:Int)≤alu x)=false:=decide_eq_false hB
     obtain ⟨r,q,q2,r0,r1,eq,eq2,er,d1,d2,d3,d4⟩:=last x
     refine ⟨r,_,?_,r0,r1,⟨cells,(n:Int)+1,0,rfl,by omega,by omega,by omega⟩⟩
     walk_at "ev"
   ·have ka:decide ((n:Int)<(cells.length:Int))=false:=decide_eq_false hA
    obtain ⟨r,q,q2,r0,r1,eq,eq2,er,d1,d2,d3,d4⟩:=last x
    refine ⟨r,_,?_,r0,r1,⟨cells,(n:Int)+1,0,rfl,by omega,by omega,by omega⟩⟩
    walk_at "ev"
  ·have kc:decide (0<(cells.length:Int))=false:=decide_eq_false hc
   have ka:decide ((n:Int)<(cells.length:Int))=false:=decide_eq_false (by omega)
   obtain ⟨r,q,q2,r0,r1,eq,eq2,er,d1,d2,d3,d4⟩:=last 5
   refine ⟨r,_,?_,r0,r1,⟨cells,(n:Int)+1,0,rfl,by omega,by omega,by omega⟩⟩
   walk_at "ev"
theorem aar {o:O} {N:Nat} {m:Int} (P:Pen o N) (hN:N≤1000000000) (m0:0<m) (m1:m<1073741824):∃ r o',Dr ak 2 [.int m] o (.int r) o'∧0≤r∧r<m∧Pen o' (N+1):=by
 obtain ⟨r,o',e,r0,r1,P'⟩:=ahr P hN m0 m1
 refine ⟨r,o',Dr.of rfl (by simp [ji]) P.clo e (jy (ji _) ?_) (ji _) P'.clo,r0,r1,P'⟩
 intro u hu
 simp at hu
 subst hu
 exact u5 (by omega) P'.clo
noncomputable def jc:SF:=qu a2k 1
theorem atm (ns:List Int) (h:Hd):∃ o,Pen o 0∧uf true 1 jc [.scr (ns.map D.int)] h = .ok (.ref h.length) (h++[o]):=by
 have cl:clos 0 ((ns.take 63).map D.int):=iu fun x _=>ji x
 have z1:sZ (a5t (sV 0) oN (oS (sC (.int 63)))) [some (.scr (ns.map D.int))] [] = .ok (.rol ((ns.take 63).map D.int)) []:=by
  refine ug (by
   show gSl (.scr (ns.map D.int)) none (some ((63:Nat):Int)) []=_
   unfold gSl
   simp only [afn,List.map_take]) cl (by simp)
 have e:jc [.scr (ns.map D.int)] [] = .ok (.ref 0) [.lst [.rol ((ns.take 63).map D.int), .int 0, .int 0]]:=by
  unfold jc
  rw [j7]
  show toR (a2k [some (.scr (ns.map D.int))] [])=_
  unfold a2k
  exact congrArg toR (yq (ahp z1 (jf _ _ _) (jf _ _ _) rfl))
 have P:Pen (.lst [.rol ((ns.take 63).map D.int), .int 0, .int 0]) 0:=⟨_,0,0,rfl,by decide,by decide,by decide⟩
 exact ⟨_,P,asj rfl (by simpa [MI.clo] using (iu fun x _=>ji x:clos 0 (ns.map D.int))) e rfl P.clo h⟩
noncomputable def gj:SF:=qu yh 1
theorem a7w:Pu gj 0 [] (.str (S sig)):=HND.a7w
end PN
namespace SRC
open PySem PySem.Spec L2 MI
end SRC
namespace SRC
open PySem PySem.Spec L2 MI AT
local macro_rules | `(tactic| walk_at "ev") => `(tactic| simp only [qp,wy,a4w,a4x,a6f,kj,aep,adi,sIf,yf,a0i,aa6,put,a4v,a88,a3x,jx,a4p,kN,sV,sC,s2,s1,sA,aj,d7,sNx,sT,asB,a5s,vh,a3i,a1v,a3j,a3k,aa3,sOr,aa4,a4o,apr,a5v,sCh,aeo,bx,a0p,MI.a1y,MI.a5h,MI.a5i,aof,a00,gLt,gGt,gGe,gLe,a9c,a9d,aei,aej,a6l,yo,aek,a1a,apy,apz,aq0,aq1,vg,MI.ab2,a5x,adb,a5j,AT.ady,AT.p18,a0r,a1s,a1t,aj8,a1u,aa8,a4r,adc,MI.yc,MI.a0v,sML,isL,a78,oN,oS,a5t,pq,sIt,aeq,sRg,List.length_map,List.length_cons,List.length_nil,List.length_append,List.getElem?_cons_zero,List.getElem?_cons_succ,List.set_cons_zero,List.set_cons_succ,List.nil_append,List.cons_append,AT.ado,AT.adp,AT.adq,AT.adt,AT.adu,AT.adv,AT.adw,AT.adx,AT.x10,AT.x20,AT.x21,AT.x30,AT.x31,AT.x32,AT.x40,AT.x41,AT.x42,AT.x43,AT.x50,AT.x51,AT.x52,AT.x53,AT.x54,AT.x60,AT.x61,AT.x62,AT.x63,AT.x64,AT.x65,AT.x70,AT.x71,AT.x72,AT.x73,AT.x74,AT.x75,AT.x76,decide_true,decide_false,reduceIte,Bool.true_and,Bool.and_self,Bool.not_true,Bool.not_false,and_self,true_and,and_true,beq_self_eq_true,Nat.reduceAdd,Nat.reduceLeDiff,Nat.reduceLT,Nat.reducePow,Int.reduceLT,Int.reduceLE,Int.reduceNeg,Int.reduceEq,Int.reduceBEq,Bool.false_eq_true,Bool.true_eq_false,ite_true,ite_false,if_true,if_false, *])
end SRC
namespace SRC
open PySem PySem.Spec L2 MI AT HND EVX
local macro_rules | `(tactic| walk_at "ev") => `(tactic| simp only [qp,wy,a4w,a4x,a6f,kj,aep,adi,sIf,yf,a0i,aa6,put,a4v,a88,a3x,jx,a4p,kN,sV,sC,s2,s1,sA,aj,d7,sNx,sT,asB,a5s,vh,a3i,a1v,a3j,a3k,aa3,sOr,aa4,a4o,apr,a5v,sCh,aeo,bx,a0p,MI.a1y,MI.a5h,MI.a5i,aof,a00,gLt,gGt,gGe,gLe,a9c,a9d,aei,aej,a6l,yo,aek,a1a,apy,apz,aq0,aq1,vg,MI.ab2,a5x,adb,a5j,AT.ady,AT.p18,a0r,a1s,a1t,aj8,a1u,aa8,a4r,adc,MI.yc,MI.a0v,sML,isL,a78,oN,oS,a5t,pq,sIt,aeq,sRg,a4q,zx,a5w,aoq,a8z,adn,aer,aps,srcOf,  List.length_map,List.length_cons,List.length_nil,List.length_append,List.getElem?_cons_zero,List.getElem?_cons_succ,List.set_cons_zero,List.set_cons_succ,List.nil_append,List.cons_append,AT.ado,AT.adp,AT.adq,AT.adt,AT.adu,AT.adv,AT.adw,AT.adx,AT.x10,AT.x20,AT.x21,AT.x30,AT.x31,AT.x32,AT.x40,AT.x41,AT.x42,AT.x43,AT.x50,AT.x51,AT.x52,AT.x53,AT.x54,AT.x60,AT.x61,AT.x62,AT.x63,AT.x64,AT.x65,AT.x70,AT.x71,AT.x72,AT.x73,AT.x74,AT.x75,AT.x76,decide_true,decide_false,reduceIte,Bool.true_and,Bool.and_self,Bool.not_true,Bool.not_false,and_self,true_and,and_true,beq_self_eq_true,Nat.reduceAdd,Nat.reduceLeDiff,Nat.reduceLT,Nat.reducePow,Int.reduceLT,Int.reduceLE,Int.reduceNeg,Int.reduceEq,Int.reduceBEq,Bool.false_eq_true,Bool.true_eq_false,ite_true,ite_false,if_true,if_false, *])
theorem ints_map:∀ l:List Int,a2f (l.map D.int)=some l
 | []=>rfl
 | a::l=>by rw [List.map_cons];simp only [a2f,ints_map l,Option.map_some]
theorem awc {g:List D→Hd→R D} {k:SA} {τ:Sd} {h h1 h2:Hd} {ds:List D} {d:D} (e:k τ h = .ok ds h1) (eg:g ds h1 = .ok d h2):sA g k τ h = .ok d h2:=by
 unfold sA
 rw [e,bx,eg]
end SRC
namespace HND
open PySem PySem.Spec L2 MI AT
theorem ach {ck:Hd→Prop} {g:SG} {b:SS} {α:Type} (f:α→D) (I:List α→Sd→Hd→Prop) (c:∀ pre τ h,I pre τ h→ck h):∀ (xs pre:List α) (τ:Sd) (h:Hd),
  (∀ pre' x post τ h,pre++xs=pre'++x::post→I pre' τ h→∃ τ1 h1,g (f x) τ h = .nx τ1 h1∧∃ τ2 h2,b τ1 h1 = .nx τ2 h2∧I (pre'++[x]) τ2 h2)→I pre τ h→∃ τ' h',forL ck g b (xs.map f) τ h = .nx τ' h'∧I (pre++xs) τ' h'
 | [],pre,τ,h,_,i0=>⟨τ,h,by rw [List.map_nil,forL,if_pos (c _ _ _ i0)],by simpa using i0⟩
 | x::xs,pre,τ,h,st,i0=>by
  obtain ⟨τ1,h1,e1,τ2,h2,e2,i2⟩:=st pre x xs τ h rfl i0
  obtain ⟨τ',h',e3,i3⟩:=ach f I c xs (pre++[x]) τ2 h2 (fun pre' y post τ h e=>st pre' y post τ h (by simpa using e)) i2
  refine ⟨τ',h',?_,by simpa using i3⟩
  rw [List.map_cons,forL,if_pos (c _ _ _ i0),e1]
  dsimp only
  rw [e2]
  exact e3
end HND
namespace HND
open PySem PySem.Spec L2 MI AT
theorem a2o {k i:Nat} {pre post:List Nat} (h:List.range k=pre++i::post):i=pre.length∧i<k:=by
 have h1:=congrArg (fun l=>l[pre.length]?) h
 have h2:=congrArg List.length h
 simp at h1 h2
 have:pre.length<k:=by omega
 rw [List.getElem?_range this] at h1
 simp at h1
 omega
end HND
namespace HND
open PySem PySem.Spec L2 MI AT
end HND
namespace HND
open PySem PySem.Spec L2 MI AT
end HND
namespace HND
open PySem PySem.Spec L2 MI AT
abbrev KOk (k:Int):Prop := -1≤k∧k≤5
end HND
namespace HND
open PySem PySem.Spec L2 MI AT
abbrev bh (i:Nat):D:=.int (i:Nat)
theorem gq {k:Nat} (l:List Nat):clos k (l.map bh):=iu fun x _=>ji _
end HND
namespace HND
open PySem PySem.Spec L2 MI AT
theorem all_map {α:Type} (f:α→D) (P:α→Prop):∀ (l:List D),(∀ x∈l,∃ r,P r∧x=f r)→∃ G:List α,l=G.map f∧∀ r∈G,P r
 | [],_=>⟨[],rfl,by simp⟩
 | x::l,h=>by
  obtain ⟨r,pr,rfl⟩:=h _ List.mem_cons_self
  obtain ⟨G,rfl,pG⟩:=all_map f P l fun y hy=>h y (List.mem_cons_of_mem _ hy)
  exact ⟨r::G,rfl,fun q hq=>by
   rcases List.mem_cons.mp hq with rfl | h
   ·exact pr
   ·exact pG q h⟩
abbrev xu (r:List Nat):D:=.tup (r.map bh)
abbrev ake (s n:Nat) (r:List Nat):Prop:=r.length=s∧∀ x∈r,x<n
structure Table where
 tg:List Nat
 go:List (List Nat)
 ks:List Int
def Table.d (T:Table):D:=.tup [.str (S T.tg), .tup (T.go.map xu), .tup (T.ks.map D.int)]
structure Table.Ok (T:Table):Prop where
 tong:Tongue T.tg
 n1:1≤T.go.length
 n32:T.go.length≤32
 row:∀ r∈T.go,ake T.tg.length T.go.length r
 kl:T.ks.length=T.go.length
 k0:T.ks[0]? = some (-1)
 kk:∀ k∈T.ks,KOk k
theorem Table.clo {T:Table}:clo 0 T.d:=iw (jb (sr _) (jb (iw (iu fun x _=>iw (gq _))) (jb (iw (iu fun x _=>ji x)) sy)))
end HND
namespace MI
open PySem PySem.Spec L2
end MI
namespace PAP
open PySem PySem.Spec L2 MI AT HND
theorem ayt (l:List Nat) (h:Hd):aeq (.str (S l)) h = .ok ⟨l.map fun c=>.str (S [c]),fun _=>True⟩ h:=by
 show R.ok (⟨zu (S l),fun _=>True⟩:Itm) _=_
 unfold zu
 rw [ahl]
end PAP
namespace SRC
open PySem PySem.Spec L2 MI AT HND EVX
theorem axd {c:ST} {f g:SE} {τ:Sd} {h h1:Hd} {r:R D} (e1:c τ h = .ok true h1) (e2:f τ h1=r):aeo c f g τ h=r:=by unfold aeo;rw [e1,bx,if_pos rfl];exact e2
theorem axe {c:ST} {f g:SE} {τ:Sd} {h h1:Hd} {r:R D} (e1:c τ h = .ok false h1) (e2:g τ h1=r):aeo c f g τ h=r:=by unfold aeo;rw [e1,bx,if_neg (by simp)];exact e2
end SRC
namespace BF
def num (s:Nat):List Nat→Nat
 | []=>0
 | c::p=>num s p*s+c+1
def walk (step:Nat→Nat→Nat) (r:Nat):List Nat→Nat
 | []=>r
 | c::p=>step (walk step r p) c
def Ok (s:Nat) (w:List Nat):Prop:=∀ c∈w,c<s
theorem Ok.nil {s:Nat}:Ok s []:=fun _ h=>by simp at h
theorem Ok.cons {s c:Nat} {p:List Nat} (hc:c<s) (h:Ok s p):Ok s (c::p):=fun d hd=>by
 rcases List.mem_cons.mp hd with rfl | hd
 ·exact hc
 ·exact h d hd
theorem Ok.head {s c:Nat} {p:List Nat} (h:Ok s (c::p)):c<s:=h c List.mem_cons_self
theorem Ok.tail {s c:Nat} {p:List Nat} (h:Ok s (c::p)):Ok s p:=fun d hd=>h d (List.mem_cons_of_mem _ hd)
theorem am5 {s a b:Nat} (h:a<b):a*s+s≤b*s:=by
 have:(a+1)*s≤b*s:=Nat.mul_le_mul_right s h
 rw [Nat.add_mul,Nat.one_mul] at this
 exact this
theorem ahs {s a b c d:Nat} (h:a<b) (hc:c<s):a*s+c+1<b*s+d+1:=by
 have:=am5 (s:=s) h
 omega
theorem a7y {s:Nat}:∀ {u v:List Nat},Ok s u→Ok s v→num s u=num s v→u=v
 | [],[],_,_,_=>rfl
 | [],_::_,_,_,e=>by simp [num] at e
 | _::_,[],_,_,e=>by simp [num] at e
 | c::p,d::q,hu,hv,e=>by
  simp only [num] at e
  have h1:=hu.head
  have h2:=hv.head
  rcases Nat.lt_trichotomy (num s p) (num s q) with h | h | h
  ·have:=ahs (d:=d) h h1;omega
  ·have:=a7y hu.tail hv.tail h
   subst this
   have:c=d:=by omega
   rw [this]
  ·have:=ahs (d:=c) h h2;omega
section
variable {s:Nat} {step:Nat→Nat→Nat} {r0:Nat} {hit:List Nat→Prop}
structure St (s:Nat) (step:Nat→Nat→Nat) (r0:Nat) (hit:List Nat→Prop) (found:List (List Nat)) (F:Nat):Prop where
 ok:∀ w∈found,Ok s w
 inc:found.Pairwise fun u v=>num s u<num s v
 dis:found.Pairwise fun u v=>walk step r0 u≠walk step r0 v
 com:∀ w,Ok s w→num s w<F→¬ hit w∧∃ v∈found,walk step r0 v=walk step r0 w∧num s v≤num s w
 low:∀ w∈found,num s w<F
 len:∀ (j:Nat) w,found[j]? = some w→w.length≤j
theorem St.start (h0:¬ hit []):St s step r0 hit [[]] 1:=by
 refine ⟨by simp [Ok.nil],by simp,by simp,fun w hw hn=>?_,by simp [num],fun j w e=>?_⟩
 rotate_left
 ·cases j with
  | zero=>simp at e;subst e;exact Nat.le_refl _
  | succ j=>simp at e
 cases w with
 | nil=>exact ⟨h0,[],by simp,rfl,Nat.le_refl _⟩
 | cons c p=>simp only [num] at hn;omega
theorem St.seen {found:List (List Nat)} {F:Nat} {w:List Nat} (S:St s step r0 hit found F) (hw:Ok s w) (e:num s w=F) (nh:¬ hit w) (h:∃ v∈found,walk step r0 v=walk step r0 w):St s step r0 hit found (F+1):=by
 refine ⟨S.ok,S.inc,S.dis,fun u hu hn=>?_,fun u hu=>Nat.lt_succ_of_lt (S.low u hu),S.len⟩
 rcases Nat.lt_or_ge (num s u) F with h1 | h1
 ·exact S.com u hu h1
 ·have:u=w:=a7y hu hw (by omega)
  subst this
  obtain ⟨v,hv,e2⟩:=h
  exact ⟨nh,v,hv,e2,Nat.le_of_lt (by rw [e];exact S.low v hv)⟩
theorem St.add {found:List (List Nat)} {F:Nat} {w:List Nat} (S:St s step r0 hit found F) (hw:Ok s w) (e:num s w=F) (nh:¬ hit w) (h:∀ v∈found,walk step r0 v≠walk step r0 w) (hlen:w.length≤found.length):St s step r0 hit (found++[w]) (F+1):=by
 refine ⟨fun u hu=>?_,?_,?_,fun u hu hn=>?_,fun u hu=>?_,fun j u e=>?_⟩
 ·rcases List.mem_append.mp hu with hu | hu
  ·exact S.ok u hu
  ·rw [List.mem_singleton.mp hu];exact hw
 ·refine List.pairwise_append.mpr ⟨S.inc,by simp,fun u hu v hv=>?_⟩
  rw [List.mem_singleton.mp hv,e];exact S.low u hu
 ·refine List.pairwise_append.mpr ⟨S.dis,by simp,fun u hu v hv=>?_⟩
  rw [List.mem_singleton.mp hv];exact h u hu
 ·rcases Nat.lt_or_ge (num s u) F with h1 | h1
  ·obtain ⟨a,v,hv,b⟩:=S.com u hu h1
   exact ⟨a,v,List.mem_append_left _ hv,b⟩
  ·have:u=w:=a7y hu hw (by omega)
   subst this
   exact ⟨nh,u,by simp,rfl,Nat.le_refl _⟩
 ·rcases List.mem_append.mp hu with hu | hu
  ·exact Nat.lt_succ_of_lt (S.low u hu)
  ·rw [List.mem_singleton.mp hu];omega
 ·by_cases hj:j<found.length
  ·rw [List.getElem?_append_left hj] at e
   exact S.len j u e
  ·rw [List.getElem?_append_right (by omega)] at e
   have:j - found.length=0:=by
    have:=(List.getElem?_eq_some_iff.mp e).1
    simp at this;omega
   rw [this] at e
   simp at e;subst e
   omega
theorem St.least {found:List (List Nat)} {F:Nat} (S:St s step r0 hit found F) {v:List Nat} (hv:Ok s v) (hh:hit v):F≤num s v :=
 Nat.le_of_not_lt fun z=>(S.com v hv z).1 hh
theorem St.next {found:List (List Nat)} {l:Nat} {w w':List Nat} (hs:0<s) (hl:found[l]? = some w) (hl':found[l+1]? = some w') (S:St s step r0 hit found (num s w*s+s+1)) (a0f:∀ c p q,walk step r0 p=walk step r0 q→(hit (c::p)↔hit (c::q))):St s step r0 hit found (num s w'*s+1):=by
 obtain ⟨h1,e1⟩:=List.getElem?_eq_some_iff.mp hl
 obtain ⟨h2,e2⟩:=List.getElem?_eq_some_iff.mp hl'
 have lt:num s w<num s w':=by rw [← e1,← e2];exact List.pairwise_iff_getElem.mp S.inc l (l+1) h1 h2 (by omega)
 have up:=am5 (s:=s) lt
 refine ⟨S.ok,S.inc,S.dis,fun u hu hn=>?_,fun u hu=>Nat.lt_of_lt_of_le (S.low u hu) (by omega),S.len⟩
 rcases Nat.lt_or_ge (num s u) (num s w*s+s+1) with h3 | h3
 ·exact S.com u hu h3
 ·cases u with
  | nil=>simp only [num] at h3;omega
  | cons c p =>
   simp only [num] at hn h3 ⊢
   have hc:=hu.head
   have p1:num s p<num s w':=by
    refine Nat.lt_of_not_le fun z=>?_
    have:=Nat.mul_le_mul_right s z
    omega
   have p0:num s w<num s p:=by
    refine Nat.lt_of_not_le fun z=>?_
    have:=Nat.mul_le_mul_right s z
    omega
   have pw:num s p<num s w*s+s+1:=by
    have:=S.low w' (by rw [← e2];exact List.getElem_mem h2)
    omega
   obtain ⟨_,v,hv,ev,lv⟩:=S.com p hu.tail pw
   obtain ⟨j,hj⟩:=List.getElem?_of_mem hv
   obtain ⟨h4,e4⟩:=List.getElem?_eq_some_iff.mp hj
   have jl:j≤l:=by
    refine Nat.le_of_not_lt fun z=>?_
    have:num s w'≤num s v:=by
     rcases Nat.lt_or_eq_of_le (show l+1≤j from z) with q | q
     ·rw [← e2,← e4];exact Nat.le_of_lt (List.pairwise_iff_getElem.mp S.inc (l+1) j h2 h4 q)
     ·subst q;rw [← e2,← e4];exact Nat.le_refl _
    omega
   have vw:num s v≤num s w:=by
    rcases Nat.lt_or_eq_of_le jl with q | q
    ·rw [← e1,← e4];exact Nat.le_of_lt (List.pairwise_iff_getElem.mp S.inc j l h4 h1 q)
    ·subst q;rw [← e1,← e4];exact Nat.le_refl _
   have cv:num s (c::v)<num s w*s+s+1:=by
    simp only [num]
    have:=Nat.mul_le_mul_right s vw
    omega
   obtain ⟨nh,v',hv',ev',lv'⟩:=S.com (c::v) (Ok.cons hc (S.ok v hv)) cv
   refine ⟨fun z=>nh ((a0f c v p ev).mpr z),v',hv',?_,?_⟩
   ·rw [ev'];simp only [walk,ev]
   ·simp only [num] at lv'
    have:=Nat.mul_le_mul_right s lv
    omega
theorem St.all {found:List (List Nat)} {l:Nat} {w:List Nat} (hl:found[l]? = some w) (hn:found.length=l+1) (S:St s step r0 hit found (num s w*s+s+1)) (h0:¬ hit []) (hz:[]∈found) (a0f:∀ c p q,walk step r0 p=walk step r0 q→(hit (c::p)↔hit (c::q))) :
  ∀ u,Ok s u→¬ hit u∧∃ v∈found,walk step r0 v=walk step r0 u∧num s v≤num s u
 | [],_=>⟨h0,[],hz,rfl,Nat.le_refl _⟩
 | c::p,hu=>by
  obtain ⟨_,v,hv,ev,lv⟩:=St.all hl hn S h0 hz a0f p hu.tail
  have hc:=hu.head
  obtain ⟨h1,e1⟩:=List.getElem?_eq_some_iff.mp hl
  obtain ⟨j,hj⟩:=List.getElem?_of_mem hv
  obtain ⟨h4,e4⟩:=List.getElem?_eq_some_iff.mp hj
  have vw:num s v≤num s w:=by
   rcases Nat.lt_or_eq_of_le (show j≤l by omega) with q | q
   ·rw [← e1,← e4];exact Nat.le_of_lt (List.pairwise_iff_getElem.mp S.inc j l h4 h1 q)
   ·subst q;rw [← e1,← e4];exact Nat.le_refl _
  have cv:num s (c::v)<num s w*s+s+1:=by
   simp only [num]
   have:=Nat.mul_le_mul_right s vw
   omega
  obtain ⟨nh,v',hv',ev',lv'⟩:=S.com (c::v) (Ok.cons hc (S.ok v hv)) cv
  refine ⟨fun z=>nh ((a0f c v p ev).mpr z),v',hv',?_,?_⟩
  ·rw [ev'];simp only [walk,ev]
  ·simp only [num] at lv' ⊢
   have:=Nat.mul_le_mul_right s lv
   omega
end
theorem a7z (s c:Nat):∀ x:List Nat,num s (x++[c])=(c+1)*s ^ x.length+num s x
 | []=>by simp [num]
 | a::x=>by
  show num s (x++[c])*s+a+1=_
  rw [a7z s c x,List.length_cons,Nat.pow_succ,← Nat.mul_assoc,num,Nat.add_mul]
  omega
theorem aci {s:Nat}:∀ {x y:List Nat},x.length=y.length→Ok s x→Ok s y→num s x<num s y+s ^ x.length
 | [],[],_,_,_=>by simp [num]
 | a::x,b::y,l,hx,hy=>by
  have ih:=aci (x:=x) (y:=y) (by simpa using l) hx.tail hy.tail
  have ha:=hx.head
  simp only [num,List.length_cons,Nat.pow_succ]
  have:=Nat.mul_le_mul_right s (show num s x+1≤num s y+s ^ x.length from ih)
  rw [Nat.add_mul,Nat.add_mul,Nat.one_mul] at this
  omega
theorem a6o {s:Nat} (hs:0<s):∀ {x y:List Nat},x.length<y.length→Ok s x→num s x<num s y
 | [],b::y,_,_=>by simp [num]
 | a::x,b::y,l,hx=>by
  have:=a6o hs (x:=x) (y:=y) (by simpa using l) hx.tail
  exact ahs this hx.head
theorem a2p (step:Nat→Nat→Nat) (r c:Nat):∀ x:List Nat,walk step r (x++[c])=walk step (step r c) x
 | []=>rfl
 | a::x=>by show step (walk step r (x++[c])) a=_;rw [a2p step r c x];rfl
section
variable (s:Nat) (step:Nat→Nat→Nat) (K:Nat→Bool)
def fl:Nat→Nat→Bool
 | 0,r=>K r
 | k+1,r=>(List.range s).any fun c=>fl k (step r c)
def fst (k r:Nat):Nat:=((List.range s).find? fun c=>fl s step K k (step r c)).getD 0
def gre:Nat→Nat→List Nat
 | 0,_=>[]
 | k+1,r=>fst s step K k r::gre k (step r (fst s step K k r))
variable {s step K}
theorem am6 {k r:Nat} (h:fl s step K (k+1) r=true):fst s step K k r<s∧fl s step K k (step r (fst s step K k r))=true∧∀ d,d<fst s step K k r→fl s step K k (step r d)=false:=by
 unfold fst
 cases e:(List.range s).find? fun c=>fl s step K k (step r c) with
 | none =>
  rw [List.find?_eq_none] at e
  simp only [fl,List.any_eq_true] at h
  obtain ⟨c,hc,h⟩:=h
  exact absurd h (e c hc)
 | some c =>
  simp only [Option.getD_some]
  have h1:=List.find?_some e
  have h2:=List.mem_of_find?_eq_some e
  refine ⟨List.mem_range.mp h2,h1,fun d hd=>?_⟩
  rw [List.find?_range_eq_some] at e
  simpa using e.2.2 d hd
theorem a9f:∀ {k r:Nat},fl s step K k r=true→(gre s step K k r).length=k∧Ok s (gre s step K k r).reverse∧K (walk step r (gre s step K k r).reverse)=true
 | 0,r,h=>⟨rfl,Ok.nil,h⟩
 | k+1,r,h=>by
  obtain ⟨h1,h2,_⟩:=am6 h
  obtain ⟨l,o,w⟩:=a9f h2
  refine ⟨by simp [gre,l],fun c hc=>?_,?_⟩
  ·simp only [gre,List.reverse_cons,List.mem_append,List.mem_singleton] at hc
   rcases hc with hc | rfl
   ·exact o c hc
   ·exact h1
  ·rw [gre,List.reverse_cons,a2p];exact w
theorem akf:∀ {u:List Nat} {r:Nat},Ok s u.reverse→K (walk step r u.reverse)=true→fl s step K u.length r=true
 | [],r,_,h=>h
 | c::u,r,o,h=>by
  rw [List.reverse_cons] at o h
  rw [a2p] at h
  simp only [List.length_cons,fl,List.any_eq_true]
  exact ⟨c,List.mem_range.mpr (o c (by simp)),akf (fun d hd=>o d (by simp [List.mem_reverse.mp hd])) h⟩
theorem a9g:∀ {u:List Nat} {r:Nat},Ok s u.reverse→K (walk step r u.reverse)=true→num s (gre s step K u.length r).reverse≤num s u.reverse
 | [],r,_,_=>Nat.le_refl _
 | c::u,r,o,h=>by
  have hf:=akf o h
  obtain ⟨h1,h2,h3⟩:=am6 (show fl s step K (u.length+1) r=true from hf)
  rw [List.reverse_cons] at o h
  rw [a2p] at h
  have ou:Ok s u.reverse:=fun d hd=>o d (by simp [List.mem_reverse.mp hd])
  have hc:fl s step K u.length (step r c)=true:=akf ou h
  rw [List.length_cons,gre,List.reverse_cons,List.reverse_cons,a7z,a7z]
  obtain ⟨gl,go,_⟩:=a9f h2
  rcases Nat.lt_trichotomy c (fst s step K u.length r) with q | q | q
  ·rw [h3 c q] at hc;cases hc
  ·rw [← q] at gl ⊢
   have:=a9g ou h
   simp only [List.length_reverse,gl] at this ⊢
   omega
  ·have n:=aci (s:=s) (x:=(gre s step K u.length (step r (fst s step K u.length r))).reverse) (y:=u.reverse) (by simp [gl]) go ou
   simp only [List.length_reverse,gl] at n ⊢
   have:=Nat.mul_le_mul_right (s ^ u.length) (show fst s step K u.length r+1+1≤c+1 by omega)
   rw [Nat.add_mul _ 1,Nat.one_mul] at this
   omega
end
theorem a4c:∀ (n:Nat) (l:List Nat),l.Nodup→(∀ x∈l,x<n)→l.length≤n
 | 0,l,_,h=>by
  cases l with
  | nil=>exact Nat.le_refl _
  | cons x l=>exact absurd (h x List.mem_cons_self) (by omega)
 | n+1,l,nd,h=>by
  have:=a4c n (l.erase n) (nd.erase n) fun x hx=>by
   have h1:=h x (List.mem_of_mem_erase hx)
   have h2:x≠n:=fun z=>by subst z;exact (List.Nodup.not_mem_erase nd) hx
   omega
  have:=List.length_erase (a:=n) (l:=l)
  split at this<;>omega
end BF
namespace SRC
open PySem PySem.Spec L2 MI AT HND EVX
theorem axf {ck:Hd→Prop} {f:D→Hd→R D} {α:Type} (g F:α→D) {h:Hd} (c:ck h):∀ {xs:List α},(∀ x∈xs,f (g x) h = .ok (F x) h)→mapR ck f (xs.map g) h = .ok (xs.map F) h
 | [],_=>by rw [List.map_nil,mapR,if_pos c];rfl
 | x::xs,st=>by
  rw [List.map_cons,mapR,if_pos c,st x List.mem_cons_self]
  show (mapR _ f (xs.map g) h).bind _=_
  rw [axf g F c fun y hy=>st y (List.mem_cons_of_mem _ hy)];rfl
theorem apa {fi:SI} {t:D→Option Sd} {fe:SE} {ix:List Nat} {τ:Sd} {h:Hd} {α:Type} {ck:Hd→Prop} (g F:α→D) (xs:List α) (c:ck h) (e:fi τ h = .ok ⟨xs.map g,ck⟩ h) (z:xs.length≤LINE)
  (st:∀ x∈xs,a76 t fe (frs' ix τ) (g x) h = .ok (F x) h):m7 fi t fe ix τ h = .ok (.ref h.length) (h++[.lst (xs.map F)]):=by
 unfold m7
 rw [e,bx]
 dsimp only
 rw [if_pos (by rw [List.length_map];exact z),axf g F c st]
 rfl
theorem apb {x:Nat} {l:List Nat}:inD (bh x) (l.map bh)=decide (x∈l):=by
 unfold inD
 rw [List.any_map]
 by_cases h:x∈l
 ·rw [decide_eq_true h,List.any_eq_true]
  exact ⟨x,h,by show ((x:Int) == (x:Int))=true;simp⟩
 ·rw [decide_eq_false h,List.any_eq_false]
  intro y hy
  have:x≠y:=fun e=>h (e ▸ hy)
  show ¬ ((y:Int) == (x:Int))=true
  rw [beq_iff_eq]
  omega
theorem acj {x i:Nat} {l:List Nat} {h:Hd} (e:h[i]? = some (.lst (l.map bh))):gIn true (bh x) (.ref i) h = .ok (.bl (!decide (x∈l))) h:=by
 have fl:a06 (bh x)=true∧(l.map bh).all a06=true:=⟨rfl,by
  rw [List.all_eq_true]
  intro y hy
  obtain ⟨n,_,rfl⟩:=List.mem_map.mp hy
  rfl⟩
 unfold gIn a00
 simp only [e,if_pos fl,if_true,apb]
abbrev cst (l:List Nat):List Int:=l.map fun x:Nat=>(x:Int)
theorem aas (l:List Nat):l.map bh=(cst l).map D.int:=by unfold cst;rw [List.map_map];rfl
theorem ael {i:Nat} {l:List Nat} {h:Hd} (e:h[i]? = some (.lst (l.map bh))):a6e (.ref i) h=some (cst l):=by
 unfold a6e
 simp only [e]
 rw [aas,ints_map]
theorem a6p (l:List Nat):∃ m:List Nat,PySem.W.sortI (cst l)=cst m∧m.Perm l∧m.Pairwise (·≤·):=by
 have p:=PySem.W.sortI_perm (cst l)
 have s:=PySem.W.sortI_rises (cst l)
 refine ⟨(PySem.W.sortI (cst l)).map Int.toNat,?_,?_,?_⟩
 ·unfold cst
  rw [List.map_map]
  have:∀ x∈PySem.W.sortI (l.map fun x:Nat=>(x:Int)),((fun x:Nat=>(x:Int)) ∘ Int.toNat) x=x:=fun x hx=>by
   have:=p.mem_iff.mp hx
   obtain ⟨y,_,rfl⟩:=List.mem_map.mp this
   simp
  rw [List.map_congr_left this]
  simp
 ·have:=p.map Int.toNat
  have e:(cst l).map Int.toNat=l:=by
   unfold cst
   rw [List.map_map]
   exact (List.map_congr_left fun x _=>by simp).trans (List.map_id l)
  rwa [e] at this
 ·rw [List.pairwise_map]
  exact s.imp fun h=>by omega
def pos (m:List Nat) (x:Nat):Nat:=(ixI (x:Int) (cst m)).getD 0
theorem aht {m:List Nat} {x:Nat} (h:x∈m):ixI (x:Int) (cst m)=some (pos m x)∧pos m x<m.length:=by
 obtain ⟨j,hj⟩:=abw (n:=(x:Int)) (l:=cst m) (List.mem_map.mpr ⟨x,h,rfl⟩)
 unfold pos
 rw [hj]
 refine ⟨rfl,?_⟩
 have:=(List.getElem?_eq_some_iff.mp (abv hj).1).1
 simpa using this
structure Met (n:Nat) (met:List Nat):Prop where
 nd:met.Nodup
 lt:∀ x∈met,x<n
 z:0∈met
theorem Met.len {n:Nat} {met:List Nat} (M:Met n met):met.length≤n:=BF.a4c n met M.nd M.lt
theorem Met.add {n x:Nat} {met:List Nat} (M:Met n met) (hx:x<n) (h:x ∉ met):Met n (met++[x]):=by
 refine ⟨?_,fun y hy=>?_,List.mem_append_left _ M.z⟩
 ·rw [List.nodup_append]
  refine ⟨M.nd,by simp,fun a ha b hb=>?_⟩
  rw [List.mem_singleton] at hb
  subst hb
  exact fun e=>h (e ▸ ha)
 ·rcases List.mem_append.mp hy with z | z
  ·exact M.lt y z
  ·rw [List.mem_singleton] at z;subst z;exact hx
section
variable {A B C:SF} {most n:Nat} {tg:List Nat} {many:Int} {rows:List (List Nat)} {ks:List Int}
def Done (rows:List (List Nat)) (met:List Nat) (i:Nat):Prop:=∀ j,j<i→∀ r,met[j]? = some r→∀ x∈(rows[r]?).getD [],x∈met
end
end SRC
namespace SRC
open PySem PySem.Spec L2 MI AT HND EVX
theorem ahu {i x:Nat} {m:List Nat} {h:Hd} (e:h[i]? = some (.lst (m.map bh))) (hx:x∈m):a4u (.ref i) [bh x] h = .ok (bh (pos m x)) h:=by
 have q:=ael e
 unfold a4u
 simp only [q,(aht hx).1]
section
variable {A B C:SF} {most n:Nat} {tg:List Nat} {many:Int} {rows:List (List Nat)} {ks:List Int}
abbrev a5y (rows:List (List Nat)) (m:List Nat):List (List Nat):=m.map fun r=>((rows[r]?).getD []).map (pos m)
abbrev a6q (ks:List Int) (m:List Nat):List Int:=m.map fun r=>(ks[r]?).getD 0
end
end SRC
namespace K21
open PySem PySem.Spec L2 MI
end K21
namespace K23
open PySem PySem.Spec L2 MI
end K23
namespace K22
open PySem PySem.Spec L2 MI
noncomputable def u9 (dj:SF):SE :=
 (sA (uf false 2 dj) (aj (sV 1) (aj (sV 0) d7)))
noncomputable def qz (dj:SF):SS :=
 (yf (sA m9 (aj (sZ (m7 (sRg zx (aj (sA yu (aj (s2 gIx (sV 0) (sC (.int 1))) d7)) d7)) t1 (u9 dj) [0])) d7)))
noncomputable def ig:SS :=
 (iz (sIf (sT (s2 hNe (s2 gIx (sV 4) (sV 11)) (s1 aa8 (sC (.int 1)))))
 (yf (s2 j9 (sV 9) (sV 10)))
 sNx)
 (sIf (sT (s2 (apw true) (sV 11) (sV 6)))
 (iz (a4v (sC (.bl true)) (sV 6) (sV 11))
 (a0i (sML a78 (sV 5) (aj (sA yc (aj (sV 11) (aj (s2 j9 (sV 9) (sV 10)) d7))) d7))))
 sNx))
noncomputable def qj:ST :=
 (sT (s2 gLt (sV 7) (sA yu (aj (sV 5) d7))))
noncomputable def kh:SS :=
 (iz (a88 (s2 gIx (sV 5) (sV 7)) (a3x 2 (jx (kN 8) (jx (kN 9) a4p))))
 (iz (a4q (aer (sV 2) (s2 gIx (sV 3) (sV 8))) (a3x 2 (jx (kN 10) (jx (kN 11) a4p))) ig)
 (aep 7 ade (sC (.int 1)))))
noncomputable def ut:SS :=
 (iz (a88 (sV 0) (a3x 3 (jx (kN 2) (jx (kN 3) (jx (kN 4) a4p)))))
 (iz (kj 5 (sA a0v (aj (sA yc (aj (sV 1) (aj (sC (.str "")) d7))) d7)))
 (iz (kj 6 (s2 gD1 (sV 1) (sC (.bl true))))
 (iz (kj 7 (sC (.int 0)))
 (iz (sWh qj kh 100000)
 (yf (sC .non)))))))
noncomputable def a0y (d9:SF):SE :=
 (s2 a6c (sV 0) (sC .non))
noncomputable def a3h (d9:SF):SS :=
 (yf (sA m9 (aj (sZ (m7 (sIt (sA (uf false 1 d9) (aj (sV 0) d7))) t1 (a0y d9) [])) d7)))
end K22
namespace K22
open PySem PySem.Spec L2 MI AT HND
section
variable (T:Table)
def stp (r c:Nat):Nat:=(((T.go[r]?).getD [])[c]?).getD 0
def knd (r:Nat):Bool:=decide ((T.ks[r]?).getD (-1) ≠ -1)
def tgA (c:Nat):Nat:=(T.tg[c]?).getD 0
def sgn (w:List Nat):List Nat:=(w.reverse).map (tgA T)
def hit (r0:Nat) (w:List Nat):Prop:=w≠[]∧knd T (BF.walk (stp T) r0 w)=true
end
theorem akg (T:Table) (c:Nat) (w:List Nat):sgn T (c::w)=sgn T w++[tgA T c]:=by simp [sgn]
theorem apc (T:Table) (w:List Nat):(sgn T w).length=w.length:=by simp [sgn]
section
variable {T:Table} (h:T.Ok)
theorem am7 (h:T.Ok) (r c:Nat):stp T r c<T.go.length:=by
 have h1:=h.n1
 unfold stp
 cases e:T.go[r]? with
 | none=>simp;omega
 | some row =>
  simp only [Option.getD_some]
  cases e2:row[c]? with
  | none=>simp;omega
  | some x=>simp only [Option.getD_some];exact (h.row row (List.mem_of_getElem? e)).2 x (List.mem_of_getElem? e2)
theorem aat (h:T.Ok) {r:Nat} (hr:r<T.go.length):∀ w:List Nat,BF.walk (stp T) r w<T.go.length
 | []=>hr
 | c::w=>am7 h _ c
theorem am8 (h:T.Ok) {r:Nat} (hr:r<T.go.length):∃ row:List Nat,T.go[r]? = some row∧row.length=T.tg.length∧(∀ x∈row,x<T.go.length)∧∀ c,c<T.tg.length→row[c]? = some (stp T r c):=by
 refine ⟨T.go[r],List.getElem?_eq_getElem hr,(h.row _ (List.getElem_mem hr)).1,(h.row _ (List.getElem_mem hr)).2,fun c hc=>?_⟩
 have l:=(h.row _ (List.getElem_mem hr)).1
 unfold stp
 rw [List.getElem?_eq_getElem hr,Option.getD_some,List.getElem?_eq_getElem (by omega),Option.getD_some]
theorem akh (h:T.Ok) {r:Nat} (hr:r<T.go.length):∃ k:Int,T.ks[r]? = some k ∧ -1≤k∧knd T r=decide (k ≠ -1):=by
 have l:r<T.ks.length:=by rw [h.kl];exact hr
 refine ⟨T.ks[r],List.getElem?_eq_getElem l,(h.kk _ (List.getElem_mem l)).1,?_⟩
 unfold knd
 rw [List.getElem?_eq_getElem l,Option.getD_some]
theorem awd {c:Nat} (hc:c<T.tg.length):T.tg[c]? = some (tgA T c):=by
 unfold tgA
 rw [List.getElem?_eq_getElem hc,Option.getD_some]
theorem a0f (r0 c:Nat) (p q:List Nat) (e:BF.walk (stp T) r0 p=BF.walk (stp T) r0 q):hit T r0 (c::p)↔hit T r0 (c::q):=by
 unfold hit
 simp only [BF.walk,e,ne_eq,List.cons_ne_nil,not_false_eq_true,true_and]
theorem ahv (r0:Nat):¬ hit T r0 []:=fun z=>z.1 rfl
end
def fnd (T:Table) (r0:Nat) (ws:List (List Nat)):List D:=ws.map fun w=>.tup [bh (BF.walk (stp T) r0 w), .str (S (sgn T w))]
def snn (T:Table) (r0:Nat) (ws:List (List Nat)):List (Key × D):=ws.map fun w=>(.inl ((BF.walk (stp T) r0 w:Nat):Int), .bl true)
theorem apd {T:Table} {r0 to:Nat} {ws:List (List Nat)} (h:∃ v∈ws,BF.walk (stp T) r0 v=to):∃ d,a8y (snn T r0 ws) (.inl (to:Int))=some d:=by
 obtain ⟨v,hv,e⟩:=h
 unfold a8y
 cases e2:(snn T r0 ws).find? fun kv=>decide (kv.1=(.inl (to:Int):Key)) with
 | some kv=>exact ⟨kv.2,rfl⟩
 | none =>
  rw [List.find?_eq_none] at e2
  exact absurd (by rw [decide_eq_true_iff,e]) (e2 _ (List.mem_map.mpr ⟨v,hv,rfl⟩))
theorem atn {T:Table} {r0 to:Nat} {ws:List (List Nat)} (h:∀ v∈ws,BF.walk (stp T) r0 v≠to):a8y (snn T r0 ws) (.inl (to:Int))=none∧putD (snn T r0 ws) (.inl (to:Int)) (.bl true)=snn T r0 ws++[(.inl (to:Int), .bl true)]:=by
 have no:∀ kv∈snn T r0 ws,¬ decide (kv.1=(.inl (to:Int):Key))=true:=fun kv hkv=>by
  obtain ⟨v,hv,rfl⟩:=List.mem_map.mp hkv
  rw [decide_eq_true_iff]
  intro z
  have:=Sum.inl.inj z
  exact h v hv (by omega)
 constructor
 ·unfold a8y
  rw [List.find?_eq_none.mpr no]
  rfl
 ·unfold putD
  rw [if_neg]
  intro z
  obtain ⟨kv,hkv,e⟩:=List.any_eq_true.mp z
  exact no kv hkv e
abbrev tau (T:Table) (r0 l:Nat) (t8 t9 t10 t11:Option D):Sd:=[some T.d,some (bh r0),some (.str (S T.tg)),some (.tup (T.go.map xu)),some (.tup (T.ks.map D.int)),some (.ref 0),some (.ref 1),some (bh l),t8,t9,t10,t11]
abbrev hp (T:Table) (r0:Nat) (ws:List (List Nat)):Hd:=[.lst (fnd T r0 ws), .dK (snn T r0 ws)]
theorem few (T:Table) (h:T.Ok) {r0 F:Nat} {ws:List (List Nat)} (hr:r0<T.go.length) (St:BF.St T.tg.length (stp T) r0 (hit T r0) ws F):ws.length≤T.go.length:=by
 have:=BF.a4c T.go.length (ws.map fun w=>BF.walk (stp T) r0 w) (List.pairwise_map.mpr St.dis) fun x hx=>by
  obtain ⟨w,_,rfl⟩:=List.mem_map.mp hx
  exact aat h hr w
 simpa using this
def Won (T:Table) (r0:Nat) (d:D):Prop:=∃ w,BF.Ok T.tg.length w∧hit T r0 w∧(∀ v,BF.Ok T.tg.length v→hit T r0 v→BF.num T.tg.length w≤BF.num T.tg.length v)∧w.length≤T.go.length∧d = .str (S (sgn T w))
theorem ahw {T:Table} (h:T.Ok) {r0 l c:Nat} {ws:List (List Nat)} {w:List Nat} (hr:r0<T.go.length) (hl:ws[l]? = some w) (hc:c<T.tg.length) (St:BF.St T.tg.length (stp T) r0 (hit T r0) ws (BF.num T.tg.length w*T.tg.length+c+1)) (τ:Sd)
  (hτ:τ=tau T r0 l (some (bh (BF.walk (stp T) r0 w))) (some (.str (S (sgn T w)))) (some (.str (S [tgA T c]))) (some (bh (stp T (BF.walk (stp T) r0 w) c)))) :
  (∃ ws',ig τ (hp T r0 ws) = .nx τ (hp T r0 ws')∧(∀ v∈ws,v∈ws')∧ws'[l]? = some w∧BF.St T.tg.length (stp T) r0 (hit T r0) ws' (BF.num T.tg.length w*T.tg.length+(c+1)+1)) ∨
  ∃ d h',ig τ (hp T r0 ws) = .rt d h'∧Won T r0 d:=by
 have n32:=h.n32
 have fw:=few T h hr St
 have ll:=(List.getElem?_eq_some_iff.mp hl).1
 have wl:=St.len l w hl
 have rl:=aat h hr w
 have wo:BF.Ok T.tg.length (c::w):=BF.Ok.cons hc (St.ok w (List.mem_of_getElem? hl))
 have sl:=am7 h (BF.walk (stp T) r0 w) c
 obtain ⟨k,hk,k1,kd⟩:=akh h sl
 have add:∀ hh,j9 (.str (S (sgn T w))) (.str (S [tgA T c])) hh = .ok (.str (S (sgn T (c::w)))) hh:=fun hh=>by
  rw [akg]
  exact aka (j5 (by rw [apc];simp;omega))
 have ki:∀ hh,gIx (.tup (T.ks.map D.int)) (bh (stp T (BF.walk (stp T) r0 w) c)) hh = .ok (.int k) hh:=fun hh=>acg (by rw [List.getElem?_map,hk];rfl)
 by_cases hz:k = -1
 ·have nh:¬ hit T r0 (c::w):=fun z=>by
   have:=z.2
   rw [BF.walk,kd,hz] at this
   simp at this
  have s1:∀ g:SS,iz (sIf (sT (s2 hNe (s2 gIx (sV 4) (sV 11)) (s1 aa8 (sC (.int 1))))) (yf (s2 j9 (sV 9) (sV 10))) sNx) g τ (hp T r0 ws)=g τ (hp T r0 ws):=fun g=>by
   subst hτ
   exact ifN (tof (jm (jm (bw rfl) (bw rfl) (ki _)) (am2 (jf _ _ _) (aaq _)) (ap9 hz)))
  refine .inl ?_
  by_cases sn:∃ v∈ws,BF.walk (stp T) r0 v=stp T (BF.walk (stp T) r0 w) c
  ·obtain ⟨d,hd⟩:=apd sn
   refine ⟨ws,?_,fun v hv=>hv,hl,St.seen wo rfl nh sn⟩
   unfold ig
   rw [s1]
   have q:apw true (bh (stp T (BF.walk (stp T) r0 w) c)) (.ref 1) (hp T r0 ws) = .ok (.bl false) (hp T r0 ws):=by
    show (match (some (a8y (snn T r0 ws) (.inl ((stp T (BF.walk (stp T) r0 w) c:Nat):Int))):Option (Option D)) with | some r=>R.ok (D.bl (if true then !r.isSome else r.isSome)) (hp T r0 ws) | none=>.no)=_
    rw [hd];rfl
   subst hτ
   exact ifF (tof (jm (bw rfl) (bw rfl) q))
  ·have sn':∀ v∈ws,BF.walk (stp T) r0 v≠stp T (BF.walk (stp T) r0 w) c:=fun v hv z=>sn ⟨v,hv,z⟩
   obtain ⟨d1,d2⟩:=atn sn'
   refine ⟨ws++[c::w],?_,fun v hv=>List.mem_append_left _ hv,by rw [List.getElem?_append_left ll];exact hl,St.add wo rfl nh sn' (by rw [List.length_cons];omega)⟩
   unfold ig
   rw [s1]
   have q:apw true (bh (stp T (BF.walk (stp T) r0 w) c)) (.ref 1) (hp T r0 ws) = .ok (.bl true) (hp T r0 ws):=by
    show (match (some (a8y (snn T r0 ws) (.inl ((stp T (BF.walk (stp T) r0 w) c:Nat):Int))):Option (Option D)) with | some r=>R.ok (D.bl (if true then !r.isSome else r.isSome)) (hp T r0 ws) | none=>.no)=_
    rw [d1];rfl
   have p:apx (.ref 1) (bh (stp T (BF.walk (stp T) r0 w) c)) (.bl true) (hp T r0 ws)=some [.lst (fnd T r0 ws), .dK (snn T r0 (ws++[c::w]))]:=by
    have lt:(snn T r0 ws).length<LINE:=a5m (by unfold snn;rw [List.length_map];omega)
    show (if (snn T r0 ws).length<LINE then some [O.lst (fnd T r0 ws),O.dK (putD (snn T r0 ws) (.inl ((stp T (BF.walk (stp T) r0 w) c:Nat):Int)) (.bl true))] else none)=_
    rw [if_pos lt,d2]
    unfold snn
    rw [List.map_append]
    rfl
   subst hτ
   refine Eq.trans (ifT (tof (jm (bw rfl) (bw rfl) q))) ?_
   refine Eq.trans (a1x (atg (jf _ _ _) (bw rfl) (bw rfl) p)) ?_
   refine Eq.trans (a6m (bw rfl) rfl (arg1 (zm (bw rfl) (jm (bw rfl) (bw rfl) (add _)) am4)) (a6n (xs:=fnd T r0 ws) rfl (a5m (by unfold fnd;rw [List.length_map];omega)))) ?_
   unfold hp fnd
   rw [List.map_append]
   rfl
 ·refine .inr ⟨_,hp T r0 ws,?_,c::w,wo,⟨by simp,by rw [BF.walk,kd];simpa using hz⟩,fun v ov hv=>?_,by rw [List.length_cons];omega,rfl⟩
  ·subst hτ
   unfold ig
   exact ahq (Eq.trans (ifT (tof (jm (jm (bw rfl) (bw rfl) (ki _)) (am2 (jf _ _ _) (aaq _)) (atj hz)))) (yq (jm (bw rfl) (bw rfl) (add _))))
  ·exact St.least ov hv
theorem ape {T:Table} {r:Nat} {row:List Nat} (l:row.length=T.tg.length) (at':∀ c,c<T.tg.length→row[c]? = some (stp T r c)) :
  ((zu (S T.tg)).zip (row.map bh)).map (fun p=>D.tup [p.1,p.2])=(List.range T.tg.length).map fun c=>.tup [.str (S [tgA T c]),bh (stp T r c)]:=by
 refine List.ext_getElem? fun i=>?_
 unfold zu
 rw [ahl]
 by_cases hi:i<T.tg.length
 ·have hx:=at' i hi
  have ht:=awd (T:=T) hi
  rw [List.getElem?_map,List.getElem?_map,List.getElem?_range hi,List.getElem?_zip_eq_some (z:=(D.str (S [tgA T i]),bh (stp T r i))).mpr ⟨by rw [List.getElem?_map,ht];rfl,by rw [List.getElem?_map,hx];rfl⟩]
  rfl
 ·rw [List.getElem?_eq_none (by simp;omega),List.getElem?_eq_none (by simp;omega)]
noncomputable def dj:SF:=qu ut 12
theorem a2q {T:Table} (h:T.Ok) {r0:Nat} (hr:r0<T.go.length):∃ d h',dj [T.d,bh r0] [] = .ok d h'∧(Won T r0 d∨(d = .non∧∀ v,BF.Ok T.tg.length v→¬ hit T r0 v)):=by
 have n32:=h.n32
 have s1:=h.tong.lo
 have s6:=h.tong.hi
 have wh:=asn (c:=qj) (f:=kh)
  (fun m τ hh=>∃ (ws:List (List Nat)) (l:Nat) (t8 t9 t10 t11:Option D),τ=tau T r0 l t8 t9 t10 t11∧hh=hp T r0 ws∧[]∈ws∧m=T.go.length - l∧ws.length≤T.go.length∧((∃ w,ws[l]? = some w∧BF.St T.tg.length (stp T) r0 (hit T r0) ws (BF.num T.tg.length w*T.tg.length+1))∨(l=ws.length∧∀ v,BF.Ok T.tg.length v→¬ hit T r0 v)))
  (fun _ _=>∀ v,BF.Ok T.tg.length v→¬ hit T r0 v) (fun d _=>Won T r0 d) ?_ T.go.length 100000 (tau T r0 0 none none none none) (hp T r0 [[]]) (by omega)
  ⟨[[]],0,none,none,none,none,rfl,rfl,by simp,by simp,by simpa using h.n1, .inl ⟨[],rfl,by simpa [BF.num] using BF.St.start (ahv r0)⟩⟩
 ·have e0:dj [T.d,bh r0] []=toR (iz (sWh qj kh 100000) (yf (sC .non)) (tau T r0 0 none none none none) (hp T r0 [[]])):=by
   unfold dj
   rw [j7]
   show toR (ut [some T.d,some (bh r0),none,none,none,none,none,none,none,none,none,none] [])=_
   unfold ut
   refine congrArg toR ?_
   refine Eq.trans (a1x (akb (bw rfl) rfl)) ?_
   refine Eq.trans (jr (yt (zm (bw rfl) (jf _ _ _) am4) rfl)) ?_
   refine Eq.trans (jr (jm (bw rfl) (jf _ _ _) rfl)) ?_
   exact Eq.trans (jr (jf _ _ _)) rfl
  rcases wh with ⟨τ',h',e,no⟩ | ⟨d,h',e,won⟩
  ·exact ⟨.non,h',by rw [e0,a1x e];rfl, .inr ⟨rfl,no⟩⟩
  ·exact ⟨d,h',by rw [e0,ahq e];rfl, .inl won⟩
 ·rintro m τ hh ⟨ws,l,t8,t9,t10,t11,rfl,rfl,em,rfl,wn,q⟩
  have ln:yu [.ref 0] (hp T r0 ws) = .ok (.int (ws.length:Nat)) (hp T r0 ws):=by
   have:=aap (h:=hp T r0 ws) (i:=0) (xs:=fnd T r0 ws) rfl
   rwa [show (fnd T r0 ws).length=ws.length from by simp [fnd]] at this
  rcases q with ⟨w,hw,St⟩ | ⟨rfl,no⟩
  ·have ll:=(List.getElem?_eq_some_iff.mp hw).1
   refine .inr ⟨_,tof (jm (bw rfl) (yt (bw rfl) ln) (axa (by omega))),?_⟩
   obtain ⟨row,er,lr,lx,at'⟩:=am8 h (aat h hr w)
   have lo:=a4b (g:=a3x 2 (jx (kN 10) (jx (kN 11) a4p))) (b:=ig) (fun c:Nat=>D.tup [.str (S [tgA T c]),bh (stp T (BF.walk (stp T) r0 w) c)])
    (fun pre τ hh=>∃ (ws:List (List Nat)) (t10 t11:Option D),τ=tau T r0 l (some (bh (BF.walk (stp T) r0 w))) (some (.str (S (sgn T w)))) t10 t11∧hh=hp T r0 ws∧[]∈ws∧ws[l]? = some w∧BF.St T.tg.length (stp T) r0 (hit T r0) ws (BF.num T.tg.length w*T.tg.length+pre.length+1))
    (fun d _=>Won T r0 d) (List.range T.tg.length) [] (tau T r0 l (some (bh (BF.walk (stp T) r0 w))) (some (.str (S (sgn T w)))) t10 t11) (hp T r0 ws) ?_ ⟨ws,t10,t11,rfl,rfl,em,hw,St⟩
   ·have fx:gIx (.ref 0) (bh l) (hp T r0 ws) = .ok (.tup [bh (BF.walk (stp T) r0 w), .str (S (sgn T w))]) (hp T r0 ws):=a9e (xs:=fnd T r0 ws) rfl (by unfold fnd;rw [List.getElem?_map,hw];rfl)
    have zi:aer (sV 2) (s2 gIx (sV 3) (sV 8)) (tau T r0 l (some (bh (BF.walk (stp T) r0 w))) (some (.str (S (sgn T w)))) t10 t11) (hp T r0 ws) = .ok ⟨(List.range T.tg.length).map fun c=>.tup [.str (S [tgA T c]),bh (stp T (BF.walk (stp T) r0 w) c)],fun _=>True⟩ (hp T r0 ws):=by
     unfold aer
     rw [bw rfl,bx,jm (bw rfl) (bw rfl) (acg (by rw [List.getElem?_map,er];rfl)),bx,← ape lr at']
     unfold aps
     simp only [srcOf,and_self]
    have e1:∀ g:SS,iz (a88 (s2 gIx (sV 5) (sV 7)) (a3x 2 (jx (kN 8) (jx (kN 9) a4p)))) (iz (a4q (aer (sV 2) (s2 gIx (sV 3) (sV 8))) (a3x 2 (jx (kN 10) (jx (kN 11) a4p))) ig) g) (tau T r0 l t8 t9 t10 t11) (hp T r0 ws)=thn (forL (fun _=>True) (a3x 2 (jx (kN 10) (jx (kN 11) a4p))) ig ((List.range T.tg.length).map fun c=>.tup [.str (S [tgA T c]),bh (stp T (BF.walk (stp T) r0 w) c)]) (tau T r0 l (some (bh (BF.walk (stp T) r0 w))) (some (.str (S (sgn T w)))) t10 t11) (hp T r0 ws)) g:=fun g=>by
     refine Eq.trans (a1x (akb (jm (bw rfl) (bw rfl) fx) rfl)) ?_
     exact a5l zi
    rcases lo with ⟨τ',h',e2,ws',t10',t11',rfl,rfl,em',hw',St'⟩ | ⟨d,h',e2,won⟩
    ·rw [List.nil_append,List.length_range] at St'
     have wn':=few T h hr St'
     have ll':=(List.getElem?_eq_some_iff.mp hw').1
     refine .inl ⟨tau T r0 (l+1) (some (bh (BF.walk (stp T) r0 w))) (some (.str (S (sgn T w)))) t10' t11',hp T r0 ws',T.go.length - (l+1),?_,by omega,ws',l+1,_,_,_,_,rfl,rfl,em',rfl,wn',?_⟩
     ·unfold kh
      rw [e1,e2,wy]
      exact awb rfl (jf _ _ _) a1u
     ·by_cases more:l+1<ws'.length
      ·exact .inl ⟨ws'[l+1],List.getElem?_eq_getElem more,St'.next (by omega) hw' (List.getElem?_eq_getElem more) (a0f r0)⟩
      ·exact .inr ⟨by omega,fun v ov=>(St'.all hw' (by omega) (ahv r0) em' (a0f r0) v ov).1⟩
    ·refine .inr ⟨d,h',?_,won⟩
     unfold kh
     rw [e1,e2,a4w]
   ·rintro pre c post τ hh all ⟨ws,t10,t11,rfl,rfl,em,hw,St⟩
    rw [List.nil_append] at all
    obtain ⟨hi,hc⟩:=a2o all
    rw [← hi] at St
    refine ⟨_,_,rfl,?_⟩
    rcases ahw h hr hw hc St _ rfl with ⟨ws',e3,sb,hw',St'⟩ | ⟨d,h',e3,won⟩
    ·refine .inl ⟨_,_,e3,ws',_,_,rfl,rfl,sb _ em,hw',by rw [List.length_append,List.length_singleton,← hi];exact St'⟩
    ·exact .inr ⟨d,h',e3,won⟩
  ·refine .inl ⟨_,tof (jm (bw rfl) (yt (bw rfl) ln) (axb (by omega))),no⟩
end K22
namespace K22
open PySem PySem.Spec L2 MI AT HND
section
variable {T:Table}
abbrev FL (T:Table) (k r:Nat):Bool:=BF.fl T.tg.length (stp T) (knd T) k r
theorem awe (h:T.Ok) {r:Nat} (hr:r<T.go.length):T.go[r]? = some ((List.range T.tg.length).map (stp T r)):=by
 obtain ⟨row,e,l,_,at'⟩:=am8 h hr
 rw [e]
 congr 1
 refine List.ext_getElem? fun i=>?_
 by_cases hi:i<T.tg.length
 ·rw [at' i hi,List.getElem?_map,List.getElem?_range hi];rfl
 ·rw [List.getElem?_eq_none (by omega),List.getElem?_eq_none (by simp;omega)]
def kI (T:Table) (r:Nat):Int:=(T.ks[r]?).getD (-1)
end
end K22
namespace K22
open PySem PySem.Spec L2 MI AT HND
section
variable {T:Table}
def aki (T:Table) (r:Nat):Option Nat:=(List.range T.go.length).find? fun i=>FL T (1+i) r
def gtx (T:Table) (k r:Nat):List Nat:=(BF.gre T.tg.length (stp T) (knd T) k r).map (tgA T)
def A (T:Table) (r:Nat):D:=match aki T r with | none=>.non | some i=>.str (S (gtx T (1+i) r))
theorem am9 (h:T.Ok) {r:Nat} {d:D} (w:Won T r d∨(d = .non∧∀ v,BF.Ok T.tg.length v→¬ hit T r v)):d=A T r:=by
 have s1:=h.tong.lo
 unfold A
 rcases w with ⟨w,wo,wh,wl,wn,rfl⟩ | ⟨rfl,no⟩
 ·have w1:w.length≠0:=fun z=>wh.1 (List.length_eq_zero_iff.mp z)
  have fw:FL T w.length r=true:=by
   have:=BF.akf (s:=T.tg.length) (step:=stp T) (K:=knd T) (u:=w.reverse) (r:=r) (by rw [List.reverse_reverse];exact wo) (by rw [List.reverse_reverse];exact wh.2)
   rwa [List.length_reverse] at this
  cases e:aki T r with
  | none =>
   unfold aki at e
   rw [List.find?_eq_none] at e
   have:=e (w.length - 1) (by rw [List.mem_range];omega)
   rw [show 1+(w.length - 1)=w.length by omega] at this
   exact absurd fw this
  | some i =>
   unfold aki at e
   obtain ⟨fi,hi,lo⟩:=List.find?_range_eq_some.mp e
   obtain ⟨gl,go,gh⟩:=BF.a9f fi
   have ghit:hit T r (BF.gre T.tg.length (stp T) (knd T) (1+i) r).reverse:=⟨fun z=>by
    have:=congrArg List.length z
    simp [gl] at this,gh⟩
   have le:1+i≤w.length:=by
    refine Nat.le_of_not_lt fun z=>?_
    have:=lo (w.length - 1) (by omega)
    rw [show 1+(w.length - 1)=w.length by omega,fw] at this
    simp at this
   have n1:=wl _ go ghit
   have eq:w.length=1+i:=by
    refine Nat.le_antisymm (Nat.le_of_not_lt fun z=>?_) le
    have:=BF.a6o (s:=T.tg.length) (by omega) (x:=(BF.gre T.tg.length (stp T) (knd T) (1+i) r).reverse) (y:=w) (by rw [List.length_reverse,gl];exact z) go
    omega
   have n2:=BF.a9g (s:=T.tg.length) (step:=stp T) (K:=knd T) (u:=w.reverse) (r:=r) (by rw [List.reverse_reverse];exact wo) (by rw [List.reverse_reverse];exact wh.2)
   rw [List.length_reverse,List.reverse_reverse,eq] at n2
   have:=BF.a7y wo go (by omega)
   dsimp only
   unfold gtx sgn
   conv=>lhs;rw [this,List.reverse_reverse]
 ·cases e:aki T r with
  | none=>rfl
  | some i =>
   unfold aki at e
   obtain ⟨fi,hi,lo⟩:=List.find?_range_eq_some.mp e
   obtain ⟨gl,go,gh⟩:=BF.a9f fi
   exact (no _ go ⟨fun z=>by
    have:=congrArg List.length z
    simp [gl] at this,gh⟩).elim
theorem apf (n r:Nat):clo n (A T r):=by
 unfold A
 cases aki T r with
 | none=>exact aaf
 | some i=>exact sr _
theorem ato {n:Nat} (d:D) (hd:clo 0 d):∀ x∈[T.d,d],clo 0 x:=by
 intro x hx
 simp only [List.mem_cons,List.not_mem_nil,or_false] at hx
 rcases hx with rfl | rfl
 ·exact Table.clo
 ·exact hd
theorem a9h (h:T.Ok) {r:Nat} (hr:r<T.go.length):Pu dj 2 [T.d,bh r] (A T r):=by
 obtain ⟨d,h',e,q⟩:=a2q h hr
 have:=am9 h q
 subst this
 exact Pu.of rfl (ato (n:=0) _ (ji _)) e (jy (apf _ _) (by simp)) (apf _ _)
end
end K22
namespace K23
open PySem PySem.Spec L2 MI AT HND K22
end K23
namespace K21
open PySem PySem.Spec L2 MI AT HND K22 K23 EVX
section
variable {T:Table}
theorem a5k {a b:D} (ha:MI.clo 0 a) (hb:MI.clo 0 b):∀ x∈[a,b],MI.clo 0 x:=by
 intro x hx
 simp only [List.mem_cons,List.not_mem_nil,or_false] at hx
 rcases hx with rfl | rfl
 ·exact ha
 ·exact hb
theorem atp {a b c:D} (ha:MI.clo 0 a) (hb:MI.clo 0 b) (hc:MI.clo 0 c):∀ x∈[a,b,c],MI.clo 0 x:=by
 intro x hx
 simp only [List.mem_cons,List.not_mem_nil,or_false] at hx
 rcases hx with rfl | rfl | rfl
 ·exact ha
 ·exact hb
 ·exact hc
theorem apg (h:Hd):gIx T.d (.int 2) h = .ok (.tup (T.ks.map D.int)) h:=acg (j:=2) rfl
theorem a6r (h:T.Ok) {r:Nat} (hr:r<T.go.length) (hh:Hd):gIx (.tup (T.ks.map D.int)) (bh r) hh = .ok (.int (kI T r)) hh:=by
 obtain ⟨k,e,_⟩:=akh h hr
 exact acg (by rw [List.getElem?_map,e];simp [kI,e])
end
end K21
namespace K21
open PySem PySem.Spec L2 MI AT HND K22 K23 EVX
section
variable {T:Table}
theorem aph {f:SE} {τ:Sd} {h h1:Hd} {i:Int} (e:f τ h = .ok (.int i) h1):oS f τ h = .ok (some i) h1:=by unfold oS;rw [e];rfl
theorem atq {f:SE} {lo hi:SO} {τ:Sd} {h h1 h2 h3 h4:Hd} {d v:D} {a b:Option Int} (e:f τ h = .ok d h1) (e1:lo τ h1 = .ok a h2) (e2:hi τ h2 = .ok b h3) (e3:aig d a b h3 = .ok v h4):a5t f lo hi τ h = .ok v h4:=by
 unfold a5t
 rw [e,bx,e1,bx,e2,bx,e3]
end
end K21
namespace SRC
open PySem PySem.Spec L2 MI AT HND EVX K22 K23 K21
end SRC
namespace PN
open PySem PySem.Spec L2 MI AT HND EVX K22 K23 K21
local macro_rules | `(tactic| walk_at "ev") => `(tactic| simp only [qp,wy,a4w,a4x,a6f,kj,aep,adi,sIf,yf,a0i,aa6,put,a4v,a88,a3x,jx,a4p,kN,sV,sC,s2,s1,sA,aj,d7,sNx,sT,asB,a5s,vh,a3i,a1v,a3j,a3k,aa3,sOr,aa4,a4o,apr,a5v,sCh,aeo,bx,a0p,MI.a1y,MI.a5h,MI.a5i,aof,a00,gLt,gGt,gGe,gLe,a9c,a9d,aei,aej,a6l,yo,aek,a1a,apy,apz,aq0,aq1,vg,MI.ab2,a5x,adb,a5j,AT.ady,AT.p18,a0r,a1s,a1t,aj8,a1u,aa8,a4r,adc,MI.yc,MI.a0v,sML,isL,a78,oN,oS,a5t,pq,sIt,aeq,sRg,a4q,zx,a5w,aoq,a8z,adn,aer,aps,srcOf,  List.length_map,List.length_cons,List.length_nil,List.length_append,List.getElem?_cons_zero,List.getElem?_cons_succ,List.set_cons_zero,List.set_cons_succ,List.nil_append,List.cons_append,AT.ado,AT.adp,AT.adq,AT.adt,AT.adu,AT.adv,AT.adw,AT.adx,AT.x10,AT.x20,AT.x21,AT.x30,AT.x31,AT.x32,AT.x40,AT.x41,AT.x42,AT.x43,AT.x50,AT.x51,AT.x52,AT.x53,AT.x54,AT.x60,AT.x61,AT.x62,AT.x63,AT.x64,AT.x65,AT.x70,AT.x71,AT.x72,AT.x73,AT.x74,AT.x75,AT.x76,decide_true,decide_false,reduceIte,Bool.true_and,Bool.and_self,Bool.not_true,Bool.not_false,and_self,true_and,and_true,beq_self_eq_true,Nat.reduceAdd,Nat.reduceLeDiff,Nat.reduceLT,Nat.reducePow,Int.reduceLT,Int.reduceLE,Int.reduceNeg,Int.reduceEq,Int.reduceBEq,Bool.false_eq_true,Bool.true_eq_false,ite_true,ite_false,if_true,if_false, *])
noncomputable def ik:SF:=qu (a3g ak) 6
theorem api {o:O} {N most:Nat} {all:List Nat} (P:Pen o N) (hN:N≤999999000) (m1:1≤most) (m2:most≤all.length) (al:all.length≤95) (nd0:all.Nodup) :
  ∃ l o',1≤l.length∧l.length≤most∧l.Nodup∧(∀ c∈l,c∈all)∧Dr ik 3 [.str (S all),bh most] o (.str (S l)) o'∧Pen o' (N+1+most):=by
 obtain ⟨r0,o1,e1,r0a,r0b,P1⟩:=aar (m:=(most:Int)) P (by omega) (by omega) (by omega)
 have lo:=u6 (g:=kN 4) (b:=xj ak) (fun i:Nat=>D.int (0+(i:Nat)))
  (fun pre τ h=>∃ (rest told:List Nat) (u:O) (t4 t5:Option D),τ=[some (.ref 0),some (.str (S rest)),some (bh most),some (.str (S told)),t4,t5]∧h=[u]∧Pen u (N+1+pre.length)∧told.length=pre.length∧(told++rest).length=all.length∧(told++rest).Nodup∧∀ c∈told++rest,c∈all)
  (List.range (1+r0).toNat) [some (.ref 0),some (.str (S all)),some (bh most),some (.str (S [])),none,none] [o1] ?_
  ⟨all,[],o1,none,none,rfl,rfl,P1,rfl,by simp,by simpa using nd0,by simp⟩
 ·obtain ⟨τ',h',e2,rest,told,u,t4,t5,rfl,rfl,P2,l1,l2,nd,sb⟩:=lo
  rw [List.length_range] at P2 l1
  refine ⟨told,u,by omega,by omega,(List.nodup_append.mp nd).1,fun c hc=>sb c (List.mem_append_left _ hc),Dr.of rfl (a5k (sr _) (ji _)) P.clo (r:=.ok (.str (S told)) [u]) ?_ (jy (sr _) (by simpa using u5 (by omega) P2.clo)) (sr _) P2.clo,P2.up (by omega)⟩
  unfold ik
  rw [j7]
  unfold a3g a2d
  simp only [List.map_cons,List.map_nil,List.length_cons,List.length_nil,Nat.reduceSub,Nat.reduceAdd,List.replicate,List.cons_append,List.nil_append]
  have c2:uf false 2 ak [.ref 0, .int (most:Nat)] [o]=_:=e1 0 [o] rfl
  have em:("" : Str)=S []:=rfl
  have bd:B62 (1+r0):=by unfold B62;omega
  have e2:forL (fun _=>True) (kN 4) (xj ak) (rng 0 (1+r0).toNat) [some (D.ref 0),some (D.str (S all)),some (bh most),some (D.str (S [])),none,none] [o1]=_:=e2
  walk_at "ev"
 ·rintro pre i post τ h al' ⟨rest,told,u,t4,t5,rfl,rfl,P2,l1,l2,nd,sb⟩
  have hlen:pre.length<(1+r0).toNat:=by
   have:=congrArg List.length al'
   simp at this;omega
  rw [List.length_append] at l2
  obtain ⟨r,u',e2,ra,rb,P3⟩:=aar (m:=(rest.length:Nat)) P2 (by omega) (by omega) (by omega)
  obtain ⟨j,rfl⟩:=Int.eq_ofNat_of_zero_le ra
  have hj:j<rest.length:=by omega
  have gx:rest[j]? = some rest[j]:=List.getElem?_eq_getElem hj
  have pp:=aho told rest j rest[j] gx
  refine ⟨_,_,rfl,_,_,?_,rest.take j++rest.drop (j+1),told++[rest[j]],u',some (.int (0+(i:Nat))),some (.int (j:Nat)),rfl,rfl,by simpa [Nat.add_assoc] using P3,by simp [l1],?_,pp.nodup_iff.mp nd,fun c hc=>sb c (pp.mem_iff.mpr hc)⟩
  ·unfold xj
   have L:∀ n:Nat,n≤95→n≤LINE:=fun n hn=>by show n≤16777216;omega
   have c2:=e2 0 [u] rfl
   have x1:∀ h,gIx (.str (S rest)) (.int (j:Nat)) h = .ok (.str (S [rest[j]])) h:=fun h=>aym (L _ (by omega)) gx
   have x2:∀ h,yu [.str (S rest)] h = .ok (.int rest.length) h:=fun h=>aw5 (L _ (by omega))
   have x3:∀ h,j9 (.str (S told)) (.str (S [rest[j]])) h = .ok (.str (S (told++[rest[j]]))) h:=fun h=>aka (L _ (by simp;omega))
   have x4:∀ h,aig (.str (S rest)) none (some (j:Int)) h = .ok (.str (S (rest.take j))) h:=fun h=>ayn j (L _ (by omega))
   have x5:∀ h,aig (.str (S rest)) (some ((j:Int)+1)) none h = .ok (.str (S (rest.drop (j+1)))) h:=fun h=>ata (j+1) (L _ (by omega))
   have x6:∀ h,j9 (.str (S (rest.take j))) (.str (S (rest.drop (j+1)))) h = .ok (.str (S (rest.take j++rest.drop (j+1)))) h:=fun h=>aka (L _ (by simp;omega))
   clear al' hlen
   walk_at "ev"
  ·rw [← pp.length_eq];simpa using l2
end PN
namespace PN
open PySem PySem.Spec L2 MI AT HND EVX K22 K23 K21
abbrev vm (r:List Nat):O:=.lst (r.map bh)
structure Laid (g:Hd) (rows:List (List Nat)) (ks:List Int):Prop where
 go:∃ is:List Nat,g[1]? = some (.lst (is.map D.ref))∧∀ r,r<rows.length→∃ i,is[r]? = some i∧g[i]? = some (vm ((rows[r]?).getD []))
 ks:g[2]? = some (.lst (ks.map D.int))
 clo:∀ o∈g,a1n g.length o
theorem a5n {g t:Hd} {i:Nat} {o:O} (e:g[i]? = some o):(g++t)[i]? = some o:=by
 rw [List.getElem?_append_left (List.getElem?_eq_some_iff.mp e).1];exact e
theorem Laid.row {g:Hd} {rows:List (List Nat)} {ks:List Int} (L:Laid g rows ks) {r:Nat} (hr:r<rows.length):∃ i,g[i]? = some (vm ((rows[r]?).getD []))∧∀ t:Hd,gIx (.ref 1) (bh r) (g++t) = .ok (.ref i) (g++t):=by
 obtain ⟨is,e,f⟩:=L.go
 obtain ⟨i,e1,e2⟩:=f r hr
 exact ⟨i,e2,fun t=>a9e (a5n e) (by rw [List.getElem?_map,e1];rfl)⟩
theorem yr (g:Hd) (o:O):(g++[o])[g.length]? = some o:=by simp
theorem akj (g:Hd) (o o':O):(g++[o]).set g.length o'=g++[o']:=by simp
theorem ama {i:Nat} {xs:List D} {h:Hd} (e:h[i]? = some (.lst xs)):isL (.ref i) h=true:=by unfold isL;simp only [e]
theorem akk {i:Nat} {xs:List D} {h:Hd} (e:h[i]? = some (.lst xs)):aeq (.ref i) h = .ok ⟨xs,fun h=>h[i]? = some (.lst xs)⟩ h:=by unfold aeq;simp only [e]
theorem a80 {i:Nat} {l:List Nat} {h:Hd} (e:h[i]? = some (.lst (l.map bh))):yu [.ref i] h = .ok (bh l.length) h:=by rw [aap e,List.length_map]
abbrev τD (tg:List Nat) (tu:Nat) (m:D) (i:Nat) (t6 t7:Option D):Sd:=[some (.str (S tg)),some (.ref 1),some (.ref 2),some (bh tu),some m,some (bh i),t6,t7]
section
variable {g:Hd} {n tu:Nat} {tg:List Nat} {rows:List (List Nat)} {ks:List Int}
theorem akl {i j:Nat} {t6:Option D} {met row:List Nat} (n32:n≤32) (hj:g[j]? = some (vm row)) (M:SRC.Met n met) (rx:∀ x∈row,x<n) (Q:Nat→Prop) (qm:∀ x∈met,Q x) (qr:∀ x∈row,Q x) :
  ∃ (met':List Nat) (t6':Option D),forL (fun h=>h[j]? = some (vm row)) (kN 6) o6 (row.map bh) (τD tg tu (.ref g.length) i t6 none) (g++[vm met]) = .nx (τD tg tu (.ref g.length) i t6' none) (g++[vm met'])∧SRC.Met n met'∧(∃ add,met'=met++add)∧(∀ x∈row,x∈met')∧∀ x∈met',Q x:=by
 have lp:=ach (g:=kN 6) (b:=o6) (ck:=fun h=>h[j]? = some (vm row)) bh
  (fun pre τ h=>∃ (met':List Nat) (t6:Option D),τ=τD tg tu (.ref g.length) i t6 none∧h=g++[vm met']∧SRC.Met n met'∧(∃ add,met'=met++add)∧(∀ x∈pre,x∈met')∧∀ x∈met',Q x)
  (by rintro pre τ h ⟨met',t6,rfl,rfl,_⟩;exact a5n hj)
  row [] (τD tg tu (.ref g.length) i t6 none) (g++[vm met]) ?_ ⟨met,t6,rfl,rfl,M,⟨[],by simp⟩,by simp,qm⟩
 ·obtain ⟨τ',h',e,met',t6',rfl,rfl,M',ad,al,aq⟩:=lp
  exact ⟨met',t6',e,M',ad,by simpa using al,aq⟩
 ·rintro pre x post τ h all ⟨met',t6,rfl,rfl,M',⟨add,rfl⟩,al,aq⟩
  rw [List.nil_append] at all
  have hx:x<n:=rx x (by rw [all];simp)
  have hq:Q x:=qr x (by rw [all];simp)
  unfold o6
  by_cases h:x∈met++add
  ·refine ⟨_,_,rfl,τD tg tu (.ref g.length) i (some (bh x)) none,g++[vm (met++add)],?_,met++add,_,rfl,rfl,M',⟨add,rfl⟩,fun y hy=>?_,aq⟩
   ·refine Eq.trans (ifF (tof (jm (bw rfl) (bw rfl) ((SRC.acj (l:=met++add) (yr _ _)).trans (by rw [decide_eq_true h];rfl))))) rfl
   ·rcases List.mem_append.mp hy with z | z
    ·exact al y z
    ·rw [List.mem_singleton] at z;subst z;exact h
  ·refine ⟨_,_,rfl,τD tg tu (.ref g.length) i (some (bh x)) none,g++[vm (met++add++[x])],?_,met++add++[x],_,rfl,rfl,M'.add hx h,⟨add++[x],by simp⟩,fun y hy=>?_,fun y hy=>(List.mem_append.mp hy).elim (aq y) fun z=>by rw [List.mem_singleton] at z;subst z;exact hq⟩
   ·have ln:=M'.len
    refine Eq.trans (ifT (tof (jm (bw rfl) (bw rfl) ((SRC.acj (l:=met++add) (yr _ _)).trans (by rw [decide_eq_false h];rfl))))) ?_
    have ap:=a6n (h:=g++[vm (met++add)]) (a:=bh x) (yr g _) (by rw [List.length_map];exact a5m (by omega))
    rw [akj] at ap
    unfold vm
    rw [List.map_append (l₁:=met++add)]
    exact a6m (bw rfl) (ama (yr g _)) (arg1 (bw rfl)) ap
   ·rcases List.mem_append.mp hy with z | z
    ·exact List.mem_append_left _ (al y z)
    ·rw [List.mem_singleton] at z;subst z;simp
theorem apj {s:Nat} (L:Laid g rows ks) (n1:1≤n) (n32:n≤32) (lr:rows.length=n) (rr:∀ r∈rows,ake s n r) (Q:Nat→Prop) (q0:Q 0) (qs:∀ r,Q r→∀ x∈(rows[r]?).getD [],Q x) :
  ∃ (met:List Nat) (i:Nat) (t6:Option D),sWh uq o7 100000 (τD tg tu (.ref g.length) 0 none none) (g++[vm [0]]) = .nx (τD tg tu (.ref g.length) i t6 none) (g++[vm met])∧SRC.Met n met∧met[0]? = some 0∧(∀ r∈met,∀ x∈(rows[r]?).getD [],x∈met)∧∀ r∈met,Q r:=by
 have w:=asn (c:=uq) (f:=o7)
  (fun m τ h=>∃ (met:List Nat) (i:Nat) (t6:Option D),τ=τD tg tu (.ref g.length) i t6 none∧h=g++[vm met]∧m=32 - i∧i≤met.length∧SRC.Met n met∧met[0]? = some 0∧SRC.Done rows met i∧∀ r∈met,Q r)
  (fun τ h=>∃ (met:List Nat) (i:Nat) (t6:Option D),τ=τD tg tu (.ref g.length) i t6 none∧h=g++[vm met]∧SRC.Met n met∧met[0]? = some 0∧SRC.Done rows met met.length∧∀ r∈met,Q r)
  (fun _ _=>False) ?_ 32 100000 (τD tg tu (.ref g.length) 0 none none) (g++[vm [0]]) (by omega)
  ⟨[0],0,none,rfl,rfl,rfl,by simp,⟨by simp,by simp;omega,by simp⟩,rfl,fun j hj=>absurd hj (Nat.not_lt_zero j),by simpa using q0⟩
 ·rcases w with ⟨τ',h',e,met,i,t6,rfl,rfl,M,m0,D,aq⟩ | ⟨_,_,_,z⟩
  ·refine ⟨met,i,t6,e,M,m0,fun r hr x hx=>?_,aq⟩
   obtain ⟨j,hj,rfl⟩:=List.getElem_of_mem hr
   exact D j hj _ (List.getElem?_eq_getElem hj) x hx
  ·exact z.elim
 ·rintro m τ h ⟨met,i,t6,rfl,rfl,rfl,il,M,m0,D,aq⟩
  have ln:=M.len
  by_cases lt:i<met.length
  ·refine .inr ⟨_,tof (jm (bw rfl) (yt (bw rfl) (a80 (yr g _))) (axa (by omega))), .inl ?_⟩
   have rl:met[i]<n:=M.lt _ (List.getElem_mem lt)
   have gm:met[i]? = some met[i]:=List.getElem?_eq_getElem lt
   generalize met[i]=r at rl gm
   have gr:rows[r]? = some ((rows[r]?).getD []):=by rw [List.getElem?_eq_getElem (by omega)];rfl
   have rn:=rr _ (List.mem_of_getElem? gr)
   obtain ⟨j,hj,gx⟩:=L.row (r:=r) (by omega)
   obtain ⟨met',t6',e,M',⟨add,ea⟩,al,aq'⟩:=akl (tg:=tg) (tu:=tu) (i:=i) (t6:=t6) n32 hj M rn.2 Q aq (qs r (aq r (List.mem_of_getElem? gm)))
   refine ⟨τD tg tu (.ref g.length) (i+1) t6' none,g++[vm met'],32 - (i+1),?_,by omega,met',i+1,t6',rfl,rfl,rfl,by rw [ea,List.length_append];omega,M',?_,fun k hk q hq x hx=>?_,aq'⟩
   ·unfold o7
    refine Eq.trans (a5l (a5u (jm (bw rfl) (jm (bw rfl) (bw rfl) (a9e (xs:=met.map bh) (yr g _) (y:=bh r) (by rw [List.getElem?_map,gm];rfl))) (gx _)) (akk (a5n hj)))) ?_
    refine Eq.trans (congrArg (fun z=>MI.thn z _) e) ?_
    rw [wy]
    exact aij (jm (bw rfl) (jf _ _ _) vg)
   ·rw [ea,List.getElem?_append_left (by cases met with | nil=>simp at m0 | cons _ _=>simp)];exact m0
   ·by_cases je:k=i
    ·subst je
     rw [ea,List.getElem?_append_left lt,gm] at hq
     cases hq
     exact al x hx
    ·have jl:k<met.length:=by omega
     rw [ea,List.getElem?_append_left jl] at hq
     rw [ea]
     exact List.mem_append_left _ (D k (by omega) q hq x hx)
  ·refine .inl ⟨_,tof (jm (bw rfl) (yt (bw rfl) (a80 (yr g _))) (axb (by omega))),met,i,t6,rfl,rfl,M,m0,?_,aq⟩
   rw [show met.length=i by omega];exact D
end
end PN
namespace PN
open PySem PySem.Spec L2 MI AT HND EVX K22 K23 K21
noncomputable def dh:SF:=qu ux 8
section
variable {g:Hd} {n tu:Nat} {tg:List Nat} {rows:List (List Nat)} {ks:List Int}
theorem atr {i:Nat} {xs:List D} {lo hi:Option Int} {h:Hd} (e:h[i]? = some (.lst xs)):aig (.ref i) lo hi h = .ok (.ref h.length) (h++[.lst (a5r xs lo hi)]):=by
 show gSl (.ref i) lo hi h=_
 unfold gSl
 simp only [e]
abbrev turned (t:Nat) (met:List Nat):List Nat:=[0]++met.drop t++(met.drop 1).take (t - 1)
theorem aau {t:Nat} {met:List Nat} (t1:1≤t) (m0:met[0]? = some 0):(turned t met).Perm met:=by
 cases met with
 | nil=>simp at m0
 | cons a l =>
  have:a=0:=by simpa using m0
  subst this
  obtain ⟨k,rfl⟩:∃ k,t=k+1:=⟨t - 1,by omega⟩
  show ([0]++l.drop k++(l.take k)).Perm (0::l)
  rw [List.append_assoc]
  refine List.Perm.cons 0 ?_
  show (l.drop k++l.take k).Perm l
  have p:(l.drop k++l.take k).Perm (l.take k++l.drop k):=List.perm_append_comm
  rwa [List.take_append_drop] at p
theorem apk {i:Nat} {t6:Option D} {met:List Nat} (L:Laid g rows ks) (n32:n≤32) (lr:rows.length=n) (lk:ks.length=n) (t6':tg.length≤6) (rr:∀ r∈rows,ake tg.length n r) (M:SRC.Met n met) (m0:met[0]? = some 0) (cl:∀ r∈met,∀ x∈(rows[r]?).getD [],x∈met) :
  ∃ m:List Nat,m.Perm met∧m[0]? = some 0∧toR (iz (kj 3 (s2 j9 (sC (.int 1)) (s2 a5x (sV 3) (sA yu (aj (sV 4) d7)))))
   (iz (kj 4 (s2 j9 (sZ (s2 j9 (sZ (sA a0v (aj (sC (.int 0)) d7))) (sZ (a5t (sV 4) (oS (sV 3)) oN)))) (sZ (a5t (sV 4) (oS (sC (.int 1))) (oS (sV 3))))))
   (iz (kj 7 (sA m9 (aj (sZ (m7 (sIt (sV 4)) t1 o8 [1,4])) d7)))
   (yf (sA yc (aj (sV 0) (aj (sV 7) (aj (sA m9 (aj (sZ (m7 (sIt (sV 4)) t1 o9 [2])) d7)) d7))))))) (τD tg tu (.ref g.length) i t6 none) (g++[vm met])) =
   .ok (.tup [.str (S tg), .tup ((SRC.a5y rows m).map xu), .tup ((SRC.a6q ks m).map D.int)]) (g++[vm met]++[vm m]):=by
 have ln:=M.len
 have lp:1≤met.length:=by cases met with | nil=>simp at m0 | cons _ _=>simp
 let t:Nat:=1+tu % met.length
 have et:(1:Int)+(tu:Int) % (met.length:Int)=((t:Nat):Int):=by show _=((1+tu % met.length:Nat):Int);omega
 let m:=turned t met
 have pm:m.Perm met:=aau (by show 1≤1+tu % met.length;omega) m0
 have lm:m.length=met.length:=pm.length_eq
 let G:Hd:=g++[vm met]
 let H:Hd:=G++[vm m]
 have gc:∀ o∈G,a1n G.length o:=by
  intro o ho
  rcases List.mem_append.mp ho with z | z
  ·exact u5 (by simp [G]) (L.clo o z)
  ·rw [List.mem_singleton] at z;subst z;exact u5 (Nat.zero_le _) (gq _)
 have hc:∀ o∈H,a1n H.length o:=by
  intro o ho
  rcases List.mem_append.mp ho with z | z
  ·exact u5 (by simp [H]) (gc o z)
  ·rw [List.mem_singleton] at z;subst z;exact u5 (Nat.zero_le _) (gq _)
 have hm:H[G.length]? = some (vm m):=yr G _
 have rw':∀ r∈m,r<rows.length∧ake tg.length n ((rows[r]?).getD [])∧∀ x∈(rows[r]?).getD [],x∈m:=fun r hr=>by
  have h1:=M.lt r (pm.mem_iff.mp hr)
  have e:rows[r]? = some ((rows[r]?).getD []):=by rw [List.getElem?_eq_getElem (by omega)];rfl
  exact ⟨by omega,rr _ (List.mem_of_getElem? e),fun x hx=>pm.mem_iff.mpr (cl r (pm.mem_iff.mp hr) x hx)⟩
 have s0:∀ τ:Sd,sZ (sA a0v (aj (sC (.int 0)) d7)) τ G = .ok (.rol ([0].map bh)) G:=fun τ=>ug (yt (jf _ _ _) rfl) (gq [0]) gc
 have s1:∀ τ:Sd,τ[4]? = some (some (.ref g.length))→τ[3]? = some (some (bh t))→sZ (a5t (sV 4) (oS (sV 3)) oN) τ G = .ok (.rol ((met.drop t).map bh)) G:=fun τ h4 h3=>by
  refine ug ((atq (bw h4) (aph (bw h3)) rfl (atr (yr g _))).trans ?_) (gq _) gc
  rw [a8m,List.map_drop]
 have s2':∀ τ:Sd,τ[4]? = some (some (.ref g.length))→τ[3]? = some (some (bh t))→sZ (s2 j9 (sZ (sA a0v (aj (sC (.int 0)) d7))) (sZ (a5t (sV 4) (oS (sV 3)) oN))) τ G = .ok (.rol (([0]++met.drop t).map bh)) G:=fun τ h4 h3=>by
  refine ug (jm (s0 τ) (s1 τ h4 h3) ?_) (gq _) gc
  rw [aae (xs:=[0].map bh) (ys:=(met.drop t).map bh) rfl rfl,if_pos (j5 (by simp only [List.length_map,List.length_drop,List.length_singleton];omega)),← List.map_append]
 have s3:∀ τ:Sd,τ[4]? = some (some (.ref g.length))→τ[3]? = some (some (bh t))→sZ (a5t (sV 4) (oS (sC (.int 1))) (oS (sV 3))) τ G = .ok (.rol (((met.drop 1).take (t - 1)).map bh)) G:=fun τ h4 h3=>by
  refine ug ((atq (bw h4) (aph (jf _ _ _)) (aph (bw h3)) (atr (yr g _))).trans ?_) (gq _) gc
  rw [show (1:Int)=((1:Nat):Int) from rfl,ank,List.map_take,List.map_drop]
 have s4:∀ τ:Sd,τ[4]? = some (some (.ref g.length))→τ[3]? = some (some (bh t))→s2 j9 (sZ (s2 j9 (sZ (sA a0v (aj (sC (.int 0)) d7))) (sZ (a5t (sV 4) (oS (sV 3)) oN)))) (sZ (a5t (sV 4) (oS (sC (.int 1))) (oS (sV 3)))) τ G = .ok (.ref G.length) H:=fun τ h4 h3=>by
  refine jm (s2' τ h4 h3) (s3 τ h4 h3) ?_
  rw [aae (xs:=([0]++met.drop t).map bh) (ys:=((met.drop 1).take (t - 1)).map bh) rfl rfl,if_pos (j5 (by simp only [List.length_map,List.length_append,List.length_take,List.length_drop,List.length_singleton];omega)),← List.map_append]
 have z1:∀ t7:Option D,sZ (m7 (sIt (sV 4)) t1 o8 [1,4]) (τD tg t (.ref G.length) i t6 t7) H = .ok (.rol ((SRC.a5y rows m).map xu)) H:=fun t7=>by
  rw [List.map_map]
  refine ug (SRC.apa (ck:=fun h=>h[G.length]? = some (vm m)) bh (xu ∘ fun r=>((rows[r]?).getD []).map (SRC.pos m)) m hm (a5u (bw rfl) (akk hm)) (j5 (by omega)) fun r hr=>?_) (iu fun x _=>iw (gq _)) hc
  obtain ⟨e1,⟨e2,_⟩,e3⟩:=rw' r hr
  obtain ⟨j,hj,gx⟩:=L.row e1
  have hj':H[j]? = some (vm ((rows[r]?).getD [])):=a5n (a5n hj)
  have gx':gIx (.ref 1) (bh r) H = .ok (.ref j) H:=by have:=gx ([vm met]++[vm m]);rwa [← List.append_assoc] at this
  rw [yp]
  unfold o8
  have z2:sZ (m7 (sIt (s2 gIx (sV 1) (sV 0))) t1 ur [2]) (some (bh r)::frs' [1,4] (τD tg t (.ref G.length) i t6 t7)) H = .ok (.rol ((((rows[r]?).getD []).map (SRC.pos m)).map bh)) H:=by
   rw [List.map_map]
   refine ug (SRC.apa (ck:=fun h=>h[j]? = some (vm ((rows[r]?).getD []))) bh (bh ∘ SRC.pos m) ((rows[r]?).getD []) hj' (a5u (jm (bw rfl) (bw rfl) gx') (akk hj')) (j5 (by omega)) fun x hx=>?_) (iu fun x _=>ji _) hc
   rw [yp]
   unfold ur
   exact awa (bw rfl) (ama hm) (arg1 (bw rfl)) (SRC.ahu hm (e3 x hx))
  exact yt z2 rfl
 have z3:∀ t7:Option D,sZ (m7 (sIt (sV 4)) t1 o9 [2]) (τD tg t (.ref G.length) i t6 t7) H = .ok (.rol ((SRC.a6q ks m).map D.int)) H:=fun t7=>by
  rw [List.map_map]
  refine ug (SRC.apa (ck:=fun h=>h[G.length]? = some (vm m)) bh (D.int ∘ fun r=>(ks[r]?).getD 0) m hm (a5u (bw rfl) (akk hm)) (j5 (by omega)) fun r hr=>?_) (iu fun x _=>ji _) hc
  have h1:=M.lt r (pm.mem_iff.mp hr)
  have e:ks[r]? = some ((ks[r]?).getD 0):=by rw [List.getElem?_eq_getElem (by omega)];rfl
  rw [yp]
  unfold o9
  exact jm (bw rfl) (bw rfl) (a9e (a5n (a5n L.ks)) (by rw [List.getElem?_map,e];rfl))
 refine ⟨m,pm,rfl,?_⟩
 refine Eq.trans (congrArg toR (jr (jm (jf _ _ _) (jm (bw rfl) (yt (bw rfl) (a80 (yr g _))) (ati (by omega))) vg))) ?_
 rw [et]
 refine Eq.trans (congrArg toR (jr (s4 _ rfl rfl))) ?_
 refine Eq.trans (congrArg toR (jr (yt (z1 _) (show m9 [.rol ((SRC.a5y rows m).map xu)] H = .ok (.tup ((SRC.a5y rows m).map xu)) H from rfl)))) ?_
 exact congrArg toR (yq (ahp (bw rfl) (bw rfl) (yt (z3 _) (show m9 [.rol ((SRC.a6q ks m).map D.int)] H = .ok (.tup ((SRC.a6q ks m).map D.int)) H from rfl)) atk))
def Rch (rows:List (List Nat)) (r:Nat):Prop:=∀ Q:Nat→Prop,Q 0→(∀ r,Q r→∀ x∈(rows[r]?).getD [],Q x)→Q r
theorem Rch.zero (rows:List (List Nat)):Rch rows 0:=fun _ q _=>q
theorem Rch.step {rows:List (List Nat)} {r x:Nat} (h:Rch rows r) (hx:x∈(rows[r]?).getD []):Rch rows x:=fun Q q0 qs=>qs r (h Q q0 qs) x hx
theorem amb {m:List Nat} {x:Nat} (h:x∈m):m[SRC.pos m x]? = some x:=by
 have e:=(abv (SRC.aht h).1).1
 unfold SRC.cst at e
 rw [List.getElem?_map] at e
 cases q:m[SRC.pos m x]? with
 | none=>rw [q] at e;cases e
 | some y =>
  rw [q] at e
  have e:(y:Int)=(x:Int):=by simpa using e
  congr 1
  omega
theorem amc {m:List Nat} {x i:Nat} (nd:m.Nodup) (h:m[i]? = some x):SRC.pos m x=i:=by
 have h1:=amb (List.mem_of_getElem? h)
 obtain ⟨a,ea⟩:=List.getElem?_eq_some_iff.mp h
 obtain ⟨b,eb⟩:=List.getElem?_eq_some_iff.mp h1
 have pw:=List.pairwise_iff_getElem.mp nd
 rcases Nat.lt_trichotomy (SRC.pos m x) i with z | z | z
 ·exact absurd (eb.trans ea.symm) (pw _ _ b a z)
 ·exact z
 ·exact absurd (ea.trans eb.symm) (pw _ _ a b z)
theorem apl {rows:List (List Nat)} {m:List Nat} (nd:m.Nodup) (m0:m[0]? = some 0) (cl:∀ r∈m,∀ x∈(rows[r]?).getD [],x∈m) (rc:∀ r∈m,Rch rows r):∀ r,r<(SRC.a5y rows m).length→Rch (SRC.a5y rows m) r:=by
 intro r hr Q q0 qs
 have hr':r<m.length:=by simpa using hr
 have er:m[r]? = some m[r]:=List.getElem?_eq_getElem hr'
 have key:=(rc m[r] (List.getElem_mem hr') (fun x=>x∈m∧Q (SRC.pos m x)) ⟨List.mem_of_getElem? m0,by rw [amc nd m0];exact q0⟩ fun a ⟨ha,qa⟩ x hx=>⟨cl a ha x hx,qs _ qa _ (by
  rw [List.getElem?_map,amb ha]
  exact List.mem_map.mpr ⟨x,hx,rfl⟩)⟩).2
 rwa [amc nd er] at key
theorem atu (L:Laid g rows ks) (T1:Tongue tg) (n1:1≤n) (n32:n≤32) (lr:rows.length=n) (lk:ks.length=n) (k0:ks[0]? = some (-1)) (kk:∀ k∈ks,KOk k) (rr:∀ r∈rows,ake tg.length n r) :
  ∃ (T:Table) (x y:O),T.Ok∧T.tg=tg∧T.go.length≤n∧(∀ r,r<T.go.length→Rch T.go r)∧dh [.str (S tg), .ref 1, .ref 2,bh tu] g = .ok T.d (g++[x]++[y]):=by
 obtain ⟨met,i,t6,ew,M,m0,cl,rc⟩:=apj (tg:=tg) (tu:=tu) L n1 n32 lr rr (Rch rows) (Rch.zero rows) fun r h x hx=>h.step hx
 obtain ⟨m,pm,mz,ee⟩:=apk (tg:=tg) (tu:=tu) (i:=i) (t6:=t6) L n32 lr lk T1.hi rr M m0 cl
 have lm:m.length=met.length:=pm.length_eq
 have ln:=M.len
 have ml:1≤m.length:=by cases m with | nil=>simp at mz | cons _ _=>simp
 let T:Table:=⟨tg,SRC.a5y rows m,SRC.a6q ks m⟩
 have ok:T.Ok:=by
  refine ⟨T1,by simpa [T] using ml,by show (SRC.a5y rows m).length≤32;rw [List.length_map];omega,fun r hr=>?_,by simp [T],?_,fun k hk=>?_⟩
  ·obtain ⟨q,hq,rfl⟩:=List.mem_map.mp hr
   have h1:=M.lt q (pm.mem_iff.mp hq)
   have e:rows[q]? = some ((rows[q]?).getD []):=by rw [List.getElem?_eq_getElem (by omega)];rfl
   obtain ⟨a,b⟩:=rr _ (List.mem_of_getElem? e)
   refine ⟨by rw [List.length_map];exact a,fun x hx=>?_⟩
   obtain ⟨v,hv,rfl⟩:=List.mem_map.mp hx
   show SRC.pos m v<(SRC.a5y rows m).length
   rw [List.length_map]
   exact (SRC.aht (pm.mem_iff.mpr (cl q (pm.mem_iff.mp hq) v hv))).2
  ·show (SRC.a6q ks m)[0]? = _
   rw [List.getElem?_map,mz]
   show some ((ks[0]?).getD 0)=_
   rw [k0];rfl
  ·obtain ⟨q,hq,rfl⟩:=List.mem_map.mp hk
   have h1:=M.lt q (pm.mem_iff.mp hq)
   have e:ks[q]? = some ((ks[q]?).getD 0):=by rw [List.getElem?_eq_getElem (by omega)];rfl
   exact kk _ (List.mem_of_getElem? e)
 refine ⟨T,vm met,vm m,ok,rfl,by show (SRC.a5y rows m).length≤n;rw [List.length_map];omega,apl (pm.nodup_iff.mpr M.nd) mz (fun r hr x hx=>pm.mem_iff.mpr (cl r (pm.mem_iff.mp hr) x hx)) (fun r hr=>rc r (pm.mem_iff.mp hr)),?_⟩
 unfold dh
 rw [j7]
 show toR (ux [some (.str (S tg)),some (.ref 1),some (.ref 2),some (bh tu),none,none,none,none] g)=_
 unfold ux
 refine Eq.trans (congrArg toR (jr (d:=.ref g.length) (h1:=g++[vm [0]]) rfl)) ?_
 refine Eq.trans (congrArg toR (jr (jf _ _ _))) ?_
 refine Eq.trans (congrArg toR (a1x ew)) ?_
 exact ee
end
end PN
namespace PN
open PySem PySem.Spec L2 MI AT HND EVX K22 K23 K21
noncomputable def jn:SF:=qu (a0a dh ak) 11
abbrev refs (k:Nat):List D:=(List.range k).map fun j=>D.ref (3+j)
abbrev HT (u:O) (is:List D) (ks:List Int) (t:Hd):Hd:=u::.lst is::.lst (ks.map D.int)::t
abbrev τP (tg:List Nat) (most many:Nat) (road often:Int) (i r k:Option D):Sd:=[some (.ref 0),some (.str (S tg)),some (bh most),some (bh many),some (.int road),some (.int often),some (.ref 1),some (.ref 2),i,r,k]
theorem ahx (u:O) (is:List D) (ks:List Int) (t:Hd) (x:O):(HT u is ks (t++[x]))[3+t.length]? = some x:=by
 rw [show 3+t.length=t.length+1+1+1 by omega]
 simp
theorem atv (u:O) (is:List D) (ks:List Int) (t:Hd) (x y:O):(HT u is ks (t++[x])).set (3+t.length) y=HT u is ks (t++[y]):=by
 rw [show 3+t.length=t.length+1+1+1 by omega]
 simp
section
variable {u:O} {N n most:Nat} {tg:List Nat} {is:List D} {ks:List Int} {t:Hd} {road often:Int}
theorem tk {m:Int} (P:Pen u N) (hN:N≤999999000) (m0:0<m) (m1:m<1073741824):∃ (r:Int) (u':O),0≤r∧r<m∧Pen u' (N+1)∧∀ h:Hd,uf false 2 ak [.ref 0, .int m] (u::h) = .ok (.int r) (u'::h):=by
 obtain ⟨r,u',e,r0,r1,P'⟩:=aar P (by omega) m0 m1
 exact ⟨r,u',r0,r1,P',fun h=>e 0 _ rfl⟩
theorem ahy {i r k:Option D} (P:Pen u N) (hN:N≤999990000) (t6:tg.length≤6) (n1:1≤n) (n32:n≤32) :
  ∃ (u':O) (row:List Nat),ake tg.length n row∧Pen u' (N+6)∧m7 (sIt (sV 1)) t1 (uy dh ak) [0,3] (τP tg most n road often i r k) (HT u is ks t) = .ok (.ref (3+t.length)) (HT u' is ks (t++[vm row])):=by
 have mp:=ac0 (f:=a76 t1 (uy dh ak) (frs' [0,3] (τP tg most n road often i r k))) (fun c:Nat=>D.str (S [c]))
  (fun pre ys h=>∃ (u':O) (row:List Nat),h=HT u' is ks t∧Pen u' (N+pre.length)∧ys=row.map bh∧row.length=pre.length∧∀ x∈row,x<n)
  tg [] [] (HT u is ks t) ?_ ⟨u,[],rfl,P,rfl,rfl,by simp⟩
 ·obtain ⟨zs,h',em,u',row,rfl,P',ez,rl,rx⟩:=mp
  rw [List.nil_append] at ez rl P'
  subst ez
  refine ⟨u',row,⟨rl,rx⟩,P'.up (by omega),?_⟩
  unfold m7
  rw [a5u (bw rfl) (PAP.ayt tg _),bx]
  dsimp only
  rw [if_pos (by rw [List.length_map];exact j5 (by omega)),em,bx]
  show R.ok (D.ref (HT u' is ks t).length) (HT u' is ks t++[vm row])=_
  rw [show (HT u' is ks t).length=3+t.length by simp;omega]
  rfl
 ·rintro pre c post ys h all ⟨u',row,rfl,P',rfl,rl,rx⟩
  rw [List.nil_append] at all
  have pl:pre.length<tg.length:=by rw [all];simp
  obtain ⟨x,u2,x0,x1,P2,c1⟩:=tk (m:=(n:Int)) P' (by omega) (by omega) (by omega)
  obtain ⟨j,rfl⟩:=Int.eq_ofNat_of_zero_le x0
  refine ⟨bh j,HT u2 is ks t,?_,u2,row++[j],rfl,P2.up (by rw [List.length_append,List.length_singleton];omega),by rw [List.map_append];rfl,by rw [List.length_append,List.length_append,List.length_singleton,List.length_singleton,rl],fun y hy=>?_⟩
  ·rw [yp]
   unfold uy
   exact zm (bw rfl) (bw rfl) (c1 _)
  ·rcases List.mem_append.mp hy with z | z
   ·exact rx y z
   ·rw [List.mem_singleton] at z;subst z;omega
theorem turn {i:Nat} {r k:Option D} (P:Pen u N) (hN:N≤999990000) (t1:1≤tg.length) (t6:tg.length≤6) (n1:1≤n) (n32:n≤32) (hi:i<n) (o2:0<often) (o3:often<10) (il:is.length≤100) (kl:ks.length≤100) (k0:ks.length=i) :
  ∃ (u':O) (row:List Nat) (kd:Int) (r' k':Option D),ake tg.length n row∧KOk kd∧(i=0→kd = -1)∧Pen u' (N+9) ∧
   qi dh ak (τP tg most n road often (some (bh i)) r k) (HT u is ks t) = .nx (τP tg most n road often (some (bh i)) r' k') (HT u' (is++[.ref (3+t.length)]) (ks++[kd]) (t++[vm row])):=by
 obtain ⟨u1,row,⟨l1,x1⟩,P1,e1⟩:=ahy (most:=most) (road:=road) (often:=often) (i:=some (bh i)) (r:=r) (k:=k) (is:=is) (ks:=ks) (t:=t) P hN t6 n1 n32
 let τ1:Sd:=τP tg most n road often (some (bh i)) (some (.ref (3+t.length))) k
 obtain ⟨u2,row2,⟨l2,x2⟩,P2,e2⟩:∃ (u2:O) (row2:List Nat),ake tg.length n row2∧Pen u2 (N+7)∧∀ g:SS,iz (sIf (sT (s2 hEq (sV 4) (sC (.int 0))))
   (aa6 (sA a4r (aj (s2 j9 (sV 8) (sC (.int 1))) (aj (s2 ab2 (sV 3) (sC (.int 1))) d7))) (sV 9) (sA (uf false 2 ak) (aj (sV 0) (aj (sA yu (aj (sV 9) d7)) d7))))
   sNx) g τ1 (HT u1 is ks (t++[vm row]))=g τ1 (HT u2 is ks (t++[vm row2])):=by
  by_cases hr:road=0
  ·obtain ⟨x,u2,x0,x1',P2,c1⟩:=tk (m:=(row.length:Int)) P1 (by omega) (by omega) (by omega)
   obtain ⟨j,rfl⟩:=Int.eq_ofNat_of_zero_le x0
   let v:Nat:=if n - 1<i+1 then n - 1 else i+1
   have ev:a4r [.int ((i:Int)+1), .int ((n:Int) - 1)] (HT u1 is ks (t++[vm row])) = .ok (bh v) (HT u1 is ks (t++[vm row])):=by
    show R.ok (D.int (if (n:Int) - 1<(i:Int)+1 then (n:Int) - 1 else (i:Int)+1)) _=_
    have:(if (n:Int) - 1<(i:Int)+1 then (n:Int) - 1 else (i:Int)+1)=((v:Nat):Int):=by show _=((if n - 1<i+1 then n - 1 else i+1:Nat):Int);split<;>split<;>omega
    rw [this]
   have vn:v<n:=by show (if n - 1<i+1 then n - 1 else i+1)<n;split<;>omega
   refine ⟨u2,row.set j v,⟨by rw [List.length_set,l1],fun y hy=>?_⟩,P2,fun g=>?_⟩
   ·rcases List.mem_or_eq_of_mem_set hy with z | z
    ·exact x1 y z
    ·rw [z];exact vn
   ·refine a1x (Eq.trans (ifT (tof (jm (bw rfl) (jf _ _ _) (akc hr)))) (atf (zm (jm (bw rfl) (jf _ _ _) vg) (jm (bw rfl) (jf _ _ _) (am3 _ _)) ev) (bw rfl) (zm (bw rfl) (yt (bw rfl) (a80 (ahx _ _ _ _ _))) (c1 _)) ?_))
    have pu:=ath (v:=bh v) (ahx u2 is ks t (vm row)) (j:=j) (by rw [List.length_map];omega)
    rw [atv] at pu
    show put (.ref (3+t.length)) (.int (j:Nat)) (bh v) (HT u2 is ks (t++[vm row]))=_
    rw [pu]
    show _=some (HT u2 is ks (t++[.lst ((row.set j v).map bh)]))
    rw [List.map_set]
  ·refine ⟨u1,row,⟨l1,x1⟩,P1.up (by omega),fun g=>?_⟩
   exact ifN (tof (jm (bw rfl) (jf _ _ _) (akd hr)))
 obtain ⟨a,u3,a0,a1,P3,c3⟩:=tk (m:=6) P2 (by omega) (by omega) (by omega)
 obtain ⟨b,u4,b0,b1,P4,c4⟩:=tk (m:=often) P3 (by omega) (by omega) (by omega)
 let t':Hd:=t++[vm row2]
 have fin:∀ (w:O) (kd:Int),iz (a0i (sML a78 (sV 6) (aj (sV 9) d7))) (a0i (sML a78 (sV 7) (aj (sV 10) d7))) (τP tg most n road often (some (bh i)) (some (.ref (3+t.length))) (some (.int kd))) (HT w is ks t') = .nx (τP tg most n road often (some (bh i)) (some (.ref (3+t.length))) (some (.int kd))) (HT w (is++[.ref (3+t.length)]) (ks++[kd]) t'):=fun w kd=>by
  refine Eq.trans (a1x (a6m (bw rfl) rfl (arg1 (bw rfl)) (a6n (xs:=is) rfl (a5m (by omega))))) ?_
  unfold HT
  rw [List.map_append]
  exact a6m (bw rfl) rfl (arg1 (bw rfl)) (a6n (xs:=ks.map D.int) rfl (by rw [List.length_map];exact a5m (by omega)))
 have start:∀ g:SS,iz (kj 10 (sA (uf false 2 ak) (aj (sV 0) (aj (sC (.int 6)) d7)))) g τ1 (HT u2 is ks t')=g (τP tg most n road often (some (bh i)) (some (.ref (3+t.length))) (some (.int a))) (HT u3 is ks t'):=fun g=>jr (zm (bw rfl) (jf _ _ _) (c3 _))
 have main:∃ (w:O) (kd:Int),KOk kd∧(i=0→kd = -1)∧Pen w (N+9)∧qi dh ak (τP tg most n road often (some (bh i)) r k) (HT u is ks t) = .nx (τP tg most n road often (some (bh i)) (some (.ref (3+t.length))) (some (.int kd))) (HT w (is++[.ref (3+t.length)]) (ks++[kd]) t'):=by
  unfold qi
  by_cases h0:(i:Int)=0
  ·refine ⟨u3, -1,by decide,fun _=>rfl,P3.up (by omega),?_⟩
   refine Eq.trans (jr e1) ?_
   refine Eq.trans (e2 _) ?_
   refine Eq.trans (start _) ?_
   refine Eq.trans (a1x (Eq.trans (ifT (orT (tof (jm (bw rfl) (jf _ _ _) (akc h0))))) (aij (am2 (jf _ _ _) (aaq _))))) ?_
   exact fin _ _
  ·by_cases hb:0<b
   ·refine ⟨u4, -1,by decide,fun _=>rfl,P4.up (by omega),?_⟩
    refine Eq.trans (jr e1) ?_
    refine Eq.trans (e2 _) ?_
    refine Eq.trans (start _) ?_
    refine Eq.trans (a1x (Eq.trans (ifT (orF (tof (jm (bw rfl) (jf _ _ _) (akd h0))) (tof (jm (zm (bw rfl) (bw rfl) (c4 _)) (jf _ _ _) (ayr hb))))) (aij (am2 (jf _ _ _) (aaq _))))) ?_
    exact fin _ _
   ·refine ⟨u4,a,by constructor<;>omega,fun z=>absurd (by omega) h0,P4.up (by omega),?_⟩
    refine Eq.trans (jr e1) ?_
    refine Eq.trans (e2 _) ?_
    refine Eq.trans (start _) ?_
    refine Eq.trans (ifN (orF (tof (jm (bw rfl) (jf _ _ _) (akd h0))) (tof (jm (zm (bw rfl) (bw rfl) (c4 _)) (jf _ _ _) (ays hb))))) ?_
    exact fin _ _
 obtain ⟨w,kd,q1,q2,q3,q4⟩:=main
 exact ⟨w,row2,kd,_,_,⟨l2,x2⟩,q1,q2,q3,q4⟩
end
end PN
namespace PN
open PySem PySem.Spec L2 MI AT HND EVX K22 K23 K21
theorem a81 {n x:Nat} {pre post:List Nat} (e:List.range n=pre++x::post):x=pre.length∧pre.length<n:=by
 have h1:(List.range n)[pre.length]? = some x:=by rw [e];simp
 have h2:=List.getElem?_eq_some_iff.mp h1
 obtain ⟨h3,h4⟩:=h2
 rw [List.getElem_range] at h4
 rw [List.length_range] at h3
 exact ⟨h4.symm,h3⟩
theorem ahz (k:Nat):refs (k+1)=refs k++[.ref (3+k)]:=by unfold refs;rw [List.range_succ,List.map_append];rfl
theorem laid {u:O} {N:Nat} {rows:List (List Nat)} {ks:List Int} (P:Pen u N):Laid (HT u (refs rows.length) ks (rows.map vm)) rows ks:=by
 refine ⟨⟨(List.range rows.length).map fun j=>3+j,?_,fun r hr=>⟨3+r,by rw [List.getElem?_map,List.getElem?_range hr];rfl,?_⟩⟩,rfl,?_⟩
 ·show some (O.lst (refs rows.length))=_
  rw [List.map_map];rfl
 ·rw [show 3+r=r+1+1+1 by omega]
  simp only [List.getElem?_cons_succ]
  rw [List.getElem?_map,List.getElem?_eq_getElem hr];rfl
 ·intro o ho
  simp only [List.mem_cons] at ho
  rcases ho with rfl | rfl | rfl | ho
  ·exact u5 (Nat.zero_le _) P.clo
  ·refine iu fun j hj=>?_
   rw [List.mem_range] at hj
   show 3+j<_
   simp only [List.length_cons,List.length_map]
   omega
  ·exact u5 (Nat.zero_le _) (iu fun x _=>ji x)
  ·obtain ⟨r,_,rfl⟩:=List.mem_map.mp ho
   exact u5 (Nat.zero_le _) (gq _)
theorem akm {o:O} {N most:Nat} {tg:List Nat} (P:Pen o N) (hN:N≤999980000) (T1:Tongue tg) (m1:1≤most) (m32:most≤32) :
  ∃ (T:Table) (o':O),T.Ok∧T.tg=tg∧T.go.length≤most∧(∀ r,r<T.go.length→Rch T.go r)∧Dr jn 3 [.str (S tg),bh most] o T.d o'∧Pen o' (N+400):=by
 obtain ⟨x,o1,x0,x1,P1,c1⟩:=tk (m:=(most:Int)) P (by omega) (by omega) (by omega)
 obtain ⟨road,o2,y0,y1,P2,c2⟩:=tk (m:=3) P1 (by omega) (by omega) (by omega)
 obtain ⟨z,o3,z0,z1,P3,c3⟩:=tk (m:=2) P2 (by omega) (by omega) (by omega)
 obtain ⟨j,rfl⟩:=Int.eq_ofNat_of_zero_le x0
 let n:Nat:=1+j
 have en:(1:Int)+(j:Int)=((n:Nat):Int):=by show _=((1+j:Nat):Int);omega
 have hn1:1≤n:=by show 1≤1+j;omega
 have hnm:n≤most:=by show 1+j≤most;omega
 let often:Int:=2+z
 have lp:=u6 (g:=kN 8) (b:=qi dh ak) bh
  (fun pre τ h=>∃ (u:O) (rows:List (List Nat)) (ks:List Int) (i r k:Option D),τ=τP tg most n road often i r k∧h=HT u (refs rows.length) ks (rows.map vm)∧Pen u (N+3+9*pre.length)∧rows.length=pre.length∧ks.length=pre.length∧(∀ r∈rows,ake tg.length n r)∧(∀ k∈ks,KOk k)∧(0<pre.length→ks[0]? = some (-1)))
  (List.range n) (τP tg most n road often none none none) (HT o3 (refs 0) [] []) ?_ ⟨o3,[],[],none,none,none,rfl,rfl,P3,rfl,rfl,by simp,by simp,by simp⟩
 ·obtain ⟨τ',h',e,u,rows,ks,i,r,k,rfl,rfl,Pu,lr,lk,rr,kk,k0⟩:=lp
  rw [List.length_range] at Pu lr lk k0
  obtain ⟨w,u',w0,w1,Pw,c4⟩:=tk (m:=32) Pu (by omega) (by omega) (by omega)
  obtain ⟨tu,rfl⟩:=Int.eq_ofNat_of_zero_le w0
  obtain ⟨T,a,b,ok,et,el,rc,ec⟩:=atu (tu:=tu) (laid (rows:=rows) (ks:=ks) Pw) T1 hn1 (by omega) lr lk (k0 (by omega)) kk rr
  refine ⟨T,u',ok,et,by omega,rc,Dr.of rfl (a5k (sr _) (ji _)) P.clo (r:=.ok T.d (HT u' (refs rows.length) ks (rows.map vm)++[a]++[b])) ?_ (jy (agr (Nat.zero_le 1) Table.clo) (by intro x hx;rw [show List.take 1 (HT u' (refs rows.length) ks (rows.map vm)++[a]++[b])=[u'] from rfl,List.mem_singleton] at hx;subst hx;exact u5 (by omega) Pw.clo)) Table.clo Pw.clo,Pw.up (by omega)⟩
  unfold jn
  rw [j7]
  show toR (a0a dh ak [some (.ref 0),some (.str (S tg)),some (bh most),none,none,none,none,none,none,none,none] [o])=_
  unfold a0a
  refine Eq.trans (congrArg toR (jr (jm (jf _ _ _) (zm (bw rfl) (bw rfl) (c1 _)) vg))) ?_
  rw [en]
  refine Eq.trans (congrArg toR (jr (zm (bw rfl) (jf _ _ _) (c2 _)))) ?_
  refine Eq.trans (congrArg toR (jr (jm (jf _ _ _) (zm (bw rfl) (jf _ _ _) (c3 _)) vg))) ?_
  refine Eq.trans (congrArg toR (jr (d:=.ref 1) (h1:=[o3, .lst []]) rfl)) ?_
  refine Eq.trans (congrArg toR (jr (d:=.ref 2) (h1:=HT o3 (refs 0) [] []) rfl)) ?_
  refine Eq.trans (congrArg toR (a5l (a3l (n:=n) (bw rfl) (j5 (by omega))))) ?_
  refine Eq.trans (congrArg (fun z=>toR (MI.thn z _)) e) ?_
  rw [wy]
  refine congrArg toR (yq (SRC.awc (yz (bw rfl) (yz (bw rfl) (yz (bw rfl) (yz (zm (bw rfl) (jf _ _ _) (c4 _)) rfl)))) ?_))
  unfold sN
  exact (if_pos (show [D.str (S tg),D.ref 1,D.ref 2,bh tu].length=4 from rfl)).trans ec
 ·rintro pre x post τ h all ⟨u,rows,ks,i,r,k,rfl,rfl,Pu,lr,lk,rr,kk,k0⟩
  obtain ⟨rfl,hx⟩:=a81 all
  obtain ⟨u',row,kd,r',k',q1,q2,q3,q4,q5⟩:=turn (most:=most) (road:=road) (often:=often) (i:=pre.length) (r:=r) (k:=k) (is:=refs rows.length) (ks:=ks) (t:=rows.map vm) Pu (by omega) T1.lo T1.hi hn1 (by omega) hx (by show 0<2+z;omega) (by show 2+z<10;omega) (by simp;omega) (by omega) lk
  refine ⟨_,_,rfl,τP tg most n road often (some (bh pre.length)) r' k',HT u' (refs (rows++[row]).length) (ks++[kd]) ((rows++[row]).map vm),?_,u',rows++[row],ks++[kd],_,_,_,rfl,rfl,q4.up (by simp;omega),by simp [lr],by simp [lk],fun y hy=>?_,fun y hy=>?_,fun _=>?_⟩
  ·rw [List.length_append,List.length_singleton,ahz,List.map_append]
   rw [List.length_map] at q5
   exact q5
  ·rcases List.mem_append.mp hy with z | z
   ·exact rr y z
   ·rw [List.mem_singleton] at z;subst z;exact q1
  ·rcases List.mem_append.mp hy with z | z
   ·exact kk y z
   ·rw [List.mem_singleton] at z;subst z;exact q2
  ·cases ks with
   | nil=>show some kd=_;rw [q3 (by simpa using lk.symm)]
   | cons a l=>exact k0 (by rw [← lk];simp)
end PN
namespace PN
open PySem PySem.Spec L2 MI AT HND EVX K22 K23 K21
inductive Deed where
 | stay | shut | opn (k:Nat) | trn (k:Nat)
def Deed.d:Deed→D
 | .stay=>.tup [.str "stay"]
 | .shut=>.tup [.str "shut"]
 | .opn k=>.tup [.str "open",bh k]
 | .trn k=>.tup [.str "turn",bh k]
def Deed.Ok (n:Nat):Deed→Prop
 | .opn k=>k<n
 | .trn k=>k<n
 | _=>True
theorem Deed.clo (x:Deed) (n:Nat):MI.clo n x.d:=by
 cases x
 ·exact iw (jb (sr _) sy)
 ·exact iw (jb (sr _) sy)
 ·exact iw (jb (sr _) (jb (ji _) sy))
 ·exact iw (jb (sr _) (jb (ji _) sy))
noncomputable def jo:SF:=qu (a0b ak) 7
abbrev six (k:Nat):List Deed:=[.stay, .shut, .opn k, .trn k, .shut, .opn k]
abbrev dsD (ds:List Deed):List D:=ds.map Deed.d
theorem a9i (n:Nat) (ds:List Deed):clos n (dsD ds):=iu fun x _=>x.clo n
abbrev τQ (size many:Nat) (i a b:Option D):Sd:=[some (.ref 0),some (bh size),some (bh many),some (.ref 1),i,a,b]
theorem akn {o:O} {N size many:Nat} (P:Pen o N) (hN:N≤999990000) (s6:size≤6) (m1:1≤many) (m4:many≤4) :
  ∃ (ds:List Deed) (o':O),ds.length=size∧(∀ x∈ds,x.Ok many)∧Dr jo 3 [bh size,bh many] o (.tup (dsD ds)) o'∧Pen o' (N+12):=by
 have lp:=u6 (g:=kN 4) (b:=zc ak) bh
  (fun pre τ h=>∃ (u:O) (ds:List Deed) (i a b:Option D),τ=τQ size many i a b∧h=[u, .lst (dsD ds)]∧Pen u (N+2*pre.length)∧ds.length=pre.length∧∀ x∈ds,x.Ok many)
  (List.range size) (τQ size many none none none) [o, .lst []] ?_ ⟨o,[],none,none,none,rfl,rfl,P,rfl,by simp⟩
 ·obtain ⟨τ',h',e,u,ds,i,a,b,rfl,rfl,Pu,ld,dk⟩:=lp
  rw [List.length_range] at Pu ld
  have one:∀ x∈List.take 1 [u,O.lst (dsD ds)],a1n 1 x:=by
   intro x hx
   rw [show List.take 1 [u,O.lst (dsD ds)]=[u] from rfl,List.mem_singleton] at hx
   subst hx
   exact u5 (by omega) Pu.clo
  refine ⟨ds,u,ld,dk,Dr.of rfl (a5k (ji _) (ji _)) P.clo (r:=.ok (.tup (dsD ds)) [u, .lst (dsD ds)]) ?_ (jy (iw (a9i _ _)) one) (iw (a9i _ _)) Pu.clo,Pu.up (by omega)⟩
  unfold jo
  rw [j7]
  show toR (a0b ak [some (.ref 0),some (bh size),some (bh many),none,none,none,none] [o])=_
  unfold a0b
  refine Eq.trans (congrArg toR (jr (d:=.ref 1) (h1:=[o, .lst []]) rfl)) ?_
  refine Eq.trans (congrArg toR (a5l (a3l (n:=size) (bw rfl) (j5 (by omega))))) ?_
  refine Eq.trans (congrArg (fun z=>toR (MI.thn z _)) e) ?_
  rw [wy]
  exact congrArg toR (yq (yt (bw rfl) rfl))
 ·rintro pre x post τ h all ⟨u,ds,i,a,b,rfl,rfl,Pu,ld,dk⟩
  obtain ⟨rfl,hx⟩:=a81 all
  obtain ⟨y,u1,y0,y1,P1,c1⟩:=tk (m:=(many:Int)) Pu (by omega) (by omega) (by omega)
  obtain ⟨z,u2,z0,z1,P2,c2⟩:=tk (m:=6) P1 (by omega) (by omega) (by omega)
  obtain ⟨k,rfl⟩:=Int.eq_ofNat_of_zero_le y0
  obtain ⟨j,rfl⟩:=Int.eq_ofNat_of_zero_le z0
  have jl:j<(six k).length:=by show j<6;omega
  have gx:(six k)[j]? = some (six k)[j]:=List.getElem?_eq_getElem jl
  have gm:(six k)[j]∈six k:=List.getElem_mem jl
  generalize (six k)[j]=w at gx gm
  have wk:w.Ok many:=by
   simp only [List.mem_cons,List.not_mem_nil,or_false] at gm
   rcases gm with rfl | rfl | rfl | rfl | rfl | rfl<;>first | trivial | (show k<many;omega)
  refine ⟨_,_,rfl,τQ size many (some (bh pre.length)) (some (bh k)) (some (.rol (dsD (six k)))),[u2, .lst (dsD (ds++[w]))],?_,u2,ds++[w],_,_,_,rfl,rfl,P2.up (by rw [List.length_append,List.length_singleton];omega),by rw [List.length_append,List.length_append,ld];rfl,fun q hq=>?_⟩
  ·unfold zc
   refine Eq.trans (jr (zm (bw rfl) (bw rfl) (c1 _))) ?_
   have cl:∀ q∈[u1,O.lst (dsD ds)],a1n 2 q:=by
    intro q hq
    simp only [List.mem_cons,List.not_mem_nil,or_false] at hq
    rcases hq with rfl | rfl
    ·exact u5 (by omega) P1.clo
    ·exact a9i _ _
   have z:∀ τ:Sd,τ[5]? = some (some (bh k))→sZ (sA a0v (aj (sA yc (aj (sC (.str "stay")) d7)) (aj (sA yc (aj (sC (.str "shut")) d7)) (aj (sA yc (aj (sC (.str "open")) (aj (sV 5) d7))) (aj (sA yc (aj (sC (.str "turn")) (aj (sV 5) d7))) (aj (sA yc (aj (sC (.str "shut")) d7)) (aj (sA yc (aj (sC (.str "open")) (aj (sV 5) d7))) d7))))))) τ [u1, .lst (dsD ds)] = .ok (.rol (dsD (six k))) [u1, .lst (dsD ds)]:=fun τ h5 =>
    ug (SRC.awc (yz (yt (jf _ _ _) rfl) (yz (yt (jf _ _ _) rfl) (yz (zm (jf _ _ _) (bw h5) am4) (yz (zm (jf _ _ _) (bw h5) am4) (yz (yt (jf _ _ _) rfl) (yz (zm (jf _ _ _) (bw h5) am4) rfl)))))) rfl) (a9i _ (six k)) cl
   refine Eq.trans (jr (z _ rfl)) ?_
   unfold dsD
   rw [List.map_append]
   exact a6m (bw rfl) rfl (arg1 (jm (bw rfl) (zm (bw rfl) (jf _ _ _) (c2 _)) (aup (by rw [List.getElem?_map,gx];rfl)))) (a6n (xs:=dsD ds) rfl (by rw [List.length_map];exact a5m (by omega)))
  ·rcases List.mem_append.mp hq with z | z
   ·exact dk q z
   ·rw [List.mem_singleton] at z;subst z;exact wk
structure Mach where
 tg:List Nat
 ms:List (Table × List Deed)
abbrev vz (m:Table × List Deed):D:=.tup [.tup (m.1.go.map xu), .tup (m.1.ks.map D.int), .tup (dsD m.2)]
def Mach.d (M:Mach):D:=.tup [.str (S M.tg), .tup (M.ms.map vz)]
structure ModeOk (tg:List Nat) (n:Nat) (m:Table × List Deed):Prop where
 ok:m.1.Ok
 tg:m.1.tg=tg
 dl:m.2.length≤6
 kd:∀ k∈m.1.ks,k<(m.2.length:Int)
 dk:∀ x∈m.2,x.Ok n
 rc:∀ r,r<m.1.go.length→Rch m.1.go r
structure Mach.Ok (M:Mach):Prop where
 tong:Tongue M.tg
 n1:1≤M.ms.length
 n4:M.ms.length≤4
 mode:∀ m∈M.ms,ModeOk M.tg M.ms.length m
theorem ack (n:Nat) (m:Table × List Deed):MI.clo n (vz m):=iw (jb (iw (iu fun x _=>iw (gq _))) (jb (iw (iu fun x _=>ji x)) (jb (iw (a9i _ _)) sy)))
theorem ai0 (n:Nat) (ms:List (Table × List Deed)):clos n (ms.map vz):=iu fun m _=>ack n m
theorem Mach.clo (M:Mach) (n:Nat):MI.clo n M.d:=iw (jb (sr _) (jb (iw (ai0 _ _)) sy))
noncomputable def di:SF:=qu (xm jo jn ak) 8
abbrev τM (tg:List Nat) (most many:Nat) (i a b:Option D):Sd:=[some (.ref 0),some (.str (S tg)),some (bh most),some (bh many),some (.ref 1),i,a,b]
theorem aem {o:O} {N most:Nat} {tg:List Nat} (P:Pen o N) (hN:N≤999970000) (T1:Tongue tg) (m1:1≤most) (m32:most≤32) :
  ∃ (M:Mach) (o':O),M.Ok∧M.tg=tg∧Dr di 3 [.str (S tg),bh most] o M.d o'∧Pen o' (N+2000):=by
 obtain ⟨x,o1,x0,x1,P1,c1⟩:=tk (m:=4) P (by omega) (by omega) (by omega)
 obtain ⟨j,rfl⟩:=Int.eq_ofNat_of_zero_le x0
 let n:Nat:=1+j
 have en:(1:Int)+(j:Int)=((n:Nat):Int):=by show _=((1+j:Nat):Int);omega
 have hn1:1≤n:=by show 1≤1+j;omega
 have hn4:n≤4:=by show 1+j≤4;omega
 have lp:=u6 (g:=kN 5) (b:=vy jo jn ak) bh
  (fun pre τ h=>∃ (u:O) (ms:List (Table × List Deed)) (i a b:Option D),τ=τM tg most n i a b∧h=[u, .lst (ms.map vz)]∧Pen u (N+1+450*pre.length)∧ms.length=pre.length∧∀ m∈ms,ModeOk tg n m)
  (List.range n) (τM tg most n none none none) [o1, .lst []] ?_ ⟨o1,[],none,none,none,rfl,rfl,P1,rfl,by simp⟩
 ·obtain ⟨τ',h',e,u,ms,i,a,b,rfl,rfl,Pu,lm,mk⟩:=lp
  rw [List.length_range] at Pu lm
  have one:∀ x∈List.take 1 [u,O.lst (ms.map vz)],a1n 1 x:=by
   intro x hx
   rw [show List.take 1 [u,O.lst (ms.map vz)]=[u] from rfl,List.mem_singleton] at hx
   subst hx
   exact u5 (by omega) Pu.clo
  let M:Mach:=⟨tg,ms⟩
  refine ⟨M,u,⟨T1,by show 1≤ms.length;omega,by show ms.length≤4;omega,fun m hm=>by show ModeOk tg ms.length m;rw [lm];exact mk m hm⟩,rfl,Dr.of rfl (a5k (sr _) (ji _)) P.clo (r:=.ok M.d [u, .lst (ms.map vz)]) ?_ (jy (M.clo 1) one) (M.clo 0) Pu.clo,Pu.up (by omega)⟩
  unfold di
  rw [j7]
  show toR (xm jo jn ak [some (.ref 0),some (.str (S tg)),some (bh most),none,none,none,none,none] [o])=_
  unfold xm
  refine Eq.trans (congrArg toR (jr (jm (jf _ _ _) (zm (bw rfl) (jf _ _ _) (c1 _)) vg))) ?_
  rw [en]
  refine Eq.trans (congrArg toR (jr (d:=.ref 1) (h1:=[o1, .lst []]) rfl)) ?_
  refine Eq.trans (congrArg toR (a5l (a3l (n:=n) (bw rfl) (j5 (by omega))))) ?_
  refine Eq.trans (congrArg (fun z=>toR (MI.thn z _)) e) ?_
  rw [wy]
  exact congrArg toR (yq (zm (bw rfl) (yt (bw rfl) (show m9 [.ref 1] [u, .lst (ms.map vz)] = .ok (.tup (ms.map vz)) [u, .lst (ms.map vz)] from rfl)) am4))
 ·rintro pre x post τ h all ⟨u,ms,i,a,b,rfl,rfl,Pu,lm,mk⟩
  obtain ⟨rfl,hx⟩:=a81 all
  obtain ⟨T,u1,ok,et,_,rc,e1,P1⟩:=akm (tg:=tg) (most:=most) Pu (by omega) T1 m1 m32
  have ne:T.ks≠[]:=by intro z;have:=ok.k0;rw [z] at this;cases this
  obtain ⟨mi,mx⟩:=afp ne
  have mk':=ok.kk _ mi
  obtain ⟨l,hl⟩:=Int.eq_ofNat_of_zero_le (show 0≤mxI T.ks+1 by omega)
  obtain ⟨y,u2,y0,y1,P2,c2⟩:=tk (m:=7 - (l:Int)) P1 (by omega) (by omega) (by omega)
  obtain ⟨q,rfl⟩:=Int.eq_ofNat_of_zero_le y0
  obtain ⟨ds,u3,ld,dk,e3,P3⟩:=akn (size:=l+q) (many:=n) P2 (by omega) (by omega) hn1 hn4
  have d1:uf false 3 jn [.ref 0, .str (S tg),bh most] [u, .lst (ms.map vz)] = .ok T.d [u1, .lst (ms.map vz)]:=e1 0 _ rfl
  have d3:uf false 3 jo [.ref 0, .int ((l:Int)+(q:Int)),bh n] [u2, .lst (ms.map vz)] = .ok (.tup (dsD ds)) [u3, .lst (ms.map vz)]:=by
   have:=e3 0 [u2, .lst (ms.map vz)] rfl
   rwa [show bh (l+q)=D.int ((l:Int)+(q:Int)) by show D.int ((l+q:Nat):Int)=_;congr 1] at this
  refine ⟨_,_,rfl,τM tg most n (some (bh pre.length)) (some T.d) (some (bh l)),[u3, .lst ((ms++[(T,ds)]).map vz)],?_,u3,ms++[(T,ds)],_,_,_,rfl,rfl,P3.up (by rw [List.length_append,List.length_singleton];omega),by rw [List.length_append,List.length_append,lm];rfl,fun m hm=>?_⟩
  ·unfold vy
   refine Eq.trans (jr (ahp (bw rfl) (bw rfl) (bw rfl) d1)) ?_
   have i2:∀ hh:Hd,gIx T.d (.int 2) hh = .ok (.tup (T.ks.map D.int)) hh:=fun hh=>acg (j:=2) rfl
   have i1:∀ hh:Hd,gIx T.d (.int 1) hh = .ok (.tup (T.go.map xu)) hh:=fun hh=>acg (j:=1) rfl
   refine Eq.trans (jr (jm (yt (jm (bw rfl) (jf _ _ _) (i2 _)) (als ne)) (jf _ _ _) vg)) ?_
   rw [hl,List.map_append]
   exact a6m (bw rfl) rfl (arg1 (ahp (jm (bw rfl) (jf _ _ _) (i1 _)) (jm (bw rfl) (jf _ _ _) (i2 _)) (ahp (bw rfl) (jm (bw rfl) (zm (bw rfl) (jm (jf _ _ _) (bw rfl) (am3 _ _)) (c2 _)) vg) (bw rfl) d3) atk)) (a6n (xs:=ms.map vz) rfl (by rw [List.length_map];exact a5m (by omega)))
  ·rcases List.mem_append.mp hm with z | z
   ·exact mk m z
   ·rw [List.mem_singleton] at z;subst z
    exact ⟨ok,et,by show ds.length≤6;omega,fun k hk=>by have:=mx k hk;show k<(ds.length:Int);rw [ld];omega,dk,rc⟩
end PN
namespace PN
open PySem PySem.Spec L2 MI AT HND EVX K22 K23 K21
end PN
namespace K35
open PySem PySem.Spec L2 MI
end K35
namespace K34
open PySem PySem.Spec L2 MI
end K34
namespace K34
open PySem PySem.Spec L2 MI AT HND EVX K22 K23 K21
end K34
namespace K34
open PySem PySem.Spec L2 MI AT HND EVX K22 K23 K21
end K34
namespace K35
open PySem PySem.Spec L2 MI AT HND EVX K22 K23 K21
end K35
namespace K69
open PySem PySem.Spec L2 MI AT HND EVX K22 K23 K21 PN
section
variable {M:Mach}
def tb (M:Mach) (m:Nat):Table:=((M.ms[m]?).map (·.1)).getD ⟨M.tg,[],[]⟩
def dd (M:Mach) (m:Nat):List Deed:=((M.ms[m]?).map (·.2)).getD []
theorem atw (hh:Hd):gIx M.d (.int 1) hh = .ok (.tup (M.ms.map vz)) hh:=acg (j:=1) rfl
theorem ai1 {a:D} (ha:MI.clo 0 a):∀ x∈[a],MI.clo 0 x:=by intro x hx;rw [List.mem_singleton] at hx;subst hx;exact ha
noncomputable def ie:SF:=qu oh 3
theorem a5o (h:M.Ok):Pu ie 1 [M.d] (.rol (M.ms.map fun m=>m.1.d)):=by
 have cl:∀ n,clos n (M.ms.map fun m=>m.1.d):=fun n=>iu fun m _=>agr (Nat.zero_le _) Table.clo
 refine Pu.of rfl (ai1 (M.clo 0)) (r:=.ok (.ref 0) [.lst (M.ms.map fun m=>m.1.d)]) ?_ (a7l (Nat.zero_le _) rfl (cl _) (by simp)) (a1q (cl 0))
 unfold ie
 rw [j7]
 show toR (oh [some M.d,none,none] [])=_
 unfold oh
 have as:a88 (sV 0) (a3x 2 (jx (kN 1) (jx (kN 2) a4p))) [some M.d,none,none] [] = .nx [some M.d,some (.str (S M.tg)),some (.tup (M.ms.map vz))] []:=akb (bw rfl) rfl
 refine Eq.trans (congrArg toR (a1x as)) ?_
 have n4:=h.n4
 refine congrArg toR (yq (ud vz (fun m=>m.1.d) M.ms (a5u (bw rfl) rfl) (j5 (by omega)) fun m hm=>?_))
 show mq [some (.tup (m.1.go.map xu)),some (.tup (m.1.ks.map D.int)),some (.tup (dsD m.2)),some (.str (S M.tg))] []=_
 unfold mq
 refine (ahp (bw rfl) (bw rfl) (bw rfl) atk).trans ?_
 show R.ok (D.tup [.str (S M.tg), .tup (m.1.go.map xu), .tup (m.1.ks.map D.int)]) []=R.ok (D.tup [.str (S m.1.tg),_,_]) []
 rw [(h.mode m hm).tg]
end
end K69
namespace K69
open PySem PySem.Spec L2 MI AT HND EVX K22 K23 K21 PN
end K69
namespace K69
open PySem PySem.Spec L2 MI AT HND EVX K22 K23 K21 PN
end K69
namespace K69
open PySem PySem.Spec L2 MI AT HND EVX K22 K23 K21 PN
end K69
namespace K69
open PySem PySem.Spec L2 MI AT HND EVX K22 K23 K21 PN
theorem atx {F:SF} {n:Nat} {ds:List D} {b:Bool} (hn:ds.length=n) (ca:∀ x∈ds,MI.clo 0 x) (e:F ds [] = .ok (.bl b) []):Pu F n ds (.bl b):=Pu.of hn ca e (jy (a90 _) (by simp)) (a90 _)
theorem tys (τ:Sd) (h:Hd):sA MI.yc (aj (sC (.ty "list")) (aj (sC (.ty "tuple")) d7)) τ h = .ok (.tup [.ty "list", .ty "tuple"]) h:=zm (jf _ _ _) (jf _ _ _) am4
theorem aty (b:Bool) (h:Hd):hNe (.bl b) (.bl b) h = .ok (.bl false) h:=by
 unfold hNe
 rw [if_pos ⟨rfl,rfl⟩]
 cases b<;>rfl
theorem acl:∀ xs:List D,(xs.zip xs).map (fun p=>D.tup [p.1,p.2])=xs.map fun x=>.tup [x,x]
 | []=>rfl
 | x::xs=>by rw [List.zip_cons_cons,List.map_cons,List.map_cons,acl xs]
end K69
namespace K40
open PySem PySem.Spec L2 MI
end K40
namespace K40
open PySem PySem.Spec L2 MI AT HND EVX K22 K23 K21
section
variable {τ:Sd} {h h1 h2:Hd} {c1 c2:ST} {f g k:SE} {p q:SS}
theorem awf {a b:Bool} (e1:c1 τ h = .ok a h) (e2:a=true→c2 τ h = .ok b h):aa3 c1 c2 τ h = .ok (a && b) h:=by
 cases a with
 | true=>rw [ayp e1 (e2 rfl)];rfl
 | false=>rw [ayq e1];rfl
theorem orB {a b:Bool} (e1:c1 τ h = .ok a h) (e2:a=false→c2 τ h = .ok b h):sOr c1 c2 τ h = .ok (a || b) h:=by
 cases a with
 | true=>rw [orT e1];rfl
 | false=>rw [orF e1 (e2 rfl)];rfl
theorem auq (x y:Int):gGe (.int x) (.int y) h = .ok (.bl (decide (y≤x))) h:=rfl
theorem axg (x y:Int):gLt (.int x) (.int y) h = .ok (.bl (decide (x<y))) h:=rfl
theorem ayu (x y:Int):hEq (.int x) (.int y) h = .ok (.bl (decide (x=y))) h:=by
 by_cases c:x=y
 ·rw [akc c,decide_eq_true c]
 ·rw [akd c,decide_eq_false c]
theorem axh (x y:Int):hNe (.int x) (.int y) h = .ok (.bl (decide (x≠y))) h:=by
 by_cases c:x=y
 ·rw [ap9 c,decide_eq_false (by simpa using c)]
 ·rw [atj c,decide_eq_true c]
end
section
variable {T:Table}
def rw' (T:Table) (r:Nat):List Nat:=(T.go[r]?).getD []
theorem a82 (h:T.Ok) {r:Nat} (hr:r<T.go.length):T.go[r]? = some (rw' T r)∧(rw' T r).length≤6∧∀ x∈rw' T r,x<T.go.length:=by
 have e:T.go[r]? = some (rw' T r):=by unfold rw';rw [List.getElem?_eq_getElem hr];rfl
 obtain ⟨a,b⟩:=h.row _ (List.mem_of_getElem? e)
 exact ⟨e,by have:=h.tong.hi;omega,b⟩
theorem apm (h:T.Ok) {r:Nat} (hr:r<T.go.length) (hh:Hd):gIx (.tup (T.go.map xu)) (bh r) hh = .ok (xu (rw' T r)) hh:=acg (by rw [List.getElem?_map,(a82 h hr).1];rfl)
theorem a6s (h:T.Ok) {r:Nat} (hr:r<T.go.length) : -1≤kI T r:=by
 obtain ⟨k,e,k1,_⟩:=akh h hr
 unfold kI;rw [e];exact k1
end
end K40
namespace K40
open PySem PySem.Spec L2 MI AT HND EVX K22 K23 K21
section
variable {T:Table}
theorem ai1 {a:D} (ha:MI.clo 0 a):∀ x∈[a],MI.clo 0 x:=by intro x hx;rw [List.mem_singleton] at hx;subst hx;exact ha
end
end K40
namespace K40
open PySem PySem.Spec L2 MI AT HND EVX K22 K23 K21
end K40
namespace K40
open PySem PySem.Spec L2 MI AT HND EVX K22 K23 K21
theorem axi {fi:SI} {G:SG} {b:SS} {xs:List D} {ck:Hd→Prop} {τ:Sd} {h h1:Hd} (e:fi τ h = .ok ⟨xs,ck⟩ h1):a4q fi G b τ h=forL ck G b xs τ h1:=by
 unfold a4q
 rw [e]
 rfl
section
variable {T:Table}
def bg (bs:List Bool) (i:Nat):Bool:=(bs[i]?).getD false
theorem atz {bs:List Bool} {i:Nat} (hi:i<bs.length):(bs.map D.bl)[i]? = some (.bl (bg bs i)):=by unfold bg;rw [List.getElem?_map,List.getElem?_eq_getElem hi];rfl
abbrev HB (bs:List Bool):Hd:=[.lst (bs.map D.bl)]
theorem au0 (bs:List Bool) (i:Nat):(bs.map D.bl).set i (.bl true)=(bs.set i true).map D.bl:=by rw [List.map_set]
end
end K40
namespace K40
open PySem PySem.Spec L2 MI AT HND EVX K22 K23 K21
section
variable {T:Table}
theorem ue (p:Nat→Bool):∀ l:List Nat,(l.filterMap fun i=>if p i=true then some (bh i) else none)=(l.filter p).map bh
 | []=>rfl
 | i::l=>by
  cases h:p i with
  | true=>rw [List.filterMap_cons_some (b:=bh i) (by rw [h];rfl),List.filter_cons_of_pos h,ue p l];rfl
  | false=>rw [List.filterMap_cons_none (by rw [h];rfl),List.filter_cons_of_neg (by rw [h];simp),ue p l]
end
end K40
namespace K22
open PySem PySem.Spec L2 MI AT HND
section
variable {T:Table}
noncomputable def d9:SF:=qu (qz dj) 1
noncomputable def qb:SF:=qu (a3h d9) 1
abbrev acn (T:Table):List D:=(List.range T.go.length).map (A T)
abbrev aco (T:Table):List D:=(List.range T.go.length).map fun r=>.bl (!xg (A T r))
theorem a5p (n:Nat):clos n (acn T):=iu fun r _=>apf _ _
theorem a3m (n:Nat):clos n (aco T):=iu fun r _=>a90 _
theorem au1:∀ x∈[T.d],clo 0 x:=by
 intro x hx
 rw [List.mem_singleton] at hx
 subst hx
 exact Table.clo
theorem T1 (hh:Hd):gIx T.d (.int 1) hh = .ok (.tup (T.go.map xu)) hh:=acg (j:=1) rfl
theorem axj (hh:Hd):yu [.tup (T.go.map xu)] hh = .ok (.int (T.go.length:Nat)) hh:=by rw [a0r,List.length_map]
theorem a83 (h:T.Ok):Pu d9 1 [T.d] (.tup (acn T)):=by
 have n32:=h.n32
 refine Pu.of rfl au1 (r:=.ok (.tup (acn T)) []) ?_ (jy (iw (a5p _)) (by simp)) (iw (a5p _))
 unfold d9
 rw [j7]
 show toR (qz dj [some T.d] [])=_
 unfold qz
 have cz:sZ (m7 (sRg zx (aj (sA yu (aj (s2 gIx (sV 0) (sC (.int 1))) d7)) d7)) t1 (u9 dj) [0]) [some T.d] [] = .ok (.rol (acn T)) []:=by
  refine ug (ud (fun r:Nat=>D.int (r:Nat)) (A T) (List.range T.go.length) (a3l (yt (jm (bw rfl) (jf _ _ _) (T1 _)) (axj _)) (j5 (by omega))) (j5 (by rw [List.length_range];omega)) fun r hr=>?_) (a5p _) (by simp)
  rw [yp]
  exact zm (bw rfl) (bw rfl) (a9h h (List.mem_range.mp hr) _)
 exact congrArg toR (yq (yt cz rfl))
theorem a1b (h:T.Ok):Pu qb 1 [T.d] (.tup (aco T)):=by
 have n32:=h.n32
 refine Pu.of rfl au1 (r:=.ok (.tup (aco T)) []) ?_ (jy (iw (a3m _)) (by simp)) (iw (a3m _))
 unfold qb
 rw [j7]
 show toR (a3h d9 [some T.d] [])=_
 unfold a3h
 have cz:sZ (m7 (sIt (sA (uf false 1 d9) (aj (sV 0) d7))) t1 (a0y d9) []) [some T.d] [] = .ok (.rol (aco T)) []:=by
  refine ug (ud (A T) (fun r=>.bl (!xg (A T r))) (List.range T.go.length) (a5u (yt (bw rfl) (a83 h _)) rfl) (j5 (by rw [List.length_range];omega)) fun r hr=>?_) (a3m _) (by simp)
  rw [yp]
  exact jm (bw rfl) (jf _ _ _) (yo _)
 exact congrArg toR (yq (yt cz rfl))
end
end K22
namespace MI
open PySem PySem.Spec L2 SRC HND
theorem ai2 {l:List Nat} {y:Nat}:(y:Int)∈cst l↔y∈l:=by
 unfold cst
 rw [List.mem_map]
 constructor
 ·rintro ⟨x,hx,e⟩;have:x=y:=by omega
  subst this;exact hx
 ·intro h;exact ⟨y,h,rfl⟩
theorem a9j (l:List Nat) (y:Nat):stepK (cst l) (y:Int)=cst (stepK l y):=by
 unfold L2.stepK
 by_cases h:y∈l
 ·rw [if_pos h,if_pos (ai2.mpr h)]
 ·rw [if_neg h,if_neg fun z=>h (ai2.mp z)]
  unfold cst;rw [List.map_append];rfl
structure Fw (n:Nat) (l:List Nat):Prop where
 nd:l.Nodup
 lt:∀ x∈l,x<n
theorem Fw.nil {n:Nat}:Fw n []:=⟨List.nodup_nil,by simp⟩
theorem Fw.len {n:Nat} {l:List Nat} (h:Fw n l):l.length≤n:=BF.a4c n l h.nd h.lt
theorem Fw.step {n x:Nat} {l:List Nat} (M:Fw n l) (hx:x<n):Fw n (stepK l x):=by
 unfold L2.stepK
 by_cases h:x∈l
 ·rw [if_pos h];exact M
 rw [if_neg h]
 refine ⟨?_,fun y hy=>?_⟩
 ·rw [List.nodup_append]
  refine ⟨M.nd,by simp,fun a ha b hb=>?_⟩
  rw [List.mem_singleton] at hb
  subst hb
  exact fun e=>h (e ▸ ha)
 ·rcases List.mem_append.mp hy with z | z
  ·exact M.lt y z
  ·rw [List.mem_singleton] at z;subst z;exact hx
theorem ako {l:List Nat} {x y:Nat}:y∈stepK l x↔y∈l∨y=x:=by
 unfold L2.stepK
 by_cases h:x∈l
 ·rw [if_pos h]
  exact ⟨.inl,fun z=>z.elim id fun e=>e ▸ h⟩
 ·rw [if_neg h,List.mem_append,List.mem_singleton]
theorem Fw.fold {n:Nat}:∀ {r l:List Nat},Fw n l→(∀ x∈r,x<n)→Fw n (r.foldl stepK l)
 | [],_,h,_=>h
 | x::r,l,h,k=>Fw.fold (r:=r) (h.step (k x List.mem_cons_self)) fun y hy=>k y (List.mem_cons_of_mem _ hy)
theorem a84 {y:Nat}:∀ {r l:List Nat},y∈r.foldl stepK l↔y∈l∨y∈r
 | [],l=>by simp
 | x::r,l=>by
  rw [List.foldl_cons,a84 (r:=r),ako,List.mem_cons]
  constructor
  ·rintro ((h | h) | h)
   ·exact .inl h
   ·exact .inr (.inl h)
   ·exact .inr (.inr h)
  ·rintro (h | h | h)
   ·exact .inl (.inl h)
   ·exact .inl (.inr h)
   ·exact .inr h
theorem a9k {n:Nat} (hn:n≤60) {x:D} {rd:Sd} {h:Hd}:∀ {r l:List Nat},Fw n l→(∀ y∈r,y<n)→setIn (fun _=>True) (sV 1) x rd (r.map bh) (cst l) h = .ok (cst (r.foldl stepK l)) h
 | [],l,_,_=>by rw [List.map_nil,setIn,if_pos True.intro];rfl
 | y::r,l,M,k=>by
  rw [List.map_cons,setIn,if_pos True.intro]
  have e:sV 1 (some x::some (bh y)::rd) h = .ok (bh y) h:=bw rfl
  rw [e,bx]
  have hl:=M.len
  show (if (cst l).length<63 then setIn (fun _=>True) (sV 1) x rd (r.map bh) (stepK (cst l) (y:Int)) h else .no)=_
  rw [if_pos (by unfold cst;rw [List.length_map];omega),a9j]
  exact a9k hn (M.step (k y List.mem_cons_self)) fun z hz=>k z (List.mem_cons_of_mem _ hz)
theorem a6t {n:Nat} (hn:n≤60) {fj:SI} {rd:Sd} {h:Hd} {α:Type} (g:α→D) (row:α→List Nat):∀ {xs:List α} {l:List Nat},Fw n l→(∀ x∈xs,∀ y∈row x,y<n)→(∀ x∈xs,fj (some (g x)::none::rd) h = .ok ⟨(row x).map bh,fun _=>True⟩ h) →
  a1g (fun _=>True) fj (sV 1) rd (xs.map g) (cst l) h = .ok (cst (xs.foldl (fun l x=>(row x).foldl stepK l) l)) h
 | [],l,_,_,_=>by rw [List.map_nil,a1g,if_pos True.intro];rfl
 | x::xs,l,M,k,e=>by
  rw [List.map_cons,a1g,if_pos True.intro,e x List.mem_cons_self,bx]
  dsimp only
  have kx:=k x List.mem_cons_self
  rw [a9k hn M kx,bx]
  exact a6t hn g row (M.fold kx) (fun z hz=>k z (List.mem_cons_of_mem _ hz)) fun z hz=>e z (List.mem_cons_of_mem _ hz)
theorem Fw.folds {n:Nat} {α:Type} (row:α→List Nat):∀ {xs:List α} {l:List Nat},Fw n l→(∀ x∈xs,∀ y∈row x,y<n)→Fw n (xs.foldl (fun l x=>(row x).foldl stepK l) l)
 | [],_,h,_=>h
 | x::xs,l,h,k=>Fw.folds row (xs:=xs) (h.fold (k x List.mem_cons_self)) fun y hy=>k y (List.mem_cons_of_mem _ hy)
theorem a9l {y:Nat} {α:Type} (row:α→List Nat):∀ {xs:List α} {l:List Nat},y∈xs.foldl (fun l x=>(row x).foldl stepK l) l↔y∈l∨∃ x∈xs,y∈row x
 | [],l=>by simp
 | x::xs,l=>by
  rw [List.foldl_cons,a9l row (xs:=xs),a84]
  constructor
  ·rintro ((h | h) | ⟨z,hz,h⟩)
   ·exact .inl h
   ·exact .inr ⟨x,List.mem_cons_self,h⟩
   ·exact .inr ⟨z,List.mem_cons_of_mem _ hz,h⟩
  ·rintro (h | ⟨z,hz,h⟩)
   ·exact .inl (.inl h)
   ·rcases List.mem_cons.mp hz with rfl | hz
    ·exact .inl (.inr h)
    ·exact .inr ⟨z,hz,h⟩
theorem akp {fi fj:SI} {ix:List Nat} {τ:Sd} {h:Hd} {α:Type} (g:α→D) (xs:List α) (row:α→List Nat) {n:Nat} (hn:n≤60) (e:fi τ h = .ok ⟨xs.map g,fun _=>True⟩ h)
  (ej:∀ x∈xs,fj (some (g x)::none::frs' ix τ) h = .ok ⟨(row x).map bh,fun _=>True⟩ h) (lt:∀ x∈xs,∀ y∈row x,y<n) :
  ∃ ts:List Nat,Fw n ts∧ts.Pairwise (·≤·)∧(∀ y,y∈ts↔∃ x∈xs,y∈row x)∧ak3 fi fj (sV 1) ix τ h = .ok (.ref h.length) (h++[.lst (ts.map bh)]):=by
 obtain ⟨m,em,pm,sm⟩:=a6p (xs.foldl (fun l x=>(row x).foldl stepK l) [])
 have F:=Fw.folds row (l:=[]) (n:=n) .nil lt
 refine ⟨m,⟨pm.nodup_iff.mpr F.nd,fun x hx=>F.lt x (pm.mem_iff.mp hx)⟩,sm,fun y=>?_,?_⟩
 ·rw [pm.mem_iff,a9l];simp
 ·unfold ak3
  rw [e,bx]
  dsimp only
  have:=a6t hn (fj:=fj) (rd:=frs' ix τ) (h:=h) g row (xs:=xs) (l:=[]) .nil lt ej
  rw [show cst []=([]:List Int) from rfl] at this
  rw [this,bx]
  unfold aii
  have fl:=F.len
  rw [if_pos (by unfold cst;rw [List.length_map];omega),em,← aas]
end MI
namespace RCH
open PySem PySem.Spec L2 MI AT HND EVX K22 K23 K21 K40
def cnt (n:Nat) (p:Nat→Bool):Nat:=((List.range n).filter p).length
theorem a9m {p q:Nat→Bool}:∀ {l:List Nat},(∀ x∈l,p x=true→q x=true)→(∃ x∈l,q x=true∧p x=false)→(l.filter p).length<(l.filter q).length
 | [],_,⟨_,h,_⟩=>by simp at h
 | x::l,h,⟨y,hy,q1,p1⟩=>by
  have le:(l.filter p).length≤(l.filter q).length:=by
   clear hy q1 p1 y
   induction l with
   | nil=>simp
   | cons z l ih =>
    have ih:=ih fun y hy=>h y (by simp only [List.mem_cons] at hy ⊢;rcases hy with e | e<;>simp [e])
    have hz:=h z (by simp)
    rw [List.filter_cons,List.filter_cons]
    cases e1:p z with
    | true=>rw [hz e1];simp only [if_true,List.length_cons];omega
    | false=>cases q z<;>simp<;>omega
  rw [List.filter_cons,List.filter_cons]
  rcases List.mem_cons.mp hy with rfl | hy
  ·rw [q1,p1];simp only [if_true,Bool.false_eq_true,if_false,List.length_cons];omega
  ·have lt:=a9m (l:=l) (fun z hz=>h z (List.mem_cons_of_mem _ hz)) ⟨y,hy,q1,p1⟩
   cases e1:p x with
   | true=>rw [h x List.mem_cons_self e1];simp only [if_true,List.length_cons];omega
   | false=>cases q x<;>simp<;>omega
theorem rest {n:Nat} {P:Nat→Nat→Bool} (anti:∀ k x,x<n→P (k+1) x=true→P k x=true) (det:∀ k,(∀ x,x<n→P k x=P (k+1) x)→∀ x,x<n→P (k+1) x=P (k+2) x):∀ k x,x<n→P n x=true→P (n+k) x=true:=by
 have key:∀ k,cnt n (P k)≤n - k∨∃ j,j≤k∧∀ x,x<n→P j x=P (j+1) x:=by
  intro k
  induction k with
  | zero=>exact .inl (by unfold cnt;exact Nat.le_trans (List.length_filter_le _ _) (by simp))
  | succ k ih =>
   rcases ih with ih | ⟨j,hj,e⟩
   ·by_cases c:∃ x∈List.range n,P k x=true∧P (k+1) x=false
    ·have:=a9m (p:=P (k+1)) (q:=P k) (l:=List.range n) (fun x hx=>anti k x (List.mem_range.mp hx)) c
     exact .inl (by unfold cnt at ih ⊢;omega)
    ·refine .inr ⟨k,Nat.le_succ _,fun x hx=>?_⟩
     cases e1:P k x with
     | true =>
      cases e2:P (k+1) x with
      | true=>rfl
      | false=>exact (c ⟨x,List.mem_range.mpr hx,e1,e2⟩).elim
     | false =>
      cases e2:P (k+1) x with
      | true=>rw [anti k x hx e2] at e1;cases e1
      | false=>rfl
   ·exact .inr ⟨j,Nat.le_succ_of_le hj,e⟩
 have stay:∀ j,(∀ x,x<n→P j x=P (j+1) x)→∀ k x,x<n→P (j+k) x=P j x:=by
  intro j e k
  have step:∀ k x,x<n→P (j+k) x=P (j+k+1) x:=by
   intro k
   induction k with
   | zero=>exact e
   | succ k ih=>exact det _ ih
  induction k with
  | zero=>intro x _;rfl
  | succ k ih=>intro x hx;rw [← ih x hx];exact (step k x hx).symm
 intro k x hx h
 rcases key n with z | ⟨j,hj,e⟩
 ·have:x∈(List.range n).filter (P n):=List.mem_filter.mpr ⟨List.mem_range.mpr hx,h⟩
  have:=List.length_pos_of_mem this
  unfold cnt at z
  omega
 ·have e1:=stay j e (n - j) x hx
  have e2:=stay j e (n - j+k) x hx
  rw [show j+(n - j)=n by omega] at e1
  rw [show j+(n - j+k)=n+k by omega] at e2
  rw [e2,← e1];exact h
section
variable {T:Table}
def hp (T:Table) (x:Nat):Bool := !xg (A T x)
theorem au2 (h:T.Ok) {r:Nat} (hr:r<T.go.length):rw' T r=(List.range T.tg.length).map (stp T r):=by unfold rw';rw [awe h hr];rfl
theorem ai3 (h:T.Ok) {r x:Nat} (hr:r<T.go.length):x∈rw' T r↔∃ c,c<T.tg.length∧stp T r c=x:=by
 rw [au2 h hr,List.mem_map]
 exact ⟨fun ⟨c,hc,e⟩=>⟨c,List.mem_range.mp hc,e⟩,fun ⟨c,hc,e⟩=>⟨c,List.mem_range.mpr hc,e⟩⟩
theorem a5q (h:T.Ok) {r k:Nat} (hr:r<T.go.length):FL T (k+1) r=true↔∃ x∈rw' T r,FL T k x=true:=by
 show ((List.range T.tg.length).any fun c=>FL T k (stp T r c))=true↔_
 rw [List.any_eq_true]
 constructor
 ·rintro ⟨c,hc,e⟩;exact ⟨_,(ai3 h hr).mpr ⟨c,List.mem_range.mp hc,rfl⟩,e⟩
 ·rintro ⟨x,hx,e⟩
  obtain ⟨c,hc,rfl⟩:=(ai3 h hr).mp hx
  exact ⟨c,List.mem_range.mpr hc,e⟩
theorem a85 {r:Nat} (e:hp T r=true):∃ k,k<T.go.length∧FL T (k+1) r=true:=by
 unfold hp A at e
 cases q:aki T r with
 | none=>rw [q] at e;simp [xg] at e
 | some i =>
  unfold aki at q
  obtain ⟨fi,hi,_⟩:=List.find?_range_eq_some.mp q
  exact ⟨i,by simpa using hi,by rw [Nat.add_comm];exact fi⟩
theorem akq (h:T.Ok) {r k:Nat} (hr:r<T.go.length) (f:FL T (k+1) r=true):hp T r=true:=by
 obtain ⟨d,_,_,q⟩:=a2q h hr
 have e:=am9 h q
 rcases q with ⟨w,_,_,_,_,ew⟩ | ⟨_,no⟩
 ·unfold hp;rw [← e,ew];rfl
 ·obtain ⟨gl,go,gh⟩:=BF.a9f f
  exact (no _ go ⟨fun z=>by
   have:=congrArg List.length z
   simp [gl] at this,gh⟩).elim
theorem a86 (h:T.Ok) {r:Nat} (hr:r<T.go.length):FL T 0 r=true↔kI T r ≠ -1:=by
 show knd T r=true↔_
 obtain ⟨k,e,_,kd⟩:=akh h hr
 unfold kI
 rw [kd,e]
 simp
theorem apn (h:T.Ok) {r:Nat} (hr:r<T.go.length):hp T r=true↔∃ x∈rw' T r,kI T x ≠ -1∨hp T x=true:=by
 obtain ⟨_,_,rx⟩:=a82 h hr
 constructor
 ·intro e
  obtain ⟨k,_,f⟩:=a85 e
  obtain ⟨x,hx,fx⟩:=(a5q h hr).mp f
  cases k with
  | zero=>exact ⟨x,hx, .inl ((a86 h (rx x hx)).mp fx)⟩
  | succ k=>exact ⟨x,hx, .inr (akq h (rx x hx) fx)⟩
 ·rintro ⟨x,hx,e | e⟩
  ·exact akq (k:=0) h hr ((a5q h hr).mpr ⟨x,hx,(a86 h (rx x hx)).mpr e⟩)
  ·obtain ⟨k,_,f⟩:=a85 e
   exact akq (k:=k+1) h hr ((a5q h hr).mpr ⟨x,hx,f⟩)
def gd (T:Table) (x:Nat):Bool:=decide (kI T x = -1) && hp T x
def Lam (T:Table) (st:List Nat):Nat→Nat→Prop
 | 0,x=>x∈st
 | k+1,x=>(∃ r,Lam T st k r∧x∈rw' T r)∧gd T x=true
def Led (T:Table) (st:List Nat) (k x:Nat):Prop:=∃ r,Lam T st k r∧x∈rw' T r
def Kn (T:Table) (st:List Nat) (k:Nat):Prop:=∃ x,Led T st k x∧kI T x ≠ -1
open Classical in
noncomputable def Mx (T:Table) (st:List Nat):Nat→Nat
 | 0=>0
 | k+1=>if Kn T st k then k+1 else Mx T st k
theorem acp (h:T.Ok) {st:List Nat} (hs:∀ x∈st,x<T.go.length):∀ {k x:Nat},Lam T st k x→x<T.go.length
 | 0,x,q=>hs x q
 | k+1,x,⟨⟨r,q,hx⟩,_⟩=>(a82 h (acp h hs q)).2.2 x hx
theorem apo {st:List Nat}:∀ k,Mx T st k≤k
 | 0=>Nat.le_refl _
 | k+1=>by
  have:=apo (st:=st) k
  unfold Mx
  split<;>omega
def Dp (T:Table):Nat→Nat→Bool
 | 0,_=>true
 | k+1,x=>(rw' T x).any fun y=>gd T y && Dp T k y
theorem aav:∀ k x,Dp T (k+1) x=true→Dp T k x=true
 | 0,_,_=>rfl
 | k+1,x,e=>by
  simp only [Dp,List.any_eq_true,Bool.and_eq_true] at e ⊢
  obtain ⟨y,hy,g,y2,hy2,g2,d⟩:=e
  refine ⟨y,hy,g,aav k y ?_⟩
  simp only [Dp,List.any_eq_true,Bool.and_eq_true]
  exact ⟨y2,hy2,g2,d⟩
theorem au3 (h:T.Ok) (k:Nat) (e:∀ x,x<T.go.length→Dp T k x=Dp T (k+1) x) (x:Nat) (hx:x<T.go.length):Dp T (k+1) x=Dp T (k+2) x:=by
 show (rw' T x).any _=(rw' T x).any _
 obtain ⟨_,_,rx⟩:=a82 h hx
 rw [Bool.eq_iff_iff,List.any_eq_true,List.any_eq_true]
 constructor
 ·rintro ⟨y,hy,q⟩;exact ⟨y,hy,by rw [← e y (rx y hy)];exact q⟩
 ·rintro ⟨y,hy,q⟩;exact ⟨y,hy,by rw [e y (rx y hy)];exact q⟩
theorem au4 (h:T.Ok) {x:Nat} (hx:x<T.go.length) (d:Dp T T.go.length x=true) (k:Nat):Dp T (T.go.length+k) x=true:=rest (P:=Dp T) (fun k x _=>aav k x) (au3 h) k x hx d
theorem ai4 {st:List Nat}:∀ {k j:Nat},(∃ x,Lam T st (j+k) x)↔∃ r,Lam T st j r∧Dp T k r=true
 | 0,j=>⟨fun ⟨x,q⟩=>⟨x,q,rfl⟩,fun ⟨r,q,_⟩=>⟨r,q⟩⟩
 | k+1,j=>by
  rw [show j+(k+1)=(j+1)+k by omega,ai4 (k:=k) (j:=j+1)]
  constructor
  ·rintro ⟨y,⟨⟨r,q,hy⟩,g⟩,d⟩
   refine ⟨r,q,?_⟩
   simp only [Dp,List.any_eq_true,Bool.and_eq_true]
   exact ⟨y,hy,g,d⟩
  ·rintro ⟨r,q,d⟩
   simp only [Dp,List.any_eq_true,Bool.and_eq_true] at d
   obtain ⟨y,hy,g,d⟩:=d
   exact ⟨y,⟨⟨r,q,hy⟩,g⟩,d⟩
theorem au5 (h:T.Ok) {st:List Nat} (hs:∀ x∈st,x<T.go.length) (e:∃ x,Lam T st T.go.length x) (k:Nat):∃ x,Lam T st k x:=by
 obtain ⟨r,q,d⟩:=(ai4 (T:=T) (k:=T.go.length) (j:=0)).mp (by rw [Nat.zero_add];exact e)
 have d':Dp T k r=true:=by
  have:=au4 h (hs r q) d k
  clear d
  revert this
  generalize T.go.length=n
  intro this
  induction n with
  | zero=>rwa [Nat.zero_add] at this
  | succ n ih=>exact ih (aav _ _ (by rw [show n+k+1=n+1+k by omega];exact this))
 have:=(ai4 (T:=T) (k:=k) (j:=0)).mpr ⟨r,q,d'⟩
 rwa [Nat.zero_add] at this
theorem acq {st:List Nat} {k:Nat} (e:¬ ∃ x,Lam T st k x):∀ j,¬ ∃ x,Lam T st (k+j) x
 | 0=>e
 | j+1=>fun ⟨x,⟨r,q,_⟩,_⟩=>acq e j ⟨r,q⟩
theorem aaw {st:List Nat} {k:Nat} (e:¬ ∃ x,Lam T st k x):∀ j,Mx T st (k+j)=Mx T st k
 | 0=>rfl
 | j+1=>by
  show Mx T st (k+j+1)=_
  rw [Mx,if_neg,aaw e j]
  rintro ⟨x,⟨r,q,_⟩,_⟩
  exact acq e j ⟨r,q⟩
theorem ai5 {st:List Nat} {k:Nat}:∀ {j:Nat},Mx T st k≤Mx T st (k+j)
 | 0=>Nat.le_refl _
 | j+1=>by
  have:=ai5 (st:=st) (k:=k) (j:=j)
  have l:=apo (T:=T) (st:=st) (k+j)
  show _≤Mx T st (k+j+1)
  rw [Mx]
  split<;>omega
theorem akr {st:List Nat} {k:Nat} (e:Kn T st k):Mx T st (k+1)=k+1:=by unfold Mx;rw [if_pos e]
theorem au6 (h:T.Ok) {st:List Nat} (hs:∀ x∈st,x<T.go.length):∀ {k m x:Nat},Lam T st m x→FL T (k+1) x=true→∃ j,m≤j∧j≤m+k∧Kn T st j
 | k,m,x,q,f=>by
  have hx:=acp h hs q
  obtain ⟨_,_,rx⟩:=a82 h hx
  obtain ⟨y,hy,fy⟩:=(a5q h hx).mp f
  by_cases c:kI T y = -1
  ·cases k with
   | zero=>exact absurd c ((a86 h (rx y hy)).mp fy)
   | succ k =>
    have g:gd T y=true:=by unfold gd;rw [decide_eq_true c,akq h (rx y hy) fy];rfl
    obtain ⟨j,a,b,e⟩:=au6 h hs (m:=m+1) ⟨⟨x,q,hy⟩,g⟩ fy
    exact ⟨j,by omega,by omega,e⟩
  ·exact ⟨m,Nat.le_refl _,by omega,y,⟨x,q,hy⟩,c⟩
noncomputable def RA (T:Table) (st:List Nat):D:=if Mx T st (2*T.go.length+1)≤T.go.length then bh (Mx T st (2*T.go.length+1)) else .non
theorem a3w {st:List Nat}:MI.clo 0 (RA T st):=by unfold RA;split;exact ji _;exact aaf
theorem amd (h:T.Ok) {st:List Nat} (hs:∀ x∈st,x<T.go.length) {k:Nat} (hk:k≤T.go.length+1) (e:¬ ∃ x,Lam T st k x):RA T st=bh (Mx T st k):=by
 have e2:¬ ∃ x,Lam T st T.go.length x:=fun z=>e (au5 h hs z k)
 have m1:=aaw e (2*T.go.length+1 - k)
 have m2:=aaw e2 (T.go.length+1)
 rw [show T.go.length+(T.go.length+1)=2*T.go.length+1 by omega] at m2
 have h1:=h.n1
 rw [show k+(2*T.go.length+1 - k)=2*T.go.length+1 by omega] at m1
 unfold RA
 rw [if_pos (by rw [m2];exact apo _),m1]
theorem au7 (h:T.Ok) {st:List Nat} (hs:∀ x∈st,x<T.go.length) (e:∃ x,Lam T st (T.go.length+1) x):RA T st = .non:=by
 have h1:=h.n1
 have e0:∃ x,Lam T st T.go.length x:=by obtain ⟨x,⟨r,q,_⟩,_⟩:=e;exact ⟨r,q⟩
 obtain ⟨x,q⟩:=e0
 have g:gd T x=true:=by
  cases hn:T.go.length with
  | zero=>omega
  | succ n=>rw [hn] at q;exact q.2
 have hx:hp T x=true:=by unfold gd at g;rw [Bool.and_eq_true] at g;exact g.2
 obtain ⟨k,hk,f⟩:=a85 hx
 obtain ⟨j,a,b,kn⟩:=au6 h hs q f
 have m1:=akr kn
 have m2:=ai5 (T:=T) (st:=st) (k:=j+1) (j:=2*T.go.length+1 - (j+1))
 rw [show j+1+(2*T.go.length+1 - (j+1))=2*T.go.length+1 by omega] at m2
 unfold RA
 rw [if_neg (by omega)]
end
end RCH
namespace RCH
open PySem PySem.Spec L2 MI AT HND EVX K22 K23 K21 K40
section
variable {T:Table}
theorem acr {bs:List Bool} {r x:Nat} (hr:r<bs.length):bg (bs.set r true) x=(decide (x=r) || bg bs x):=by
 unfold bg
 by_cases e:r=x
 ·subst e;rw [List.getElem?_set_self hr];simp
 ·rw [List.getElem?_set_ne e,decide_eq_false (fun z=>e z.symm)];simp
structure Mk (T:Table) (j:Nat) (bs:List Bool):Prop where
 len:bs.length=T.go.length
 snd:∀ r,r<T.go.length→bg bs r=true→hp T r=true
 all:∀ r,r<T.go.length→∀ k,k<j→FL T (k+1) r=true→bg bs r=true
theorem Mk.set {j r:Nat} {bs:List Bool} (M:Mk T j bs) (hr:r<T.go.length) (e:hp T r=true):Mk T j (bs.set r true):=by
 have l:=M.len
 refine ⟨by rw [List.length_set];exact l,fun x hx q=>?_,fun x hx k hk f=>?_⟩
 ·rw [acr (by omega),Bool.or_eq_true] at q
  rcases q with q | q
  ·rw [of_decide_eq_true q];exact e
  ·exact M.snd x hx q
 ·rw [acr (by omega),M.all x hx k hk f,Bool.or_true]
theorem lit {T:Table} (h:T.Ok) {r x:Nat} (hr:r<T.go.length) (hx:x∈rw' T r) (e:kI T x ≠ -1∨hp T x=true):hp T r=true:=(apn h hr).mpr ⟨x,hx,e⟩
abbrev hpD (T:Table):List D:=(List.range T.go.length).map fun r=>D.bl (hp T r)
theorem aax (n:Nat):clos n (hpD T):=iu fun _ _=>a90 _
theorem acs {r:Nat} (hr:r<T.go.length):(hpD T)[r]? = some (.bl (hp T r)):=by rw [List.getElem?_map,List.getElem?_range hr];rfl
end
end RCH
namespace RCH
open PySem PySem.Spec L2 MI AT HND EVX K22 K23 K21 K40
section
variable {T:Table}
theorem aay (l:List Nat) (h:Hd):ajt true (.rol (l.map bh)) (.rol []) h = .ok (.bl (!l.isEmpty)) h:=by
 unfold ajt pq
 dsimp only
 rw [if_pos ⟨by rw [List.all_eq_true];intro x hx;obtain ⟨y,_,rfl⟩:=List.mem_map.mp hx;rfl,rfl⟩]
 cases l<;>rfl
theorem ai6 {l:List Nat} {x:Nat} (h:x∈l):l.isEmpty=false:=by cases l with | nil=>simp at h | cons=>rfl
theorem ai7 {st rs ts:List Nat} {k:Nat} (er:∀ x,x∈rs↔Lam T st k x) (et:∀ x,x∈ts↔∃ r∈rs,x∈rw' T r) (x:Nat):x∈ts↔Led T st k x:=by
 rw [et]
 exact ⟨fun ⟨r,hr,q⟩=>⟨r,(er r).mp hr,q⟩,fun ⟨r,hr,q⟩=>⟨r,(er r).mpr hr,q⟩⟩
theorem a9n {st ts:List Nat} {k:Nat} (el:∀ x,x∈ts↔Led T st k x) {p:Nat→Bool} (hp':∀ x∈ts,p x=gd T x) (x:Nat):x∈ts.filter p↔Lam T st (k+1) x:=by
 rw [List.mem_filter]
 constructor
 ·rintro ⟨a,b⟩;exact ⟨(el x).mp a,by rw [← hp' x a];exact b⟩
 ·rintro ⟨a,b⟩
  have:=(el x).mpr a
  exact ⟨this,by rw [hp' x this];exact b⟩
theorem a3n {st ts:List Nat} {k:Nat} (el:∀ x,x∈ts↔Led T st k x) {p:Nat→Bool} (hp':∀ x∈ts,(p x=true↔kI T x ≠ -1)):(∃ x∈ts,p x=true)↔Kn T st k:=by
 constructor
 ·rintro ⟨x,a,b⟩;exact ⟨x,(el x).mp a,(hp' x a).mp b⟩
 ·rintro ⟨x,a,b⟩
  have:=(el x).mpr a
  exact ⟨x,this,(hp' x this).mpr b⟩
theorem awg (bs:List Bool) (h:Hd):apu [.rol (bs.map D.bl)] h = .ok (.bl (bs.any id)) h:=by
 unfold apu
 simp only [ajb]
noncomputable def jd:SF:=qu yx 10
theorem a87 (h:T.Ok) {rs:List Nat} (rn:∀ r∈rs,r<T.go.length):Pu jd 3 [T.d, .tup (hpD T), .rol (rs.map bh)] (RA T rs):=by
 have n32:=h.n32
 have n1:=h.n1
 have turn:∀ (i:Nat) (ls:List Nat) (t9:Option D),(∀ x,x∈ls↔Lam T rs i x)→∃ ts:List Nat,(∀ x,x∈ts↔Lam T rs (i+1) x)∧∃ t9':Option D,
   uc [some T.d,some (.tup (hpD T)),some (.rol (rs.map bh)),some (.str (S T.tg)),some (.tup (T.go.map xu)),some (.tup (T.ks.map D.int)),some (bh (Mx T rs i)),some (.rol (ls.map bh)),some (.int ((1+i:Nat))),t9] [] =
    (if ts.isEmpty then .rt (bh (Mx T rs (i+1))) [] else .nx [some T.d,some (.tup (hpD T)),some (.rol (rs.map bh)),some (.str (S T.tg)),some (.tup (T.go.map xu)),some (.tup (T.ks.map D.int)),some (bh (Mx T rs (i+1))),some (.rol (ts.map bh)),some (.int ((1+i:Nat))),t9'] []):=fun i ls t9 el=>by
  have ln:∀ r∈ls,r<T.go.length:=fun r hr=>acp h rn ((el r).mp hr)
  obtain ⟨us,M,_,mu,eu⟩:=akp (fi:=sIt (sV 7)) (fj:=sIt (s2 gIx (sV 2) (sV 0))) (ix:=[4]) (τ:=[some T.d,some (.tup (hpD T)),some (.rol (rs.map bh)),some (.str (S T.tg)),some (.tup (T.go.map xu)),some (.tup (T.ks.map D.int)),some (bh (Mx T rs i)),some (.rol (ls.map bh)),some (.int ((1+i:Nat))),t9]) (h:=[]) bh ls (rw' T) (n:=T.go.length) (by omega) (a5u (bw rfl) rfl) (fun x hx=>a5u (jm (bw rfl) (bw rfl) (apm h (ln x hx) _)) rfl) fun x hx=>(a82 h (ln x hx)).2.2
  have ul:=M.len
  have eL:=ai7 el mu
  have eu':=ug eu (gq _) (by simp)
  let p1:Nat→Bool:=fun t=>decide (kI T t ≠ -1)
  let p2:Nat→Bool:=fun t=>decide (kI T t = -1) && hp T t
  have k1:=a3n eL (p:=p1) fun x _=>decide_eq_true_iff
  have kg:∀ (τ:Sd) (a b t:Nat),τ[a]? = some (some (.tup (T.ks.map D.int)))→τ[b]? = some (some (bh t))→t<T.go.length→s2 gIx (sV a) (sV b) τ [] = .ok (.int (kI T t)) []:=fun τ a b t h0 h1 ht=>jm (bw h0) (bw h1) (a6r h ht _)
  have an:∀ τ:Sd,τ[5]? = some (some (.tup (T.ks.map D.int)))→τ[9]? = some (some (.rol (us.map bh)))→a5s (sA apu (aj (sZ (m7 (sIt (sV 9)) t1 yj [5])) d7)) τ [] = .ok (us.any p1) []:=fun τ h5 h9=>by
   have z:sZ (m7 (sIt (sV 9)) t1 yj [5]) τ [] = .ok (.rol ((us.map p1).map D.bl)) []:=by
    rw [List.map_map]
    refine ug (ud bh (D.bl ∘ p1) us (a5u (bw h9) rfl) (j5 (by omega)) fun t ht=>?_) (iu fun y _=>a90 _) (by simp)
    rw [yp,v6,a1w,h5]
    exact jm (kg _ 1 0 t rfl rfl (M.lt t ht)) (am2 (jf _ _ _) (aaq _)) (axh _ _)
   refine a2n (yt z (awg _ _)) ?_
   rw [List.any_map]
   rfl
  have cf:∀ τ:Sd,τ[1]? = some (some (.tup (hpD T)))→τ[5]? = some (some (.tup (T.ks.map D.int)))→τ[9]? = some (some (.rol (us.map bh)))→sZ (p6 (sIt (sV 9)) t1 nq ym [1,5]) τ [] = .ok (.rol ((us.filter p2).map bh)) []:=fun τ h1 h5 h9=>by
   rw [← ue]
   refine ug (a0s bh (fun t=>if p2 t=true then some (bh t) else none) us (a5u (bw h9) rfl) (j5 (by omega)) fun t ht=>?_) (by rw [ue];exact gq _) (by simp)
   rw [a7x,v6,v6,a1w,h1,h5]
   have q:nq [some (bh t),some (.tup (hpD T)),some (.tup (T.ks.map D.int))] [] = .ok (p2 t) []:=awf (tof (jm (kg _ 2 0 t rfl rfl (M.lt t ht)) (am2 (jf _ _ _) (aaq _)) (ayu _ _))) fun _=>a2n (jm (bw rfl) (bw rfl) (acg (acs (M.lt t ht)))) (vh _)
   show (nq [some (bh t),some (.tup (hpD T)),some (.tup (T.ks.map D.int))] []).bind _=_
   rw [q,bx]
   cases p2 t<;>rfl
  refine ⟨us.filter p2,a9n eL fun x _=>rfl,some (.rol (us.map bh)),?_⟩
  unfold uc
  have fin:∀ m:Nat,(iz (kj 7 (sZ (p6 (sIt (sV 9)) t1 nq ym [1,5]))) (sIf (aa4 (a5s (sV 7))) (yf (sV 6)) sNx)) [some T.d,some (.tup (hpD T)),some (.rol (rs.map bh)),some (.str (S T.tg)),some (.tup (T.go.map xu)),some (.tup (T.ks.map D.int)),some (bh m),some (.rol (ls.map bh)),some (.int ((1+i:Nat))),some (.rol (us.map bh))] [] =
    (if (us.filter p2).isEmpty then .rt (bh m) [] else .nx [some T.d,some (.tup (hpD T)),some (.rol (rs.map bh)),some (.str (S T.tg)),some (.tup (T.go.map xu)),some (.tup (T.ks.map D.int)),some (bh m),some (.rol ((us.filter p2).map bh)),some (.int ((1+i:Nat))),some (.rol (us.map bh))] []):=fun m=>by
   refine Eq.trans (jr (cf _ rfl rfl rfl)) ?_
   have tr:tru (.rol ((us.filter p2).map bh)) [] = .ok (!(us.filter p2).isEmpty) []:=by rw [a1v];cases us.filter p2<;>rfl
   cases v:(us.filter p2).isEmpty with
   | true =>
    rw [v] at tr
    exact Eq.trans (ifT (ap8 (a2n (bw rfl) tr))) (yq (bw rfl))
   | false =>
    rw [v] at tr
    exact Eq.trans (ifF (ap8 (a2n (bw rfl) tr))) rfl
  refine Eq.trans (jr eu') ?_
  by_cases c:Kn T rs i
  ·have q:us.any p1=true:=List.any_eq_true.mpr (k1.mpr c)
   have an':=an [some T.d,some (.tup (hpD T)),some (.rol (rs.map bh)),some (.str (S T.tg)),some (.tup (T.go.map xu)),some (.tup (T.ks.map D.int)),some (bh (Mx T rs i)),some (.rol (ls.map bh)),some (.int ((1+i:Nat))),some (.rol (us.map bh))] rfl rfl
   rw [q] at an'
   refine Eq.trans (a1x (Eq.trans (ifT an') (aij (bw rfl)))) ?_
   rw [akr c,Nat.add_comm i 1]
   exact fin _
  ·have q:us.any p1=false:=by
    rw [List.any_eq_false]
    exact fun x hx px=>c (k1.mp ⟨x,hx,px⟩)
   have an':=an [some T.d,some (.tup (hpD T)),some (.rol (rs.map bh)),some (.str (S T.tg)),some (.tup (T.go.map xu)),some (.tup (T.ks.map D.int)),some (bh (Mx T rs i)),some (.rol (ls.map bh)),some (.int ((1+i:Nat))),some (.rol (us.map bh))] rfl rfl
   rw [q] at an'
   refine Eq.trans (ifN an') ?_
   rw [Mx,if_neg c]
   exact fin _
 have lp:=a4b (g:=kN 8) (b:=uc) (fun i:Nat=>D.int ((1+i:Nat))) (fun pre τ hp'=>∃ (ls:List Nat) (t8 t9:Option D),τ=[some T.d,some (.tup (hpD T)),some (.rol (rs.map bh)),some (.str (S T.tg)),some (.tup (T.go.map xu)),some (.tup (T.ks.map D.int)),some (bh (Mx T rs pre.length)),some (.rol (ls.map bh)),t8,t9]∧hp'=[]∧(∀ x,x∈ls↔Lam T rs pre.length x)∧(0<pre.length→∃ x,Lam T rs pre.length x))
  (fun d hp'=>d=RA T rs∧hp'=[]) (List.range (T.go.length+2 - 1)) [] [some T.d,some (.tup (hpD T)),some (.rol (rs.map bh)),some (.str (S T.tg)),some (.tup (T.go.map xu)),some (.tup (T.ks.map D.int)),some (bh 0),some (.rol (rs.map bh)),none,none] [] ?_ ⟨rs,none,none,rfl,rfl,fun x=>Iff.rfl,fun z=>absurd z (by simp)⟩
 ·refine Pu.of rfl (atp Table.clo (iw (aax _)) (a1q (gq _))) (r:=.ok (RA T rs) []) ?_ (jy a3w (by simp)) a3w
  unfold jd
  rw [j7]
  show toR (yx [some T.d,some (.tup (hpD T)),some (.rol (rs.map bh)),none,none,none,none,none,none,none] [])=_
  unfold yx
  refine Eq.trans (congrArg toR (a1x (akb (bw rfl) rfl))) ?_
  refine Eq.trans (congrArg toR (jr (jf _ _ _))) ?_
  refine Eq.trans (congrArg toR (jr (bw rfl))) ?_
  refine Eq.trans (congrArg toR (a5l (aao (a:=1) (n:=T.go.length+2) (jf _ _ _) ((jm (yt (bw rfl) (axj _)) (jf _ _ _) vg).trans (by congr 2)) (j5 (by omega)) (j5 (by omega))))) ?_
  rcases lp with ⟨τ',h',e,ls,t8,t9,rfl,rfl,el,on⟩ | ⟨d,h',e,rfl,rfl⟩
  ·refine Eq.trans (congrArg (fun z=>toR (MI.thn z _)) e) ?_
   rw [wy]
   rw [List.nil_append,List.length_range,show T.go.length+2 - 1=T.go.length+1 by omega] at on
   rw [au7 h rn (on (by omega))]
   exact congrArg toR (yq (jf _ _ _))
  ·refine Eq.trans (congrArg (fun z=>toR (MI.thn z _)) e) ?_
   rfl
 ·rintro pre i post τ hp' al ⟨ls,t8,t9,rfl,rfl,el,on⟩
  rw [List.nil_append] at al
  obtain ⟨ei,hi⟩:=a2o al
  subst ei
  obtain ⟨ts,et,t9',e⟩:=turn pre.length ls t9 el
  refine ⟨_,_,rfl,?_⟩
  have pl:(pre++[pre.length]).length=pre.length+1:=by simp
  cases v:ts.isEmpty with
  | true =>
   rw [v,if_pos rfl] at e
   refine .inr ⟨_,_,e,?_,rfl⟩
   rw [List.isEmpty_iff] at v
   exact (amd h rn (by omega) fun ⟨x,q⟩=>by have:=(et x).mpr q;rw [v] at this;simp at this).symm
  | false =>
   rw [v,if_neg (by simp)] at e
   refine .inl ⟨_,_,e,ts,_,t9',by rw [pl],rfl,by rw [pl];exact et,fun _=>?_⟩
   rw [pl]
   cases ts with
   | nil=>cases v
   | cons x l=>exact ⟨x,(et x).mp List.mem_cons_self⟩
end
end RCH
namespace RCH
open PySem PySem.Spec L2 MI AT HND EVX K22 K23 K21 K40
section
variable {T:Table}
noncomputable def dj:SF:=qu ut 12
noncomputable def d9:SF:=qu (qz dj) 1
noncomputable def qb:SF:=qu (a3h d9) 1
theorem a1b (h:T.Ok):Pu qb 1 [T.d] (.tup (hpD T)):=K22.a1b h
noncomputable def zp:SF:=qu (a7t qb jd) 2
theorem apq (h:T.Ok) (hh:Hd):adn (.tup (T.ks.map D.int)) hh = .ok ⟨(List.range T.go.length).map fun r=>.tup [bh r, .int (kI T r)],fun _=>True⟩ hh:=by
 have kl:=h.kl
 show R.ok (⟨((List.range (T.ks.map D.int).length).zip (T.ks.map D.int)).map fun p=>.tup [.int (p.1:Nat),p.2],fun _=>True⟩:Itm) hh=_
 congr 2
 refine List.ext_getElem? fun i=>?_
 by_cases hi:i<T.go.length
 ·rw [List.getElem?_map,List.getElem?_map,List.getElem?_range hi,List.getElem?_zip_eq_some (z:=(i,D.int (kI T i))).mpr ⟨by rw [List.getElem?_range (by rw [List.length_map];omega)],?_⟩]
  ·rfl
  ·rw [List.getElem?_map,List.getElem?_eq_getElem (by omega)]
   unfold kI
   rw [List.getElem?_eq_getElem (by omega)]
   rfl
 ·rw [List.getElem?_eq_none (by simp;omega),List.getElem?_eq_none (by simp;omega)]
def kds (T:Table):List Nat:=(List.range T.go.length).filter fun r=>decide (kI T r ≠ -1)
theorem acu:∀ r∈kds T,r<T.go.length:=fun r hr=>List.mem_range.mp (List.mem_filter.mp hr).1
theorem ai8 (h:T.Ok) {c:ST} {fe:SE} {f:SE} {ix:List Nat} {τ:Sd} {hh:Hd} (p:Nat→Bool) (e:f τ hh = .ok (.tup (T.ks.map D.int)) hh) (ec:∀ r,r<T.go.length→c (some (bh r)::some (.int (kI T r))::frs' ix τ) hh = .ok (p r) hh)
  (ef:∀ r,r<T.go.length→fe (some (bh r)::some (.int (kI T r))::frs' ix τ) hh = .ok (bh r) hh):p6 (a8z f) (tN 2) c fe ix τ hh = .ok (.ref hh.length) (hh++[.lst (((List.range T.go.length).filter p).map bh)]):=by
 have n32:=h.n32
 rw [← ue]
 have it:a8z f τ hh = .ok ⟨(List.range T.go.length).map fun r=>.tup [bh r, .int (kI T r)],fun _=>True⟩ hh:=by unfold a8z;rw [e,bx];exact apq h hh
 refine a0s (fun r=>.tup [bh r, .int (kI T r)]) (fun r=>if p r=true then some (bh r) else none) (List.range T.go.length) it (j5 (by rw [List.length_range];omega)) fun r hr=>?_
 have hr:=List.mem_range.mp hr
 show (c (some (bh r)::some (.int (kI T r))::frs' ix τ) hh).bind _=_
 rw [ec r hr,bx]
 cases p r with
 | true =>
  show (fe (some (bh r)::some (.int (kI T r))::frs' ix τ) hh).bind _=_
  rw [ef r hr,bx];rfl
 | false=>rfl
theorem aks (h:T.Ok):Pu zp 1 [T.d] (RA T (kds T)):=by
 refine Pu.of rfl (ai1 Table.clo) (r:=.ok (RA T (kds T)) []) ?_ (jy a3w (by simp)) a3w
 unfold zp
 rw [j7]
 show toR (a7t qb jd [some T.d,none] [])=_
 unfold a7t
 refine Eq.trans (congrArg toR (jr (jm (bw rfl) (jf _ _ _) (apg _)))) ?_
 refine congrArg toR (yq (ahp (bw rfl) (yt (bw rfl) (a1b h _)) (ug (ai8 h (fun r=>decide (kI T r ≠ -1)) (bw rfl) (fun r _=>?_) fun r _=>bw rfl) (gq _) (by simp)) (a87 h acu _)))
 exact tof (jm (bw rfl) (am2 (jf _ _ _) (aaq _)) (axh _ _))
end
end RCH
namespace MI
open PySem PySem.Spec L2 SRC HND
theorem a9o:∀ (r l:List Nat),(cst r).foldl stepK (cst l)=cst (r.foldl stepK l)
 | [],l=>rfl
 | x::r,l=>by
  show (cst r).foldl stepK (stepK (cst l) (x:Int))=_
  rw [a9j]
  exact a9o r _
theorem akt {l:List Nat} {d:D} {n:Nat} (hn:n≤60) (lt:∀ y∈l,y<n) (ll:l.length≤4000) {h:Hd} (e:ahh d h=some (cst l)) :
  ∃ ts:List Nat,Fw n ts∧ts.Pairwise (·≤·)∧(∀ y,y∈ts↔y∈l)∧aeg d h = .ok (.ref h.length) (h++[.lst (ts.map bh)]):=by
 obtain ⟨m,em,pm,sm⟩:=a6p (l.foldl stepK [])
 have F:Fw n (l.foldl stepK []):=Fw.fold .nil lt
 refine ⟨m,⟨pm.nodup_iff.mpr F.nd,fun x hx=>F.lt x (pm.mem_iff.mp hx)⟩,sm,fun y=>?_,?_⟩
 ·rw [pm.mem_iff,a84];simp
 ·unfold aeg
  rw [e]
  have fl:=F.len
  have cl:(cst l).length≤4000:=by unfold cst;rw [List.length_map];exact ll
  simp only [if_pos cl]
  have:(cst l).foldl stepK []=cst (l.foldl stepK []):=a9o l []
  rw [this]
  unfold aii
  rw [if_pos (by unfold cst;rw [List.length_map];omega),em,← aas]
theorem a9p:∀ l:List Nat,a2f (l.map bh)=some (cst l)
 | []=>rfl
 | x::l=>by
  show (a2f (l.map bh)).map _=_
  rw [a9p l];rfl
theorem ai9 (l:List Nat) (h:Hd):ahh (.rol (l.map bh)) h=some (cst l):=a9p l
theorem acv (h:Hd):∀ zss:List (List D),a01 (fun d=>pq d h) (zss.map D.rol)=some zss
 | []=>rfl
 | z::zss=>by
  rw [List.map_cons,a01,acv h zss]
  rfl
theorem aku {f g:SE} {τ:Sd} {h:Hd} {zss:List (List D)} (e1:f τ h = .ok (.rol (zss.map D.rol)) h) (e2:g τ h = .ok (.rol []) h) (ll:zss.flatten.length≤LINE) (c:clos h.length zss.flatten) (ch:∀ o∈h,a1n h.length o):sZ (sA aeh (aj f (aj g d7))) τ h = .ok (.rol zss.flatten) h:=by
 have e3:aeh [.rol (zss.map D.rol), .rol []] h=if zss=[] then .ok (.rol []) h else .ok (.ref h.length) (h++[.lst zss.flatten]):=by
  have e4:=acv h zss
  show (match a01 (fun d=>pq d h) (zss.map D.rol) with
   | some zss'=>if ([]++zss'.flatten).length≤LINE then (if zss.map D.rol=[] then R.ok (D.rol []) h else .ok (.ref h.length) (h++[O.lst ([]++zss'.flatten)])) else .no
   | none=>.no)=_
  rw [e4]
  simp only [List.nil_append]
  rw [if_pos ll]
  by_cases z:zss=[]
  ·subst z;rfl
  ·rw [if_neg (by simpa using z),if_neg z]
 by_cases z:zss=[]
 ·rw [if_pos z] at e3
  subst z
  exact aw0 (zm e1 e2 e3) (a1q sy) ch
 ·rw [if_neg z] at e3
  exact ug (zm e1 e2 e3) c ch
end MI
namespace K71
open PySem PySem.Spec L2 MI AT HND EVX K23 K21
open RCH
open K22 hiding hp qb dj d9 a1b
open K40
section
variable {T:Table}
theorem aia:MI.clo 0 (.tup (T.go.map xu)):=iw (iu fun x _=>iw (gq _))
theorem aib:MI.clo 0 (.tup (T.ks.map D.int)):=iw (iu fun x _=>ji x)
noncomputable def bf:SF:=qu a0z 6
theorem aic (h:T.Ok):Pu bf 2 [.tup (T.go.map xu), .tup (T.ks.map D.int)] (.rol (hpD T)):=by
 have n32:=h.n32
 have ln:∀ (τ:Sd) (bs:List Bool),τ[2]? = some (some (.ref 0))→bs.length=T.go.length→sRg zx (aj (sA yu (aj (sV 2) d7)) d7) τ (HB bs) = .ok ⟨(List.range T.go.length).map bh,fun _=>True⟩ (HB bs):=fun τ bs h1 bl =>
  a3l (n:=T.go.length) (yt (bw h1) ((aap (xs:=bs.map D.bl) rfl).trans (by rw [List.length_map,bl]))) (j5 (by omega))
 have L2:∀ (j:Nat) (bs:List Bool) (t2 t4:Option D) (r:Nat),Mk T j bs→r<T.go.length→∃ (bs':List Bool) (t4':Option D),xq [some (.tup (T.go.map xu)),some (.tup (T.ks.map D.int)),some (.ref 0),t2,some (bh r),t4] (HB bs) = .nx [some (.tup (T.go.map xu)),some (.tup (T.ks.map D.int)),some (.ref 0),t2,some (bh r),t4'] (HB bs')∧Mk T j bs'∧(∀ x,bg bs x=true→bg bs' x=true)∧(∀ k,k<j+1→FL T (k+1) r=true→bg bs' r=true):=fun j bs t2 t4 r M hr=>by
  obtain ⟨_,_,rx⟩:=a82 h hr
  have lp:=u6 (g:=kN 5) (b:=a0d) bh (fun pre τ hp'=>∃ (bs':List Bool) (t4:Option D),τ=[some (.tup (T.go.map xu)),some (.tup (T.ks.map D.int)),some (.ref 0),t2,some (bh r),t4]∧hp'=HB bs'∧Mk T j bs'∧(∀ x,bg bs x=true→bg bs' x=true)∧((∃ t∈pre,kI T t ≠ -1∨∃ k,k<j∧FL T (k+1) t=true)→bg bs' r=true)) (rw' T r) [some (.tup (T.go.map xu)),some (.tup (T.ks.map D.int)),some (.ref 0),t2,some (bh r),t4] (HB bs) ?_ ⟨bs,t4,rfl,rfl,M,fun _ z=>z,fun ⟨_,z,_⟩=>by simp at z⟩
  ·obtain ⟨τ',h',e,bs',t4',rfl,rfl,M',up,all⟩:=lp
   refine ⟨bs',t4',?_,M',up,fun k hk f=>?_⟩
   ·unfold xq
    exact (axi (a5u (jm (bw rfl) (bw rfl) (apm h hr _)) rfl)).trans e
   ·obtain ⟨x,hx,fx⟩:=(a5q h hr).mp f
    refine all ⟨x,hx,?_⟩
    cases k with
    | zero=>exact .inl ((a86 h (rx x hx)).mp fx)
    | succ k=>exact .inr ⟨k,by omega,fx⟩
  ·rintro pre t post τ hp' al ⟨bs',t4,rfl,rfl,M',up,all⟩
   have tin:t∈rw' T r:=by rw [al];simp
   have tl:=rx t tin
   have l':=M'.len
   have tst:sOr (sT (s2 gGe (s2 gIx (sV 1) (sV 5)) (sC (.int 0)))) (a5s (s2 gIx (sV 2) (sV 5))) [some (.tup (T.go.map xu)),some (.tup (T.ks.map D.int)),some (.ref 0),t2,some (bh r),some (bh t)] (HB bs') = .ok (decide (0≤kI T t) || bg bs' t) (HB bs') :=
    orB (tof (jm (jm (bw rfl) (bw rfl) (a6r h tl _)) (jf _ _ _) (auq _ _))) fun _=>a2n (jm (bw rfl) (bw rfl) (a9e (xs:=bs'.map D.bl) rfl (atz (by omega)))) (vh _)
   have kk:=a6s h tl
   unfold a0d
   cases v:(decide (0≤kI T t) || bg bs' t) with
   | true =>
    rw [v] at tst
    have lt':hp T r=true:=lit h hr tin (by
     rw [Bool.or_eq_true] at v
     rcases v with v | v
     ·exact .inl (by have:=of_decide_eq_true v;omega)
     ·exact .inr (M'.snd t tl v))
    refine ⟨_,_,rfl,_,HB (bs'.set r true),?_,bs'.set r true,some (bh t),rfl,rfl,M'.set hr lt',fun x q=>?_,fun _=>?_⟩
    ·refine Eq.trans (ifT tst) (atf (jf _ _ _) (bw rfl) (bw rfl) ((ath (xs:=bs'.map D.bl) rfl (by rw [List.length_map];omega)).trans ?_))
     rw [au0]
     rfl
    ·rw [acr (by omega),up x q,Bool.or_true]
    ·rw [acr (by omega),decide_eq_true rfl];rfl
   | false =>
    rw [v] at tst
    rw [Bool.or_eq_false_iff] at v
    refine ⟨_,_,rfl,_,_,Eq.trans (ifF tst) rfl,bs',_,rfl,rfl,M',up,?_⟩
    rintro ⟨x,hx,q⟩
    rcases List.mem_append.mp hx with z | z
    ·exact all ⟨x,z,q⟩
    ·rw [List.mem_singleton] at z
     subst z
     rcases q with q | ⟨k,hk,f⟩
     ·have:=of_decide_eq_false v.1;omega
     ·rw [M'.all _ tl k hk f] at v;cases v.2
 have L3:∀ (j:Nat) (bs:List Bool) (t2 t3 t4:Option D),Mk T j bs→∃ (bs':List Bool) (t3' t4':Option D),xr [some (.tup (T.go.map xu)),some (.tup (T.ks.map D.int)),some (.ref 0),t2,t3,t4] (HB bs) = .nx [some (.tup (T.go.map xu)),some (.tup (T.ks.map D.int)),some (.ref 0),t2,t3',t4'] (HB bs')∧Mk T (j+1) bs':=fun j bs t2 t3 t4 M=>by
  have lp:=u6 (g:=kN 4) (b:=xq) bh (fun pre τ hp'=>∃ (bs':List Bool) (t3 t4:Option D),τ=[some (.tup (T.go.map xu)),some (.tup (T.ks.map D.int)),some (.ref 0),t2,t3,t4]∧hp'=HB bs'∧Mk T j bs'∧∀ r∈pre,∀ k,k<j+1→FL T (k+1) r=true→bg bs' r=true) (List.range T.go.length) [some (.tup (T.go.map xu)),some (.tup (T.ks.map D.int)),some (.ref 0),t2,t3,t4] (HB bs) ?_ ⟨bs,t3,t4,rfl,rfl,M,by simp⟩
  ·obtain ⟨τ',h',e,bs',t3',t4',rfl,rfl,M',all⟩:=lp
   refine ⟨bs',t3',t4',?_,M'.len,M'.snd,fun r hr=>all r (List.mem_range.mpr hr)⟩
   unfold xr
   exact (axi (ln _ bs rfl M.len)).trans e
  ·rintro pre r post τ hp' al ⟨bs',t3,t4,rfl,rfl,M',all⟩
   obtain ⟨bs2,t4',e,M2,up,al2⟩:=L2 j bs' t2 t4 r M' (List.mem_range.mp (by rw [al];simp))
   refine ⟨_,_,rfl,_,_,e,bs2,_,t4',rfl,rfl,M2,fun x hx k hk f=>?_⟩
   rcases List.mem_append.mp hx with z | z
   ·exact up x (all x z k hk f)
   ·rw [List.mem_singleton] at z;subst z;exact al2 k hk f
 let b0:List Bool:=T.go.map fun _=>false
 have b0l:b0.length=T.go.length:=List.length_map _
 have M0:Mk T 0 b0:=by
  refine ⟨b0l,fun r _ q=>?_,fun _ _ k hk=>by omega⟩
  unfold bg at q
  rw [List.getElem?_map] at q
  cases z:T.go[r]? with
  | none=>rw [z] at q;exact absurd q (by simp)
  | some y=>rw [z] at q;exact absurd q (by simp)
 have lp:=u6 (g:=kN 3) (b:=xr) bh (fun pre τ hp'=>∃ (bs':List Bool) (t2 t3 t4:Option D),τ=[some (.tup (T.go.map xu)),some (.tup (T.ks.map D.int)),some (.ref 0),t2,t3,t4]∧hp'=HB bs'∧Mk T pre.length bs') (List.range T.go.length) [some (.tup (T.go.map xu)),some (.tup (T.ks.map D.int)),some (.ref 0),none,none,none] (HB b0) ?_ ⟨b0,none,none,none,rfl,rfl,M0⟩
 ·obtain ⟨τ',h',e,bs,t2,t3,t4,rfl,rfl,M⟩:=lp
  rw [List.length_range] at M
  have eq:bs.map D.bl=hpD T:=by
   refine List.ext_getElem? fun i=>?_
   by_cases hi:i<T.go.length
   ·rw [atz (by rw [M.len];exact hi),acs hi]
    congr 2
    rw [Bool.eq_iff_iff]
    refine ⟨M.snd i hi,fun q=>?_⟩
    obtain ⟨k,hk,f⟩:=a85 q
    exact M.all i hi k hk f
   ·have:=M.len
    rw [List.getElem?_eq_none (by rw [List.length_map];omega),List.getElem?_eq_none (by rw [List.length_map,List.length_range];omega)]
  refine Pu.of rfl (a5k aia aib) (r:=.ok (.ref 0) (HB bs)) ?_ (a7l (Nat.le_refl _) (congrArg (fun z=>some (O.lst z)) eq) (aax _) (by simp)) (a1q (aax _))
  unfold bf
  rw [j7]
  show toR (a0z [some (.tup (T.go.map xu)),some (.tup (T.ks.map D.int)),none,none,none,none] [])=_
  unfold a0z
  have cm:m7 (sIt (sV 0)) t1 a0c [] [some (.tup (T.go.map xu)),some (.tup (T.ks.map D.int)),none,none,none,none] [] = .ok (.ref 0) (HB b0):=by
   have:=ud (fi:=sIt (sV 0)) (t:=t1) (fe:=a0c) (ix:=[]) (τ:=[some (.tup (T.go.map xu)),some (.tup (T.ks.map D.int)),none,none,none,none]) (h:=[]) xu (fun _=>D.bl false) T.go (a5u (bw rfl) rfl) (j5 (by omega)) fun x _=>rfl
   rw [this]
   show R.ok (D.ref 0) [O.lst _]=R.ok (D.ref 0) [O.lst ((T.go.map fun _=>false).map D.bl)]
   rw [List.map_map]
   rfl
  refine Eq.trans (congrArg toR (jr cm)) ?_
  refine Eq.trans (congrArg toR (a5l (ln _ b0 rfl b0l))) ?_
  refine Eq.trans (congrArg (fun z=>toR (MI.thn z _)) e) ?_
  rfl
 ·rintro pre k post τ hp' al ⟨bs,t2,t3,t4,rfl,rfl,M⟩
  obtain ⟨bs',t3',t4',e,M'⟩:=L3 pre.length bs (some (bh k)) t3 t4 M
  exact ⟨_,_,rfl,_,_,e,bs',_,t3',t4',rfl,rfl,by rw [List.length_append];exact M'⟩
end
end K71
namespace K71
open PySem PySem.Spec L2 MI AT HND EVX K23 K21
open RCH
open K22 hiding hp qb dj d9 a1b
open K40
section
variable {T:Table}
noncomputable def gk:SF:=qu (uv bf) 7
theorem aaz {fi:SI} {c:ST} {fe:SE} {ix:List Nat} {τ:Sd} {hh:Hd} (p:Nat→Bool) (us:List Nat) (it:fi τ hh = .ok ⟨us.map bh,fun _=>True⟩ hh) (ul:us.length≤1000) (ec:∀ t∈us,c (some (bh t)::frs' ix τ) hh = .ok (p t) hh) (ef:∀ t∈us,fe (some (bh t)::frs' ix τ) hh = .ok (bh t) hh) (ch:∀ o∈hh,a1n hh.length o) :
  sZ (p6 fi t1 c fe ix) τ hh = .ok (.rol ((us.filter p).map bh)) hh:=by
 rw [← ue]
 refine ug (a0s bh (fun t=>if p t=true then some (bh t) else none) us it (j5 (by omega)) fun t ht=>?_) (by rw [ue];exact gq _) ch
 rw [a7x,ec t ht,bx]
 cases p t with
 | true=>rw [if_pos rfl,ef t ht,bx];rfl
 | false=>rfl
theorem aen (h:T.Ok):Pu gk 2 [.tup (T.go.map xu), .tup (T.ks.map D.int)] (RA T (kds T)):=by
 have n32:=h.n32
 have kl:=h.kl
 have lk:∀ hp':Hd,yu [.tup (T.ks.map D.int)] hp' = .ok (bh T.go.length) hp':=fun hp'=>by rw [a0r,List.length_map,kl]
 have zl:∀ (τ:Sd),sZ (sA a0v d7) τ [] = .ok (.rol []) []:=fun τ=>ug (xs:=[]) rfl sy (by simp)
 have lp:=u6 (g:=kN 5) (b:=zj bf) (fun i:Nat=>D.int ((1+i:Nat))) (fun pre τ hp'=>∃ (ls:List Nat) (t5 t6:Option D),τ=[some (.tup (T.go.map xu)),some (.tup (T.ks.map D.int)),some (.rol (hpD T)),some (.rol (ls.map bh)),some (bh (Mx T (kds T) pre.length)),t5,t6]∧hp'=[]∧Fw T.go.length ls∧∀ x,x∈ls↔Lam T (kds T) pre.length x) (List.range (T.go.length+2 - 1)) [some (.tup (T.go.map xu)),some (.tup (T.ks.map D.int)),some (.rol (hpD T)),some (.rol ((kds T).map bh)),some (.int 0),none,none] [] ?_ ⟨kds T,none,none,rfl,rfl,⟨List.nodup_range.filter _,acu⟩,fun x=>Iff.rfl⟩
 ·obtain ⟨τ',h',e,ls,t5,t6,rfl,rfl,M,el⟩:=lp
  rw [List.length_range,show T.go.length+2 - 1=T.go.length+1 by omega] at e el
  refine Pu.of rfl (a5k aia aib) (r:=.ok (RA T (kds T)) []) ?_ (jy a3w (by simp)) a3w
  unfold gk
  rw [j7]
  show toR (uv bf [some (.tup (T.go.map xu)),some (.tup (T.ks.map D.int)),none,none,none,none,none] [])=_
  unfold uv
  refine Eq.trans (congrArg toR (jr (zm (bw rfl) (bw rfl) (aic h _)))) ?_
  have z0:sZ (p6 (sRg zx (aj (sA yu (aj (sV 1) d7)) d7)) t1 (my bf) (v4 bf) [1]) [some (.tup (T.go.map xu)),some (.tup (T.ks.map D.int)),some (.rol (hpD T)),none,none,none,none] [] = .ok (.rol ((kds T).map bh)) []:=by
   refine aaz (fun r=>decide (kI T r ≠ -1)) (List.range T.go.length) (a3l (n:=T.go.length) (yt (bw rfl) (lk _)) (j5 (by omega))) (by rw [List.length_range];omega) (fun t ht=>?_) (fun t _=>bw rfl) (by simp)
   have ht:=List.mem_range.mp ht
   have kk:=a6s h ht
   rw [show decide (kI T t ≠ -1)=decide (0≤kI T t) from decide_eq_decide.mpr (by omega)]
   exact tof (jm (jm (bw rfl) (bw rfl) (a6r h ht _)) (jf _ _ _) (auq _ _))
  refine Eq.trans (congrArg toR (jr z0)) ?_
  refine Eq.trans (congrArg toR (jr (jf _ _ _))) ?_
  refine Eq.trans (congrArg toR (a5l (aao (a:=1) (n:=T.go.length+2) (jf _ _ _) ((jm (yt (bw rfl) (lk _)) (jf _ _ _) vg).trans (by congr 2)) (j5 (by omega)) (j5 (by omega))))) ?_
  rw [show T.go.length+2 - 1=T.go.length+1 by omega]
  refine Eq.trans (congrArg (fun z=>toR (MI.thn z _)) e) ?_
  rw [wy]
  have tst:sT (s2 (ajt true) (sV 3) (sZ (sA a0v d7))) [some (.tup (T.go.map xu)),some (.tup (T.ks.map D.int)),some (.rol (hpD T)),some (.rol (ls.map bh)),some (bh (Mx T (kds T) (T.go.length+1))),t5,t6] [] = .ok (!ls.isEmpty) []:=tof (jm (bw rfl) (zl _) (aay _ _))
  cases v:ls.isEmpty with
  | true =>
   rw [v] at tst
   rw [List.isEmpty_iff] at v
   rw [amd h acu (Nat.le_refl _) (fun ⟨x,q⟩=>by have:=(el x).mpr q;rw [v] at this;simp at this)]
   refine Eq.trans (congrArg toR (ifN tst)) ?_
   exact congrArg toR (yq (bw rfl))
  | false =>
   rw [v] at tst
   rw [au7 h acu (by
    cases ls with
    | nil=>cases v
    | cons x l=>exact ⟨x,(el x).mp List.mem_cons_self⟩)]
   exact congrArg toR (ahq (Eq.trans (ifT tst) (yq (jf _ _ _))))
 ·rintro pre i post τ hp' al ⟨ls,t5,t6,rfl,rfl,M,el⟩
  obtain ⟨ei,hi⟩:=a2o al
  subst ei
  have ln:∀ r∈ls,r<T.go.length:=M.lt
  have lsl:=M.len
  let rows:List (List Nat):=ls.map (rw' T)
  have rl:rows.flatten.length≤200:=by
   have:∀ l:List Nat,(∀ r∈l,r<T.go.length)→((l.map (rw' T)).flatten).length≤6*l.length:=fun l=>by
    induction l with
    | nil=>intro _;simp
    | cons r l ih =>
     intro q
     have a:=(a82 h (q r List.mem_cons_self)).2.1
     have b:=ih fun x hx=>q x (List.mem_cons_of_mem _ hx)
     rw [List.map_cons,List.flatten_cons,List.length_append,List.length_cons]
     omega
   have:=this ls ln
   show ((ls.map (rw' T)).flatten).length≤200
   omega
  have fm:(rows.map fun r=>r.map bh).flatten=rows.flatten.map bh:=by rw [List.map_flatten]
  have memf:∀ y,y∈rows.flatten↔∃ r∈ls,y∈rw' T r:=fun y=>by
   rw [List.mem_flatten]
   constructor
   ·rintro ⟨l,hl,hy⟩
    obtain ⟨r,hr,rfl⟩:=List.mem_map.mp hl
    exact ⟨r,hr,hy⟩
   ·rintro ⟨r,hr,hy⟩;exact ⟨_,List.mem_map.mpr ⟨r,hr,rfl⟩,hy⟩
  obtain ⟨us,U,_,mu,eu⟩:=akt (l:=rows.flatten) (d:=.rol (rows.flatten.map bh)) (n:=T.go.length) (h:=[]) (by omega) (fun y hy=>by
   obtain ⟨r,hr,q⟩:=(memf y).mp hy
   exact (a82 h (ln r hr)).2.2 y q) (by omega) (ai9 _ _)
  have ul:=U.len
  have eL:=ai7 el (fun x=>(mu x).trans (memf x))
  have s1':∀ τ:Sd,τ[0]? = some (some (.tup (T.go.map xu)))→τ[3]? = some (some (.rol (ls.map bh)))→sZ (m7 (sIt (sV 3)) t1 (ql bf) [0]) τ [] = .ok (.rol ((rows.map fun r=>r.map bh).map D.rol)) []:=fun τ h0 h3=>by
   have e1:((rows.map fun r=>r.map bh).map D.rol)=ls.map fun r=>D.rol ((rw' T r).map bh):=by show ((ls.map (rw' T)).map fun r=>r.map bh).map D.rol=_;rw [List.map_map,List.map_map];rfl
   rw [e1]
   refine ug (ud bh (fun r=>D.rol ((rw' T r).map bh)) ls (a5u (bw h3) rfl) (j5 (by omega)) fun r hr=>?_) (iu fun r _=>a1q (gq _)) (by simp)
   rw [yp,v6,a1w,h0]
   exact ug (yt (jm (bw rfl) (bw rfl) (apm h (ln r hr) _)) rfl) (gq _) (by simp)
  have su:∀ τ:Sd,τ[0]? = some (some (.tup (T.go.map xu)))→τ[3]? = some (some (.rol (ls.map bh)))→sZ (s1 aeg (sZ (sA aeh (aj (sZ (m7 (sIt (sV 3)) t1 (ql bf) [0])) (aj (sZ (sA a0v d7)) d7))))) τ [] = .ok (.rol (us.map bh)) []:=fun τ h0 h3=>by
   have:=aku (zss:=rows.map fun r=>r.map bh) (s1' τ h0 h3) (zl τ) (by rw [fm,List.length_map];exact j5 (by omega)) (by rw [fm];exact gq _) (by simp)
   rw [fm] at this
   exact ug (am2 this eu) (gq _) (by simp)
  let p1:Nat→Bool:=fun t=>decide (0≤kI T t)
  let p2:Nat→Bool:=fun t=>decide (kI T t<0) && hp T t
  have kg:∀ (τ:Sd) (t:Nat),τ[1]? = some (some (.tup (T.ks.map D.int)))→τ[0]? = some (some (bh t))→t<T.go.length→s2 gIx (sV 1) (sV 0) τ [] = .ok (.int (kI T t)) []:=fun τ t h0 h1 ht=>jm (bw h0) (bw h1) (a6r h ht _)
  have cf1:∀ τ:Sd,τ[1]? = some (some (.tup (T.ks.map D.int)))→τ[6]? = some (some (.rol (us.map bh)))→sZ (p6 (sIt (sV 6)) t1 (zg bf) (zf bf) [1]) τ [] = .ok (.rol ((us.filter p1).map bh)) []:=fun τ h1 h6=>by
   refine aaz p1 us (a5u (bw h6) rfl) (by omega) (fun t ht=>?_) (fun t _=>bw rfl) (by simp)
   rw [v6,a1w,h1]
   exact tof (jm (kg _ t rfl rfl (U.lt t ht)) (jf _ _ _) (auq _ _))
  have cf2:∀ τ:Sd,τ[1]? = some (some (.tup (T.ks.map D.int)))→τ[2]? = some (some (.rol (hpD T)))→τ[6]? = some (some (.rol (us.map bh)))→sZ (p6 (sIt (sV 6)) t1 (a1j bf) (a1i bf) [1,2]) τ [] = .ok (.rol ((us.filter p2).map bh)) []:=fun τ h1 h2 h6=>by
   refine aaz p2 us (a5u (bw h6) rfl) (by omega) (fun t ht=>?_) (fun t _=>bw rfl) (by simp)
   rw [v6,v6,a1w,h1,h2]
   exact awf (tof (jm (kg _ t rfl rfl (U.lt t ht)) (jf _ _ _) (axg _ _))) fun _=>a2n (jm (bw rfl) (bw rfl) (aup (acs (U.lt t ht)))) (vh _)
  have q2:∀ x∈us,p2 x=gd T x:=fun x hx=>by
   have:=a6s h (U.lt x hx)
   show (decide (kI T x<0) && hp T x)=(decide (kI T x = -1) && hp T x)
   by_cases c:kI T x = -1
   ·rw [decide_eq_true c,decide_eq_true (by omega)]
   ·rw [decide_eq_false c,decide_eq_false (by omega)]
  have q1:∀ x∈us,(p1 x=true↔kI T x ≠ -1):=fun x hx=>by
   have:=a6s h (U.lt x hx)
   show decide (0≤kI T x)=true↔_
   rw [decide_eq_true_iff];omega
  have k1:=a3n eL q1
  have pl:(pre++[pre.length]).length=pre.length+1:=by simp
  have F2:Fw T.go.length (us.filter p2):=⟨U.nd.filter _,fun x hx=>U.lt x (List.mem_filter.mp hx).1⟩
  have tst:∀ τ:Sd,τ[1]? = some (some (.tup (T.ks.map D.int)))→τ[6]? = some (some (.rol (us.map bh)))→sT (s2 (ajt true) (sZ (p6 (sIt (sV 6)) t1 (zg bf) (zf bf) [1])) (sZ (sA a0v d7))) τ [] = .ok (!(us.filter p1).isEmpty) []:=fun τ h0 h1=>tof (jm (cf1 τ h0 h1) (zl τ) (aay _ _))
  refine ⟨_,_,rfl,?_⟩
  unfold zj
  rw [pl]
  by_cases c:Kn T (kds T) pre.length
  ·obtain ⟨x,hx,px⟩:=k1.mpr c
   rw [ai6 (List.mem_filter.mpr ⟨hx,px⟩)] at tst
   refine ⟨_,_,Eq.trans (jr (su _ rfl rfl)) (Eq.trans (a1x (Eq.trans (ifT (tst _ rfl rfl)) (aij (bw rfl)))) (aij (cf2 _ rfl rfl rfl))),us.filter p2,some (.int ((1+pre.length:Nat))),some (.rol (us.map bh)),?_,rfl,F2,a9n eL q2⟩
   rw [akr c,Nat.add_comm pre.length 1]
   rfl
  ·have em:(us.filter p1).isEmpty=true:=by
    rw [List.isEmpty_iff,List.filter_eq_nil_iff]
    exact fun x hx px=>c (k1.mp ⟨x,hx,px⟩)
   rw [em] at tst
   refine ⟨_,_,Eq.trans (jr (su _ rfl rfl)) (Eq.trans (ifN (tst _ rfl rfl)) (aij (cf2 _ rfl rfl rfl))),us.filter p2,some (.int ((1+pre.length:Nat))),some (.rol (us.map bh)),?_,rfl,F2,a9n eL q2⟩
   rw [Mx,if_neg c]
   rfl
end
end K71
namespace K71
open PySem PySem.Spec L2 MI AT HND EVX K23 K21 PN
open RCH
open K22 hiding hp qb dj d9 a1b
open K40
noncomputable def dg:Nat→SF
 | 0=>fun _ _=>.no
 | n+1=>qu (xx (dg n)) 4
theorem au8 {n:Nat} {a b:D}:dg (n+1) [a,b] []=toR (xx (dg n) [some a,some b,none,none] []):=by
 show qu (xx (dg n)) 4 [a,b] []=_
 rw [j7]
 rfl
def NI (d:D):Prop:=d = .non∨∃ k:Int,d = .int k
theorem NI.clo {d:D} (h:NI d) (n:Nat):MI.clo n d:=by
 rcases h with rfl | ⟨k,rfl⟩
 ·exact aaf
 ·exact ji _
theorem awh {T:Table} (st:List Nat):NI (RA T st):=by unfold RA;split;exact .inr ⟨_,rfl⟩;exact .inl rfl
theorem au9 (n:Nat) {d:D} (h:NI d):Pu (dg (n+1)) 2 [d,d] (.bl true):=by
 refine K69.atx rfl (a5k (h.clo 0) (h.clo 0)) ?_
 rw [au8]
 unfold xx
 rcases h with rfl | ⟨i,rfl⟩
 ·have i1:a7u [.non, .tup [.ty "list", .ty "tuple"]] [] = .ok (.bl false) []:=by simp [a7u,tyD,aa9,ak4,a5f]
  refine Eq.trans (congrArg toR (ifN (a2n (zm (bw rfl) (K69.tys _ _) i1) (vh _)))) ?_
  exact congrArg toR (ahq (Eq.trans (ifT (tof (jm (bw (i:=1) rfl) (jf _ _ _) (show gIs .non .non [] = .ok (.bl true) [] from rfl)))) (yq (jm (bw (i:=0) rfl) (jf _ _ _) (show gIs .non .non [] = .ok (.bl true) [] from rfl)))))
 ·have i1:a7u [.int i, .tup [.ty "list", .ty "tuple"]] [] = .ok (.bl false) []:=by simp [a7u,tyD,aa9,ak4,a5f]
  have i2:a08 [.int i, .ty "str"] [] = .ok (.bl false) []:=by simp [a08,alk,tyD,aa9]
  have i3:a08 [.int i, .ty "int"] [] = .ok (.bl true) []:=by simp [a08,alk,tyD,aa9]
  have i4:a08 [.int i, .ty "bool"] [] = .ok (.bl false) []:=by simp [a08,alk,tyD,aa9]
  refine Eq.trans (congrArg toR (ifN (a2n (zm (bw rfl) (K69.tys _ _) i1) (vh _)))) ?_
  refine Eq.trans (congrArg toR (ifN (tof (jm (bw rfl) (jf _ _ _) (show gIs (.int i) .non [] = .ok (.bl false) [] from rfl))))) ?_
  refine Eq.trans (congrArg toR (ifN (a2n (zm (bw rfl) (jf _ _ _) i2) (vh _)))) ?_
  exact congrArg toR (yq (ate (zm (bw rfl) (jf _ _ _) i3) (ate (atl (zm (bw rfl) (jf _ _ _) i4)) (jm (bw rfl) (bw rfl) (akc rfl)))))
theorem aua {n:Nat} {xs:List D} (h:∀ x∈xs,NI x):Pu (dg (n+2)) 2 [.tup xs, .tup xs] (.bl true):=by
 have cx:clos 0 xs:=a2j.mpr fun x hx=>(h x hx).clo 0
 refine K69.atx rfl (a5k (iw cx) (iw cx)) ?_
 rw [au8]
 unfold xx
 have i1:a7u [.tup xs, .tup [.ty "list", .ty "tuple"]] [] = .ok (.bl true) []:=by simp [a7u,tyD,aa9,ak4,a5f]
 have i2:a08 [.tup xs, .ty "list"] [] = .ok (.bl false) []:=by simp [a08,alk,tyD,aa9]
 have i3:a08 [.tup xs, .ty "tuple"] [] = .ok (.bl true) []:=by simp [a08,alk,tyD,aa9]
 have ln:yu [.tup xs] [] = .ok (bh xs.length) []:=rfl
 have zi:aer (sV 0) (sV 1) [some (.tup xs),some (.tup xs),none,none] [] = .ok ⟨xs.map fun x=>.tup [x,x],fun _=>True⟩ []:=by
  unfold aer
  rw [bw rfl,bx,bw rfl,bx]
  show R.ok (⟨(xs.zip xs).map fun p=>.tup [p.1,p.2],fun _=>True∧True⟩:Itm) []=_
  rw [K69.acl]
  congr 2
  funext _
  simp
 have lp:=u6 (g:=a3x 2 (jx (kN 2) (jx (kN 3) a4p))) (b:=a0e (dg (n+1))) (fun x:D=>.tup [x,x])
  (fun pre τ hh=>∃ t2 t3:Option D,τ=[some (.tup xs),some (.tup xs),t2,t3]∧hh=[]) xs [some (.tup xs),some (.tup xs),none,none] [] ?_ ⟨none,none,rfl,rfl⟩
 ·obtain ⟨τ',h',e,t2,t3,rfl,rfl⟩:=lp
  refine congrArg toR (ahq (Eq.trans (ifT (a2n (zm (bw rfl) (K69.tys _ _) i1) (vh _))) ?_))
  refine Eq.trans (ifN (orF (tof (jm (zm (bw rfl) (jf _ _ _) i2) (zm (bw rfl) (jf _ _ _) i2) (K69.aty _ _))) (tof (jm (zm (bw rfl) (jf _ _ _) i3) (zm (bw rfl) (jf _ _ _) i3) (K69.aty _ _))))) ?_
  refine Eq.trans (ifN (tof (jm (yt (bw rfl) ln) (yt (bw rfl) ln) (ap9 rfl)))) ?_
  refine Eq.trans (a5l zi) ?_
  refine Eq.trans (congrArg (fun z=>MI.thn z _) e) ?_
  rw [wy]
  exact yq (jf _ _ _)
 ·rintro pre x post τ hh all ⟨t2,t3,rfl,rfl⟩
  have hx:x∈xs:=by rw [all];simp
  refine ⟨_,_,rfl,[some (.tup xs),some (.tup xs),some x,some x],[],?_,_,_,rfl,rfl⟩
  unfold a0e
  exact Eq.trans (ifF (aw9 (a2n (zm (bw rfl) (bw rfl) (au9 n (h x hx) _)) (vh _)))) rfl
theorem amf (neg:Bool) {xs:List D} (h:∀ x∈xs,NI x) (hh:Hd):gIn neg .non (.tup xs) hh = .ok (.bl (if neg then !xs.any xg else xs.any xg)) hh:=by
 have fl:a06 .non=true∧xs.all a06=true:=⟨rfl,by
  rw [List.all_eq_true]
  intro y hy
  rcases h y hy with rfl | ⟨k,rfl⟩<;>rfl⟩
 have e:inD .non xs=xs.any xg:=by
  unfold inD
  congr 1
  funext y
  cases y<;>rfl
 show (if a06 .non=true∧xs.all a06=true then R.ok (D.bl (if neg=true then !inD .non xs else inD .non xs)) hh else .no)=_
 rw [if_pos fl,e]
def toI:D→Int | .int k=>k | _=>0
theorem ints_of {xs:List D} (h:∀ x∈xs,NI x) (n:xs.any xg=false):xs=(xs.map toI).map D.int:=by
 rw [List.map_map]
 refine (List.map_id xs).symm.trans (List.map_congr_left fun x hx=>?_)
 rw [List.any_eq_false] at n
 rcases h x hx with rfl | ⟨k,rfl⟩
 ·exact absurd rfl (n _ hx)
 ·rfl
noncomputable def most (xs:List D):D:=if xs.any xg=true then .non else .int (mxI (xs.map toI))
theorem ab0 (xs:List D):NI (most xs):=by unfold most;split;exact .inl rfl;exact .inr ⟨_,rfl⟩
section
variable {M:Mach}
noncomputable def ie:SF:=qu oh 3
theorem a5o (h:M.Ok):Pu ie 1 [M.d] (.rol (M.ms.map fun m=>m.1.d)):=K69.a5o h
noncomputable abbrev rsD (M:Mach):List D:=M.ms.map fun m=>RA m.1 (kds m.1)
theorem aid:∀ x∈rsD M,NI x:=fun x hx=>by obtain ⟨m,_,rfl⟩:=List.mem_map.mp hx;exact awh _
theorem acw (n:Nat):clos n (rsD M):=a2j.mpr fun x hx=>(aid x hx).clo n
theorem awi (h:M.Ok):(rsD M).map toI≠[]:=fun z=>by
 have e:=congrArg List.length z
 rw [List.length_map,List.length_map,List.length_nil] at e
 have:=h.n1
 omega
theorem amg (h:M.Ok) {f:SE} {τ:Sd} {hh:Hd} (e:f τ hh = .ok (.tup (rsD M)) hh) (b:(rsD M).any xg=false):sA a7m (aj f d7) τ hh = .ok (most (rsD M)) hh:=by
 refine yt e ?_
 unfold most
 rw [if_neg (by rw [b];simp)]
 conv=>lhs;rw [ints_of aid b]
 exact als (awi h)
noncomputable def bz:SF:=qu (uz ie zp) 1
theorem a0t (h:M.Ok):Pu bz 1 [M.d] (.tup (rsD M)):=by
 have n4:=h.n4
 refine Pu.of rfl (ai1 (M.clo 0)) (r:=.ok (.tup (rsD M)) []) ?_ (jy (iw (acw _)) (by simp)) (iw (acw _))
 unfold bz
 rw [j7]
 show toR (uz ie zp [some M.d] [])=_
 unfold uz
 have z:sZ (m7 (sIt (sA (uf false 1 ie) (aj (sV 0) d7))) t1 (a05 ie zp) []) [some M.d] [] = .ok (.rol (rsD M)) []:=by
  refine ug (ud (fun m:Table × List Deed=>m.1.d) (fun m=>RA m.1 (kds m.1)) M.ms (a5u (yt (bw rfl) (a5o h _)) rfl) (j5 (by omega)) fun m hm=>?_) (acw _) (by simp)
  rw [yp]
  exact yt (bw rfl) (RCH.aks (h.mode m hm).ok _)
 exact congrArg toR (yq (yt z rfl))
noncomputable def dz:SF:=qu (xn bz) 2
theorem a5z (h:M.Ok):Pu dz 1 [M.d] (most (rsD M)):=by
 refine Pu.of rfl (ai1 (M.clo 0)) (r:=.ok (most (rsD M)) []) ?_ (jy ((ab0 _).clo _) (by simp)) ((ab0 _).clo _)
 unfold dz
 rw [j7]
 show toR (xn bz [some M.d,none] [])=_
 unfold xn
 refine Eq.trans (congrArg toR (jr (yt (bw rfl) (a0t h _)))) ?_
 have tq:sT (s2 (gIn false) (sC .non) (sV 1)) [some M.d,some (.tup (rsD M))] [] = .ok ((rsD M).any xg) []:=tof (jm (jf _ _ _) (bw rfl) (amf false aid _))
 cases b:(rsD M).any xg with
 | true =>
  rw [b] at tq
  have:most (rsD M) = .non:=by unfold most;rw [if_pos b]
  rw [this]
  exact congrArg toR (yq (SRC.axd tq (jf _ _ _)))
 | false =>
  rw [b] at tq
  exact congrArg toR (yq (SRC.axe tq (amg h (bw rfl) b)))
def oth (M:Mach):Mach:=⟨M.tg,M.ms.map fun m=>(m.1,List.replicate 6 .shut)⟩
theorem aub (h:M.Ok):(oth M).Ok:=by
 refine ⟨h.tong,by show 1≤(M.ms.map _).length;rw [List.length_map];exact h.n1,by show (M.ms.map _).length≤4;rw [List.length_map];exact h.n4,fun m hm=>?_⟩
 obtain ⟨m,hm',rfl⟩:=List.mem_map.mp hm
 have q:=h.mode m hm'
 refine ⟨q.ok,q.tg,by simp,fun k hk=>?_,fun x hx=>?_,q.rc⟩
 ·have:=(q.ok.kk k hk).2
  simp only [List.length_replicate]
  omega
 ·rw [(List.mem_replicate.mp hx).2];trivial
theorem auc:rsD (oth M)=rsD M:=by
 show (M.ms.map _).map _=_
 rw [List.map_map]
 rfl
end
noncomputable def akv:SF:=qu (ak9 PN.di PN.jc gk (dg 2) PN.gj PN.ik PN.ak bz dz) 8
theorem aud (ns:List Int):∃ h',K71.akv [.scr (ns.map D.int)] [] = .ok (.bl true) h':=by
 obtain ⟨o,P,e0⟩:=atm ns []
 obtain ⟨tg,o1,t1',t6,nd,sb,e1,P1⟩:=PN.api (most:=4) (all:=sig) P (by omega) (by omega) (by rw [ahn];omega) (by rw [ahn];omega) atb
 have T1:Tongue tg:=⟨t1',by omega,nd,sb⟩
 have c1:uf false 3 PN.ik [.ref 0, .str (S sig), .int 4] [o] = .ok (.str (S tg)) [o1]:=e1 0 _ rfl
 obtain ⟨x,o2,x0,x1,P2,c2⟩:=tk (m:=4) P1 (by omega) (by omega) (by omega)
 obtain ⟨j,rfl⟩:=Int.eq_ofNat_of_zero_le x0
 let ws:List Nat:=[8,8,16,32]
 have jl:j<ws.length:=by show j<4;omega
 have gx:ws[j]? = some ws[j]:=List.getElem?_eq_getElem jl
 have gm:ws[j]∈ws:=List.getElem_mem jl
 generalize ws[j]=mst at gx gm
 have ml:1≤mst∧mst≤32:=by
  simp only [ws,List.mem_cons,List.not_mem_nil,or_false] at gm
  omega
 obtain ⟨M,o3,hM,et,e3,P3⟩:=aem (most:=mst) P2 (by omega) T1 ml.1 ml.2
 have c3:uf false 3 PN.di [.ref 0, .str (S tg),bh mst] [o2] = .ok M.d [o3]:=e3 0 _ rfl
 subst et
 let sc:D:=.scr (ns.map D.int)
 have one:∀ {u:O} {N:Nat},Pen u N→∀ x∈[u],a1n 1 x:=fun Pu x hx=>by rw [List.mem_singleton] at hx;subst hx;exact u5 (by omega) Pu.clo
 have n1:=hM.n1
 have n4:=hM.n4
 have hO:=aub hM
 have lp:=u6 (g:=kN 7) (b:=a7v PN.di PN.jc gk (dg 2) PN.gj PN.ik PN.ak bz dz) Mach.d
  (fun pre τ hh=>∃ t7:Option D,τ=[some sc,some (.ref 0),some (.str (S M.tg)),some M.d,some (.tup (rsD M)),some (most (rsD M)),some (oth M).d,t7]∧hh=[o3]) [M,oth M,M] [some sc,some (.ref 0),some (.str (S M.tg)),some M.d,some (.tup (rsD M)),some (most (rsD M)),some (oth M).d,none] [o3] ?_ ⟨none,rfl,rfl⟩
 ·obtain ⟨τ',h',e,t7,rfl,rfl⟩:=lp
  refine ⟨[o3],?_⟩
  unfold K71.akv
  rw [j7]
  show toR (ak9 PN.di PN.jc gk (dg 2) PN.gj PN.ik PN.ak bz dz [some sc,none,none,none,none,none,none,none] [])=_
  unfold ak9
  refine Eq.trans (congrArg toR (jr (yt (bw rfl) e0))) ?_
  refine Eq.trans (congrArg toR (jr (ahp (bw rfl) (ayo (PN.a7w _)) (jf _ _ _) c1))) ?_
  have zw:∀ τ:Sd,sZ (sA a0v (aj (sC (.int 8)) (aj (sC (.int 8)) (aj (sC (.int 16)) (aj (sC (.int 32)) d7))))) τ [o1] = .ok (.rol (ws.map bh)) [o1]:=fun τ =>
   ug (SRC.awc (yz (jf _ _ _) (yz (jf _ _ _) (yz (jf _ _ _) (yz (jf _ _ _) rfl)))) rfl) (gq ws) (one P1)
  refine Eq.trans (congrArg toR (jr (ahp (bw rfl) (bw rfl) (jm (zw _) (zm (bw rfl) (jf _ _ _) (c2 _)) (aup (by rw [List.getElem?_map,gx];rfl))) c3))) ?_
  have z4:∀ τ:Sd,τ[3]? = some (some M.d)→sZ (m7 (sIt (s2 gIx (sV 3) (sC (.int 1)))) t1 (ace PN.di PN.jc gk (dg 2) PN.gj PN.ik PN.ak bz dz) []) τ [o3] = .ok (.rol (rsD M)) [o3]:=fun τ h3=>by
   refine ug (ud vz (fun m=>RA m.1 (kds m.1)) M.ms (a5u (jm (bw h3) (jf _ _ _) (K69.atw _)) rfl) (j5 (by omega)) fun m hm=>?_) (acw _) (one P3)
   rw [yp]
   exact zm (jm (bw rfl) (jf _ _ _) (acg (j:=0) rfl)) (jm (bw rfl) (jf _ _ _) (acg (j:=1) rfl)) (aen (hM.mode m hm).ok _)
  refine Eq.trans (congrArg toR (jr (yt (z4 _ rfl) rfl))) ?_
  refine Eq.trans (congrArg toR (jr (jf _ _ _))) ?_
  have m5:sIf (sT (s2 (gIn true) (sC .non) (sV 4))) (kj 5 (sA a7m (aj (sV 4) d7))) sNx [some sc,some (.ref 0),some (.str (S M.tg)),some M.d,some (.tup (rsD M)),some .non,none,none] [o3] = .nx [some sc,some (.ref 0),some (.str (S M.tg)),some M.d,some (.tup (rsD M)),some (most (rsD M)),none,none] [o3]:=by
   have tq:sT (s2 (gIn true) (sC .non) (sV 4)) [some sc,some (.ref 0),some (.str (S M.tg)),some M.d,some (.tup (rsD M)),some .non,none,none] [o3] = .ok (!(rsD M).any xg) [o3]:=tof (jm (jf _ _ _) (bw rfl) (amf true aid _))
   cases b:(rsD M).any xg with
   | true =>
    rw [b] at tq
    have:most (rsD M) = .non:=by unfold most;rw [if_pos b]
    rw [this]
    exact Eq.trans (ifF tq) rfl
   | false =>
    rw [b] at tq
    exact Eq.trans (ifT tq) (aij (amg hM (bw rfl) b))
  refine Eq.trans (congrArg toR (a1x m5)) ?_
  have z6:∀ τ:Sd,τ[3]? = some (some M.d)→sZ (m7 (sIt (s2 gIx (sV 3) (sC (.int 1)))) t1 (acf PN.di PN.jc gk (dg 2) PN.gj PN.ik PN.ak bz dz) []) τ [o3] = .ok (.rol ((oth M).ms.map vz)) [o3]:=fun τ h3=>by
   show _=R.ok (D.rol ((M.ms.map _).map vz)) [o3]
   rw [List.map_map]
   refine ug (ud vz (vz ∘ fun m=>(m.1,List.replicate 6 Deed.shut)) M.ms (a5u (jm (bw h3) (jf _ _ _) (K69.atw _)) rfl) (j5 (by omega)) fun m hm=>?_) (iu fun m _=>ack _ _) (one P3)
   rw [yp]
   exact ahp (jm (bw rfl) (jf _ _ _) (acg (j:=0) rfl)) (jm (bw rfl) (jf _ _ _) (acg (j:=1) rfl)) (jm (yt (yt (jf _ _ _) EVX.axc) EVX.axc) (jf _ _ _) (ayb (k:=6) (by simp) (by omega) (by omega) (by simp))) atk
  refine Eq.trans (congrArg toR (jr (zm (bw rfl) (yt (z6 _ rfl) rfl) am4))) ?_
  refine Eq.trans (congrArg toR (a5l (a5u (ahp (bw rfl) (bw rfl) (bw rfl) atk) rfl))) ?_
  refine Eq.trans (congrArg (fun z=>toR (MI.thn z _)) e) ?_
  exact congrArg toR (yq (jf _ _ _))
 ·rintro pre N post τ hh all ⟨t7,rfl,rfl⟩
  have hN:N.Ok∧rsD N=rsD M:=by
   have:N∈[M,oth M,M]:=by rw [all];simp
   simp only [List.mem_cons,List.not_mem_nil,or_false] at this
   rcases this with rfl | rfl | rfl
   ·exact ⟨hM,rfl⟩
   ·exact ⟨hO,auc⟩
   ·exact ⟨hM,rfl⟩
  obtain ⟨hN,eN⟩:=hN
  have q1:=a0t hN
  have q2:=a5z hN
  rw [eN] at q1 q2
  refine ⟨_,_,rfl,[some sc,some (.ref 0),some (.str (S M.tg)),some M.d,some (.tup (rsD M)),some (most (rsD M)),some (oth M).d,some N.d],[o3],?_,_,rfl,rfl⟩
  unfold a7v
  exact Eq.trans (ifF (orF (aw9 (a2n (zm (yt (bw rfl) (q1 _)) (bw rfl) (aua aid _)) (vh _))) (aw9 (a2n (zm (yt (bw rfl) (q2 _)) (bw rfl) (au9 1 (ab0 _) _)) (vh _))))) rfl
end K71
namespace L2
open PySem PySem.Spec PySem.W PyProof.Rows
end L2
namespace K71
open PySem PySem.Spec L2 MI
section
variable {P:Program} {w:World} {K:PySem.W.Frag} {mg:Str→Option Value} {base:Heap} {f:Addr} {fd:FuncData}
theorem aue {f_17:Addr} {e_17:FuncData} (Fu_17:Fun K "_law_same" "_law_same" (top 21) f_17 e_17) (mk_17:mg "_law_same" = some (.ref f_17)) (kp_17:PySem.W.keepIn K (.ref f_17)=true) (bd_17:Binds K e_17 ["_law_found", "_law_due"] []) (M:Nm mg):∀ n:Nat,Dn P w K mg base (n+0) "_law_same" ["_law_found", "_law_due"] (uw K 2 (K71.dg n)) f_17 e_17:=by
 intro n
 induction n with
 | zero=>exact ⟨avv (ps:=["_law_found", "_law_due"]),mk_17,kp_17,bd_17⟩
 | succ n ih =>
  have e:n+1+0=n+0+1:=by omega
  rw [e]
  have s_law_same:=ih
  exact ⟨qy Fu_17 at7 (ayj M s_law_same (by omega)),mk_17,kp_17,bd_17⟩
end
def akx (K:PySem.W.Frag):Sp:=fun vs H Q _=>∃ (a:Addr) (ns:List Int),vs=[.ref a]∧SqF K H a (ns.map V.int)∧ns.length≤63∧∀ H',Q (.bl true) H'
theorem a04 {K:PySem.W.Frag} {ι:List Addr} {H:Hp}:∀ ns:List Int,Reps K ι H (ns.map V.int) (ns.map D.int)
 | []=>.nil
 | n::ns=>.cons (.int n) (a04 ns)
theorem auf {K:PySem.W.Frag} (vs:List V) (H:Hp) (Q:VK) (E:XK) (h:akx K vs H Q E):uw K 1 K71.akv vs H Q E:=by
 obtain ⟨a,ns,rfl,hS,hl,q⟩:=h
 obtain ⟨h',e⟩:=K71.aud ns
 refine ⟨rfl,[],[.scr (ns.map D.int)],[], .cons (.scr hS (a04 ns)) .nil,⟨List.nodup_nil,rfl,fun i a o z=>by simp at z⟩,?_⟩
 rw [e]
 intro ι' H' b g r hr
 cases r
 exact q H'
theorem auh {K:PySem.W.Frag} {H:Hp} {a:Addr} {vs:List V} (hO:Only H) (hS:SqL K H a vs):SqF K H a vs:=by
 rcases hS with r | r
 ·rcases r with r | ⟨o,r⟩
  ·rcases hO a with z | ⟨o,xs,z⟩<;>rw [z] at r<;>cases r
  ·exact .inl ⟨o,r⟩
 ·exact .inr (.inr r)
abbrev fo (x:Str) (t:Stmt) (kV dc pm:Value) (an:Option Addr) (cd ct:Value):=PySem.W.fnOf x x (a2t t) (iy t) (bc t) .none kV dc pm an cd ct
theorem aui {l:PySem.W.OpenLaw} {w:World} {K:PySem.W.Frag} {h:Heap} {mg:Str→Option Value} {fa f1 f2 f3 f4 f5 f6 f7 f8 f9 f10 f11 f12 f13 f14 f15 f16 f17 f18 f19 f20:Addr} (X:K.In h) (G:h.Ns mainGlobals mg) (hfa:mg "law" = some (.ref fa))
  {od1 an1 od2 an2 od3 an3 od4 an4 od5 an5 od6 an6 od7 an7 od8 an8 od9 an9 od10 an10 od11 an11 od12 an12 od13 an13 od14 an14 od15 an15 od16 an16 od17 an17 od18 an18 od19 an19 od20 an20:Option Addr} {sl1 sl2 sl3 sl4 sl5 sl6 sl7 sl8 sl9 sl10 sl11 sl12 sl13 sl14 sl15 sl16 sl17 sl18 sl19 sl20:Array (Option Value)} {oc1 kV1 dc1 pm1 cd1 ct1 oc2 kV2 dc2 pm2 cd2 ct2 oc3 kV3 dc3 pm3 cd3 ct3 oc4 kV4 dc4 pm4 cd4 ct4 oc5 kV5 dc5 pm5 cd5 ct5 oc6 kV6 dc6 pm6 cd6 ct6 oc7 kV7 dc7 pm7 cd7 ct7 oc8 kV8 dc8 pm8 cd8 ct8 oc9 kV9 dc9 pm9 cd9 ct9 oc10 kV10 dc10 pm10 cd10 ct10 oc11 kV11 dc11 pm11 cd11 ct11 oc12 kV12 dc12 pm12 cd12 ct12 oc13 kV13 dc13 pm13 cd13 ct13 oc14 kV14 dc14 pm14 cd14 ct14 oc15 kV15 dc15 pm15 cd15 ct15 oc16 kV16 dc16 pm16 cd16 ct16 oc17 kV17 dc17 pm17 cd17 ct17 oc18 kV18 dc18 pm18 cd18 ct18 oc19 kV19 dc19 pm19 cd19 ct19 oc20 kV20 dc20 pm20 cd20 ct20:Value}
  (a1:PySem.W.nsIn K mainGlobals "hope_words" = some (some (.ref f1))) (l1:K.lookup f1=some ⟨oc1,od1, .func (fo "hope_words" (top 1) kV1 dc1 pm1 an1 cd1 ct1),sl1⟩) (c1:PySem.W.codeIn K cd1 "hope_words" = true) (k1:PySem.W.keepIn K (.ref f1)=true)
  (a2:PySem.W.nsIn K mainGlobals "hope_word" = some (some (.ref f2))) (l2:K.lookup f2=some ⟨oc2,od2, .func (fo "hope_word" (top 2) kV2 dc2 pm2 an2 cd2 ct2),sl2⟩) (c2:PySem.W.codeIn K cd2 "hope_word" = true) (k2:PySem.W.keepIn K (.ref f2)=true)
  (a3:PySem.W.nsIn K mainGlobals "hopes" = some (some (.ref f3))) (l3:K.lookup f3=some ⟨oc3,od3, .func (fo "hopes" (top 3) kV3 dc3 pm3 an3 cd3 ct3),sl3⟩) (c3:PySem.W.codeIn K cd3 "hopes" = true) (k3:PySem.W.keepIn K (.ref f3)=true)
  (a4:PySem.W.nsIn K mainGlobals "reach" = some (some (.ref f4))) (l4:K.lookup f4=some ⟨oc4,od4, .func (fo "reach" (top 5) kV4 dc4 pm4 an4 cd4 ct4),sl4⟩) (c4:PySem.W.codeIn K cd4 "reach" = true) (k4:PySem.W.keepIn K (.ref f4)=true)
  (a5:PySem.W.nsIn K mainGlobals "reach_from" = some (some (.ref f5))) (l5:K.lookup f5=some ⟨oc5,od5, .func (fo "reach_from" (top 6) kV5 dc5 pm5 an5 cd5 ct5),sl5⟩) (c5:PySem.W.codeIn K cd5 "reach_from" = true) (k5:PySem.W.keepIn K (.ref f5)=true)
  (a6:PySem.W.nsIn K mainGlobals "mode_tables" = some (some (.ref f6))) (l6:K.lookup f6=some ⟨oc6,od6, .func (fo "mode_tables" (top 8) kV6 dc6 pm6 an6 cd6 ct6),sl6⟩) (c6:PySem.W.codeIn K cd6 "mode_tables" = true) (k6:PySem.W.keepIn K (.ref f6)=true)
  (a7:PySem.W.nsIn K mainGlobals "mode_reaches" = some (some (.ref f7))) (l7:K.lookup f7=some ⟨oc7,od7, .func (fo "mode_reaches" (top 9) kV7 dc7 pm7 an7 cd7 ct7),sl7⟩) (c7:PySem.W.codeIn K cd7 "mode_reaches" = true) (k7:PySem.W.keepIn K (.ref f7)=true)
  (a8:PySem.W.nsIn K mainGlobals "moded_reach" = some (some (.ref f8))) (l8:K.lookup f8=some ⟨oc8,od8, .func (fo "moded_reach" (top 10) kV8 dc8 pm8 an8 cd8 ct8),sl8⟩) (c8:PySem.W.codeIn K cd8 "moded_reach" = true) (k8:PySem.W.keepIn K (.ref f8)=true)
  (a9:PySem.W.nsIn K mainGlobals "_law_pen" = some (some (.ref f9))) (l9:K.lookup f9=some ⟨oc9,od9, .func (fo "_law_pen" (top 12) kV9 dc9 pm9 an9 cd9 ct9),sl9⟩) (c9:PySem.W.codeIn K cd9 "_law_pen" = true) (k9:PySem.W.keepIn K (.ref f9)=true)
  (a10:PySem.W.nsIn K mainGlobals "_law_take" = some (some (.ref f10))) (l10:K.lookup f10=some ⟨oc10,od10, .func (fo "_law_take" (top 13) kV10 dc10 pm10 an10 cd10 ct10),sl10⟩) (c10:PySem.W.codeIn K cd10 "_law_take" = true) (k10:PySem.W.keepIn K (.ref f10)=true)
  (a11:PySem.W.nsIn K mainGlobals "_law_signs" = some (some (.ref f11))) (l11:K.lookup f11=some ⟨oc11,od11, .func (fo "_law_signs" (top 14) kV11 dc11 pm11 an11 cd11 ct11),sl11⟩) (c11:PySem.W.codeIn K cd11 "_law_signs" = true) (k11:PySem.W.keepIn K (.ref f11)=true)
  (a12:PySem.W.nsIn K mainGlobals "_law_some" = some (some (.ref f12))) (l12:K.lookup f12=some ⟨oc12,od12, .func (fo "_law_some" (top 15) kV12 dc12 pm12 an12 cd12 ct12),sl12⟩) (c12:PySem.W.codeIn K cd12 "_law_some" = true) (k12:PySem.W.keepIn K (.ref f12)=true)
  (a13:PySem.W.nsIn K mainGlobals "_law_cut_down" = some (some (.ref f13))) (l13:K.lookup f13=some ⟨oc13,od13, .func (fo "_law_cut_down" (top 16) kV13 dc13 pm13 an13 cd13 ct13),sl13⟩) (c13:PySem.W.codeIn K cd13 "_law_cut_down" = true) (k13:PySem.W.keepIn K (.ref f13)=true)
  (a14:PySem.W.nsIn K mainGlobals "_law_table" = some (some (.ref f14))) (l14:K.lookup f14=some ⟨oc14,od14, .func (fo "_law_table" (top 17) kV14 dc14 pm14 an14 cd14 ct14),sl14⟩) (c14:PySem.W.codeIn K cd14 "_law_table" = true) (k14:PySem.W.keepIn K (.ref f14)=true)
  (a15:PySem.W.nsIn K mainGlobals "_law_deeds" = some (some (.ref f15))) (l15:K.lookup f15=some ⟨oc15,od15, .func (fo "_law_deeds" (top 18) kV15 dc15 pm15 an15 cd15 ct15),sl15⟩) (c15:PySem.W.codeIn K cd15 "_law_deeds" = true) (k15:PySem.W.keepIn K (.ref f15)=true)
  (a16:PySem.W.nsIn K mainGlobals "_law_machine" = some (some (.ref f16))) (l16:K.lookup f16=some ⟨oc16,od16, .func (fo "_law_machine" (top 19) kV16 dc16 pm16 an16 cd16 ct16),sl16⟩) (c16:PySem.W.codeIn K cd16 "_law_machine" = true) (k16:PySem.W.keepIn K (.ref f16)=true)
  (a17:PySem.W.nsIn K mainGlobals "_law_hope" = some (some (.ref f17))) (l17:K.lookup f17=some ⟨oc17,od17, .func (fo "_law_hope" (top 20) kV17 dc17 pm17 an17 cd17 ct17),sl17⟩) (c17:PySem.W.codeIn K cd17 "_law_hope" = true) (k17:PySem.W.keepIn K (.ref f17)=true)
  (a18:PySem.W.nsIn K mainGlobals "_law_same" = some (some (.ref f18))) (l18:K.lookup f18=some ⟨oc18,od18, .func (fo "_law_same" (top 21) kV18 dc18 pm18 an18 cd18 ct18),sl18⟩) (c18:PySem.W.codeIn K cd18 "_law_same" = true) (k18:PySem.W.keepIn K (.ref f18)=true)
  (a19:PySem.W.nsIn K mainGlobals "_law_reach" = some (some (.ref f19))) (l19:K.lookup f19=some ⟨oc19,od19, .func (fo "_law_reach" (top 22) kV19 dc19 pm19 an19 cd19 ct19),sl19⟩) (c19:PySem.W.codeIn K cd19 "_law_reach" = true) (k19:PySem.W.keepIn K (.ref f19)=true)
  (a20:PySem.W.nsIn K mainGlobals "law" = some (some (.ref f20))) (l20:K.lookup f20=some ⟨oc20,od20, .func (fo "law" (top 23) kV20 dc20 pm20 an20 cd20 ct20),sl20⟩) (c20:PySem.W.codeIn K cd20 "law" = true) (k20:PySem.W.keepIn K (.ref f20)=true)
  (z1:PySem.W.nsIn K mainGlobals "abs" = some none) (z2:PySem.W.nsIn K mainGlobals "any" = some none) (z3:PySem.W.nsIn K mainGlobals "bool" = some none) (z4:PySem.W.nsIn K mainGlobals "enumerate" = some none) (z5:PySem.W.nsIn K mainGlobals "int" = some none) (z6:PySem.W.nsIn K mainGlobals "isinstance" = some none) (z7:PySem.W.nsIn K mainGlobals "len" = some none) (z8:PySem.W.nsIn K mainGlobals "list" = some none) (z9:PySem.W.nsIn K mainGlobals "max" = some none) (z10:PySem.W.nsIn K mainGlobals "min" = some none) (z11:PySem.W.nsIn K mainGlobals "range" = some none) (z12:PySem.W.nsIn K mainGlobals "set" = some none) (z13:PySem.W.nsIn K mainGlobals "sorted" = some none) (z14:PySem.W.nsIn K mainGlobals "str" = some none) (z15:PySem.W.nsIn K mainGlobals "sum" = some none) (z16:PySem.W.nsIn K mainGlobals "tuple" = some none) (z17:PySem.W.nsIn K mainGlobals "zip" = some none)  :
  ∃ fd:FuncData,(∀ (s:Shared) (v:Value),BindsTo s fd ⟨[v],[]⟩ [("_law_script",v)])∧∀ base:Heap,K.In base→base.Ns mainGlobals mg→FnOk l.prog w K mg base CX0 7 fa fd ["_law_script"] (akx K):=by
 have e:=hfa.symm.trans (PySem.W.mg_of X G a20)
 cases e
 have F1:=qw (st:=top 1) l1 c1 k1
 have b1:=F1.binds (ps:=["table"]) fun _ _ _ _ _ _ us hl=>match us,hl with | [_],_=>rfl
 have F2:=qw (st:=top 2) l2 c2 k2
 have b2:=F2.binds (ps:=["table", "start"]) fun _ _ _ _ _ _ us hl=>match us,hl with | [_,_],_=>rfl
 have F3:=qw (st:=top 3) l3 c3 k3
 have b3:=F3.binds (ps:=["table"]) fun _ _ _ _ _ _ us hl=>match us,hl with | [_],_=>rfl
 have F4:=qw (st:=top 5) l4 c4 k4
 have b4:=F4.binds (ps:=["table"]) fun _ _ _ _ _ _ us hl=>match us,hl with | [_],_=>rfl
 have F5:=qw (st:=top 6) l5 c5 k5
 have b5:=F5.binds (ps:=["table", "hope", "starts"]) fun _ _ _ _ _ _ us hl=>match us,hl with | [_,_,_],_=>rfl
 have F6:=qw (st:=top 8) l6 c6 k6
 have b6:=F6.binds (ps:=["machine"]) fun _ _ _ _ _ _ us hl=>match us,hl with | [_],_=>rfl
 have F7:=qw (st:=top 9) l7 c7 k7
 have b7:=F7.binds (ps:=["machine"]) fun _ _ _ _ _ _ us hl=>match us,hl with | [_],_=>rfl
 have F8:=qw (st:=top 10) l8 c8 k8
 have b8:=F8.binds (ps:=["machine"]) fun _ _ _ _ _ _ us hl=>match us,hl with | [_],_=>rfl
 have F9:=qw (st:=top 12) l9 c9 k9
 have b9:=F9.binds (ps:=["_law_script"]) fun _ _ _ _ _ _ us hl=>match us,hl with | [_],_=>rfl
 have F10:=qw (st:=top 13) l10 c10 k10
 have b10:=F10.binds (ps:=["_law_pen_here", "_law_many"]) fun _ _ _ _ _ _ us hl=>match us,hl with | [_,_],_=>rfl
 have F11:=qw (st:=top 14) l11 c11 k11
 have b11:=F11.binds (ps:=[]) fun _ _ _ _ _ _ us hl=>match us,hl with | [],_=>rfl
 have F12:=qw (st:=top 15) l12 c12 k12
 have b12:=F12.binds (ps:=["_law_pen_here", "_law_rest", "_law_most"]) fun _ _ _ _ _ _ us hl=>match us,hl with | [_,_,_],_=>rfl
 have F13:=qw (st:=top 16) l13 c13 k13
 have b13:=F13.binds (ps:=["_law_tongue", "_law_goes", "_law_kinds", "_law_turn"]) fun _ _ _ _ _ _ us hl=>match us,hl with | [_,_,_,_],_=>rfl
 have F14:=qw (st:=top 17) l14 c14 k14
 have b14:=F14.binds (ps:=["_law_pen_here", "_law_tongue", "_law_most"]) fun _ _ _ _ _ _ us hl=>match us,hl with | [_,_,_],_=>rfl
 have F15:=qw (st:=top 18) l15 c15 k15
 have b15:=F15.binds (ps:=["_law_pen_here", "_law_size", "_law_many"]) fun _ _ _ _ _ _ us hl=>match us,hl with | [_,_,_],_=>rfl
 have F16:=qw (st:=top 19) l16 c16 k16
 have b16:=F16.binds (ps:=["_law_pen_here", "_law_tongue", "_law_most"]) fun _ _ _ _ _ _ us hl=>match us,hl with | [_,_,_],_=>rfl
 have F17:=qw (st:=top 20) l17 c17 k17
 have b17:=F17.binds (ps:=["_law_goes", "_law_kinds"]) fun _ _ _ _ _ _ us hl=>match us,hl with | [_,_],_=>rfl
 have F18:=qw (st:=top 21) l18 c18 k18
 have b18:=F18.binds (ps:=["_law_found", "_law_due"]) fun _ _ _ _ _ _ us hl=>match us,hl with | [_,_],_=>rfl
 have F19:=qw (st:=top 22) l19 c19 k19
 have b19:=F19.binds (ps:=["_law_goes", "_law_kinds"]) fun _ _ _ _ _ _ us hl=>match us,hl with | [_,_],_=>rfl
 have F20:=qw (st:=top 23) l20 c20 k20
 have b20:=F20.binds (ps:=["_law_script"]) fun _ _ _ _ _ _ us hl=>match us,hl with | [_],_=>rfl
 have M:Nm mg:=⟨PySem.W.mg_none_of X G z1,PySem.W.mg_none_of X G z2,PySem.W.mg_none_of X G z3,PySem.W.mg_none_of X G z4,PySem.W.mg_none_of X G z5,PySem.W.mg_none_of X G z6,PySem.W.mg_none_of X G z7,PySem.W.mg_none_of X G z8,PySem.W.mg_none_of X G z9,PySem.W.mg_none_of X G z10,PySem.W.mg_none_of X G z11,PySem.W.mg_none_of X G z12,PySem.W.mg_none_of X G z13,PySem.W.mg_none_of X G z14,PySem.W.mg_none_of X G z15,PySem.W.mg_none_of X G z16,PySem.W.mg_none_of X G z17⟩
 refine ⟨PySem.W.fnOf "law" "law" (a2t (top 23)) (iy (top 23)) (bc (top 23)) .none kV20 dc20 pm20 an20 cd20 ct20,fun s v=>.of_eq rfl,fun base _ _=>?_⟩
 have D_1:Dn l.prog w K mg base 1 "hope_word" ["table", "start"] (uw K 2 (RCH.dj)) _ _:=⟨qy F2 ax1 (m_1 M),PySem.W.mg_of X G a2,k2,b2⟩
 have D_0:Dn l.prog w K mg base 2 "hope_words" ["table"] (uw K 1 (RCH.d9)) _ _:=⟨qy F1 ax0 (m_0 M D_1 (by decide)),PySem.W.mg_of X G a1,k1,b1⟩
 have D_2:Dn l.prog w K mg base 3 "hopes" ["table"] (uw K 1 (RCH.qb)) _ _:=⟨qy F3 ax2 (m_2 M D_0 (by decide)),PySem.W.mg_of X G a3,k3,b3⟩
 have D_4:Dn l.prog w K mg base 1 "reach_from" ["table", "hope", "starts"] (uw K 3 (RCH.jd)) _ _:=⟨qy F5 ax4 (m_4 M),PySem.W.mg_of X G a5,k5,b5⟩
 have D_3:Dn l.prog w K mg base 4 "reach" ["table"] (uw K 1 (RCH.zp)) _ _:=⟨qy F4 ax3 (m_3 M D_2 (by decide) D_4 (by decide)),PySem.W.mg_of X G a4,k4,b4⟩
 have D_5:Dn l.prog w K mg base 1 "mode_tables" ["machine"] (uw K 1 (K71.ie)) _ _:=⟨qy F6 ax5 (m_5 ),PySem.W.mg_of X G a6,k6,b6⟩
 have D_6:Dn l.prog w K mg base 5 "mode_reaches" ["machine"] (uw K 1 (K71.bz)) _ _:=⟨qy F7 ax6 (m_6 M D_5 (by decide) D_3 (by decide)),PySem.W.mg_of X G a7,k7,b7⟩
 have D_7:Dn l.prog w K mg base 6 "moded_reach" ["machine"] (uw K 1 (K71.dz)) _ _:=⟨qy F8 ax7 (m_7 M D_6 (by decide)),PySem.W.mg_of X G a8,k8,b8⟩
 have D_8:Dn l.prog w K mg base 1 "_law_pen" ["_law_script"] (uw K 1 (PN.jc)) _ _:=⟨qy F9 ax8 (m_8 ),PySem.W.mg_of X G a9,k9,b9⟩
 have D_9:Dn l.prog w K mg base 1 "_law_take" ["_law_pen_here", "_law_many"] (uw K 2 (PN.ak)) _ _:=⟨qy F10 ax9 (m_9 M),PySem.W.mg_of X G a10,k10,b10⟩
 have D_10:Dn l.prog w K mg base 1 "_law_signs" [] (uw K 0 (PN.gj)) _ _:=⟨qy F11 asv (ayc ),PySem.W.mg_of X G a11,k11,b11⟩
 have D_11:Dn l.prog w K mg base 2 "_law_some" ["_law_pen_here", "_law_rest", "_law_most"] (uw K 3 (PN.ik)) _ _:=⟨qy F12 asw (ayd M D_9 (by decide)),PySem.W.mg_of X G a12,k12,b12⟩
 have D_12:Dn l.prog w K mg base 1 "_law_cut_down" ["_law_tongue", "_law_goes", "_law_kinds", "_law_turn"] (uw K 4 (PN.dh)) _ _:=⟨qy F13 asx (aye M),PySem.W.mg_of X G a13,k13,b13⟩
 have D_13:Dn l.prog w K mg base 2 "_law_table" ["_law_pen_here", "_law_tongue", "_law_most"] (uw K 3 (PN.jn)) _ _:=⟨qy F14 asy (ayf M D_12 (by decide) D_9 (by decide)),PySem.W.mg_of X G a14,k14,b14⟩
 have D_14:Dn l.prog w K mg base 2 "_law_deeds" ["_law_pen_here", "_law_size", "_law_many"] (uw K 3 (PN.jo)) _ _:=⟨qy F15 asz (ayg M D_9 (by decide)),PySem.W.mg_of X G a15,k15,b15⟩
 have D_15:Dn l.prog w K mg base 3 "_law_machine" ["_law_pen_here", "_law_tongue", "_law_most"] (uw K 3 (PN.di)) _ _:=⟨qy F16 at5 (ayh M D_14 (by decide) D_13 (by decide) D_9 (by decide)),PySem.W.mg_of X G a16,k16,b16⟩
 have D_16:Dn l.prog w K mg base 1 "_law_hope" ["_law_goes", "_law_kinds"] (uw K 2 (K71.bf)) _ _:=⟨qy F17 at6 (ayi M),PySem.W.mg_of X G a17,k17,b17⟩
 have D_17:=aue (P:=l.prog) (w:=w) (base:=base) F18 (PySem.W.mg_of X G a18) k18 b18 M 2
 have D_18:Dn l.prog w K mg base 2 "_law_reach" ["_law_goes", "_law_kinds"] (uw K 2 (K71.gk)) _ _:=⟨qy F19 at8 (ayk M D_16 (by decide)),PySem.W.mg_of X G a19,k19,b19⟩
 have D_19:Dn l.prog w K mg base 7 "law" ["_law_script"] (uw K 1 (K71.akv)) _ _:=⟨qy F20 at9 (ayl M D_15 (by decide) D_8 (by decide) D_18 (by decide) D_17 (by decide) D_10 (by decide) D_11 (by decide) D_9 (by decide) D_6 (by decide) D_7 (by decide)),PySem.W.mg_of X G a20,k20,b20⟩
 exact D_19.ok.imp auf
theorem walk {l:PySem.W.OpenLaw} {q:Program} {loose:List Str} {XP:(Str→Option Value)→Heap→Prop} {YP:World→Heap→Prop} {d:DefRec} {K:Params→PySem.W.Frag} (hn:l.most=some 63) (hdf:d.params.defaults=[])
  (hY:∀ (w:World) (h:Heap),YP w h→(K w.params).In h)
  (F:∀ (w:World) (mg:Str→Option Value) (fa:Addr) (h:Heap),(K w.params).In h→h.Ns mainGlobals mg→mg d.name=some (.ref fa) →
   ∃ fd:FuncData,(∀ (s:Shared) (u:Value),BindsTo s fd ⟨[u],[]⟩ [("_law_script",u)])∧∀ base:Heap,(K w.params).In base→base.Ns mainGlobals mg→FnOk l.prog w (K w.params) mg base CX0 7 fa fd ["_law_script"] (akx (K w.params))) :
  PySem.W.WalkO q loose XP YP l.row.toRowW d [] (fun f vs=>PySem.call f vs) :=
 L2.anb (n:=63) (k:=7) (x := "_law_script") (CX:=fun _=>CX0) (sp:=fun w=>akx (K w.params)) hn (by decide) hdf ⟨rfl,by decide,by decide,rfl⟩ hY F (fun _ _ a ns hl hO hS=>⟨a,ns,rfl,auh hO hS,hl,fun _=>rfl⟩) fun _ _ _ _ _ z=>z
end K71
open PySem PySem.W PyProof.Rows
theorem K71.said:PySem.Challenge.rw_nearreach_k71_reaches_of_modes.wellSaid=true:=by kernel_rfl
noncomputable def K71.hq:Program:=view PySem.Challenge.pw_nearreach_k71_reaches_of_modes [PySem.Challenge.pw_nearreach_k71_reaches_of_modes.main.body.length - 1]
noncomputable def K71.hl:List Str:=PySem.Challenge.pw_nearreach_k71_reaches_of_modes.boundNames
local macro_rules | `(tactic| o_head $H) => `(tactic| refine PySem.W.holds_open (q:=K71.hq) (loose:=K71.hl) (Xt:=fun _=>true) (XP:=fun _ _=>True) (Yf:=Hook.obs $H) (Ya:=Hook.val $H) (YP:=Hook.says $H) (N:=20000) ?hl (Hook.of $H) (Hook.keeps $H) (fun _ _=>trivial) (fun _ _ _ _ _=>trivial) (by rfl) (by rfl) (by rfl) (fun _ _=>recFacts_nil rfl) (by rfl) (by assumption) (by decide +kernel) ⟨rfl,rfl,rfl,rfl,rfl,by decide +kernel⟩ ?hw ?hc)
set_option maxRecDepth 100000 in
set_option maxHeartbeats 0 in
theorem PySem.Challenge.cw_nearreach_k71_reaches_of_modes_holds : PySem.Challenge.rw_nearreach_k71_reaches_of_modes.Holds := by
 w_on;refine holds_law K71.said fun said=>?_;k_head
 (case hw=>w_witness2)
 (case hl=>intro w;kernel_rfl)
 k_fill
 refine K71.walk (l:=PySem.Challenge.rw_nearreach_k71_reaches_of_modes) rfl rfl (fun w h Y=>PySem.W.kIn_of Y) ?F
 case F =>
  intro w mg fa h KX G hmg
  refine' K71.aui KX G hmg ?a1 ?l1 ?c1 ?k1 ?a2 ?l2 ?c2 ?k2 ?a3 ?l3 ?c3 ?k3 ?a4 ?l4 ?c4 ?k4 ?a5 ?l5 ?c5 ?k5 ?a6 ?l6 ?c6 ?k6 ?a7 ?l7 ?c7 ?k7 ?a8 ?l8 ?c8 ?k8 ?a9 ?l9 ?c9 ?k9 ?a10 ?l10 ?c10 ?k10 ?a11 ?l11 ?c11 ?k11 ?a12 ?l12 ?c12 ?k12 ?a13 ?l13 ?c13 ?k13 ?a14 ?l14 ?c14 ?k14 ?a15 ?l15 ?c15 ?k15 ?a16 ?l16 ?c16 ?k16 ?a17 ?l17 ?c17 ?k17 ?a18 ?l18 ?c18 ?k18 ?a19 ?l19 ?c19 ?k19 ?a20 ?l20 ?c20 ?k20 ?z1 ?z2 ?z3 ?z4 ?z5 ?z6 ?z7 ?z8 ?z9 ?z10 ?z11 ?z12 ?z13 ?z14 ?z15 ?z16 ?z17
  (case a1=>k_is);(case l1=>k_is);(case c1=>k_is);(case k1=>k_is)
  (case a2=>k_is);(case l2=>k_is);(case c2=>k_is);(case k2=>k_is)
  (case a3=>k_is);(case l3=>k_is);(case c3=>k_is);(case k3=>k_is)
  (case a4=>k_is);(case l4=>k_is);(case c4=>k_is);(case k4=>k_is)
  (case a5=>k_is);(case l5=>k_is);(case c5=>k_is);(case k5=>k_is)
  (case a6=>k_is);(case l6=>k_is);(case c6=>k_is);(case k6=>k_is)
  (case a7=>k_is);(case l7=>k_is);(case c7=>k_is);(case k7=>k_is)
  (case a8=>k_is);(case l8=>k_is);(case c8=>k_is);(case k8=>k_is)
  (case a9=>k_is);(case l9=>k_is);(case c9=>k_is);(case k9=>k_is)
  (case a10=>k_is);(case l10=>k_is);(case c10=>k_is);(case k10=>k_is)
  (case a11=>k_is);(case l11=>k_is);(case c11=>k_is);(case k11=>k_is)
  (case a12=>k_is);(case l12=>k_is);(case c12=>k_is);(case k12=>k_is)
  (case a13=>k_is);(case l13=>k_is);(case c13=>k_is);(case k13=>k_is)
  (case a14=>k_is);(case l14=>k_is);(case c14=>k_is);(case k14=>k_is)
  (case a15=>k_is);(case l15=>k_is);(case c15=>k_is);(case k15=>k_is)
  (case a16=>k_is);(case l16=>k_is);(case c16=>k_is);(case k16=>k_is)
  (case a17=>k_is);(case l17=>k_is);(case c17=>k_is);(case k17=>k_is)
  (case a18=>k_is);(case l18=>k_is);(case c18=>k_is);(case k18=>k_is)
  (case a19=>k_is);(case l19=>k_is);(case c19=>k_is);(case k19=>k_is)
  (case a20=>k_is);(case l20=>k_is);(case c20=>k_is);(case k20=>k_is)
  (case z1=>k_is)
  (case z2=>k_is)
  (case z3=>k_is)
  (case z4=>k_is)
  (case z5=>k_is)
  (case z6=>k_is)
  (case z7=>k_is)
  (case z8=>k_is)
  (case z9=>k_is)
  (case z10=>k_is)
  (case z11=>k_is)
  (case z12=>k_is)
  (case z13=>k_is)
  (case z14=>k_is)
  (case z15=>k_is)
  (case z16=>k_is)
  (case z17=>k_is)
