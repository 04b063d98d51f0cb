import PyProof.Rows.All
import Wide.All
import OpenK.AllK
import Wide.FinOn
import Lean
import PyProof.EqAt
import PyProof.EqKinds
import PyProof.TupleCall
import PyProof.ListStr
import PyProof.TupleOfStr
import PyProof.ConsumeWalk
import PyProof.SliceStr2
import PyProof.CompUse
import PyProof.Rows.SetFrom
import PyProof.SetRoads
import PyProof.StrLawsIn
import PyProof.Rows.StrIndexOr
import PyProof.Rows.StrJoin2
import PyProof.Rows.SumAny
import PyProof.Draws
import PyProof.ZipIter
import PyProof.EnumMake
import PyProof.ListRange
import PyProof.Rows.Range3
import KE.KStateDown
import PyProof.ReprRoads
import PyProof.CallFns
import KE.KTryDeep
import PyProof.ExcBaseAll.ValueError
import KE.KTryMore
import KE.KIsNot
import PyProof.ExcAttrAll.ValueError
import PyProof.NsDelKeeps
import PySem.Challenge.RW_nearreach_k20_tables_of_anything
set_option Elab.async false
set_option linter.all false
set_option maxRecDepth 100000
namespace L2
open PySem PySem.Spec PyProof.Rows
abbrev Key:=Sum Int Str
def acw:Key→Value→Bool
 | .inl k,v=>Value.isInt k v
 | .inr x,v=>Value.isStrOf x v
def awz (w:World):Key→Int
 | .inl k=>hashInt k
 | .inr x=>hashStr w x
theorem qm:∀ {k:Key} {v:Value},acw k v=true→(∃ i t,k=Sum.inl i∧v=Value.int i t)∨(∃ x t,k=Sum.inr x∧v=Value.str x t)
 | .inl i,v,h=>by
  obtain ⟨t,e⟩:=Value.isInt_shape (k:=i) (v:=v) h
  exact .inl ⟨i,t,rfl,e⟩
 | .inr x,v,h=>by
  obtain ⟨t,e⟩:=Value.isStrOf_shape (x:=x) (v:=v) h
  exact .inr ⟨x,t,rfl,e⟩
theorem adu (i:Int) (t:Tok):acw (.inl i) (.int i t)=true:=by simp [acw,Value.isInt]
theorem adv (x:Str) (t:Tok):acw (.inr x) (.str x t)=true:=by simp [acw,Value.isStrOf]
theorem aob (a b:Int):decide ((Sum.inl a:Key)=Sum.inl b)=(a == b):=by
 by_cases e:a=b
 ·subst e;simp
 ·have h:¬ (Sum.inl a:Key)=Sum.inl b:=fun q=>e (Sum.inl.inj q)
  rw [decide_eq_false h]
  exact (beq_eq_false_iff_ne.mpr e).symm
theorem aoc (a b:Str):decide ((Sum.inr a:Key)=Sum.inr b)=decide (a=b):=by
 by_cases e:a=b
 ·subst e;simp
 ·have h:¬ (Sum.inr a:Key)=Sum.inr b:=fun q=>e (Sum.inr.inj q)
  rw [decide_eq_false h,decide_eq_false e]
theorem aod (a:Int) (b:Str):decide ((Sum.inl a:Key)=Sum.inr b)=false:=decide_eq_false (fun q=>nomatch q)
theorem aoe (a:Str) (b:Int):decide ((Sum.inr a:Key)=Sum.inl b)=false:=decide_eq_false (fun q=>nomatch q)
def uf (prog:Program) (w:World):PySem.KeyKind prog w Key where
 is:=acw
 hash:=awz w
 inj:=fun v a b ha hb=>by
  rcases qm ha with ⟨i,t,rfl,rfl⟩ | ⟨x,t,rfl,rfl⟩
  ·rcases qm hb with ⟨j,u,rfl,e⟩ | ⟨y,u,rfl,e⟩
   ·injection e with e1 _;rw [e1]
   ·exact nomatch e
  ·rcases qm hb with ⟨j,u,rfl,e⟩ | ⟨y,u,rfl,e⟩
   ·exact nomatch e
   ·injection e with e1 _;rw [e1]
 byValue:=fun k v h=>by
  rcases qm h with ⟨i,t,rfl,rfl⟩ | ⟨x,t,rfl,rfl⟩<;>rfl
 pyHash:=fun hv h=>by
  rcases qm hv with ⟨i,t,rfl,rfl⟩ | ⟨x,t,rfl,rfl⟩
  ·exact wpAny_pyHash_int h
  ·exact wpAny_pyHash_str h
 eqBool:=fun hu hv h=>by
  rcases qm hu with ⟨i,t,rfl,rfl⟩ | ⟨x,t,rfl,rfl⟩
  ·rcases qm hv with ⟨j,u,rfl,rfl⟩ | ⟨y,u,rfl,rfl⟩
   ·rw [aob] at h;exact wpAny_eqBool_int h
   ·rw [aod] at h;exact SeqAt.EqAt.int_str i t y u _ _ _ _ h
  ·rcases qm hv with ⟨j,u,rfl,rfl⟩ | ⟨y,u,rfl,rfl⟩
   ·rw [aoe] at h;exact SeqAt.EqAt.str_int x t j u _ _ _ _ h
   ·rw [aoc] at h;exact wpAny_eqBool_str h
 «strs»:=fun k x t v h=>by
  rcases qm h with ⟨i,u,rfl,e⟩ | ⟨y,u,rfl,e⟩
  ·exact nomatch e
  ·injection e with e1 _
   subst e1
   cases v<;>rfl
theorem aa7 (prog:Program) (w:World) (i:Int) (t:Tok):(uf prog w).is (.inl i) (.int i t)=true:=adu i t
theorem aa8 (prog:Program) (w:World) (x:Str) (t:Tok):(uf prog w).is (.inr x) (.str x t)=true:=adv x t
end L2
namespace L2
open PySem PySem.Spec PyProof.Rows
inductive V where
 | non | bl (b:Bool) | int (i:Int) | str (x:Str) | byt (b:Array UInt8) | flt (b:UInt64) | ref (a:Addr) | ty (n:String)
 deriving DecidableEq
def RelV:V→Value→Prop
 | .non,u=>u=Value.none
 | .bl b,u=>u=Value.bool b
 | .int i,u=>∃ t,u=Value.int i t
 | .str x,u=>∃ t,u=Value.str x t
 | .byt b,u=>∃ t,u=Value.bytes b t
 | .flt b,u=>∃ t,u=Value.float b t
 | .ref a,u=>u=Value.ref a
 | .ty n,u=>u=Value.type n
abbrev Vals:List V→List Value→Prop:=Paired RelV
theorem Vals.length {xs:List V} {us:List Value} (r:Vals xs us):xs.length=us.length:=Paired.length r
theorem Vals.get:∀ {xs:List V} {us:List Value} {i:Nat} {x:V},Vals xs us→xs[i]? = some x→∃ u,us[i]? = some u∧RelV x u
 | _,_,_,_, .nil,e=>by simp at e
 | _,_,0,_, .cons r _,e=>by simp at e;subst e;exact ⟨_,rfl,r⟩
 | _,_,i+1,x, .cons _ t,e=>by
  obtain ⟨u,h1,h2⟩:=Vals.get (i:=i) (x:=x) t (by simpa using e)
  exact ⟨u,by simpa using h1,h2⟩
theorem Vals.set {x:V} {u:Value} (r:RelV x u):∀ {xs:List V} {us:List Value} (i:Nat),Vals xs us→Vals (xs.set i x) (us.set i u)
 | _,_,_, .nil=>.nil
 | _,_,0, .cons _ t=>.cons r t
 | _,_,i+1, .cons q t=>.cons q (Vals.set r i t)
theorem Vals.append:∀ {xs ys:List V} {us ws:List Value},Vals xs us→Vals ys ws→Vals (xs++ys) (us++ws)
 | _,_,_,_, .nil,s=>s
 | _,_,_,_, .cons r t,s=>.cons r (Vals.append t s)
theorem Vals.take:∀ {xs:List V} {us:List Value} (n:Nat),Vals xs us→Vals (xs.take n) (us.take n)
 | _,_,0,_=>.nil
 | _,_,_+1, .nil=>.nil
 | _,_,n+1, .cons r t=>.cons r (Vals.take n t)
theorem Vals.drop:∀ {xs:List V} {us:List Value} (n:Nat),Vals xs us→Vals (xs.drop n) (us.drop n)
 | _,_,0,r=>r
 | _,_,_+1, .nil=>.nil
 | _,_,n+1, .cons _ t=>Vals.drop n t
def RelO:Option V→Option Value→Prop
 | some v,some u=>RelV v u
 | none,none=>True
 | _,_=>False
def KV {κ:Type}:List (κ × V)→List (κ × Value)→Prop:=Paired fun (p:κ × V) (q:κ × Value)=>p.1=q.1∧RelV p.2 q.2
def kV:Key→V
 | .inl i=>.int i
 | .inr x=>.str x
inductive HO where
 | lst (xs:List V)
 | tup (xs:List V)
 | dK (kvs:List (Key × V)) | dT (kvs:List (List Key × V))
 | set (S:Int→Bool) (n:Nat)
 | ins (C dx:Addr) (fs:List (Str × V))
 | own (x:Addr)
 | xd (fs:List (Str × V))
 | met (f x:Addr)
 | rng (lo hi:Int)
 | frz (o:Obj) (u:HO)
 | tbl (ps:Array Value)
 | ext (φ:Heap→Prop)
abbrev Hp:=Addr→Option HO
def upd (H:Hp) (a:Addr) (o:HO):Hp:=fun b=>if b=a then some o else H b
theorem jy {H:Hp} {a:Addr} {o:HO}:upd H a o a=some o:=by unfold upd;rw [if_pos rfl]
theorem iz {H:Hp} {a b:Addr} {o:HO} (h:b≠a):upd H a o b=H b:=by unfold upd;rw [if_neg h]
theorem au0 {H:Hp} {a b:Addr} {o u:HO} (h:H a=some o) (h':H b=some u) (d:o≠u):a≠b:=by
 intro e;subst e;rw [h] at h';exact d (Option.some.inj h')
theorem jd {H:Hp} {a b:Addr} {o:HO} (h:H a=some o) (h':H b=none):a≠b:=by
 intro e;subst e;rw [h] at h';cases h'
section
variable (P:Program) (w:World)
def ObjOk (H:Hp) (h:Heap) (a:Addr):HO→Prop
 | .lst xs=>xs.length≤sizeLine∧∃ (its:List Value) (n:Nat),Vals xs its∧h.get? a=some { cls:=.type "list",data:=.seq its.toArray n }
 | .tup xs=>xs.length≤sizeLine∧∃ its:List Value,Vals xs its∧IsTup h a its.toArray
 | .dK kvs=>kvs.length≤sizeLine∧(a == sysModules)=false∧∃ vs,KV kvs vs∧h.DictOf (uf P w) a vs
 | .dT kvs=>kvs.length≤sizeLine∧(a == sysModules)=false∧∃ xs:List (List Key × Addr × Value),
   Paired (fun (p:List Key × V) (q:List Key × Addr × Value)=>p.1=q.1∧H q.2.1=some (.tup (p.1.map kV))∧RelV p.2 q.2.2) kvs xs ∧
   ∃ o es ep,h.get? a=some o∧o.ExactDict∧o.data = .dict es ep∧es.toList=xs.map (entryOfKey (tupleKind (uf P w)))∧(xs.map (·.1)).Nodup
 | .set S n=>h.SetOf (intKind P w) a S n
 | .ins C dx fs=>H dx=some (.own a)∧fs.length≤1000∧dx≠a∧h.get? a=some (PySem.W.instObj C dx) ∧
   ∃ mA,h.Ns1 dx mA∧(∀ f,RelO (fs.lookup f) (mA f))∧PySem.Within mA (fs.map (·.1))
 | .own _=>∃ o,h.get? a=some o
 | .xd fs=>∃ mA,h.Ns1 a mA∧∀ f,RelO (fs.lookup f) (mA f)
 | .rng lo hi=>∃ t u v,h.get? a=some { cls:=.type "range",data:=.fields #[.int lo t, .int hi u, .int 1 v] }
 | .frz o u=>h.get? a=some o∧ObjOk H h a u
 | .tbl ps=>h.get? a=some { cls:=.none,data:=.fields ps }
 | .met f x=>h.get? a=some (PySem.W.methodObj (.ref f) (.ref x))
 | .ext φ=>φ h∧(∃ o,h.get? a=some o)∧∀ h1 h2:Heap,φ h1→(∀ o,h1.get? a=some o→h2.get? a=some o)→φ h2
def HOk (H:Hp) (h:Heap):Prop:=∀ a o,H a=some o→ObjOk P w H h a o
end
section
variable {P:Program} {w:World} {H H':Hp} {h h':Heap} {a:Addr} {o:HO}
theorem ObjOk.lt (x:ObjOk P w H h a o):a<h.objs.size:=by
 cases o with
 | lst xs=>obtain ⟨_,_,_,_,e⟩:=x;exact Heap.lt_size e
 | tup xs=>obtain ⟨_,_,_,p⟩:=x;exact p.lt
 | dK kvs=>obtain ⟨_,_,_,_,o,_,_,e,_⟩:=x;exact Heap.lt_size e
 | dT kvs=>obtain ⟨_,_,_,_,o,_,_,e,_⟩:=x;exact Heap.lt_size e
 | set S n=>obtain ⟨o,_,_,_,e,_⟩:=x;exact Heap.lt_size e
 | ins C dx fs=>obtain ⟨_,_,_,e,_⟩:=x;exact Heap.lt_size e
 | own y=>obtain ⟨_,e⟩:=x;exact Heap.lt_size e
 | xd fs=>obtain ⟨_,⟨_,_,_,e,_⟩,_⟩:=x;exact Heap.lt_size e
 | rng lo hi=>obtain ⟨_,_,_,e⟩:=x;exact Heap.lt_size e
 | frz ob u=>obtain ⟨e,_⟩:=x;exact Heap.lt_size e
 | tbl ps=>exact Heap.lt_size (show h.get? a=some _ from x)
 | met f y=>exact Heap.lt_size (show h.get? a=some _ from x)
 | ext φ=>obtain ⟨_,⟨_,e⟩,_⟩:=x;exact Heap.lt_size e
theorem Paired.mapP {α β:Type} {F G:α→β→Prop}:∀ {l₁:List α} {l₂:List β},Paired F l₁ l₂→(∀ a b,F a b→G a b)→Paired G l₁ l₂
 | _,_, .nil,_=>.nil
 | _,_, .cons r t,f=>.cons (f _ _ r) (Paired.mapP t f)
theorem ObjOk.stay (x:ObjOk P w H h a o) (k:∀ b u,(b=a∨H b=some (.own a))→h.get? b=some u→h'.get? b=some u)
  (ho:∀ b,H b=some (.own a)→H' b=some (.own a)) (ht:∀ b xs,H b=some (.tup xs)→H' b=some (.tup xs)):ObjOk P w H' h' a o:=by
 induction o with
 | lst xs=>obtain ⟨z,its,n,r,e⟩:=x;exact ⟨z,its,n,r,k _ _ (.inl rfl) e⟩
 | tup xs=>obtain ⟨z,its,r,ob,e,c⟩:=x;exact ⟨z,its,r,ob,k _ _ (.inl rfl) e,c⟩
 | dK kvs=>obtain ⟨z,y,vs,r,ob,es,ep,e,c⟩:=x;exact ⟨z,y,vs,r,ob,es,ep,k _ _ (.inl rfl) e,c⟩
 | dT kvs =>
  obtain ⟨z,y,xs,r,ob,es,ep,e,c⟩:=x
  exact ⟨z,y,xs,Paired.mapP r fun p q z=>⟨z.1,ht _ _ z.2.1,z.2.2⟩,ob,es,ep,k _ _ (.inl rfl) e,c⟩
 | set S n=>obtain ⟨ob,es,ep,t,e,c⟩:=x;exact ⟨ob,es,ep,t,k _ _ (.inl rfl) e,c⟩
 | ins C dx fs =>
  obtain ⟨d,z,ne,e,mA,⟨od,es,ep,e2,c⟩,r⟩:=x
  exact ⟨ho _ d,z,ne,k _ _ (.inl rfl) e,mA,⟨od,es,ep,k _ _ (.inr d) e2,c⟩,r⟩
 | own y=>obtain ⟨ob,e⟩:=x;exact ⟨ob,k _ _ (.inl rfl) e⟩
 | xd fs=>obtain ⟨mA,⟨od,es,ep,e,c⟩,r⟩:=x;exact ⟨mA,⟨od,es,ep,k _ _ (.inl rfl) e,c⟩,r⟩
 | rng lo hi=>obtain ⟨t,u,v,e⟩:=x;exact ⟨t,u,v,k _ _ (.inl rfl) e⟩
 | frz ob u ih=>obtain ⟨e,q⟩:=x;exact ⟨k _ _ (.inl rfl) e,ih q⟩
 | tbl ps =>
  have e:h.get? a=some { cls:=.none,data:=.fields ps }:=x
  show h'.get? a=some { cls:=.none,data:=.fields ps }
  exact k a _ (.inl rfl) e
 | met f y =>
  have e:h.get? a=some (PySem.W.methodObj (.ref f) (.ref y)):=x
  show h'.get? a=some (PySem.W.methodObj (.ref f) (.ref y))
  exact k a _ (.inl rfl) e
 | ext φ=>obtain ⟨p,⟨o,e⟩,st⟩:=x;exact ⟨st _ _ p fun o q=>k _ _ (.inl rfl) q,⟨o,k _ _ (.inl rfl) e⟩,st⟩
theorem HOk.lt (x:HOk P w H h) (e:H a=some o):a<h.objs.size:=(x a o e).lt
theorem HOk.fresh (x:HOk P w H h) (e:h.objs.size≤a):H a=none:=by
 cases q:H a with
 | none=>rfl
 | some u=>exact absurd (Nat.lt_of_lt_of_le (x.lt q) e) (Nat.lt_irrefl _)
theorem HOk.kept (x:HOk P w H h) (k:∀ b u,h.get? b=some u→h'.get? b=some u):HOk P w H h':=fun a o e =>
 (x a o e).stay (fun b u _ q=>k b u q) (fun _ q=>q) fun _ _ q=>q
theorem HOk.laid (x:HOk P w H h) (k:∀ b u,h.get? b=some u→h'.get? b=some u) (hp:h.objs.size≤a) (new:ObjOk P w (upd H a o) h' a o):HOk P w (upd H a o) h':=fun b u e=>by
 have hn:=x.fresh hp
 by_cases hb:b=a
 ·subst hb;rw [jy] at e;cases e;exact new
 ·rw [iz hb] at e
  exact (x b u e).stay (fun c v _ q=>k c v q) (fun c q=>by rw [iz (jd q hn)];exact q) fun c xs q=>by rw [iz (jd q hn)];exact q
end
def Rd (H:Hp) (a:Addr) (u:HO):Prop:=H a=some u∨∃ o,H a=some (.frz o u)
theorem Rd.of {H:Hp} {a:Addr} {u:HO} (h:H a=some u):Rd H a u:=.inl h
theorem Rd.ok {P:Program} {w:World} {H:Hp} {h:Heap} {a:Addr} {u:HO} (r:Rd H a u) (x:HOk P w H h):ObjOk P w H h a u:=by
 rcases r with r | ⟨o,r⟩
 ·exact x a u r
 ·obtain ⟨_,q⟩:=x a _ r
  exact q
def Mut:Option HO→Prop
 | some (.lst _)=>True
 | some (.dK _)=>True
 | some (.dT _)=>True
 | some (.set _ _)=>True
 | some (.ins _ _ _)=>True
 | some (.ext _)=>True
 | _=>False
section
variable {P:Program} {w:World} {H:Hp} {h h':Heap} {x e:Addr} {o':HO}
theorem HOk.write (ok:HOk P w H h) (mu:Mut (H x)) (he:e=x∨H e=some (.own x)) (k:∀ b u,b≠e→h.get? b=some u→h'.get? b=some u) (heo:∃ u,h'.get? e=some u)
  (new:ObjOk P w (upd H x o') h' x o'):HOk P w (upd H x o') h':=fun b u q=>by
 have nown:∀ c y,H c=some (.own y)→c≠x:=fun c y r z=>by subst z;rw [r] at mu;exact mu
 have ntup:∀ c xs,H c=some (.tup xs)→c≠x:=fun c xs r z=>by subst z;rw [r] at mu;exact mu
 by_cases hb:b=x
 ·subst hb;rw [jy] at q;cases q;exact new
 ·rw [iz hb] at q
  by_cases hbe:b=e
  ·have q':H b=some (.own x):=by
    rcases he with z | z
    ·exact absurd (hbe.trans z) hb
    ·rw [hbe];exact z
   rw [q] at q';cases q'
   obtain ⟨v,hv⟩:=heo
   exact ⟨v,by rw [hbe];exact hv⟩
  ·refine (ok b u q).stay (fun c v hc r=>k c v ?_ r) (fun c r=>by rw [iz (nown c b r)];exact r) fun c xs r=>by rw [iz (ntup c xs r)];exact r
   rcases hc with rfl | hc
   ·exact hbe
   ·rintro rfl
    rcases he with z | z
    ·exact nown c b hc z
    ·rw [hc] at z;cases z;exact hb rfl
end
structure Un (fs ex:List Addr) (H H':Hp) (h h':Heap):Prop where
 keep:∀ b o,h.get? b=some o→H b=none→b ∉ fs→b ∉ ex→h'.get? b=some o
 slot:∀ b o,h.get? b=some o→H b=none→b∈fs→b ∉ ex→∃ sl,h'.get? b=some { o with slots:=sl }
 free:∀ b o,h.get? b=some o→H b=none→b ∉ ex→H' b=none
 there:∀ b o,h.get? b=some o→b ∉ ex→∃ o',h'.get? b=some o'
 tups:∀ b xs,H b=some (.tup xs)→H' b=some (.tup xs)
 frzs:∀ b o u,H b=some (.frz o u)→H' b=some (.frz o u)
 tbls:∀ b ps,H b=some (.tbl ps)→∃ more,H' b=some (.tbl (ps++more))
section
variable {fs fs' ex ex':List Addr} {H H1 H2:Hp} {h h1 h2 h':Heap} {a x e:Addr} {o:HO}
theorem Un.any (u:Un fs ex H H1 h h1) {b:Addr} {ob:Obj} (q:h.get? b=some ob) (n:H b=none) (hx:b ∉ ex):∃ sl,h1.get? b=some { ob with slots:=sl }:=by
 by_cases hb:b∈fs
 ·exact u.slot b ob q n hb hx
 ·exact ⟨ob.slots,u.keep b ob q n hb hx⟩
theorem Un.kept (k:∀ b u,h.get? b=some u→h'.get? b=some u):Un fs ex H H h h' :=
 ⟨fun b ob q _ _ _=>k b ob q,fun b ob q _ _ _=>⟨ob.slots,k b ob q⟩,fun _ _ _ n _=>n,fun b ob q _=>⟨ob,k b ob q⟩,fun _ _ q=>q,fun _ _ _ q=>q,fun _ ps q=>⟨#[],by rw [q];simp⟩⟩
theorem Un.refl:Un fs ex H H h h:=Un.kept fun _ _ q=>q
theorem Un.laid (k:∀ b u,h.get? b=some u→h'.get? b=some u) (hp:h.objs.size≤a) (hn:H a=none):Un fs ex H (upd H a o) h h' where
 keep:=fun b u q _ _ _=>k b u q
 slot:=fun b u q _ _ _=>⟨u.slots,k b u q⟩
 free:=fun b u q n _=>by rw [iz (Nat.ne_of_lt (Nat.lt_of_lt_of_le (Heap.lt_size q) hp))];exact n
 there:=fun b u q _=>⟨u,k b u q⟩
 tups:=fun b xs q=>by rw [iz (jd q hn)];exact q
 frzs:=fun b u xs q=>by rw [iz (jd q hn)];exact q
 tbls:=fun b ps q=>⟨#[],by rw [iz (jd q hn),q];simp⟩
theorem Un.write (mu:Mut (H x)) (he:e=x∨H e=some (.own x)) (k:∀ b u,b≠e→h.get? b=some u→h'.get? b=some u) (heo:∃ u,h'.get? e=some u):Un fs ex H (upd H x o) h h':=by
 have hx:∀ b,H b=none→b≠x:=fun b n z=>by subst z;rw [n] at mu;exact mu
 have hb:∀ b,H b=none→b≠e:=fun b n z=>by
  subst z
  rcases he with r | r
  ·exact hx b n r
  ·rw [n] at r;cases r
 have hm:∀ b u,H b=some u→¬ Mut (some u)→b≠x:=fun b u q nm z=>by subst z;rw [q] at mu;exact nm mu
 refine ⟨fun b u q n _ _=>k b u (hb b n) q,fun b u q n _ _=>⟨u.slots,k b u (hb b n) q⟩,fun b u q n _=>by rw [iz (hx b n)];exact n,fun b u q _=>?_,
  fun b xs q=>by rw [iz (hm b _ q fun z=>z)];exact q,fun b u xs q=>by rw [iz (hm b _ q fun z=>z)];exact q,fun b ps q=>⟨#[],by rw [iz (hm b _ q fun z=>z),q];simp⟩⟩
 by_cases hbe:b=e
 ·subst hbe;exact heo
 ·exact ⟨u,k b u hbe q⟩
end
def trk (h:Heap) (H:Hp):List Addr:=(List.range h.objs.size).filter fun a=>(H a).isSome
def ahb (h:Heap) (H:Hp):Heap:=PySem.W.hideAll h (trk h H)
theorem adw (h:Heap) (H:Hp):(ahb h H).objs.size=h.objs.size:=PySem.W.hideAll_size _ _
theorem ahc {h:Heap} {H:Hp} {b:Addr} {o:Obj} (e:h.get? b=some o) (n:H b=none):(ahb h H).get? b=some o :=
 PySem.W.hideAll_get _ e fun hm=>by
  have q:(H b).isSome=true:=(List.mem_filter.mp hm).2
  rw [n] at q;simp at q
theorem aks {h:Heap} {H:Hp} {b:Addr} {o:Obj} (e:(ahb h H).get? b=some o):h.get? b=some o∧H b=none:=by
 have e':h.get? b=some o:=PySem.W.of_hideAll (trk h H) e
 refine ⟨e',?_⟩
 cases q:H b with
 | none=>rfl
 | some x =>
  have hm:b∈trk h H:=List.mem_filter.mpr ⟨List.mem_range.mpr (Heap.lt_size e'),by simp [q]⟩
  have z:(ahb h H).get? b=none:=PySem.W.hideAll_none (trk h H) hm
  rw [z] at e;cases e
def akt (g h:Heap) (L:Addr):List (Addr × Obj):=(List.range h.objs.size).filterMap fun a=>if a=L∨(g.get? a).isSome=true then none else (h.get? a).map fun o=>(a,o)
def rest (g h:Heap) (L d:Addr):List (Addr × Obj):=(akt g h L).filter fun p=>decide (p.1≠d)
end L2
namespace L2
open PySem PySem.Spec PyProof.Rows
structure Mod (K:PySem.W.Frag) (mg:Str→Option Value) (base:Heap):Prop where
 kin:K.In base
 glob:base.Ns mainGlobals mg
 blt:∃ mb,base.Ns builtinsNs mb∧∀ x:Str,x ≠ "__name__"→mb x=bootBuiltins x
 nolimit:base.NoLimit
structure Cx where
 prog:Program
 w:World
 K:PySem.W.Frag
 mg:Str→Option Value
 base:Heap
 A:Around
 N:List Str
 s₀:Shared
 H₀:Hp
 env:Env
 outer:List Env
 stack:List Env
 ex:List Addr
 fn:Str→Bool
 calm:Bool
 pn:List (Addr × Obj)
 xe:Value→Shared→Prop
def frs (l:List Env):List Addr:=l.filterMap (·.frame)
abbrev Cx.fs (X:Cx):List Addr:=frs X.outer
def Vis (sc:Scope) (x:Str):Prop:=sc.names.lookup x=some .local∨sc.names.lookup x=some .cell∨sc.names.lookup x=some .free
def Loc (sc:Scope) (x:Str):Prop:=sc.names.lookup x=some .local∨sc.names.lookup x=some .cell
def Look (env:Env) (h:Heap) (m:Str→Option Value) (x:Str) (u:Value):Prop :=
 (env.kindOf x=some .local∧m x=some u)∨((env.kindOf x=some .cell∨env.kindOf x=some .free)∧∃ c,env.cells.lookup x=some c∧h.IsCell c (some u))
structure Cx.Ok (X:Cx):Prop where
 mod:Mod X.K X.mg X.base
 kind:X.env.scope.kind = .function
 glob:X.env.globals=mainGlobals
 blt:X.env.builtins=builtinsNs
 above:X.s₀.heap.objs.size≤X.env.locals
 inj:∀ x y c,X.env.cells.lookup x=some c→X.env.cells.lookup y=some c→x=y
 has:∀ x,(X.env.kindOf x=some .cell∨X.env.kindOf x=some .free)→∃ c,X.env.cells.lookup x=some c
 cab:∀ x c,X.fn x=true→X.env.cells.lookup x=some c→X.s₀.heap.objs.size≤c
 hd:X.calm=true→X.A.handled=none
 frames:X.A.frames=some X.stack
 stk:X.stack=X.outer∨(X.stack=X.env::X.outer∧X.env.frame=some X.env.locals)
 exf:∀ b∈X.ex,b≠X.env.locals∧∀ x c,X.env.cells.lookup x=some c→c≠b
 bs:∀ b o,X.base.get? b=some o→X.s₀.heap.get? b=some o∧X.H₀ b=none
 bsz:X.base.objs.size≤X.s₀.heap.objs.size
 noex:∀ b o,X.base.get? b=some o→b ∉ X.ex
 exfs:∀ b∈X.ex,b ∉ X.fs
 funs:X.s₀.heap.FunFrames X.base X.outer
 frf:∀ b∈X.fs,X.H₀ b=none
structure Inv (X:Cx) (pins:List (Addr × Obj)) (σ:List (Option V)) (H:Hp) (s:Shared):Prop where
 ok:X.Ok
 os:s.os=X.s₀.os
 bare:AllBare s.gens
 base:Un X.fs X.ex X.H₀ H X.s₀.heap s.heap
 loc:∃ m,s.heap.Ns X.env.locals m∧∀ (i:Nat) (x:Str) (v:V),X.N[i]? = some x→σ[i]? = some (some v)→Vis X.env.scope x→∃ u,RelV v u∧Look X.env s.heap m x u
 cell:∀ x c,X.env.cells.lookup x=some c→∃ v,s.heap.IsCell c v
 free:H X.env.locals=none
 freeC:∀ x c,X.env.cells.lookup x=some c→H c=none
 pin:∀ p∈X.pn++pins,s.heap.get? p.1=some p.2∧H p.1=none∧p.1≠X.env.locals∧p.1 ∉ X.fs∧∀ v,p.2.data≠.cell v
 hok:HOk X.prog X.w H s.heap
 len:σ.length=X.N.length
section
variable {X:Cx} {pins:List (Addr × Obj)} {σ:List (Option V)} {H H':Hp} {s:Shared} {h':Heap}
theorem Cx.Ok.nofr (ok:X.Ok) {b:Addr} {o:Obj} (e:X.base.get? b=some o):b ∉ X.fs:=fun hb=>by
 have:=(ok.funs.mem hb).1
 rw [e] at this;cases this
theorem Inv.bs (I:Inv X pins σ H s):∀ b o,X.base.get? b=some o→s.heap.get? b=some o∧H b=none:=fun b o e =>
 ⟨I.base.keep b o (I.ok.bs b o e).1 (I.ok.bs b o e).2 (I.ok.nofr e) (I.ok.noex b o e),I.base.free b o (I.ok.bs b o e).1 (I.ok.bs b o e).2 (I.ok.noex b o e)⟩
theorem Inv.bk (I:Inv X pins σ H s):∀ b o,X.base.get? b=some o→s.heap.get? b=some o:=fun b o e=>(I.bs b o e).1
theorem Inv.mod (I:Inv X pins σ H s):Mod X.K X.mg X.base:=I.ok.mod
theorem Inv.kIn (I:Inv X pins σ H s):X.K.In s.heap:=I.ok.mod.kin.keeps I.bk
theorem Inv.fr (I:Inv X pins σ H s):∃ m,Fr X.base X.env.locals s.heap m :=
 let ⟨m,hn,_⟩:=I.loc
 ⟨m,hn,I.bk,Nat.le_trans I.ok.bsz I.ok.above⟩
theorem Inv.lt (I:Inv X pins σ H s):X.env.locals<s.heap.objs.size:=let ⟨_,hn,_⟩:=I.loc;hn.lt
theorem Inv.sz (I:Inv X pins σ H s):X.s₀.heap.objs.size≤s.heap.objs.size:=Nat.le_trans I.ok.above (Nat.le_of_lt I.lt)
theorem Inv.nofs (I:Inv X pins σ H s) {a:Addr} (h:s.heap.objs.size≤a):a ∉ X.fs:=fun hb=>by
 obtain ⟨_,o,ho,_⟩:=I.ok.funs.mem hb
 exact absurd (Nat.lt_of_lt_of_le (Heap.lt_size ho) (Nat.le_trans I.sz h)) (Nat.lt_irrefl _)
theorem Inv.cne (I:Inv X pins σ H s):∀ x c,X.env.cells.lookup x=some c→c≠X.env.locals:=fun x c e z=>by
 obtain ⟨v,o,ho,hd⟩:=I.cell x c e
 obtain ⟨m,⟨o',es,ep,ho',hd',_⟩,_⟩:=I.loc
 rw [z,ho'] at ho;cases ho;rw [hd'] at hd;cases hd
theorem Inv.funs (I:Inv X pins σ H s):s.heap.FunFrames X.base X.outer:=by
 have all:∀ (l:List Env),(∀ b∈frs l,b∈X.fs)→X.s₀.heap.FunFrames X.base l→s.heap.FunFrames X.base l:=by
  intro l
  induction l with
  | nil=>intro _ _;trivial
  | cons env r ih =>
   intro hs hl
   obtain ⟨hk,⟨L,o,hf,hn,ho,hd⟩,hr⟩:=hl
   have hL:L∈X.fs:=hs L (by unfold frs;rw [List.filterMap_cons,hf];exact List.mem_cons_self)
   obtain ⟨sl,e⟩:=I.base.slot L o ho (I.ok.frf L hL) hL fun z=>I.ok.exfs L z hL
   exact ⟨hk,⟨L,_,hf,hn,e,hd⟩,ih (fun b hb=>hs b (by unfold frs;rw [List.filterMap_cons,hf];exact List.mem_cons_of_mem _ hb)) hr⟩
 exact all X.outer (fun _ hb=>hb) I.ok.funs
theorem Inv.stack (I:Inv X pins σ H s):s.heap.FunFrames X.base X.stack:=by
 rcases I.ok.stk with e | ⟨e,hf⟩
 ·rw [e];exact I.funs
 ·rw [e]
  obtain ⟨m,hn,_⟩:=I.loc
  refine .cons (by rw [I.ok.kind];decide) hf hn ?_ I.funs
  exact Heap.get?_none_of_le (Nat.le_trans I.ok.bsz I.ok.above)
theorem Inv.stkSub (I:Inv X pins σ H s):∀ b∈frs X.stack,b∈X.env.locals::X.fs:=fun b hb=>by
 rcases I.ok.stk with e | ⟨e,hf⟩
 ·rw [e] at hb;exact List.mem_cons_of_mem _ hb
 ·rw [e] at hb
  unfold frs at hb
  rw [List.filterMap_cons,hf] at hb
  exact hb
theorem Inv.stkFree (I:Inv X pins σ H s):∀ b∈frs X.stack,H b=none:=fun b hb=>by
 rcases List.mem_cons.mp (I.stkSub b hb) with e | hb
 ·rw [e];exact I.free
 ·obtain ⟨_,o,ho,_⟩:=I.ok.funs.mem hb
  exact I.base.free b o ho (I.ok.frf b hb) fun z=>I.ok.exfs b z hb
theorem Inv.step {g':Array GenState} {t':Nat} {d':Drawn} {ch:List Addr} (I:Inv X pins σ H s)
  (hch:∀ b∈ch,(b∈X.ex∨X.s₀.heap.objs.size≤b)∧b≠X.env.locals∧(∀ x c,X.env.cells.lookup x=some c→c≠b)∧∀ p∈X.pn++pins,p.1≠b)
  (keep:∀ b o,b≠X.env.locals→b ∉ X.fs→b ∉ ch→s.heap.get? b=some o→H b=none→h'.get? b=some o)
  (slot:∀ b o,b≠X.env.locals→b∈X.fs→b ∉ ch→s.heap.get? b=some o→H b=none→∃ sl,h'.get? b=some { o with slots:=sl }) (free:∀ b o,b ∉ ch→s.heap.get? b=some o→H b=none→H' b=none)
  (there:∀ b o,b ∉ ch→s.heap.get? b=some o→∃ o',h'.get? b=some o')
  (tups:∀ b xs,H b=some (.tup xs)→H' b=some (.tup xs)) (frzs:∀ b o u,H b=some (.frz o u)→H' b=some (.frz o u)) (tbls:∀ b ps,H b=some (.tbl ps)→∃ more,H' b=some (.tbl (ps++more)))
  (ns:∀ m,s.heap.Ns X.env.locals m→h'.Ns X.env.locals m) (hok:HOk X.prog X.w H' h') (hg:AllBare g') :
  Inv X pins σ H' { s with heap:=h',gens:=g',drawn:=d',toks:=t' }:=by
 have neL:∀ b o,X.s₀.heap.get? b=some o→b≠X.env.locals:=fun b o e=>Nat.ne_of_lt (Nat.lt_of_lt_of_le (Heap.lt_size e) I.ok.above)
 have neC:∀ b o,X.s₀.heap.get? b=some o→b ∉ X.ex→b ∉ ch:=fun b o e hx hb=>by
  rcases (hch b hb).1 with z | z
  ·exact hx z
  ·exact absurd (Nat.lt_of_lt_of_le (Heap.lt_size e) z) (Nat.lt_irrefl _)
 have cellK:∀ x c,X.env.cells.lookup x=some c→∀ v,s.heap.IsCell c v→h'.IsCell c v:=fun x c e v ⟨o,ho,hd⟩=>by
  have nch:c ∉ ch:=fun z=>(hch c z).2.2.1 x c e rfl
  by_cases hc:c∈X.fs
  ·obtain ⟨sl,q⟩:=slot c o (I.cne x c e) hc nch ho (I.freeC x c e)
   exact ⟨_,q,hd⟩
  ·exact ⟨o,keep c o (I.cne x c e) hc nch ho (I.freeC x c e),hd⟩
 refine ⟨I.ok,I.os,hg,⟨fun b o e n hb hx=>?_,fun b o e n hb hx=>?_,fun b o e n hx=>?_,fun b o e hx=>?_,fun b xs e=>tups b xs (I.base.tups b xs e),fun b o xs e=>frzs b o xs (I.base.frzs b o xs e),fun b ps e=>?_⟩,?_,fun x c e=>?_,?_,fun x c e=>?_,fun p hp=>?_,hok,I.len⟩
 ·exact keep b o (neL b o e) hb (neC b o e hx) (I.base.keep b o e n hb hx) (I.base.free b o e n hx)
 ·obtain ⟨sl,e1⟩:=I.base.slot b o e n hb hx
  obtain ⟨sl',e2⟩:=slot b _ (neL b o e) hb (neC b o e hx) e1 (I.base.free b o e n hx)
  exact ⟨sl',e2⟩
 ·obtain ⟨o',e1⟩:=I.base.there b o e hx
  exact free b o' (neC b o e hx) e1 (I.base.free b o e n hx)
 ·obtain ⟨o',e1⟩:=I.base.there b o e hx
  exact there b o' (neC b o e hx) e1
 ·obtain ⟨m1,e1⟩:=I.base.tbls b ps e
  obtain ⟨m2,e2⟩:=tbls b _ e1
  exact ⟨m1++m2,by rw [e2,Array.append_assoc]⟩
 ·obtain ⟨m,hn,hl⟩:=I.loc
  refine ⟨m,ns m hn,fun i x v e1 e2 e3=>?_⟩
  obtain ⟨u,r,l⟩:=hl i x v e1 e2 e3
  refine ⟨u,r,?_⟩
  rcases l with l | ⟨k,c,e,z⟩
  ·exact .inl l
  ·exact .inr ⟨k,c,e,cellK x c e _ z⟩
 ·obtain ⟨v,z⟩:=I.cell x c e
  exact ⟨v,cellK x c e v z⟩
 ·obtain ⟨m,⟨o,_,_,ho,_⟩,_⟩:=I.loc
  exact free _ o (fun z=>(hch _ z).2.1 rfl) ho I.free
 ·obtain ⟨v,o,ho,hd⟩:=I.cell x c e
  exact free c o (fun z=>(hch c z).2.2.1 x c e rfl) ho (I.freeC x c e)
 ·obtain ⟨e,n,ne,nf,d⟩:=I.pin p hp
  have nch:p.1 ∉ ch:=fun z=>(hch p.1 z).2.2.2 p hp rfl
  exact ⟨keep p.1 p.2 ne nf nch e n,free p.1 p.2 nch e n,ne,nf,d⟩
theorem Inv.un {t':Nat} (I:Inv X pins σ H s) (u:Un X.fs [] H H' s.heap h') (hok:HOk X.prog X.w H' h'):Inv X pins σ H' { s with heap:=h',toks:=t' }:=by
 obtain ⟨m,⟨o,es,ep,ho,r⟩,_⟩:=id I.loc
 obtain ⟨sl,hL⟩:=u.any ho I.free (by simp)
 exact I.step (g':=s.gens) (d':=s.drawn) (ch:=[]) (fun _ z=>nomatch z) (fun b o _ hb _ e n=>u.keep b o e n hb (by simp)) (fun b o _ hb _ e n=>u.slot b o e n hb (by simp)) (fun b o _ e n=>u.free b o e n (by simp)) (fun b o _ e=>u.there b o e (by simp)) u.tups u.frzs u.tbls (fun m' hm=>by
  obtain ⟨o',es',ep',ho',r'⟩:=hm
  rw [ho] at ho';cases ho'
  exact ⟨_,es',ep',hL,r'⟩) hok I.bare
theorem Inv.call {g':Array GenState} {t':Nat} {d':Drawn} {ch:List Addr} (I:Inv X pins σ H s) (u:Un (frs X.stack) ch H H' s.heap h') (hok:HOk X.prog X.w H' h') (hg:AllBare g')
  (hch:∀ b∈ch,(b∈X.ex∨X.s₀.heap.objs.size≤b)∧b≠X.env.locals∧(∀ x c,X.env.cells.lookup x=some c→c≠b)∧∀ p∈X.pn++pins,p.1≠b) :
  Inv X pins σ H' { s with heap:=h',gens:=g',drawn:=d',toks:=t' }:=by
 obtain ⟨m,⟨o,es,ep,ho,r⟩,_⟩:=id I.loc
 obtain ⟨sl,hL⟩:=u.any ho I.free fun z=>(hch _ z).2.1 rfl
 exact I.step (ch:=ch) hch (fun b o hL hb hc e n=>u.keep b o e n (fun z=>(List.mem_cons.mp (I.stkSub b z)).elim hL hb) hc) (fun b o _ _ hc e n=>u.any e n hc) (fun b o hc e n=>u.free b o e n hc) (fun b o hc e=>u.there b o e hc) u.tups u.frzs u.tbls (fun m' hm=>by
  obtain ⟨o',es',ep',ho',r'⟩:=hm
  rw [ho] at ho';cases ho'
  exact ⟨_,es',ep',hL,r'⟩) hok hg
theorem Inv.turned {t':Nat} {it:Addr} (I:Inv X pins σ H s) (k:∀ b o,b≠it→s.heap.get? b=some o→h'.get? b=some o) (hn:H it=none) (hL:it≠X.env.locals)
  (h1:it∈X.ex∨X.s₀.heap.objs.size≤it) (h2:∀ x c,X.env.cells.lookup x=some c→c≠it) (h3:∀ p∈X.pn++pins,p.1≠it):Inv X pins σ H { s with heap:=h',toks:=t' }:=by
 have nit:∀ b u,H b=some u→b≠it:=fun b u e z=>by rw [z,hn] at e;cases e
 refine I.step (g':=s.gens) (d':=s.drawn) (ch:=[it]) (fun b hb=>?_) (fun b o _ _ hc e _=>k b o (fun z=>hc (by simp [z])) e) (fun b o _ _ hc e _=>⟨o.slots,k b o (fun z=>hc (by simp [z])) e⟩) (fun _ _ _ _ n=>n)
  (fun b o hc e=>⟨o,k b o (fun z=>hc (by simp [z])) e⟩) (fun _ _ e=>e) (fun _ _ _ e=>e) (fun b ps e=>⟨#[],by rw [e];simp⟩) (fun m hm=>?_) (fun b u e=>?_) I.bare
 ·have e:b=it:=by simpa using hb
  subst e
  exact ⟨h1,hL,h2,h3⟩
 ·obtain ⟨o,es,ep,ho,r⟩:=hm
  exact ⟨o,es,ep,k _ o (Ne.symm hL) ho,r⟩
 ·refine (I.hok b u e).stay (fun c v hc q=>k c v ?_ q) (fun _ q=>q) fun _ _ q=>q
  rcases hc with z | z
  ·rw [z];exact nit b u e
  ·exact nit c _ z
theorem Inv.tok (I:Inv X pins σ H s) (t:Nat):Inv X pins σ H { s with toks:=t }:=I.un (h':=s.heap) (t':=t) Un.refl I.hok
theorem Inv.kept {t':Nat} (I:Inv X pins σ H s) (k:∀ b u,s.heap.get? b=some u→h'.get? b=some u):Inv X pins σ H { s with heap:=h',toks:=t' }:=I.un (Un.kept k) (I.hok.kept k)
theorem Inv.laid {a:Addr} {o:HO} {t':Nat} (I:Inv X pins σ H s) (k:∀ b u,s.heap.get? b=some u→h'.get? b=some u) (hp:s.heap.objs.size≤a) (new:ObjOk X.prog X.w (upd H a o) h' a o) :
  Inv X pins σ (upd H a o) { s with heap:=h',toks:=t' }:=I.un (Un.laid k hp (I.hok.fresh hp)) (I.hok.laid k hp new)
theorem Inv.write {x e:Addr} {o:HO} {t':Nat} (I:Inv X pins σ H s) (mu:Mut (H x)) (he:e=x∨H e=some (.own x)) (k:∀ b u,b≠e→s.heap.get? b=some u→h'.get? b=some u) (heo:∃ u,h'.get? e=some u)
  (new:ObjOk X.prog X.w (upd H x o) h' x o):Inv X pins σ (upd H x o) { s with heap:=h',toks:=t' }:=I.un (Un.write mu he k heo) (I.hok.write mu he k heo new)
theorem Inv.weak {σ':List (Option V)} (I:Inv X pins σ H s) (hl:σ'.length=σ.length) (w:∀ (i:Nat) v,σ'[i]? = some (some v)→σ[i]? = some (some v)):Inv X pins σ' H s :=
 ⟨I.ok,I.os,I.bare,I.base,let ⟨m,hn,hl'⟩:=I.loc; ⟨m,hn,fun i x v e1 e2 e3=>hl' i x v e1 (w i v e2) e3⟩,I.cell,I.free,I.freeC,I.pin,I.hok,hl.trans I.len⟩
theorem Inv.pins_of {pins':List (Addr × Obj)} (I:Inv X pins σ H s) (h:∀ p∈pins',s.heap.get? p.1=some p.2∧H p.1=none∧p.1≠X.env.locals∧p.1 ∉ X.fs∧∀ v,p.2.data≠.cell v):Inv X pins' σ H s :=
 ⟨I.ok,I.os,I.bare,I.base,I.loc,I.cell,I.free,I.freeC,fun p hp=>(List.mem_append.mp hp).elim (fun z=>I.pin p (List.mem_append_left _ z)) (h p),I.hok,I.len⟩
theorem a7c {N:List Str} (hN:N.Nodup) {i j:Nat} {x:Str} (a:N[i]? = some x) (b:N[j]? = some x):i=j:=by
 obtain ⟨h1,e1⟩:=List.getElem?_eq_some_iff.mp a
 obtain ⟨h2,e2⟩:=List.getElem?_eq_some_iff.mp b
 exact (List.getElem_inj hN).mp (e1.trans e2.symm)
theorem a8g {M:Model} {A:Around} {E:Value→Shared→Prop} {i:Nat} {x:Str} {v:V} {u:Value} {Q:Unit→Shared→Prop} (I:Inv X pins σ H s) (hN:X.N.Nodup) (hi:X.N[i]? = some x) (hx:Loc X.env.scope x) (r:RelV v u)
  (h:∀ s',Inv X pins (σ.set i (some v)) H s'→(∃ a,Heap.SameBut a s.heap s'.heap∧(a=X.env.locals∨X.env.cells.lookup x=some a))→Q () s') (hf:X.fn x=true∨X.env.scope.names.lookup x=some .local:=by first | exact .inl rfl | exact .inr rfl | assumption):wpAny M A (storeName X.env x u) Q E s:=by
 obtain ⟨m,hn,hl⟩:=id I.loc
 have hcls:(X.env.scope.kind == .class || (X.env.scope.kind == .module && X.env.locals != X.env.globals))=false:=by rw [I.ok.kind];rfl
 have hiσ:i<σ.length:=by rw [I.len];exact (List.getElem?_eq_some_iff.mp hi).1
 have cne:=I.cne
 have tracked:∀ {a:Addr} {h':Heap},(∃ o,s.heap.get? a=some o∧H a=none)→Heap.SameBut a s.heap h'→HOk X.prog X.w H h':=fun {a h'} ha hs b ob e=>by
  obtain ⟨_,_,hfree⟩:=ha
  refine (I.hok b ob e).stay (fun c w' hc q=>(hs.2 c ?_).trans q) (fun _ q=>q) fun _ _ q=>q
  rintro rfl
  rcases hc with rfl | hc
  ·rw [hfree] at e;cases e
  ·rw [hfree] at hc;cases hc
 rcases hx with hk | hk
 ·refine wpAny_storeName_local hk hn (fun h' hn' hs=>?_) hcls
  obtain ⟨oL,_,_,hoL,_⟩:=id hn
  refine h _ ⟨I.ok,I.os,I.bare,⟨fun b o e n hb hx=>?_,fun b o e n hb hx=>?_,I.base.free,fun b o e hx=>?_,I.base.tups,I.base.frzs,I.base.tbls⟩,⟨_,hn',fun j y v' e1 e2 e3=>?_⟩,fun y c e=>?_,I.free,I.freeC,fun p hp=>?_,tracked ⟨oL,hoL,I.free⟩ hs,by simpa using I.len⟩ ⟨_,hs, .inl rfl⟩
  ·exact (hs.2 b (Nat.ne_of_lt (Nat.lt_of_lt_of_le (Heap.lt_size e) I.ok.above))).trans (I.base.keep b o e n hb hx)
  ·obtain ⟨sl,e1⟩:=I.base.slot b o e n hb hx
   exact ⟨sl,(hs.2 b (Nat.ne_of_lt (Nat.lt_of_lt_of_le (Heap.lt_size e) I.ok.above))).trans e1⟩
  ·obtain ⟨o',e1⟩:=I.base.there b o e hx
   exact ⟨o',(hs.2 b (Nat.ne_of_lt (Nat.lt_of_lt_of_le (Heap.lt_size e) I.ok.above))).trans e1⟩
  ·by_cases hj:j=i
   ·subst hj
    rw [hi] at e1;cases e1
    rw [List.getElem?_set_self hiσ] at e2
    cases e2
    exact ⟨u,r, .inl ⟨hk,by simp⟩⟩
   ·rw [List.getElem?_set_ne (Ne.symm hj)] at e2
    obtain ⟨u',r',q⟩:=hl j y v' e1 e2 e3
    refine ⟨u',r',?_⟩
    rcases q with ⟨k,e⟩ | ⟨k,c,e,z⟩
    ·refine .inl ⟨k,?_⟩
     have:y≠x:=fun e=>hj (a7c hN e1 (e ▸ hi))
     simp [this,e]
    ·exact .inr ⟨k,c,e,z.sameBut hs (cne y c e)⟩
  ·obtain ⟨w',z⟩:=I.cell y c e
   exact ⟨w',z.sameBut hs (cne y c e)⟩
  ·obtain ⟨e,n,ne,nf,d⟩:=I.pin p hp
   exact ⟨(hs.2 p.1 ne).trans e,n,ne,nf,d⟩
 ·have hfn:X.fn x=true:=by
   rcases hf with z | z
   ·exact z
   ·rw [z] at hk;cases hk
  obtain ⟨c,hc⟩:=I.ok.has x (.inl hk)
  obtain ⟨w',z⟩:=I.cell x c hc
  refine wpAny_storeName_cell I.ok.kind hk hc z (fun h' hc' hs=>?_)
  obtain ⟨oc,hoc,hocd⟩:=id z
  refine h { s with heap:=h' } ⟨I.ok,I.os,I.bare,⟨fun b o e n hb hx=>?_,fun b o e n hb hx=>?_,I.base.free,fun b o e hx=>?_,I.base.tups,I.base.frzs,I.base.tbls⟩,⟨m,hn.sameBut hs (Ne.symm (cne x c hc)),fun j y v' e1 e2 e3=>?_⟩,fun y c' e=>?_,I.free,I.freeC,fun p hp=>?_,tracked ⟨oc,hoc,I.freeC x c hc⟩ hs,by simpa using I.len⟩ ⟨c,hs, .inr hc⟩
  ·exact (hs.2 b (Nat.ne_of_lt (Nat.lt_of_lt_of_le (Heap.lt_size e) (I.ok.cab x c hfn hc)))).trans (I.base.keep b o e n hb hx)
  ·obtain ⟨sl,e1⟩:=I.base.slot b o e n hb hx
   exact ⟨sl,(hs.2 b (Nat.ne_of_lt (Nat.lt_of_lt_of_le (Heap.lt_size e) (I.ok.cab x c hfn hc)))).trans e1⟩
  ·obtain ⟨o',e1⟩:=I.base.there b o e hx
   exact ⟨o',(hs.2 b (Nat.ne_of_lt (Nat.lt_of_lt_of_le (Heap.lt_size e) (I.ok.cab x c hfn hc)))).trans e1⟩
  ·by_cases hj:j=i
   ·subst hj
    rw [hi] at e1;cases e1
    rw [List.getElem?_set_self hiσ] at e2
    cases e2
    exact ⟨u,r, .inr ⟨.inl hk,c,hc,hc'⟩⟩
   ·rw [List.getElem?_set_ne (Ne.symm hj)] at e2
    obtain ⟨u',r',q⟩:=hl j y v' e1 e2 e3
    refine ⟨u',r',?_⟩
    rcases q with q | ⟨k,c',e,z'⟩
    ·exact .inl q
    ·refine .inr ⟨k,c',e,z'.sameBut hs ?_⟩
     rintro rfl
     exact hj (a7c hN e1 (I.ok.inj _ _ _ e hc ▸ hi))
  ·by_cases hcc:c'=c
   ·subst hcc;exact ⟨_,hc'⟩
   ·obtain ⟨w2,z2⟩:=I.cell y c' e
    exact ⟨w2,z2.sameBut hs hcc⟩
  ·obtain ⟨e,n,ne,nf,d⟩:=I.pin p hp
   refine ⟨(hs.2 p.1 ?_).trans e,n,ne,nf,d⟩
   intro q
   rw [q,hoc] at e
   have q':oc=p.2:=Option.some.inj e
   exact d w' (by rw [← q'];exact hocd)
theorem a5f {M:Model} {A:Around} {E:Value→Shared→Prop} {i:Nat} {x:Str} {v:V} {u:Value} {Q:Unit→Shared→Prop} (I:Inv X pins σ H s) (hN:X.N.Nodup) (hi:X.N[i]? = some x) (hx:Loc X.env.scope x) (r:RelV v u)
  (h:∀ s',Inv X pins (σ.set i (some v)) H s'→Q () s') (hf:X.fn x=true∨X.env.scope.names.lookup x=some .local:=by first | exact .inl rfl | exact .inr rfl | assumption):wpAny M A (storeName X.env x u) Q E s :=
 a8g I hN hi hx r (fun s' I' _=>h s' I') hf
theorem Inv.call' {s':Shared} {ch:List Addr} (I:Inv X pins σ H s) (ho:s'.os=s.os) (u:Un (frs X.stack) ch H H' s.heap s'.heap) (hok:HOk X.prog X.w H' s'.heap) (hg:AllBare s'.gens)
  (hch:∀ b∈ch,(b∈X.ex∨X.s₀.heap.objs.size≤b)∧b≠X.env.locals∧(∀ x c,X.env.cells.lookup x=some c→c≠b)∧∀ p∈X.pn++pins,p.1≠b):Inv X pins σ H' s':=by
 obtain ⟨h',g',d',t',o'⟩:=s'
 have e:o'=s.os:=ho
 subst e
 exact I.call (g':=g') (t':=t') (d':=d') u hok hg hch
end
abbrev XK:=Value→Option Addr→Hp→Prop
abbrev St:=List (Option V)
abbrev VK:=V→Hp→Prop
abbrev TE:=St→Hp→VK→Prop
abbrev TT:=St→Hp→(Bool→Hp→Prop)→Prop
abbrev TA:=St→Hp→(List V→Hp→Prop)→Prop
structure Ends where
 nx:St→Hp→Prop
 rt:VK
 bk:St→Hp→Prop:=fun _ _=>False
 ct:St→Hp→Prop:=fun _ _=>False
abbrev TS:=Ends→St→Hp→Prop
def EP (X:Cx) (pins:List (Addr × Obj)) (σ:St) (Q:VK) (u:Value) (s':Shared):Prop:=∃ v H',Inv X pins σ H' s'∧RelV v u∧Q v H'
def TP (X:Cx) (pins:List (Addr × Obj)) (σ:St) (Q:Bool→Hp→Prop) (b:Bool) (s':Shared):Prop:=∃ H',Inv X pins σ H' s'∧Q b H'
def AP (X:Cx) (pins:List (Addr × Obj)) (σ:St) (Q:List V→Hp→Prop) (us:List Value) (s':Shared):Prop:=∃ vs H',Inv X pins σ H' s'∧Vals vs us∧Q vs H'
def SP (X:Cx) (pins:List (Addr × Obj)) (D:Ends) (f:Flow) (s':Shared):Prop :=
 match f with
 | .next=>∃ σ' H',Inv X pins σ' H' s'∧D.nx σ' H'
 | .brk=>∃ σ' H',Inv X pins σ' H' s'∧D.bk σ' H'
 | .cont=>∃ σ' H',Inv X pins σ' H' s'∧D.ct σ' H'
 | .ret u=>∃ v σ' H',Inv X pins σ' H' s'∧RelV v u∧D.rt v H'
def PE (X:Cx) (e:Expr) (t:TE):Prop :=
 ∀ (pins:List (Addr × Obj)) (s:Shared) (σ:St) (H:Hp) (Q:VK),Inv X pins σ H s→t σ H Q→wpAny (model X.prog X.w) X.A (eval e X.env) (EP X pins σ Q) X.xe s
def PT (X:Cx) (e:Expr) (t:TT):Prop :=
 ∀ (pins:List (Addr × Obj)) (s:Shared) (σ:St) (H:Hp) (Q:Bool→Hp→Prop),Inv X pins σ H s→t σ H Q→wpAny (model X.prog X.w) X.A (isTrue e X.env (eval e X.env)) (TP X pins σ Q) X.xe s
def PW (X:Cx) (e:Expr) (t:TT):Prop :=
 ∀ (whole:Sem Value) (pins:List (Addr × Obj)) (s:Shared) (σ:St) (H:Hp) (Q:Bool→Hp→Prop),Inv X pins σ H s→t σ H Q→wpAny (model X.prog X.w) X.A (isTrue e X.env whole) (TP X pins σ Q) X.xe s
theorem PW.pt {X:Cx} {e:Expr} {t:TT} (h:PW X e t):PT X e t:=h _
def PA (X:Cx) (es:List Expr) (t:TA):Prop :=
 ∀ (pos:Pos) (pins:List (Addr × Obj)) (s:Shared) (σ:St) (H:Hp) (Q:List V→Hp→Prop),Inv X pins σ H s→t σ H Q→wpAny (model X.prog X.w) X.A (spliced (backTo pos (starEach es X.env))) (AP X pins σ Q) X.xe s
def PS (X:Cx) (st:Stmt) (t:TS):Prop :=
 ∀ (pins:List (Addr × Obj)) (s:Shared) (σ:St) (H:Hp) (D:Ends),Inv X pins σ H s→t D σ H→wpAny (model X.prog X.w) X.A (exec st X.env) (SP X pins D) X.xe s
def PSs (X:Cx) (st:List Stmt) (t:TS):Prop :=
 ∀ (pins:List (Addr × Obj)) (s:Shared) (σ:St) (H:Hp) (D:Ends),Inv X pins σ H s→t D σ H→wpAny (model X.prog X.w) X.A (execs st X.env) (SP X pins D) X.xe s
theorem thn {α:Type} {t:Sem α} {Q Q':α→Shared→Prop} {M:Model} {A:Around} {E:Value→Shared→Prop} {s:Shared} (h:wpAny M A t Q E s) (hQ:∀ a s,Q a s→Q' a s):wpAny M A t Q' E s:=wpAny_mono h hQ fun _ _ x=>x
end L2
namespace L2
open PySem PySem.Spec PyProof.Rows
section
variable {X:Cx}
theorem bin {a b:Expr} {ta tb:TE} (ha:PE X a ta) (hb:PE X b tb) {pins:List (Addr × Obj)} {s:Shared} {σ:St} {H:Hp} {R:V→V→Hp→Prop} (I:Inv X pins σ H s) (h:ta σ H fun x H1=>tb σ H1 fun y H2=>R x y H2)
  {α:Type} {Q:α→Shared→Prop} {f:Value→Value→Sem α}
  (hf:∀ v u s2 x y H2,Inv X pins σ H2 s2→RelV x v→RelV y u→R x y H2→wpAny (model X.prog X.w) X.A (f v u) Q X.xe s2) :
  wpAny (model X.prog X.w) X.A (eval a X.env) (fun v s₁=>wpAny (model X.prog X.w) X.A (eval b X.env) (fun u s₂=>wpAny (model X.prog X.w) X.A (f v u) Q X.xe s₂) X.xe s₁) X.xe s:=by
 refine thn (ha pins s σ H _ I h) fun v s1 ⟨x,H1,I1,r1,q1⟩=>?_
 refine thn (hb pins s1 σ H1 _ I1 q1) fun u s2 ⟨y,H2,I2,r2,q2⟩=>?_
 exact hf v u s2 x y H2 I2 r1 r2 q2
def ax0 (i:Nat):TE:=fun σ H Q=>∃ v,σ[i]? = some (some v)∧Q v H
def tC (v:V):TE:=fun _ H Q=>Q v H
theorem adx {i:Nat} {x:Str} {pos:Pos} (hN:X.N[i]? = some x) (hv:Vis X.env.scope x) (hd:(x == ("__debug__" : Str))=false:=by decide) (hcd:(x == ("__classdict__" : Str))=false:=by decide):PE X (.Name x pos) (ax0 i):=by
 intro pins s σ H Q I h
 obtain ⟨v,e,h⟩:=h
 obtain ⟨m,hn,hl⟩:=I.loc
 obtain ⟨u,r,l⟩:=hl i x v hN e hv
 have fin:EP X pins σ Q u s:=⟨v,H,I,r,h⟩
 rcases l with ⟨hk,hm⟩ | ⟨hk,c,hc,hcell⟩
 ·exact wpAny_Name (wpAny_loadName_local I.ok.kind hk hn hm fin) hd
 ·rcases hk with hk | hk
  ·exact wpAny_Name (wpAny_loadName_cell I.ok.kind hk hc hcell fin) hd
  ·exact wpAny_Name (wpAny_loadName_free I.ok.kind hk hc hcell fin hcd) hd
theorem aog {i j pos}:PE X (.Constant (.int i) j pos) (tC (.int i)):=fun _ _ _ H _ I h=>wpAny_Constant_int ⟨.int i,H,I.tok _,⟨_,rfl⟩,h⟩
theorem au1 {b j pos}:PE X (.Constant (.bool b) j pos) (tC (.bl b)):=fun _ _ _ H _ I h=>Constant_bool ⟨.bl b,H,I,rfl,h⟩
theorem aoh {j pos}:PE X (.Constant .none j pos) (tC .non):=fun _ _ _ H _ I h=>Constant_none ⟨.non,H,I,rfl,h⟩
theorem aoi {x j pos}:PE X (.Constant (.str x) j pos) (tC (.str x)):=fun _ _ _ H _ I h=>Calls.Constant_str ⟨.str x,H,I.tok _,⟨_,rfl⟩,h⟩
def Gl (X:Cx) (x:Str):Prop:=X.env.kindOf x=some .globalImplicit
theorem a3t {E:Value→Shared→Prop} {pins:List (Addr × Obj)} {s:Shared} {σ:St} {H:Hp} {x:Str} {u:Value} {pos:Pos} {Q:Value→Shared→Prop} (I:Inv X pins σ H s) (hg:Gl X x) (hm:X.mg x=some u) (h:Q u s)
  (hd:(x == ("__debug__" : Str))=false:=by decide):wpAny (model X.prog X.w) X.A (eval (.Name x pos) X.env) Q E s :=
 Calls.Name_function_global I.ok.kind hg (Calls.loadGlobal_global (by rw [I.ok.glob];exact I.mod.glob.keeps I.bk) hm h) hd
theorem a4o {E:Value→Shared→Prop} {pins:List (Addr × Obj)} {s:Shared} {σ:St} {H:Hp} {x:Str} {u:Value} {pos:Pos} {Q:Value→Shared→Prop} (I:Inv X pins σ H s) (hg:Gl X x) (hm:X.mg x=none) (hv:bootBuiltins x=some u) (h:Q u s)
  (hn:x ≠ "__name__":=by decide) (hd:(x == ("__debug__" : Str))=false:=by decide):wpAny (model X.prog X.w) X.A (eval (.Name x pos) X.env) Q E s:=by
 obtain ⟨mb,h1,h2⟩:=I.mod.blt
 exact Calls.Name_function_global I.ok.kind hg (Calls.loadGlobal_builtin (by rw [I.ok.glob];exact I.mod.glob.keeps I.bk) hm (by rw [I.ok.blt];exact h1.keeps I.bk) ((h2 x hn).trans hv) h) hd
theorem a3u {x:Str} {v:V} {u:Value} {pos:Pos} (hg:Gl X x) (hm:X.mg x=some u) (r:RelV v u) (hd:(x == ("__debug__" : Str))=false:=by decide):PE X (.Name x pos) (tC v) :=
 fun _ _ _ H _ I h=>a3t I hg hm ⟨v,H,I,r,h⟩ hd
theorem ady {x:Str} {v:V} {u:Value} {pos:Pos} (hg:Gl X x) (hm:X.mg x=none) (hv:bootBuiltins x=some u) (r:RelV v u) (hn:x ≠ "__name__":=by decide) (hd:(x == ("__debug__" : Str))=false:=by decide):PE X (.Name x pos) (tC v) :=
 fun _ _ _ H _ I h=>a4o I hg hm hv ⟨v,H,I,r,h⟩ hn hd
variable {a b:Expr} {ta tb:TE} {pos:Pos}
variable {tA tB':TT} {rest:List Expr}
def ax1 (t u:TT):TT:=fun σ H Q=>t σ H fun c H1=>if c=true then u σ H1 Q else Q false H1
def tOr (t u:TT):TT:=fun σ H Q=>t σ H fun c H1=>if c=true then Q true H1 else u σ H1 Q
def ax2 (t:TT):TT:=fun σ H Q=>t σ H fun c H1=>Q (!c) H1
theorem aku (ha:PT X a tA):PW X (.BoolOp .And [a] pos) tA:=by
 intro wh pins s σ H Q I h
 refine isTrue_and (thn (ha pins s σ H Q I h) fun c s1 e=>?_)
 cases c with
 | true=>exact isTrue_and_nil e
 | false=>exact e
theorem aoj (ha:PT X a tA):PW X (.BoolOp .Or [a] pos) tA:=by
 intro wh pins s σ H Q I h
 refine isTrue_or (thn (ha pins s σ H Q I h) fun c s1 e=>?_)
 cases c with
 | false=>exact isTrue_or_nil e
 | true=>exact e
theorem aok (ha:PT X a tA) (hb:PW X (.BoolOp .And (b::rest) pos) tB'):PW X (.BoolOp .And (a::b::rest) pos) (ax1 tA tB'):=by
 intro wh pins s σ H Q I h
 refine isTrue_and (thn (ha pins s σ H _ I h) fun c s1 ⟨H1,I1,q1⟩=>?_)
 cases c with
 | true=>exact hb wh pins s1 σ H1 Q I1 q1
 | false=>exact ⟨H1,I1,q1⟩
theorem au2 (ha:PT X a tA) (hb:PW X (.BoolOp .Or (b::rest) pos) tB'):PW X (.BoolOp .Or (a::b::rest) pos) (tOr tA tB'):=by
 intro wh pins s σ H Q I h
 refine isTrue_or (thn (ha pins s σ H _ I h) fun c s1 ⟨H1,I1,q1⟩=>?_)
 cases c with
 | true=>exact ⟨H1,I1,q1⟩
 | false=>exact hb wh pins s1 σ H1 Q I1 q1
theorem aol (ha:PT X a tA):PT X (.UnaryOp .Not a pos) (ax2 tA):=by
 intro pins s σ H Q I h
 exact isTrue_not (ha pins s σ H (fun c H1=>Q (!c) H1) I h)
def au3 (ta tb:TE):TE:=fun σ H Q=>ta σ H fun x H1=>∃ c,x = .bl c∧if c=true then tb σ H1 Q else Q (.bl false) H1
def au4 (ta:TE):TE:=fun σ H Q=>ta σ H fun x H1=>∃ c,x = .bl c∧Q (.bl (!c)) H1
theorem aom {op} {t:TE} (h:PE X a t):PE X (.BoolOp op [a] pos) t:=fun pins s σ H Q I hw=>BoolOp_one (h pins s σ H Q I hw)
theorem aon (ha:PE X a ta) (hb:PE X (.BoolOp .And (b::rest) pos) tb):PE X (.BoolOp .And (a::b::rest) pos) (au3 ta tb):=by
 intro pins s σ H Q I h
 refine BoolOp_and (thn (ha pins s σ H _ I h) fun v s1 ⟨x,H1,I1,r1,q1⟩=>?_)
 obtain ⟨c,rfl,q1⟩:=q1
 cases r1
 refine wpAny_truthy_bool ?_
 cases c with
 | true=>exact hb pins s1 σ H1 Q I1 q1
 | false=>exact ⟨.bl false,H1,I1,rfl,q1⟩
theorem aoo (ha:PE X a ta):PE X (.UnaryOp .Not a pos) (au4 ta):=by
 intro pins s σ H Q I h
 refine UnaryOp_ (thn (ha pins s σ H _ I h) fun v s1 ⟨x,H1,I1,r1,q1⟩=>?_)
 obtain ⟨c,rfl,q1⟩:=q1
 cases r1
 exact not_of (wpAny_truthy_bool ⟨.bl (!c),H1,I1,rfl,q1⟩)
end
end L2
namespace L2
open PySem PySem.Spec PyProof.Rows
def SqL (K:PySem.W.Frag) (H:Hp) (a:Addr) (xs:List V):Prop :=
 Rd H a (.lst xs) ∨
  ∃ (o:Obj) (its:Array Value) (n:Nat),K.lookup a=some o∧o.cls = .type "list"∧o.dict=none∧o.data = .seq its n∧its.size≤sizeLine∧Vals xs its.toList
def SqT (K:PySem.W.Frag) (H:Hp) (a:Addr) (xs:List V):Prop :=
 Rd H a (.tup xs) ∨
  ∃ (o:Obj) (its:Array Value) (n:Nat),K.lookup a=some o∧o.cls = .type "tuple"∧o.data = .seq its n∧its.size≤sizeLine∧Vals xs its.toList
def ax3:Value→Option V
 | .none=>some .non
 | .bool b=>some (.bl b)
 | .int i _=>some (.int i)
 | .str x _=>some (.str x)
 | .bytes b _=>some (.byt b)
 | .float b _=>some (.flt b)
 | .ref a=>some (.ref a)
 | .type n=>some (.ty n)
 | _=>none
theorem RelV.abs {x:V} {u:Value} (r:RelV x u):ax3 u=some x:=by
 cases x with
 | non=>cases r;rfl
 | bl _=>cases r;rfl
 | int _=>obtain ⟨t,rfl⟩:=r;rfl
 | str _=>obtain ⟨t,rfl⟩:=r;rfl
 | byt _=>obtain ⟨t,rfl⟩:=r;rfl
 | flt _=>obtain ⟨t,rfl⟩:=r;rfl
 | ref _=>cases r;rfl
 | ty _=>cases r;rfl
theorem RelV.inj {x y:V} {u:Value} (r:RelV x u) (q:RelV y u):x=y:=Option.some.inj (r.abs.symm.trans q.abs)
theorem Vals.inj:∀ {xs ys:List V} {us:List Value},Vals xs us→Vals ys us→xs=ys
 | _,_,_, .nil, .nil=>rfl
 | _,_,_, .cons r t, .cons r' t'=>by rw [r.inj r',Vals.inj t t']
section
variable {X:Cx} {pins:List (Addr × Obj)} {σ:St} {H:Hp} {s:Shared} {a:Addr} {xs ys:List V}
theorem SqL.of {K:PySem.W.Frag} (h:H a=some (.lst xs)):SqL K H a xs:=.inl (.inl h)
theorem SqT.of {K:PySem.W.Frag} (h:H a=some (.tup xs)):SqT K H a xs:=.inl (.inl h)
theorem Inv.list (I:Inv X pins σ H s) (h:SqL X.K H a xs):∃ its:List Value,Vals xs its∧PlainL s.heap a its.toArray∧xs.length≤sizeLine:=by
 rcases h with h | ⟨o,its,n,hk,hc,hd,hs,hz,r⟩
 ·obtain ⟨z,its,n,r,e⟩:=h.ok I.hok
  exact ⟨its,r,⟨_,n,e,rfl,rfl,rfl⟩,z⟩
 ·refine ⟨its.toList,r,⟨o,n,I.kIn a o hk,hc,hd,by simpa using hs⟩,?_⟩
  have e:=r.length
  simp only [Array.length_toList] at e
  omega
theorem Inv.tuple (I:Inv X pins σ H s) (h:SqT X.K H a xs):∃ its:List Value,Vals xs its∧IsTup s.heap a its.toArray∧xs.length≤sizeLine:=by
 rcases h with h | ⟨o,its,n,hk,hc,hs,hz,r⟩
 ·obtain ⟨z,its,r,p⟩:=h.ok I.hok
  exact ⟨its,r,p,z⟩
 ·refine ⟨its.toList,r,⟨o,I.kIn a o hk,hc,n,by simpa using hs⟩,?_⟩
  have e:=r.length
  simp only [Array.length_toList] at e
  omega
theorem Inv.list_inj (I:Inv X pins σ H s) (h:SqL X.K H a xs) (h':SqL X.K H a ys):xs=ys:=by
 obtain ⟨its,r,⟨o,n,e,_,_,d⟩,_⟩:=I.list h
 obtain ⟨its',r',⟨o',n',e',_,_,d'⟩,_⟩:=I.list h'
 rw [e] at e';cases e'
 rw [d] at d'
 injection d' with d1 _
 have:its=its':=by simpa using congrArg Array.toList d1
 subst this
 exact r.inj r'
theorem Inv.tuple_inj (I:Inv X pins σ H s) (h:SqT X.K H a xs) (h':SqT X.K H a ys):xs=ys:=by
 obtain ⟨its,r,⟨o,e,_,n,d⟩,_⟩:=I.tuple h
 obtain ⟨its',r',⟨o',e',_,n',d'⟩,_⟩:=I.tuple h'
 rw [e] at e';cases e'
 rw [d] at d'
 injection d' with d1 _
 have:its=its':=by simpa using congrArg Array.toList d1
 subst this
 exact r.inj r'
end
abbrev Cx.wish (X:Cx) (E:Value→Shared→Prop):Cx:={ X with xe:=E }
abbrev Cx.nox (X:Cx):Cx:=X.wish fun _ _=>False
theorem Cx.Ok.wish {X:Cx} (ok:X.Ok) (E:Value→Shared→Prop):(X.wish E).Ok :=
 ⟨ok.mod,ok.kind,ok.glob,ok.blt,ok.above,ok.inj,ok.has,ok.cab,ok.hd,ok.frames,ok.stk,ok.exf,ok.bs,ok.bsz,ok.noex,ok.exfs,ok.funs,ok.frf⟩
theorem Cx.Ok.unwish {X:Cx} {E:Value→Shared→Prop} (ok:(X.wish E).Ok):X.Ok :=
 ⟨ok.mod,ok.kind,ok.glob,ok.blt,ok.above,ok.inj,ok.has,ok.cab,ok.hd,ok.frames,ok.stk,ok.exf,ok.bs,ok.bsz,ok.noex,ok.exfs,ok.funs,ok.frf⟩
section
variable {X:Cx} {pins:List (Addr × Obj)} {σ:St} {H:Hp} {s:Shared} {E:Value→Shared→Prop}
theorem Inv.wish (I:Inv X pins σ H s) (E:Value→Shared→Prop):Inv (X.wish E) pins σ H s:=⟨I.ok.wish E,I.os,I.bare,I.base,I.loc,I.cell,I.free,I.freeC,I.pin,I.hok,I.len⟩
theorem Inv.unwish (I:Inv (X.wish E) pins σ H s):Inv X pins σ H s:=⟨I.ok.unwish,I.os,I.bare,I.base,I.loc,I.cell,I.free,I.freeC,I.pin,I.hok,I.len⟩
theorem SP.unwish {D:Ends} {f:Flow} {s':Shared} (h:SP (X.wish E) pins D f s'):SP X pins D f s':=by
 cases f with
 | next=>obtain ⟨σ',H',I,q⟩:=h;exact ⟨σ',H',I.unwish,q⟩
 | brk=>obtain ⟨σ',H',I,q⟩:=h;exact ⟨σ',H',I.unwish,q⟩
 | cont=>obtain ⟨σ',H',I,q⟩:=h;exact ⟨σ',H',I.unwish,q⟩
 | ret u=>obtain ⟨v,σ',H',I,r,q⟩:=h;exact ⟨v,σ',H',I.unwish,r,q⟩
theorem PSs.nox {st:List Stmt} {t:TS} (h:PSs X.nox st t):PSs X st t:=fun pins s σ H D I hw =>
 wpAny_mono (h pins s σ H D (I.wish _) hw) (fun _ _ q=>q.unwish) fun _ _ z=>False.elim z
end
section
variable {X:Cx} {st:Stmt} {rest:List Stmt} {t u:TS} {e:Expr} {te:TE} {pos:Pos}
def au5:TS:=fun D σ H=>D.nx σ H
def ax4 (t u:TS):TS:=fun D σ H=>t { D with nx:=u D } σ H
theorem akv:PSs X [] au5:=fun _ _ σ H _ I h=>wpAny_execs_nil ⟨σ,H,I,h⟩
theorem ahd (h1:PS X st t) (h2:PSs X rest u):PSs X (st::rest) (ax4 t u):=by
 intro pins s σ H D I h
 refine wpAny_execs_cons (thn (h1 pins s σ H { D with nx:=u D } I h) fun f s1 q=>?_)
 cases f with
 | next =>
  obtain ⟨σ',H',I',q⟩:=q
  exact h2 pins s1 σ' H' D I' q
 | ret v=>exact q
 | brk=>exact q
 | cont=>exact q
theorem akx (h1:PS X st t):PSs X [st] t:=by
 intro pins s σ H D I h
 refine wpAny_execs_cons (thn (h1 pins s σ H D I h) fun f s1 q=>?_)
 cases f with
 | next=>exact wpAny_execs_nil q
 | ret v=>exact q
 | brk=>exact q
 | cont=>exact q
theorem Inv.quiet {pins:List (Addr × Obj)} {σ:St} {H:Hp} {s:Shared} (I:Inv X pins σ H s):interactive X.env=false:=by simp [interactive,I.ok.kind]
def au6 (te:TE):TS:=fun D σ H=>te σ H fun _ H1=>D.nx σ H1
theorem aky (he:PE X e te) (hs:swapsWith e none pos.line X.env=pure false:=by rfl):PS X (.Expr e pos) (au6 te):=by
 intro pins s σ H D I h
 exact wpAny_Expr_any (thn (he pins s σ H _ I h) fun v s1 ⟨x,H1,I1,r1,q1⟩=>⟨σ,H1,I1,q1⟩) I.quiet hs
def ax5 (te:TE):TS:=fun D σ H=>te σ H D.rt
theorem aop (he:PE X e te):PS X (.Return (some e) pos) (ax5 te):=by
 intro pins s σ H D I h
 exact wpAny_Return_some (thn (he pins s σ H _ I h) fun v s1 ⟨x,H1,I1,r1,q1⟩=>⟨x,σ,H1,I1,r1,q1⟩)
def ax6 (c:TT) (t u:TS):TS:=fun D σ H=>c σ H fun b H1=>if b=true then t D σ H1 else u D σ H1
theorem au7 {c:Expr} {a b:List Stmt} {tc:TT} (hc:PT X c tc) (ha:PSs X a t) (hb:PSs X b u):PS X (.If c a b pos) (ax6 tc t u):=by
 intro pins s σ H D I h
 refine wpAny_If (thn (hc pins s σ H _ I h) fun d s1 ⟨H1,I1,q1⟩=>?_)
 cases d with
 | true=>exact ha pins s1 σ H1 D I1 q1
 | false=>exact hb pins s1 σ H1 D I1 q1
end
abbrev TG:=V→St→Hp→(St→Hp→Prop)→Prop
abbrev TGs:=List V→St→Hp→(St→Hp→Prop)→Prop
def PG (X:Cx) (target:Expr) (t:TG):Prop :=
 ∀ (pins:List (Addr × Obj)) (s:Shared) (σ:St) (H:Hp) (v:V) (u:Value) (Q:St→Hp→Prop),Inv X pins σ H s→RelV v u→t v σ H Q →
  wpAny (model X.prog X.w) X.A (assign target X.env u) (fun _ s'=>∃ σ' H',Inv X pins σ' H' s'∧Q σ' H') X.xe s
def PGs (X:Cx) (ts:List Expr) (t:TGs):Prop :=
 ∀ (pins:List (Addr × Obj)) (s:Shared) (σ:St) (H:Hp) (vs:List V) (us:List Value) (Q:St→Hp→Prop),Inv X pins σ H s→Vals vs us→t vs σ H Q →
  wpAny (model X.prog X.w) X.A (assignInOrder ((assignEach ts X.env).map (·.2)) us) (fun _ s'=>∃ σ' H',Inv X pins σ' H' s'∧Q σ' H') X.xe s
abbrev aoq:=V→V→V→Hp→(Hp→Prop)→Prop
def au8 (X:Cx) (t:aoq):Prop :=
 ∀ (pins:List (Addr × Obj)) (s:Shared) (σ:St) (H:Hp) (o i v:V) (ov iv u:Value) (Q:Hp→Prop),Inv X pins σ H s→RelV o ov→RelV i iv→RelV v u→t o i v H Q →
  wpAny (model X.prog X.w) X.A (setItem ov iv u) (fun _ s'=>∃ H',Inv X pins σ H' s'∧Q H') X.xe s
abbrev TIp:=V→V→Hp→VK→Prop
def PIp (X:Cx) (op:Operator) (t:TIp):Prop :=
 ∀ (pins:List (Addr × Obj)) (s:Shared) (σ:St) (H:Hp) (x y:V) (v u:Value) (Q:VK),Inv X pins σ H s→RelV x v→RelV y u→t x y H Q →
  wpAny (model X.prog X.w) X.A (inplaceOp op v u) (EP X pins σ Q) X.xe s
section
variable {X:Cx} {pos:Pos}
def aa9 (i:Nat):TG:=fun v σ H Q=>Q (σ.set i (some v)) H
theorem ug {i:Nat} {x:Str} (hN:X.N.Nodup) (hi:X.N[i]? = some x) (hx:Loc X.env.scope x) (hf:X.fn x=true∨X.env.scope.names.lookup x=some .local:=by first | exact .inl rfl | exact .inr rfl | assumption):PG X (.Name x pos) (aa9 i):=by
 intro pins s σ H v u Q I r h
 exact wpAny_assign_Name (a5f I hN hi hx r (fun s' I'=>⟨_,H,I',h⟩) hf)
def avv:TGs:=fun vs σ H Q=>vs=[]∧Q σ H
def ahe (t:TG) (u:TGs):TGs:=fun vs σ H Q=>∃ v r,vs=v::r∧t v σ H fun σ' H'=>u r σ' H' Q
theorem aaa:PGs X [] avv:=by
 intro pins s σ H vs us Q I r h
 obtain ⟨e,h⟩:=h
 subst e
 cases r
 exact assignInOrder_nil ⟨σ,H,I,h⟩
theorem a2y {e:Expr} {es:List Expr} {t:TG} {u:TGs} (h1:PG X e t) (h2:PGs X es u)
  (hs:(assignEach (e::es) X.env).map (·.2)=assign e X.env::(assignEach es X.env).map (·.2):=by rfl):PGs X (e::es) (ahe t u):=by
 intro pins s σ H vs us Q I r h
 obtain ⟨v,vr,e1,h⟩:=h
 subst e1
 cases r with
 | cons r rr =>
  rw [hs]
  refine assignInOrder_cons (thn (h1 pins s σ H _ _ _ I r h) fun _ s1 ⟨σ1,H1,I1,q1⟩=>?_)
  exact h2 pins s1 σ1 H1 _ _ Q I1 rr q1
def qx (K:PySem.W.Frag) (n:Nat) (t:TGs):TG:=fun v σ H Q=>∃ a xs,v = .ref a∧SqT K H a xs∧xs.length=n∧t xs σ H Q
theorem adz {es:List Expr} {k:Nat} {t:TGs} {n:Nat} (hc:X.calm=true) (h:PGs X es t)
  (hn:(assignEach es X.env).length=n:=by rfl) (hst:(assignEach es X.env).findIdx? (·.1)=none:=by rfl):PG X (.Tuple es k pos) (qx X.K n t):=by
 intro pins s σ H v u Q I r hw
 obtain ⟨a,xs,e1,hq,hl,hw⟩:=hw
 subst e1
 cases r
 obtain ⟨its,rv,ht,hz⟩:=I.tuple hq
 refine assign_Tuple_tuple (I.ok.hd hc) ht (by simp [hn,← hl,rv.length]) hst fun h' hx=>?_
 have I1:Inv X pins σ H { s with heap:=h' }:=I.kept (t':=s.toks) fun b o e=>hx b o (Nat.ne_of_lt (Heap.lt_size e)) e
 exact h pins _ σ H xs _ Q I1 (by simpa using rv) hw
def a4x (to ti:TE) (t:aoq):TG:=fun v σ H Q=>to σ H fun o H1=>ti σ H1 fun i H2=>t o i v H2 fun H3=>Q σ H3
theorem aor {o i:Expr} {to ti:TE} {t:aoq} (ho:PE X o to) (hi:PE X i ti) (hs:au8 X t)
  (ha:∀ v,assign (.Subscript o i pos) X.env v=(do
   let ov ← holding [v] (eval o X.env)
   let iv ← holding [v,ov] (eval i X.env)
   standAt pos
   holding [v,ov,iv] (setItem ov iv v)
   release [v,ov,iv] []):=by intro _;rfl):PG X (.Subscript o i pos) (a4x to ti t):=by
 intro pins s σ H v u Q I r h
 rw [ha]
 refine wpAny_bind (wpAny_holding (thn (ho pins s σ H _ I h) fun ov s1 ⟨x,H1,I1,r1,q1⟩=>?_))
 refine wpAny_bind (wpAny_holding (thn (hi pins s1 σ H1 _ I1 q1) fun iv s2 ⟨y,H2,I2,r2,q2⟩=>?_))
 refine wpAny_bind (wpAny_standAt (wpAny_bind (wpAny_holding (thn (hs pins s2 σ H2 x y v ov iv u _ I2 r1 r2 r q2) fun _ s3 ⟨H3,I3,q3⟩=>?_))))
 exact wpAny_release ⟨σ,H3,I3,q3⟩
def au9 (te:TE) (g:TG):TS:=fun D σ H=>te σ H fun x H1=>g x σ H1 D.nx
theorem ajk {tg e:Expr} {te:TE} {g:TG} (he:PE X e te) (hg:PG X tg g) (hs:swapsWithSole [tg] e pos.line X.env=pure false:=by rfl) (hw:swappedStores [tg] e X.env=pure none:=by rfl)
  (h1:(assignEach [tg] X.env).map (·.2)=[assign tg X.env]:=by rfl):PS X (.Assign [tg] e pos) (au9 te g):=by
 intro pins s σ H D I h
 refine wpAny_Assign_stores (thn (he pins s σ H _ I h) fun v s1 ⟨x,H1,I1,r1,q1⟩=>?_) hs hw
 rw [h1]
 exact thn (hg pins s1 σ H1 x v _ I1 r1 q1) fun _ s2 q=>q
theorem aos {i:Nat} {x:Str} {e:Expr} {te:TE} {pos':Pos} (hN:X.N.Nodup) (hi:X.N[i]? = some x) (hx:Loc X.env.scope x) (he:PE X e te) (hs:swapsWith e (some (.Name x pos')) pos.line X.env=pure false:=by rfl) (hf:X.fn x=true∨X.env.scope.names.lookup x=some .local:=by first | exact .inl rfl | exact .inr rfl | assumption) :
  PS X (.Assign [.Name x pos'] e pos) (au9 te (aa9 i)):=by
 intro pins s σ H D I h
 refine wpAny_Assign_Name (thn (he pins s σ H _ I h) fun v s1 ⟨y,H1,I1,r1,q1⟩=>?_) hs
 exact a5f I1 hN hi hx r1 (fun s2 I2=>⟨_,H1,I2,q1⟩) hf
def ax7 (i:Nat) (te:TE) (ti:TIp):TS:=fun D σ H=>∃ x,σ[i]? = some (some x)∧te σ H fun y H1=>ti x y H1 fun z H2=>D.nx (σ.set i (some z)) H2
theorem aot {i:Nat} {x:Str} {e:Expr} {te:TE} {op:Operator} {ti:TIp} {pos':Pos} (hN:X.N.Nodup) (hi:X.N[i]? = some x) (hx:Loc X.env.scope x) (he:PE X e te) (ho:PIp X op ti) (hf:X.fn x=true∨X.env.scope.names.lookup x=some .local:=by first | exact .inl rfl | exact .inr rfl | assumption) :
  PS X (.AugAssign (.Name x pos') op e pos) (ax7 i te ti):=by
 intro pins s σ H D I h
 obtain ⟨v,e1,h⟩:=h
 obtain ⟨m,hn,hl⟩:=I.loc
 have vis:Vis X.env.scope x:=by rcases hx with k | k;exact .inl k;exact .inr (.inl k)
 obtain ⟨u,r,l⟩:=hl i x v hi e1 vis
 refine wpAny_AugAssign_Name ?_
 have go:wpAny (model X.prog X.w) X.A (eval e X.env) (fun w s₂=>wpAny (model X.prog X.w) X.A (inplaceOp op u w) (fun r s₃=>wpAny (model X.prog X.w) X.A (storeName X.env x r) (fun _=>SP X pins D .next) X.xe s₃) X.xe s₂) X.xe s:=by
  refine thn (he pins s σ H _ I h) fun w s1 ⟨y,H1,I1,r1,q1⟩=>?_
  refine thn (ho pins s1 σ H1 v y u w _ I1 r r1 q1) fun z s2 ⟨zv,H2,I2,r2,q2⟩=>?_
  exact a5f I2 hN hi hx r2 (fun s3 I3=>⟨_,H2,I3,q2⟩) hf
 rcases l with ⟨hk,hm⟩ | ⟨hk,c,hc,hcell⟩
 ·exact wpAny_loadName_local I.ok.kind hk hn hm go
 ·rcases hk with hk | hk
  ·exact wpAny_loadName_cell I.ok.kind hk hc hcell go
  ·rcases hx with k | k
   ·have:X.env.scope.names.lookup x=some .free:=hk
    rw [k] at this;cases this
   ·have:X.env.scope.names.lookup x=some .free:=hk
    rw [k] at this;cases this
def aua (to ti te:TE) (tget:V→V→Hp→VK→Prop) (tip:TIp) (tset:aoq):TS:=fun D σ H=>to σ H fun o H1=>ti σ H1 fun i H2=>tget o i H2 fun x H3=>te σ H3 fun y H4=>tip x y H4 fun z H5=>tset o i z H5 fun H6=>D.nx σ H6
def avw (X:Cx) (t:V→V→Hp→VK→Prop):Prop :=
 ∀ (pins:List (Addr × Obj)) (s:Shared) (σ:St) (H:Hp) (o i:V) (ov iv:Value) (Q:VK),Inv X pins σ H s→RelV o ov→RelV i iv→t o i H Q →
  wpAny (model X.prog X.w) X.A (getItem ov iv) (EP X pins σ Q) X.xe s
theorem akz {o i e:Expr} {to ti te:TE} {tget:V→V→Hp→VK→Prop} {tip:TIp} {tset:aoq} {op:Operator} {tpos:Pos} (ho:PE X o to) (hi:PE X i ti) (hg:avw X tget) (he:PE X e te) (hp:PIp X op tip) (hs:au8 X tset)
  (ha:∀ ov iv new,augStore i ov iv new=(do holding [new,ov,iv] (setItem ov iv new);release [new,ov,iv] [];pure .next):=by intros;rfl):PS X (.AugAssign (.Subscript o i tpos) op e pos) (aua to ti te tget tip tset):=by
 intro pins s σ H D I h
 refine wpAny_AugAssign_SubscriptAny (thn (ho pins s σ H _ I h) fun ov s1 ⟨x1,H1,I1,r1,q1⟩=>?_) ha
 refine thn (hi pins s1 σ H1 _ I1 q1) fun iv s2 ⟨x2,H2,I2,r2,q2⟩=>?_
 refine thn (hg pins s2 σ H2 x1 x2 ov iv _ I2 r1 r2 q2) fun old s3 ⟨x3,H3,I3,r3,q3⟩=>?_
 refine thn (he pins s3 σ H3 _ I3 q3) fun v s4 ⟨x4,H4,I4,r4,q4⟩=>?_
 refine thn (hp pins s4 σ H4 x3 x4 old v _ I4 r3 r4 q4) fun new s5 ⟨x5,H5,I5,r5,q5⟩=>?_
 exact thn (hs pins s5 σ H5 x1 x2 x5 ov iv new _ I5 r1 r2 r5 q5) fun _ s6 ⟨H6,I6,q6⟩=>⟨σ,H6,I6,q6⟩
end
section
variable {X:Cx} {pos:Pos}
def aou (c:TT) (tb:TS):TS:=fun D σ H=>∃ W:Nat→St→Hp→Prop,(∃ m,W m σ H)∧∀ m σ H,W m σ H →
 c σ H fun b H1=>if b=true then ∃ N:St→Hp→Prop,(∀ σ' H',N σ' H'→∃ m',m'<m∧W m' σ' H')∧tb { D with nx:=N,ct:=N,bk:=D.nx } σ H1 else D.nx σ H1
theorem ahf {c:Expr} {body:List Stmt} {tc:TT} {tb:TS} (hp:PassesOwn (model X.prog X.w) X.A X.env X.xe) (hc:PT X c tc) (hb:PSs X body tb):PS X (.While c body [] pos) (aou tc tb):=by
 intro pins s σ H D I h
 obtain ⟨W,⟨m0,w0⟩,turn⟩:=h
 refine wpAny_While (codeAny_whileLoop (fun n s'=>∃ σ' H',Inv X pins σ' H' s'∧W n σ' H') ?_ m0 ⟨σ,H,I,w0⟩)
 rintro n s1 ⟨σ1,H1,I1,w1⟩
 refine wpAny_passesOwn hp (thn (hc pins s1 σ1 H1 _ I1 (turn n σ1 H1 w1)) fun b s2 ⟨H2,I2,q2⟩=>?_)
 cases b with
 | true =>
  obtain ⟨N,hN,q2⟩:=q2
  rw [if_pos rfl]
  refine wpAny_passesOwn hp (thn (hb pins s2 σ1 H2 _ I2 q2) fun f s3 q3=>?_)
  cases f with
  | next =>
   obtain ⟨σ3,H3,I3,n3⟩:=q3
   obtain ⟨m',hm,w3⟩:=hN σ3 H3 n3
   exact ⟨m',hm,σ3,H3,I3,w3⟩
  | cont =>
   obtain ⟨σ3,H3,I3,n3⟩:=q3
   obtain ⟨m',hm,w3⟩:=hN σ3 H3 n3
   exact ⟨m',hm,σ3,H3,I3,w3⟩
  | brk=>exact q3
  | ret v=>exact q3
 | false =>
  rw [if_neg Bool.false_ne_true]
  exact wpAny_execs_nil ⟨σ1,H2,I2,q2⟩
end
structure It where
 go:Nat→Hp→Prop
 yld:Nat→Hp→V→Hp→Prop
 stop:Nat→Hp→Prop
def ab8 (X:Cx) (pins:List (Addr × Obj)) (H:Hp) (b:Addr):Prop :=
 H b=none∧b≠X.env.locals∧b ∉ X.fs∧(b∈X.ex∨X.s₀.heap.objs.size≤b)∧(∀ x c,X.env.cells.lookup x=some c→c≠b)∧∀ p∈X.pn++pins,p.1≠b
theorem Inv.fpOk {X:Cx} {pins:List (Addr × Obj)} {σ:St} {H H':Hp} {s:Shared} {b:Addr} (I:Inv X pins σ H s) (hb:s.heap.objs.size≤b) (hn:H' b=none):ab8 X pins H' b:=by
 refine ⟨hn,Nat.ne_of_gt (Nat.lt_of_lt_of_le I.lt hb),I.nofs hb, .inr (Nat.le_trans I.sz hb),fun x c e z=>?_,fun p hp z=>?_⟩
 ·obtain ⟨v,q⟩:=I.cell x c e
  exact absurd (Nat.lt_of_lt_of_le q.lt (by rw [z];exact hb)) (Nat.lt_irrefl _)
 ·exact absurd (Nat.lt_of_lt_of_le (Heap.lt_size (I.pin p hp).1) (by rw [z];exact hb)) (Nat.lt_irrefl _)
structure Turn (P:Program) (w:World) (K:PySem.W.Frag) (tg:Expr) (J:It) (fp:List Addr) (it:Addr) (tn:Nat→Heap→Prop):Prop where
 mem:it∈fp
 obj:∀ i h,tn i h→∀ b∈fp,∃ o,h.get? b=some o∧∀ v,o.data≠.cell v
 keep:∀ i h h',tn i h→(∀ b∈fp,∀ o,h.get? b=some o→h'.get? b=some o)→tn i h'
 item:∀ (X:Cx),X.prog=P→X.w=w→X.K=K→X.calm=true→∀ (i:Nat) (pins:List (Addr × Obj)) (s:Shared) (σ:St) (H:Hp) (E:Value→Shared→Prop),Inv X pins σ H s→(∀ b∈fp,ab8 X pins H b)→tn i s.heap→J.go i H →
  wpAny (model P w) X.A (pyNext (.ref it)) (fun r s1=>∃ u,r=some u ∧
   wpAny (model P w) X.A (letOwnedTupleGo tg (.ref it) u) (fun _ s2=>∃ x H',Inv X pins σ H' s2∧RelV x u∧J.yld i H x H'∧tn (i+1) s2.heap∧∀ b∈fp,H' b=none) E s1) E s
 done:∀ (X:Cx),X.prog=P→X.w=w→X.K=K→X.calm=true→∀ (i:Nat) (pins:List (Addr × Obj)) (s:Shared) (σ:St) (H:Hp) (E:Value→Shared→Prop),Inv X pins σ H s→(∀ b∈fp,ab8 X pins H b)→tn i s.heap→J.stop i H →
  wpAny (model P w) X.A (pyNext (.ref it)) (fun r s1=>r=none∧Inv X pins σ H s1) E s
 self:∀ (A:Around) (i:Nat) (s:Shared) (Q:Value→Shared→Prop) (E:Value→Shared→Prop),tn i s.heap→Q (.ref it) s→wpAny (model P w) A (pyIter (.ref it)) Q E s
abbrev TI:=St→Hp→(It→Hp→Prop)→Prop
def PIE (X:Cx) (pins:List (Addr × Obj)) (σ:St) (tg:Expr) (R:It→Hp→Prop) (itv:Value) (s2:Shared):Prop :=
 ∃ (it:Addr) (fp:List Addr) (tn:Nat→Heap→Prop) (J:It) (H':Hp),itv = .ref it∧Inv X pins σ H' s2∧Turn X.prog X.w X.K tg J fp it tn∧tn 0 s2.heap∧(∀ b∈fp,ab8 X pins H' b)∧R J H'
def PI (X:Cx) (tg iter:Expr) (wi:TI):Prop :=
 ∀ (pins:List (Addr × Obj)) (s:Shared) (σ:St) (H:Hp) (R:It→Hp→Prop),Inv X pins σ H s→wi σ H R →
  wpAny (model X.prog X.w) X.A (eval iter X.env) (fun v s1=>wpAny (model X.prog X.w) X.A (pyIter v) (PIE X pins σ tg R) X.xe s1) X.xe s
theorem ahg {M:Model} {A:Around} {E:Value→Shared→Prop} {s:Shared} {tg:Expr} {it:Addr} {u:Value} {o:Obj} {n:String} {vs:Array Value} {Q:Unit→Shared→Prop} (ho:s.heap.get? it=some o) (hc:o.cls = .type n) (hd:o.data = .fields vs)
  (hn:["enumerate", "zip", "dict_itemiterator", "dict_reverseitemiterator", "odict_iterator", "itertools.zip_longest", "itertools.pairwise"].contains n=false) (hQ:Q () s):wpAny M A (letOwnedTupleGo tg (.ref it) u) Q E s:=by
 unfold letOwnedTupleGo
 cases tg<;>first
  | exact wpAny_pure hQ
  | (cases u<;>first
    | exact wpAny_pure hQ
    | (refine wpAny_bind (wpAny_load ho ?_)
       rw [hc,hd]
       show wpAny M A (if (["enumerate", "zip", "dict_itemiterator", "dict_reverseitemiterator", "odict_iterator", "itertools.zip_longest", "itertools.pairwise"].contains n && vs[0]? == some (rawInt _))=true then _ else _) Q E s
       rw [if_neg (by intro h;rw [hn,Bool.false_and] at h;cases h)]
       exact wpAny_pure hQ))
def Itl (K:PySem.W.Frag) (a:Addr):It :=
 ⟨fun i H=>∃ xs x,SqL K H a xs∧xs[i]? = some x,fun i H x H'=>H'=H∧∀ xs,SqL K H a xs→xs[i]? = some x,fun i H=>∃ xs,SqL K H a xs∧xs.length≤i⟩
def Itt (K:PySem.W.Frag) (a:Addr):It :=
 ⟨fun i H=>∃ xs x,SqT K H a xs∧xs[i]? = some x,fun i H x H'=>H'=H∧∀ xs,SqT K H a xs→xs[i]? = some x,fun i H=>∃ xs,SqT K H a xs∧xs.length≤i⟩
def Itr (lo:Int) (n:Nat):It:=⟨fun i _=>i<n,fun i H x H'=>H'=H∧x = .int (lo+i),fun i _=>n≤i⟩
theorem ae0 {P:Program} {w:World} {K:PySem.W.Frag} {tg:Expr} (a it:Addr):Turn P w K tg (Itl K a) [it] it (fun i h=>h.IsListIter it a i) where
 mem:=by simp
 obj:=fun i h st b hb=>by
  have e:b=it:=by simpa using hb
  subst e
  obtain ⟨o,e,c,d⟩:=st
  exact ⟨o,e,fun v z=>by rw [d] at z;cases z⟩
 keep:=fun i h h' st k=>st.at fun o e=>k it (by simp) o e
 item:=by
  intro X hP hw hK hc i pins s σ H E I hf st hg
  subst hP hw hK
  obtain ⟨xs,x,hq,hx⟩:=hg
  obtain ⟨its,rv,p,hz⟩:=I.list hq
  obtain ⟨u,hu,ru⟩:=rv.get hx
  obtain ⟨f0,f1,f2,f3,f4,f5⟩:=hf it (by simp)
  refine wpAny_pyNext_list_item st p.isList (x:=u) (by simpa using hu) fun h' st' sb=>?_
  have I1:Inv X pins σ H { s with heap:=h' }:=I.turned (t':=s.toks) (fun b o hb e=>(sb.2 b hb).trans e) f0 f1 f3 f4 f5
  obtain ⟨o,e,c,d⟩:=id st'
  exact ⟨u,rfl,ahg (s:={ s with heap:=h' }) e c d (by decide) ⟨x,H,I1,ru,⟨rfl,fun ys hy=>by rw [I.list_inj hy hq];exact hx⟩,st',fun b hb=>(hf b hb).1⟩⟩
 done:=by
  intro X hP hw hK hc i pins s σ H E I hf st hg
  subst hP hw hK
  obtain ⟨xs,hq,hx⟩:=hg
  obtain ⟨its,rv,p,hz⟩:=I.list hq
  obtain ⟨f0,f1,f2,f3,f4,f5⟩:=hf it (by simp)
  have hl:=rv.length
  exact wpAny_pyNext_list_end (I.ok.hd hc) st p.isList (by simp;omega) fun h' eb=>⟨rfl,I.turned (t':=s.toks) (fun b o hb e=>eb b o hb e) f0 f1 f3 f4 f5⟩
 self:=fun _ _ _ _ _ st h=>wpAny_pyIter_listiter st h
theorem acx {P:Program} {w:World} {K:PySem.W.Frag} {tg:Expr} (a it:Addr):Turn P w K tg (Itt K a) [it] it (fun i h=>h.IsTupleIter it a i) where
 mem:=by simp
 obj:=fun i h st b hb=>by
  have e:b=it:=by simpa using hb
  subst e
  obtain ⟨o,e,c,d⟩:=st
  exact ⟨o,e,fun v z=>by rw [d] at z;cases z⟩
 keep:=fun i h h' st k=>st.at fun o e=>k it (by simp) o e
 item:=by
  intro X hP hw hK hc i pins s σ H E I hf st hg
  subst hP hw hK
  obtain ⟨xs,x,hq,hx⟩:=hg
  obtain ⟨its,rv,p,hz⟩:=I.tuple hq
  obtain ⟨u,hu,ru⟩:=rv.get hx
  obtain ⟨f0,f1,f2,f3,f4,f5⟩:=hf it (by simp)
  refine wpAny_pyNext_tuple_item st (show s.heap.IsTuple a its.toArray from p) (x:=u) (by simpa using hu) fun h' st' sb=>?_
  have I1:Inv X pins σ H { s with heap:=h' }:=I.turned (t':=s.toks) (fun b o hb e=>(sb.2 b hb).trans e) f0 f1 f3 f4 f5
  obtain ⟨o,e,c,d⟩:=id st'
  exact ⟨u,rfl,ahg (s:={ s with heap:=h' }) e c d (by decide) ⟨x,H,I1,ru,⟨rfl,fun ys hy=>by rw [I.tuple_inj hy hq];exact hx⟩,st',fun b hb=>(hf b hb).1⟩⟩
 done:=by
  intro X hP hw hK hc i pins s σ H E I hf st hg
  subst hP hw hK
  obtain ⟨xs,hq,hx⟩:=hg
  obtain ⟨its,rv,p,hz⟩:=I.tuple hq
  obtain ⟨f0,f1,f2,f3,f4,f5⟩:=hf it (by simp)
  have hl:=rv.length
  exact wpAny_pyNext_tuple_end (I.ok.hd hc) st (show s.heap.IsTuple a its.toArray from p) (by simp;omega) fun h' eb=>⟨rfl,I.turned (t':=s.toks) (fun b o hb e=>eb b o hb e) f0 f1 f3 f4 f5⟩
 self:=fun _ _ _ _ _ st h=>wpAny_pyIter_tupleiter st h
theorem acy {P:Program} {w:World} {K:PySem.W.Frag} {tg:Expr} (it:Addr) (lo:Int) (n:Nat):Turn P w K tg (Itr lo n) [it] it (fun i h=>IsRangeIter h it (lo+(i:Nat)*1) ((n:Int) - (i:Nat)) 1) where
 mem:=by simp
 obj:=fun i h st b hb=>by
  have e:b=it:=by simpa using hb
  subst e
  exact ⟨_,st,fun v z=>by
   have z':Data.fields _=Data.cell v:=z
   cases z'⟩
 keep:=fun i h h' st k=>k it (by simp) _ st
 item:=by
  intro X hP hw hK hc i pins s σ H E I hf st hg
  subst hP hw hK
  obtain ⟨f0,f1,f2,f3,f4,f5⟩:=hf it (by simp)
  have W:=Walks.range (prog:=X.prog) (w:=X.w) (I.ok.hd hc) it lo 1 n
  refine W.item i s _ _ hg st fun v h' tk hv st' kk=>?_
  obtain ⟨t,rfl⟩:=hv
  have I1:Inv X pins σ H { s with heap:=h',toks:=tk }:=I.turned (fun b o hb e=>kk b o (by simpa using hb) e) f0 f1 f3 f4 f5
  refine ⟨_,rfl,ahg (s:={ s with heap:=h',toks:=tk }) (n := "range_iterator") st' rfl rfl (by decide) ⟨.int (lo+i),H,I1,⟨t,?_⟩,⟨rfl,rfl⟩,st',fun b hb=>(hf b hb).1⟩⟩
  rw [Int.mul_one]
 done:=by
  intro X hP hw hK hc i pins s σ H E I hf st hg
  subst hP hw hK
  obtain ⟨f0,f1,f2,f3,f4,f5⟩:=hf it (by simp)
  exact wpAny_pyNext_range_end (I.ok.hd hc) st (by have:n≤i:=hg;omega) fun h' eb=>⟨rfl,I.turned (t':=s.toks) (fun b o hb e=>eb b o hb e) f0 f1 f3 f4 f5⟩
 self:=fun _ _ _ _ _ st h=>wpAny_pyIter_rangeiter st h
end L2
namespace L2
open PySem PySem.Spec PyProof.Rows
section
variable {X:Cx} {tg:Expr}
def aub (K:PySem.W.Frag) (tl:TE):TI:=fun σ H R=>tl σ H fun x H1=>∃ a,x = .ref a∧(∃ xs,SqL K H1 a xs)∧R (Itl K a) H1
def ax8 (K:PySem.W.Frag) (tl:TE):TI:=fun σ H R=>tl σ H fun x H1=>∃ a,x = .ref a∧(∃ xs,SqT K H1 a xs)∧R (Itt K a) H1
theorem ae1 {l:Expr} {tl:TE} (hl:PE X l tl):PI X tg l (aub X.K tl):=by
 intro pins s σ H R I h
 refine thn (hl pins s σ H _ I h) fun v s1 ⟨x,H1,I1,r1,q1⟩=>?_
 obtain ⟨a,e,⟨xs,hq⟩,q⟩:=q1
 subst e
 cases r1
 obtain ⟨its,rv,p,hz⟩:=I1.list hq
 refine wpAny_pyIter_list p.isList ?_
 refine ⟨s1.heap.objs.size,[s1.heap.objs.size],_,_,H1,rfl,I1.kept (t':=s1.toks) fun b o e=>Heap.get?_push_of_some _ e,ae0 a _,⟨_,Heap.get?_push_size _ rfl,rfl,rfl⟩,fun b hb=>?_,q⟩
 have e:b=s1.heap.objs.size:=by simpa using hb
 subst e
 exact I1.fpOk (Nat.le_refl _) (I1.hok.fresh (Nat.le_refl _))
theorem aov {l:Expr} {tl:TE} (hl:PE X l tl):PI X tg l (ax8 X.K tl):=by
 intro pins s σ H R I h
 refine thn (hl pins s σ H _ I h) fun v s1 ⟨x,H1,I1,r1,q1⟩=>?_
 obtain ⟨a,e,⟨xs,hq⟩,q⟩:=q1
 subst e
 cases r1
 obtain ⟨its,rv,p,hz⟩:=I1.tuple hq
 refine wpAny_pyIter_tuple (show s1.heap.IsTuple a its.toArray from p) ?_
 refine ⟨s1.heap.objs.size,[s1.heap.objs.size],_,_,H1,rfl,I1.kept (t':=s1.toks) fun b o e=>Heap.get?_push_of_some _ e,acx a _,⟨_,Heap.get?_push_size _ rfl,rfl,rfl⟩,fun b hb=>?_,q⟩
 have e:b=s1.heap.objs.size:=by simpa using hb
 subst e
 exact I1.fpOk (Nat.le_refl _) (I1.hok.fresh (Nat.le_refl _))
theorem ab9 {pins:List (Addr × Obj)} {σ:St} {H:Hp} {s:Shared} {R:It→Hp→Prop} {E:Value→Shared→Prop} {lo hi:Int} {t u v:Tok} {tk:Nat} (I:Inv X pins σ H s) (h1 : -(2 ^ 62)≤lo) (h2:lo<2 ^ 62) (h3 : -(2 ^ 62)≤hi) (h4:hi<2 ^ 62)
  (q:R (Itr lo (hi - lo).toNat) H):wpAny (model X.prog X.w) X.A (pyIter (.ref s.heap.objs.size)) (PIE X pins σ tg R) E { s with heap:=s.heap.push { cls:=.type "range",data:=.fields #[.int lo t, .int hi u, .int 1 v] },toks:=tk }:=by
 refine wpAny_pyIter_range (IsRange.new ..) (small_one h1 h2 h3 h4) ?_
 have I1:Inv X pins σ H { s with heap:=s.heap.push { cls:=.type "range",data:=.fields #[.int lo t, .int hi u, .int 1 v] },toks:=tk }:=I.kept fun b o e=>Heap.get?_push_of_some _ e
 refine ⟨(s.heap.push { cls:=.type "range",data:=.fields #[.int lo t, .int hi u, .int 1 v] }).objs.size,[(s.heap.push { cls:=.type "range",data:=.fields #[.int lo t, .int hi u, .int 1 v] }).objs.size],_,_,H,rfl,
  I1.kept (t':=tk) fun b o e=>Heap.get?_push_of_some _ e,acy _ lo (hi - lo).toNat,?_,fun b hb=>?_,q⟩
 ·have e1:lo+((0:Nat):Int)*1=lo:=by simp
  have e2:(((hi - lo).toNat:Nat):Int) - ((0:Nat):Int)=Builtin.Range.rangeSize lo hi 1:=by rw [rangeSize_one];split<;>omega
  show IsRangeIter _ _ (lo+((0:Nat):Int)*1) ((((hi - lo).toNat:Nat):Int) - ((0:Nat):Int)) 1
  rw [e1,e2]
  exact Heap.get?_push_size _ rfl
 ·have e:b=(s.heap.push { cls:=.type "range",data:=.fields #[.int lo t, .int hi u, .int 1 v] }).objs.size:=by simpa using hb
  subst e
  exact I1.fpOk (Nat.le_refl _) (I1.hok.fresh (Nat.le_refl _))
def auc (ta:TA):TI:=fun σ H R=>ta σ H fun vs H1=>∃ j:Int,vs=[.int j] ∧ -(2 ^ 62)≤j∧j<2 ^ 62∧R (Itr 0 j.toNat) H1
def aud (ta:TA):TI:=fun σ H R=>ta σ H fun vs H1=>∃ i j:Int,vs=[.int i, .int j]∧(-(2 ^ 62)≤i∧i<2 ^ 62 ∧ -(2 ^ 62)≤j∧j<2 ^ 62)∧R (Itr i (j - i).toNat) H1
theorem ae2 {a:Expr} {ta:TA} {p pos:Pos} (hg:Gl X "range") (hm:X.mg "range" = none) (ha:PA X [a] ta) (hs:starEach [a] X.env=[(false,eval a X.env)]:=by rfl):PI X tg (.Call (.Name "range" p) [a] [] pos) (auc ta):=by
 intro pins s σ H R I h
 refine Call_ (a4o I hg hm boot_range (PyProof.Rows.callWith_type1 (thn (ha pos pins s σ H _ I h) fun us s1 ⟨vs,H1,I1,r1,q1⟩=>?_) hs rfl))
 obtain ⟨j,e,q1,q2,q⟩:=q1
 subst e
 cases r1 with
 | cons r rr =>
  cases rr
  obtain ⟨t,rfl⟩:=r
  exact call_range_1 (ab9 I1 (by omega) (by omega) q1 q2 (by simpa using q))
theorem ae3 {a b:Expr} {ta:TA} {p pos:Pos} (hg:Gl X "range") (hm:X.mg "range" = none) (ha:PA X [a,b] ta) (hs:starEach [a,b] X.env=[(false,eval a X.env),(false,eval b X.env)]:=by rfl) (hs2:starEach [b] X.env=[(false,eval b X.env)]:=by rfl) :
  PI X tg (.Call (.Name "range" p) [a,b] [] pos) (aud ta):=by
 intro pins s σ H R I h
 refine Call_ (a4o I hg hm boot_range (PyProof.Rows.callWith_type1 (thn (ha pos pins s σ H _ I h) fun us s1 ⟨vs,H1,I1,r1,q1⟩=>?_) (by rw [hs,hs2]) (by rw [hs2];rfl)))
 obtain ⟨i,j,e,⟨q1,q2,q3,q4⟩,q⟩:=q1
 subst e
 cases r1 with
 | cons r rr =>
  cases rr with
  | cons r' rr =>
   cases rr
   obtain ⟨t,rfl⟩:=r
   obtain ⟨t',rfl⟩:=r'
   exact call_range_2 (ab9 I1 q1 q2 q3 q4 q)
def ax9 (wi:TI) (g:TG) (tb:TS):TS:=fun D σ H=>wi σ H fun J H1=>∃ W:Nat→Nat→St→Hp→Prop,(∃ m,W 0 m σ H1)∧∀ i m σ H,W i m σ H →
 (J.stop i H∧D.nx σ H)∨(J.go i H∧∃ N:St→Hp→Prop,(∀ σ' H',N σ' H'→∃ m',m'<m∧W (i+1) m' σ' H')∧∀ x H',J.yld i H x H'→g x σ H' fun σ2 H2=>tb { D with nx:=N,ct:=N,bk:=D.nx } σ2 H2)
def a8h (fp:List Addr) (h:Heap):List (Addr × Obj):=fp.filterMap fun b=>(h.get? b).map fun o=>(b,o)
theorem a1s {fp:List Addr} {h:Heap} {b:Addr} {o:Obj} (hb:b∈fp) (e:h.get? b=some o):(b,o)∈a8h fp h:=List.mem_filterMap.mpr ⟨b,hb,by rw [e];rfl⟩
theorem ae4 {fp:List Addr} {h:Heap} {p:Addr × Obj} (hp:p∈a8h fp h):p.1∈fp∧h.get? p.1=some p.2:=by
 obtain ⟨b,hb,e⟩:=List.mem_filterMap.mp hp
 cases q:h.get? b with
 | none=>rw [q] at e;cases e
 | some o =>
  rw [q] at e
  have e':(b,o)=p:=Option.some.inj e
  subst e'
  exact ⟨hb,q⟩
theorem Inv.pinned {pins:List (Addr × Obj)} {σ:St} {H:Hp} {s:Shared} {fp:List Addr} (I:Inv X pins σ H s) (hf:∀ b∈fp,ab8 X pins H b) (ho:∀ b∈fp,∃ o,s.heap.get? b=some o∧∀ v,o.data≠.cell v):Inv X (pins++a8h fp s.heap) σ H s :=
 I.pins_of fun p hp=>(List.mem_append.mp hp).elim (fun z=>I.pin p (List.mem_append_right _ z)) fun z=>by
  obtain ⟨hb,e⟩:=ae4 z
  obtain ⟨f0,f1,f2,_⟩:=hf p.1 hb
  obtain ⟨o,e',d⟩:=ho p.1 hb
  rw [e] at e';cases e'
  exact ⟨e,f0,f1,f2,d⟩
theorem Inv.unpinned {pins pl:List (Addr × Obj)} {σ:St} {H:Hp} {s:Shared} (I:Inv X (pins++pl) σ H s):Inv X pins σ H s:=I.pins_of fun p hp=>I.pin p (List.mem_append_right _ (List.mem_append_left _ hp))
theorem aow {iter:Expr} {body:List Stmt} {wi:TI} {g:TG} {tb:TS} {pos:Pos} (hp:PassesOwn (model X.prog X.w) X.A X.env X.xe) (hc:X.calm=true) (hi:PI X tg iter wi) (hg:PG X tg g) (hb:PSs X body tb)
  (hs:∀ x,foldedSetIterable iter X.env x=pure x:=by intro _;rfl):PS X (.For tg iter body [] pos) (ax9 wi g tb):=by
 intro pins s σ H D I h
 refine wpAny_For (thn (hi pins s σ H _ I h) fun v s1 h1=>thn h1 fun itv s2 h2=>?_) hs
 obtain ⟨it,fp,tn,J,H2,e,I2,T,st2,f2,W,⟨m0,w0⟩,turn⟩:=h2
 subst e
 have stat:∀ {H':Hp},(∀ b∈fp,H' b=none)→∀ b∈fp,ab8 X pins H' b:=fun hn b hb=>⟨hn b hb,(f2 b hb).2⟩
 refine codeAny_forLoop_any (fun n s'=>∃ i σ' H',Inv X pins σ' H' s'∧tn i s'.heap∧(∀ b∈fp,H' b=none)∧W i n σ' H') ?_ m0 ⟨0,σ,H2,I2,st2,fun b hb=>(f2 b hb).1,w0⟩
 rintro n s3 ⟨i,σ3,H3,I3,st3,fr3,w3⟩
 rcases turn i n σ3 H3 w3 with ⟨stop,qn⟩ | ⟨go,N,hN,step⟩
 ·refine wpAny_passesOwn hp (thn (T.done X rfl rfl rfl hc i pins s3 σ3 H3 X.xe I3 (stat fr3) st3 stop) fun r s4 ⟨hr,I4⟩=>?_)
  subst hr
  exact wpAny_execs_nil ⟨σ3,H3,I4,qn⟩
 ·refine wpAny_passesOwn hp (thn (T.item X rfl rfl rfl hc i pins s3 σ3 H3 X.xe I3 (stat fr3) st3 go) fun r s4 ⟨u,hr,h4⟩=>?_)
  subst hr
  refine wpAny_passesOwn hp (thn h4 fun _ s5 ⟨x,H5,I5,r5,y5,st5,fr5⟩=>?_)
  have I5':=I5.pinned (stat fr5) (T.obj _ _ st5)
  refine wpAny_passesOwn hp (thn (hg _ s5 σ3 H5 x u _ I5' r5 (step x H5 y5)) fun _ s6 ⟨σ6,H6,I6,q6⟩=>?_)
  refine wpAny_passesOwn hp (thn (hb _ s6 σ6 H6 _ I6 q6) fun f s7 q7=>?_)
  have again:∀ {σ7:St} {H7:Hp},Inv X (pins++a8h fp s5.heap) σ7 H7 s7→N σ7 H7→∃ m,m<n∧∃ i σ' H',Inv X pins σ' H' s7∧tn i s7.heap∧(∀ b∈fp,H' b=none)∧W i m σ' H':=fun {σ7 H7} I7 n7=>by
   obtain ⟨m',hm,w7⟩:=hN σ7 H7 n7
   refine ⟨m',hm,i+1,σ7,H7,I7.unpinned,T.keep _ _ _ st5 fun b hb o e=>(I7.pin (b,o) (List.mem_append_right _ (List.mem_append_right _ (a1s hb e)))).1,fun b hb=>?_,w7⟩
   obtain ⟨o,e,d⟩:=T.obj _ _ st5 b hb
   exact (I7.pin (b,o) (List.mem_append_right _ (List.mem_append_right _ (a1s hb e)))).2.1
  cases f with
  | next=>obtain ⟨σ7,H7,I7,n7⟩:=q7;exact again I7 n7
  | cont=>obtain ⟨σ7,H7,I7,n7⟩:=q7;exact again I7 n7
  | brk=>obtain ⟨σ7,H7,I7,q7⟩:=q7;exact ⟨σ7,H7,I7.unpinned,q7⟩
  | ret v=>obtain ⟨x7,σ7,H7,I7,r7,q7⟩:=q7;exact ⟨x7,σ7,H7,I7.unpinned,r7,q7⟩
end
end L2
namespace L2
open PySem PySem.Spec PyProof.Rows
abbrev R2:=V→V→Hp→VK→Prop
def OpR (X:Cx) (f:Value→Value→Sem Value) (r:R2):Prop :=
 ∀ (pins:List (Addr × Obj)) (s:Shared) (σ:St) (H:Hp) (x y:V) (v u:Value) (Q:VK),Inv X pins σ H s→RelV x v→RelV y u→r x y H Q →
  wpAny (model X.prog X.w) X.A (f v u) (EP X pins σ Q) X.xe s
def UnR (X:Cx) (f:Value→Sem Value) (r:V→Hp→VK→Prop):Prop :=
 ∀ (pins:List (Addr × Obj)) (s:Shared) (σ:St) (H:Hp) (x:V) (v:Value) (Q:VK),Inv X pins σ H s→RelV x v→r x H Q →
  wpAny (model X.prog X.w) X.A (f v) (EP X pins σ Q) X.xe s
def CallR (X:Cx) (f:Value) (r:List V→Hp→VK→Prop):Prop :=
 ∀ (pins:List (Addr × Obj)) (s:Shared) (σ:St) (H:Hp) (xs:List V) (us:List Value) (Q:VK),Inv X pins σ H s→Vals xs us→r xs H Q →
  wpAny (model X.prog X.w) X.A (call f us) (EP X pins σ Q) X.xe s
def axa (X:Cx) (r:V→Hp→(Bool→Hp→Prop)→Prop):Prop :=
 ∀ (pins:List (Addr × Obj)) (s:Shared) (σ:St) (H:Hp) (x:V) (v:Value) (Q:Bool→Hp→Prop),Inv X pins σ H s→RelV x v→r x H Q →
  wpAny (model X.prog X.w) X.A (truthy v) (TP X pins σ Q) X.xe s
def tOp (r:R2) (ta tb:TE):TE:=fun σ H Q=>ta σ H fun x H1=>tb σ H1 fun y H2=>r x y H2 Q
def tUn (r:V→Hp→VK→Prop) (ta:TE):TE:=fun σ H Q=>ta σ H fun x H1=>r x H1 Q
def rI (C:Int→Int→Prop) (g:Int→Int→V):R2:=fun x y H Q=>∃ i j,x = .int i∧y = .int j∧C i j∧Q (g i j) H
def rI0 (g:Int→Int→V):R2:=fun x y H Q=>∃ i j,x = .int i∧y = .int j∧Q (g i j) H
def rU (g:Int→V):V→Hp→VK→Prop:=fun x H Q=>∃ i,x = .int i∧Q (g i) H
section
variable {X:Cx} {a b c:Expr} {ta tb tc:TE} {pos:Pos}
theorem aue (ha:PE X a ta) (hb:PE X b tb) {pins:List (Addr × Obj)} {s:Shared} {σ:St} {H:Hp} {R:V→V→Hp→Prop} (I:Inv X pins σ H s)
  (h:ta σ H fun x H1=>tb σ H1 fun y H2=>R x y H2) {Q:Value→Shared→Prop} {f:Value→Value→Sem Value}
  (hf:∀ v u s2 x y H2,Inv X pins σ H2 s2→RelV x v→RelV y u→R x y H2→wpAny (model X.prog X.w) X.A (f v u) Q X.xe s2) :
  wpAny (model X.prog X.w) X.A (eval a X.env) (fun v s₁=>wpAny (model X.prog X.w) X.A (eval b X.env) (fun u s₂=>wpAny (model X.prog X.w) X.A (f v u) Q X.xe s₂) X.xe s₁) X.xe s:=by
 refine thn (ha pins s σ H _ I h) fun v s1 ⟨x,H1,I1,r1,q1⟩=>?_
 refine thn (hb pins s1 σ H1 _ I1 q1) fun u s2 ⟨y,H2,I2,r2,q2⟩=>?_
 exact hf v u s2 x y H2 I2 r1 r2 q2
theorem auf {op:Operator} {r:R2} (ho:OpR X (binaryOp op) r) (ha:PE X a ta) (hb:PE X b tb):PE X (.BinOp a op b pos) (tOp r ta tb):=by
 intro pins s σ H Q I h
 exact wpAny_BinOp (aue ha hb I h fun v u s2 x y H2 I2 rx ry q=>ho pins s2 σ H2 x y v u Q I2 rx ry q)
theorem auh {op:UnaryOp} {r:V→Hp→VK→Prop} (ho:UnR X (unaryOp op) r) (ha:PE X a ta):PE X (.UnaryOp op a pos) (tUn r ta):=by
 intro pins s σ H Q I h
 exact UnaryOp_ (thn (ha pins s σ H _ I h) fun v s1 ⟨x,H1,I1,r1,q1⟩=>ho pins s1 σ H1 x v Q I1 r1 q1)
theorem opI {f:Value→Value→Sem Value} {C:Int→Int→Prop} {g:Int→Int→Int}
  (rule:∀ (i j:Int) (t u:Tok) (s:Shared) (Q:Value→Shared→Prop) (E:Value→Shared→Prop),C i j→Q (.int (g i j) s.toks) { s with toks:=s.toks+1 }→wpAny (model X.prog X.w) X.A (f (.int i t) (.int j u)) Q E s) :
  OpR X f (rI C fun i j=>.int (g i j)):=by
 intro pins s σ H x y v u Q I rx ry h
 obtain ⟨i,j,rfl,rfl,hc,q⟩:=h
 obtain ⟨t,rfl⟩:=rx
 obtain ⟨t',rfl⟩:=ry
 exact rule i j t t' s _ _ hc ⟨.int (g i j),H,I.tok _,⟨_,rfl⟩,q⟩
theorem aui {f:Value→Value→Sem Value} {g:Int→Int→Int}
  (rule:∀ (i j:Int) (t u:Tok) (s:Shared) (Q:Value→Shared→Prop) (E:Value→Shared→Prop),Q (.int (g i j) s.toks) { s with toks:=s.toks+1 }→wpAny (model X.prog X.w) X.A (f (.int i t) (.int j u)) Q E s) :
  OpR X f (rI0 fun i j=>.int (g i j)):=by
 intro pins s σ H x y v u Q I rx ry h
 obtain ⟨i,j,rfl,rfl,q⟩:=h
 obtain ⟨t,rfl⟩:=rx
 obtain ⟨t',rfl⟩:=ry
 exact rule i j t t' s _ _ ⟨.int (g i j),H,I.tok _,⟨_,rfl⟩,q⟩
theorem ato {f:Value→Value→Sem Value} {g:Int→Int→Bool}
  (rule:∀ (i j:Int) (t u:Tok) (s:Shared) (Q:Value→Shared→Prop) (E:Value→Shared→Prop),Q (.bool (g i j)) s→wpAny (model X.prog X.w) X.A (f (.int i t) (.int j u)) Q E s) :
  OpR X f (rI0 fun i j=>.bl (g i j)):=by
 intro pins s σ H x y v u Q I rx ry h
 obtain ⟨i,j,rfl,rfl,q⟩:=h
 obtain ⟨t,rfl⟩:=rx
 obtain ⟨t',rfl⟩:=ry
 exact rule i j t t' s _ _ ⟨.bl (g i j),H,I,rfl,q⟩
def avx (i j:Int):Prop:=0<j∧j<1073741824
def avy (i j:Int):Prop:=0≤j∧j≤1000000∧i.natAbs<2 ^ 64
def CMul (i j:Int):Prop:=(-(2 ^ 64)<i∧i<2 ^ 64)∨(-(2 ^ 64)<j∧j<2 ^ 64)
theorem CMul.ok {i j:Int} (h:CMul i j):IntMulOk i j:=by
 rcases h with ⟨h1,h2⟩ | ⟨h1,h2⟩
 ·exact .of_left (intBits_le_64 h1 h2)
 ·exact .of_right (intBits_le_64 h1 h2)
theorem aox:OpR X (binaryOp .Add) (rI0 fun i j=>.int (i+j)):=aui fun _ _ _ _ _ _ _ q=>add_int q
theorem aoy:OpR X (binaryOp .Sub) (rI0 fun i j=>.int (i - j)):=aui fun _ _ _ _ _ _ _ q=>sub_int q
theorem ajl:OpR X (binaryOp .Mult) (rI CMul fun i j=>.int (i*j)):=opI fun _ _ _ _ _ _ _ hc q=>mul_int q hc.ok
theorem al0:OpR X (binaryOp .FloorDiv) (rI avx fun i j=>.int (i / j)):=opI fun i j _ _ _ _ _ hc q=>by
 have h1:(0:Int)<j:=hc.1
 have h2:j<1073741824:=hc.2
 exact floordiv_int (by omega) (by rw [Int.fdiv_eq_ediv_of_nonneg i (by omega)];exact q) (.inl (PyProof.noPylong_small (by omega)))
theorem aoz:OpR X (binaryOp .Mod) (rI (fun _ j=>0<j) fun i j=>.int (i % j)):=opI fun i j _ _ _ _ _ hc q=>by
 have h1:(0:Int)<j:=hc
 exact mod_int' (by omega) (by rw [Int.fmod_eq_emod_of_nonneg i (by omega)];exact q)
theorem ap0:OpR X (binaryOp .Pow) (rI avy fun i j=>.int (i ^ j.toNat)):=opI fun _ _ _ _ _ _ _ hc q=>pow_int_small hc.1 hc.2.1 hc.2.2 q
theorem a7d:OpR X (inplaceOp .Add) (rI0 fun i j=>.int (i+j)):=aui fun _ _ _ _ _ _ _ q=>iadd_int q
theorem unI {f:Value→Sem Value} {g:Int→Int}
  (rule:∀ (i:Int) (t:Tok) (s:Shared) (Q:Value→Shared→Prop) (E:Value→Shared→Prop),Q (.int (g i) s.toks) { s with toks:=s.toks+1 }→wpAny (model X.prog X.w) X.A (f (.int i t)) Q E s) :
  UnR X f (rU fun i=>.int (g i)):=by
 intro pins s σ H x v Q I rx h
 obtain ⟨i,rfl,q⟩:=h
 obtain ⟨t,rfl⟩:=rx
 exact rule i t s _ _ ⟨.int (g i),H,I.tok _,⟨_,rfl⟩,q⟩
theorem ap1:UnR X (unaryOp .USub) (rU fun i=>.int (-i)):=unI fun _ _ _ _ _ q=>neg_int q
end
section
variable {X:Cx} {a b c:Expr} {ta tb tc:TE} {pos:Pos}
theorem aba {pins:List (Addr × Obj)} {σ:St} {H:Hp} {s:Shared} {Q:VK} {k k':Bool} (I:Inv X pins σ H s) (q:Q (.bl k) H) (e:k=k'):EP X pins σ Q (.bool k') s:=by
 subst e
 exact ⟨.bl k,H,I,rfl,q⟩
theorem ae5:OpR X (compareOp .Lt) (rI0 fun i j=>.bl (decide (i<j))):=ato fun _ _ _ _ _ _ _ q=>lt_int q
theorem a2z:OpR X (compareOp .LtE) (rI0 fun i j=>.bl (decide (i≤j))):=ato fun _ _ _ _ _ _ _ q=>le_int q
theorem al1:OpR X (compareOp .Gt) (rI0 fun i j=>.bl (decide (j<i))):=ato fun _ _ _ _ _ _ _ q=>gt_int q
theorem auj:OpR X (compareOp .GtE) (rI0 fun i j=>.bl (decide (j≤i))):=ato fun _ _ _ _ _ _ _ q=>ge_int q
theorem a1a:OpR X (compareOp .Lt) (fun x y H Q=>∃ i j,x = .str i∧y = .str j∧Q (.bl (decide (i.cps.toList<j.cps.toList))) H):=by
 intro pins s σ H x y v u Q I rx ry h
 obtain ⟨i,j,rfl,rfl,q⟩:=h
 obtain ⟨t,rfl⟩:=rx
 obtain ⟨t',rfl⟩:=ry
 exact lt_str (aba I q rfl)
theorem ae6:OpR X (compareOp .In) (fun x y H Q=>∃ i j,x = .str i∧y = .str j∧Q (.bl (!(Builtin.Str.occurrences j i 0 j.length 1).isEmpty)) H):=by
 intro pins s σ H x y v u Q I rx ry h
 obtain ⟨i,j,rfl,rfl,q⟩:=h
 obtain ⟨t,rfl⟩:=rx
 obtain ⟨t',rfl⟩:=ry
 exact in_str (aba I q rfl)
theorem a8i:OpR X (compareOp .NotIn) (fun x y H Q=>∃ i j,x = .str i∧y = .str j∧Q (.bl (!(!(Builtin.Str.occurrences j i 0 j.length 1).isEmpty))) H):=by
 intro pins s σ H x y v u Q I rx ry h
 obtain ⟨i,j,rfl,rfl,q⟩:=h
 obtain ⟨t,rfl⟩:=rx
 obtain ⟨t',rfl⟩:=ry
 exact notIn_str (aba I q rfl)
theorem OpR.or {f:Value→Value→Sem Value} {r r':R2} (h:OpR X f r) (h':OpR X f r'):OpR X f (fun x y H Q=>r x y H Q∨r' x y H Q):=by
 intro pins s σ H x y v u Q I rx ry q
 rcases q with q | q
 ·exact h pins s σ H x y v u Q I rx ry q
 ·exact h' pins s σ H x y v u Q I rx ry q
theorem j6 (b:Expr) {op:CmpOp} (h:op≠.In:=by decide) (h2:op≠.NotIn:=by decide):behindInMarks op b=false:=by
 have e1:(op == CmpOp.In)=false:=by cases op<;>first | rfl | exact absurd rfl h
 have e2:(op == CmpOp.NotIn)=false:=by cases op<;>first | rfl | exact absurd rfl h2
 cases b<;>simp [behindInMarks,e1,e2]
theorem al2 {op:CmpOp} {r:R2} (ho:OpR X (compareOp op) r) (ha:PE X a ta) (hb:PE X b tb) (hm:behindInMarks op b=false):PE X (.Compare a [op] [b] pos) (tOp r ta tb):=by
 intro pins s σ H Q I h
 exact wpAny_Compare1 (aue ha hb I h fun v u s2 x y H2 I2 rx ry q=>ho pins s2 σ H2 x y v u Q I2 rx ry q) hm
def al3 (t:TE):TT:=fun σ H Q=>t σ H fun x H'=>∃ k,x = .bl k∧Q k H'
theorem al4 {op:CmpOp} {r:R2} (ho:OpR X (compareOp op) r) (ha:PE X a ta) (hb:PE X b tb) (hm:behindInMarks op b=false):PT X (.Compare a [op] [b] pos) (al3 (tOp r ta tb)):=by
 intro pins s σ H Q I h
 refine wpAny_isTrue_Compare1 (thn (ha pins s σ H _ I h) fun v s1 ⟨x,H1,I1,r1,q1⟩=>thn (hb pins s1 σ H1 _ I1 q1) fun u s2 ⟨y,H2,I2,r2,q2⟩ =>
  thn (ho pins s2 σ H2 x y v u _ I2 r1 r2 q2) fun c s3 ⟨z,H3,I3,r3,k,e,q3⟩=>?_) hm
 subst e
 cases r3
 exact wpAny_truthy_bool ⟨H3,I3,q3⟩
def ae7 (r r':R2) (ta tb tc:TE):TE:=fun σ H Q=>ta σ H fun x H1=>tb σ H1 fun y H2=>r x y H2 fun z H3=>∃ k,z = .bl k ∧
 (if k=true then tc σ H3 fun w' H4=>r' y w' H4 Q else Q (.bl false) H3)
theorem ahh {op op':CmpOp} {r r':R2} (ho:OpR X (compareOp op) r) (ho':OpR X (compareOp op') r') (ha:PE X a ta) (hb:PE X b tb) (hc:PE X c tc)
  (hm:lastMarks [op,op'] [b,c]=false:=by with_unfolding_all rfl):PE X (.Compare a [op,op'] [b,c] pos) (ae7 r r' ta tb tc):=by
 intro pins s σ H Q I h
 refine Compare_chain (thn (ha pins s σ H _ I h) fun v s1 ⟨x,H1,I1,r1,q1⟩=>chain_link (thn (hb pins s1 σ H1 _ I1 q1) fun u s2 ⟨y,H2,I2,r2,q2⟩ =>
  thn (ho pins s2 σ H2 x y v u _ I2 r1 r2 q2) fun d s3 ⟨z,H3,I3,r3,k,e,q3⟩=>?_)) hm
 subst e
 cases r3
 refine wpAny_truthy_bool ?_
 cases k with
 | false=>exact ite_ff ⟨.bl false,H3,I3,rfl,q3⟩
 | true=>exact ite_tt (chain_last (thn (hc pins s3 σ H3 _ I3 q3) fun w' s4 ⟨z',H4,I4,r4,q4⟩=>ho' pins s4 σ H4 y z' u w' Q I4 r2 r4 q4))
theorem ahi {op op':CmpOp} {r r':R2} (ho:OpR X (compareOp op) r) (ho':OpR X (compareOp op') r') (ha:PE X a ta) (hb:PE X b tb) (hc:PE X c tc)
  (hm:lastMarks [op,op'] [b,c]=false:=by with_unfolding_all rfl):PT X (.Compare a [op,op'] [b,c] pos) (al3 (ae7 r r' ta tb tc)):=by
 intro pins s σ H Q I h
 refine isTrue_chain (thn (ha pins s σ H _ I h) fun v s1 ⟨x,H1,I1,r1,q1⟩=>test_link (thn (hb pins s1 σ H1 _ I1 q1) fun u s2 ⟨y,H2,I2,r2,q2⟩ =>
  thn (ho pins s2 σ H2 x y v u _ I2 r1 r2 q2) fun d s3 ⟨z,H3,I3,r3,k,e,q3⟩=>?_)) hm
 subst e
 cases r3
 refine wpAny_truthy_bool ?_
 cases k with
 | false =>
  obtain ⟨k',e',q'⟩:=q3
  cases e'
  exact ite_ff ⟨H3,I3,q'⟩
 | true =>
  refine ite_tt (test_last (thn (hc pins s3 σ H3 _ I3 q3) fun w' s4 ⟨z',H4,I4,r4,q4⟩=>thn (ho' pins s4 σ H4 y z' u w' _ I4 r2 r4 q4) fun d' s5 ⟨z2,H5,I5,r5,k2,e2,q5⟩=>?_))
  subst e2
  cases r5
  exact wpAny_truthy_bool ⟨H5,I5,q5⟩
def auk (K:PySem.W.Frag) (x:V) (H:Hp) (k:Bool):Prop :=
 match x with
 | .non=>k=false
 | .bl b=>k=b
 | .int i=>k=(i != 0)
 | .str y=>y.length≤sizeLine∧k=((y.length:Int) != 0)
 | .byt y=>y.size≤sizeLine∧k=((y.size:Int) != 0)
 | .ref p=>(∃ xs,SqL K H p xs∧k = !xs.isEmpty)∨(∃ xs,SqT K H p xs∧k = !xs.isEmpty)∨∃ kvs,H p=some (.dK kvs)∧k = !kvs.isEmpty
 | _=>False
theorem acz {κ:Type} {kvs:List (κ × V)} {vs:List (κ × Value)} (r:KV kvs vs):(!vs.isEmpty) = !kvs.isEmpty:=by
 cases r<;>rfl
theorem a6u {xs:List V} {its:List Value} (r:Vals xs its):(!its.toArray.isEmpty) = !xs.isEmpty:=by
 cases r<;>simp
theorem a4p:(sizeLine:Nat)<2 ^ 63:=by rw [sizeLine_eq];decide
theorem ap2:axa X (fun x H Q=>∃ k,auk X.K x H k∧Q k H):=by
 intro pins s σ H x v Q I rx h
 obtain ⟨k,e,q⟩:=h
 have hl:=a4p
 have hs:sizeLine=16777216:=sizeLine_eq
 cases x with
 | non =>
  cases rx
  have e':k=false:=e
  subst e'
  exact truthy_none ⟨H,I,q⟩
 | bl b =>
  cases rx
  have e':k=b:=e
  subst e'
  exact wpAny_truthy_bool ⟨H,I,q⟩
 | int i =>
  obtain ⟨t,rfl⟩:=rx
  have e':k=(i != 0):=e
  subst e'
  exact PySem.P.truthy_int ⟨H,I,q⟩
 | str y =>
  obtain ⟨t,rfl⟩:=rx
  obtain ⟨hy,e'⟩:y.length≤sizeLine∧k=((y.length:Int) != 0):=e
  subst e'
  exact PySem.P.truthy_str (by omega) ⟨H,I.tok _,q⟩
 | byt y =>
  obtain ⟨t,rfl⟩:=rx
  obtain ⟨hy,e'⟩:y.size≤sizeLine∧k=((y.size:Int) != 0):=e
  subst e'
  exact PySem.W.truthy_bytes (by omega) ⟨H,I.tok _,q⟩
 | ref p =>
  cases rx
  have e':(∃ xs,SqL X.K H p xs∧k = !xs.isEmpty)∨(∃ xs,SqT X.K H p xs∧k = !xs.isEmpty)∨∃ kvs,H p=some (.dK kvs)∧k = !kvs.isEmpty:=e
  rcases e' with ⟨xs,hx,e'⟩ | ⟨xs,hx,e'⟩ | ⟨kvs,hx,e'⟩
  ·subst e'
   obtain ⟨its,r,pl,hz⟩:=I.list hx
   have hlen:=r.length
   exact wpAny_truthy_list pl.isList (by simp only [List.size_toArray];omega) ⟨H,I.tok _,by rw [a6u r];exact q⟩
  ·subst e'
   obtain ⟨its,r,pl,hz⟩:=I.tuple hx
   have hlen:=r.length
   exact truthy_tuple pl (by simp only [List.size_toArray];omega) ⟨H,I.tok _,by rw [a6u r];exact q⟩
  ·subst e'
   obtain ⟨hz,hS,vs,r,m⟩:kvs.length≤sizeLine∧(p == sysModules)=false∧∃ vs,KV kvs vs∧s.heap.DictOf (uf X.prog X.w) p vs:=I.hok p _ hx
   have hlen:kvs.length=vs.length:=Paired.length r
   exact wpAny_truthy_dict hS m (by omega) ⟨H,I.tok _,by rw [acz r];exact q⟩
 | _=>exact (show False from e).elim
theorem ahj (ha:PE X a ta) (he:∀ whole,isTrue a X.env whole=(do let v ← whole;standAt a.pos;holding [v] (truthy v))) :
  PT X a (fun σ H Q=>ta σ H fun x H'=>∃ k,auk X.K x H' k∧Q k H'):=by
 intro pins s σ H Q I h
 exact isTrue_plain (thn (ha pins s σ H _ I h) fun v s1 ⟨x,H1,I1,r1,q1⟩=>ap2 pins s1 σ H1 x v Q I1 r1 q1) (he _)
theorem ad0:OpR X (binaryOp .Add) (fun x y H Q=>∃ i j,x = .str i∧y = .str j∧i.length+j.length≤sizeLine∧Q (.str (i++j)) H):=by
 intro pins s σ H x y v u Q I rx ry h
 obtain ⟨i,j,rfl,rfl,hz,q⟩:=h
 obtain ⟨t,rfl⟩:=rx
 obtain ⟨t',rfl⟩:=ry
 exact add_str (fun t' tk=>⟨.str (i++j),H,I.tok _,⟨_,rfl⟩,q⟩) hz
theorem a0b:OpR X (inplaceOp .Add) (fun x y H Q=>∃ i j,x = .str i∧y = .str j∧i.length+j.length≤sizeLine∧Q (.str (i++j)) H):=by
 intro pins s σ H x y v u Q I rx ry h
 obtain ⟨i,j,rfl,rfl,hz,q⟩:=h
 obtain ⟨t,rfl⟩:=rx
 obtain ⟨t',rfl⟩:=ry
 exact iadd_str (fun t' tk=>⟨.str (i++j),H,I.tok _,⟨_,rfl⟩,q⟩) hz
theorem vals1 {x:V} {us:List Value} (r:Vals [x] us):∃ u,us=[u]∧RelV x u:=by
 cases r with
 | cons r1 r2=>cases r2;exact ⟨_,rfl,r1⟩
theorem vals2 {x y:V} {us:List Value} (r:Vals [x,y] us):∃ u w',us=[u,w']∧RelV x u∧RelV y w':=by
 cases r with
 | cons r1 r2 =>
  cases r2 with
  | cons r3 r4=>cases r4;exact ⟨_,_,rfl,r1,r3⟩
theorem abb:CallR X (.builtin "abs") (fun xs H Q=>∃ i,xs=[.int i]∧Q (.int (if i<0 then -i else i)) H):=by
 intro pins s σ H xs us Q I r h
 obtain ⟨i,rfl,q⟩:=h
 obtain ⟨u,rfl,t,rfl⟩:=vals1 r
 exact call_abs_int fun u tk=>⟨.int (if i<0 then -i else i),H,I.tok _,⟨_,rfl⟩,q⟩
theorem ae8 (hc:X.calm=true):CallR X (.builtin "min") (fun xs H Q=>∃ i j,xs=[.int i, .int j]∧Q (.int (if j<i then j else i)) H):=by
 intro pins s σ H xs us Q I r h
 obtain ⟨i,j,rfl,q⟩:=h
 obtain ⟨u,w',rfl,⟨t,rfl⟩,⟨t',rfl⟩⟩:=vals2 r
 refine min_two_ints (I.ok.hd hc) fun h' tk k=>⟨_,H,I.kept k,?_,q⟩
 by_cases hj:j<i
 ·rw [if_pos hj,if_pos hj];exact ⟨_,rfl⟩
 ·rw [if_neg hj,if_neg hj];exact ⟨_,rfl⟩
theorem ahk:CallR X (.builtin "ord") (fun xs H Q=>∃ x,xs=[.str x]∧x.length=1∧Q (.int (x.cps.getD 0 0:Nat)) H):=by
 intro pins s σ H xs us Q I r h
 obtain ⟨x,rfl,hz,q⟩:=h
 obtain ⟨u,rfl,t,rfl⟩:=vals1 r
 exact ord_of_one hz ⟨.int _,H,I.tok _,⟨_,rfl⟩,q⟩
end
end L2
namespace L2
open PySem PySem.Spec PyProof.Rows
structure ObjM (h:Heap) (x dx C:Addr) (mA:Str→Option Value):Prop where
 obj:h.get? x=some (PySem.W.instObj C dx)
 ns:h.Ns1 dx mA
 ne:dx≠x
theorem ae9 {h:Heap} {dx:Addr} {mA:Str→Option Value} (n:h.Ns1 dx mA):∃ od,h.get? dx=some od∧∀ name,PySem.W.lookIn name od=some (mA name):=by
 obtain ⟨o,es,ep,ho,hd,hk,_,hm⟩:=n
 refine ⟨o,ho,fun name=>?_⟩
 have e:=hm name
 unfold nsFind findBy at e
 rw [← Array.find?_toList] at e
 unfold PySem.W.lookIn
 rw [hd]
 dsimp only
 split
 ·rename_i y q
  rw [q] at e
  exact congrArg some e
 ·rename_i q
  rw [q] at e
  have a:es.toList.any (·.refKey)=false:=by
   rw [List.any_eq_false]
   intro y hy
   obtain ⟨z,t,hkey⟩:=hk y (Array.mem_toList_iff.mp hy)
   simp [DictEntry.refKey,hkey]
  have a':¬ es.toList.any (·.refKey)=true:=by rw [a];exact Bool.false_ne_true
  rw [if_neg a']
  exact congrArg some e
theorem ObjM.look {h:Heap} {x dx C:Addr} {mA:Str→Option Value} (I:ObjM h x dx C mA):∃ od,PySem.W.InstAt h x (PySem.W.instObj C dx) C (some od)∧∀ name,PySem.W.lookIn name od=some (mA name) :=
 let ⟨od,ho,hl⟩:=ae9 I.ns
 ⟨od,⟨I.obj,rfl,rfl,ho⟩,hl⟩
section
variable {P:Program} {w:World} {H H':Hp} {h h':Heap} {a C dx:Addr} {fs fs':List (Str × V)}
theorem al5 (hok:HOk P w H h) (e:H a=some (.ins C dx fs)):∃ mA,ObjM h a dx C mA∧(∀ f,RelO (fs.lookup f) (mA f))∧PySem.Within mA (fs.map (·.1))∧fs.length≤1000∧H dx=some (.own a):=by
 obtain ⟨d,z,ne,ob,mA,n,r,q⟩:=(show ObjOk P w H h a (.ins C dx fs) from hok a _ e)
 exact ⟨mA,⟨ob,n,ne⟩,r,q,z,d⟩
end
structure Cls (K:PySem.W.Frag) (C:Addr):Prop where
 pg:PySem.W.plainGet K C Str.empty=true
 hd:PySem.W.hasDictIn K C=true
 po:PySem.W.plainOver K C=true
 sa:PySem.W.findIn K (.ref C) "__setattr__" = some (some (.builtin "object.__setattr__"))
theorem Cls.get {K:PySem.W.Frag} {C:Addr} (c:Cls K C) (f:Str):PySem.W.plainGet K C f=true:=c.pg
section
variable {X:Cx} {pins:List (Addr × Obj)} {σ:St} {H:Hp} {s:Shared} {A:Around} {E:Value→Shared→Prop} {Q:Value→Shared→Prop} {c:Value} {b:Bool}
inductive TyOf (K:PySem.W.Frag) (H:Hp):V→Value→Prop where
 | non:TyOf K H .non (.type "NoneType")
 | bl (x:Bool):TyOf K H (.bl x) (.type "bool")
 | int (i:Int):TyOf K H (.int i) (.type "int")
 | str (x:Str):TyOf K H (.str x) (.type "str")
 | flt (x:UInt64):TyOf K H (.flt x) (.type "float")
 | lst {a:Addr} {xs:List V} (e:H a=some (.lst xs)):TyOf K H (.ref a) (.type "list")
 | frz {a:Addr} {o:Obj} {xs:List V} (e:H a=some (.frz o (.lst xs))):TyOf K H (.ref a) (.type "list")
 | tup {a:Addr} {xs:List V} (e:H a=some (.tup xs)):TyOf K H (.ref a) (.type "tuple")
 | dK {a:Addr} {kvs:List (Key × V)} (e:H a=some (.dK kvs)):TyOf K H (.ref a) (.type "dict")
 | dT {a:Addr} {kvs:List (List Key × V)} (e:H a=some (.dT kvs)):TyOf K H (.ref a) (.type "dict")
 | ins {a C dx:Addr} {fs:List (Str × V)} (e:H a=some (.ins C dx fs)) (cl:Cls K C) (ha:PySem.W.findIn K (.ref C) "__class__" = some (some (.builtin "object.__class__")))
   (hn:PySem.W.specialIn K (.builtin "object.__class__") "__get__" = some (some (.builtin "getset_descriptor.__get__"))) (htk:PySem.W.takesIn K (.builtin "object.__class__")=some true)
   (hm:PySem.W.mroIn K C (.type "object")=some true):TyOf K H (.ref a) (.ref C)
theorem aea {x:V} {u t:Value} (I:Inv X pins σ H s) (rx:RelV x u) (ty:TyOf X.K H x t) (e:PySem.W.kitOne X.K t c=some b) (h:∀ tk,Q (.bool b) { s with toks:=tk }) :
  wpAny (model X.prog X.w) A (call (.builtin "isinstance") [u,c]) Q E s:=by
 cases ty with
 | non=>cases (show u=Value.none from rx);exact PySem.W.kia_one PySem.W.kitx_none I.kIn True.intro e (fun z=>nomatch z) h
 | bl y=>cases (show u=Value.bool y from rx);exact PySem.W.kia_one PySem.W.kitx_bool I.kIn True.intro e (fun z=>nomatch z) h
 | int i=>obtain ⟨t,q⟩:=(show ∃ t,u=Value.int i t from rx);cases q;exact PySem.W.kia_one PySem.W.kitx_int I.kIn True.intro e (fun z=>nomatch z) h
 | str y=>obtain ⟨t,q⟩:=(show ∃ t,u=Value.str y t from rx);cases q;exact PySem.W.kia_one PySem.W.kitx_str I.kIn True.intro e (fun z=>nomatch z) h
 | flt y=>obtain ⟨t,q⟩:=(show ∃ t,u=Value.float y t from rx);cases q;exact PySem.W.kia_one PySem.W.kitx_float I.kIn True.intro e (fun z=>nomatch z) h
 | @lst a xs ea =>
  cases (show u=Value.ref a from rx)
  obtain ⟨_,_,n,_,h1⟩:=(show ObjOk X.prog X.w H s.heap a (.lst xs) from I.hok a _ ea)
  exact PySem.W.kia_one PySem.W.kitx_list I.kIn ⟨_,h1,rfl⟩ e (fun z=>nomatch z) h
 | @frz a ob xs ea =>
  cases (show u=Value.ref a from rx)
  obtain ⟨_,_,_,n,_,h1⟩:=(show ObjOk X.prog X.w H s.heap a (.frz ob (.lst xs)) from I.hok a _ ea)
  exact PySem.W.kia_one PySem.W.kitx_list I.kIn ⟨_,h1,rfl⟩ e (fun z=>nomatch z) h
 | @tup a xs ea =>
  cases (show u=Value.ref a from rx)
  obtain ⟨_,_,_,p⟩:=(show ObjOk X.prog X.w H s.heap a (.tup xs) from I.hok a _ ea)
  obtain ⟨o,h1,h2,_⟩:=p
  exact PySem.W.kia_one PySem.W.kitx_tuple I.kIn ⟨o,h1,h2⟩ e (fun z=>nomatch z) h
 | @dK a kvs ea =>
  cases (show u=Value.ref a from rx)
  obtain ⟨_,_,vs,_,p⟩:=(show ObjOk X.prog X.w H s.heap a (.dK kvs) from I.hok a _ ea)
  obtain ⟨o,es,ep,h1,h2,_⟩:=p
  exact PySem.W.kia_one PySem.W.kitx_dict I.kIn ⟨o,h1,h2.1⟩ e (fun z=>nomatch z) h
 | @dT a kvs ea =>
  cases (show u=Value.ref a from rx)
  obtain ⟨_,_,xs,_,o,es,ep,h1,h2,_⟩:=(show ObjOk X.prog X.w H s.heap a (.dT kvs) from I.hok a _ ea)
  exact PySem.W.kia_one PySem.W.kitx_dict I.kIn ⟨o,h1,h2.1⟩ e (fun z=>nomatch z) h
 | @ins a C dx fs ea cl ha hn htk hm =>
  cases (show u=Value.ref a from rx)
  obtain ⟨mA,O,_⟩:=al5 I.hok ea
  obtain ⟨od,J,_⟩:=O.look
  exact PySem.W.kia_one (PySem.W.kitx_own (cl.get _) cl.hd ha hn htk hm) I.kIn J e (fun z=>nomatch z) h
end
end L2
namespace L2
open PySem PySem.Spec PyProof.Rows
structure Room (k:Nat) (A:Around):Prop where
 hd:A.handled=none
 dp:A.depth+3*k+5<recursionLimit
 un:A.units+16*k+200<cLine
 gd:A.guards=some []
theorem Room.mono {j k:Nat} {A:Around} (r:Room k A) (h:j≤k):Room j A:=⟨r.hd,by have:=r.dp;omega,by have:=r.un;omega,r.gd⟩
theorem Room.deeper {k:Nat} {A:Around} (r:Room (k+1) A) (env:Env):Room k (A.deeper env) :=
 ⟨r.hd,by have:=r.dp;show A.depth+1+3*k+5<_;omega,by have:=r.un;show A.units+3+16*k+200<_;omega,r.gd⟩
theorem Room.depth {k:Nat} {A:Around} (r:Room k A):A.depth<recursionLimit:=by have:=r.dp;omega
theorem Room.units {k:Nat} {A:Around} (r:Room k A):A.units+64<cLine:=by have:=r.un;omega
def avz:TA:=fun _ H Q=>Q [] H
def aul (ta:TE) (tr:TA):TA:=fun σ H Q=>ta σ H fun x H1=>tr σ H1 fun xs H2=>Q (x::xs) H2
section
variable {X:Cx} {e:Expr} {es:List Expr} {te:TE} {t:TA} {pos:Pos}
theorem a3a:PA X [] avz:=fun _ _ _ _ H Q I h=>Calls.spliced_nil ⟨[],H,I, .nil,h⟩
theorem uw (ha:PE X e te) (hr:PA X es t) (hs:starEach (e::es) X.env=(false,eval e X.env)::starEach es X.env:=by rfl):PA X (e::es) (aul te t):=by
 intro pos pins s σ H Q I h
 rw [hs]
 show wpAny _ _ (spliced ((false,eval e X.env)::backTo pos (starEach es X.env))) _ _ s
 refine Calls.spliced_cons (thn (ha pins s σ H _ I h) fun u s1 ⟨x,H1,I1,r1,q1⟩=>?_)
 exact thn (hr pos pins s1 σ H1 _ I1 q1) fun us s2 ⟨xs,H2,I2,r2,q2⟩=>⟨x::xs,H2,I2, .cons r1 r2,q2⟩
def axb (t:TA):TE:=fun σ H Q=>t σ H fun xs H1=>xs.length≤sizeLine∧∀ p,H1 p=none→Q (.ref p) (upd H1 p (.tup xs))
def axc (t:TA):TE:=fun σ H Q=>t σ H fun xs H1=>xs.length≤sizeLine∧∀ p,H1 p=none→Q (.ref p) (upd H1 p (.lst xs))
theorem ajm {x1} (h:PA X es t):PE X (.Tuple es x1 pos) (axb t):=by
 intro pins s σ H Q I hq
 refine wpAny_Tuple_spliced (thn (h pos pins s σ H _ I hq) fun us s1 ⟨xs,H1,I1,r,z,q⟩=>⟨by rw [← r.length];exact z,?_⟩)
 have hf:H1 s1.heap.objs.size=none:=I1.hok.fresh (Nat.le_refl _)
 refine ⟨.ref s1.heap.objs.size,upd H1 s1.heap.objs.size (.tup xs),I1.laid (t':=s1.toks) (fun b u e=>Heap.get?_push_of_some _ e) (Nat.le_refl _) ?_,rfl,q _ hf⟩
 exact ⟨z,us,r,⟨_,Heap.get?_push_size _ rfl,rfl,_,rfl⟩⟩
theorem ap3 (h:PA X es t):PE X (.List es pos) (axc t):=by
 intro pins s σ H Q I hq
 refine wpAny_List_spliced (thn (h pos pins s σ H _ I hq) fun us s1 ⟨xs,H1,I1,r,z,q⟩=>⟨by rw [← r.length];exact z,?_⟩)
 have hf:H1 s1.heap.objs.size=none:=I1.hok.fresh (Nat.le_refl _)
 refine ⟨.ref s1.heap.objs.size,upd H1 s1.heap.objs.size (.lst xs),I1.laid (t':=s1.toks) (fun b u e=>Heap.get?_push_of_some _ e) (Nat.le_refl _) ?_,rfl,q _ hf⟩
 exact ⟨z,us,0,r,Heap.get?_push_size _ rfl⟩
end
abbrev Sp:=List V→Hp→VK→XK→Prop
abbrev CXT:=List Env→Hp→Shared→XK→Value→Shared→Prop
structure Env0 (P:Program) (w:World) (K:PySem.W.Frag) (mg:Str→Option Value) (base:Heap) (A:Around) (outer:List Env) (s:Shared) (H:Hp):Prop where
 frames:A.frames=some outer
 mod:Mod K mg base
 bs:∀ b o,base.get? b=some o→s.heap.get? b=some o∧H b=none
 bsz:base.objs.size≤s.heap.objs.size
 funs:s.heap.FunFrames base outer
 frf:∀ b∈frs outer,H b=none
 hok:HOk P w H s.heap
 bare:AllBare s.gens
def CE (outer:List Env) (P:Program) (w:World) (H:Hp) (s:Shared) (Q:VK) (u:Value) (s':Shared):Prop :=
 ∃ v H',s'.os=s.os∧AllBare s'.gens∧Un (frs outer) [] H H' s.heap s'.heap∧HOk P w H' s'.heap∧RelV v u∧Q v H'
def CR (CX:CXT) (outer:List Env) (P:Program) (w:World) (H:Hp) (s:Shared) (Q:VK) (E:XK) (r:Result) (s':Shared):Prop :=
 match r with
 | .ok (.ret u)=>CE outer P w H s Q u s'
 | .ok _=>False
 | .error e=>CX outer H s E e s'
structure FnOk (P:Program) (w:World) (K:PySem.W.Frag) (mg:Str→Option Value) (base:Heap) (CX:CXT) (k:Nat) (f:Addr) (fd:FuncData) (ps:List Str) (sp:Sp):Prop where
 len:∀ vs H Q E,sp vs H Q E→vs.length=ps.length
 run:∀ (A:Around) (outer:List Env) (s:Shared) (H:Hp) (args:Args) (us:List Value) (vs:List V) (Q:VK) (E:XK),Room k A→Env0 P w K mg base A outer s H→BindsTo s fd args (ps.zip us)→Vals vs us→sp vs H Q E →
  codeAny (model P w) A (.call (.ref f) args) (CR CX outer P w H s Q E) s
theorem FnOk.imp {P:Program} {w:World} {K:PySem.W.Frag} {mg:Str→Option Value} {base:Heap} {CX:CXT} {k:Nat} {f:Addr} {fd:FuncData} {ps:List Str} {sp sp':Sp} (F:FnOk P w K mg base CX k f fd ps sp)
  (h:∀ vs H Q E,sp' vs H Q E→sp vs H Q E):FnOk P w K mg base CX k f fd ps sp' :=
 ⟨fun vs H Q E q=>F.len vs H Q E (h _ _ _ _ q),fun A outer s H args us vs Q E hr he hb hv hs=>F.run A outer s H args us vs Q E hr he hb hv (h _ _ _ _ hs)⟩
section
variable {X:Cx} {pins:List (Addr × Obj)} {σ:St} {H:Hp} {s s':Shared}
theorem Inv.env0 (I:Inv X pins σ H s):Env0 X.prog X.w X.K X.mg X.base X.A X.stack s H :=
 ⟨I.ok.frames,I.ok.mod,I.bs,Nat.le_trans I.ok.bsz I.sz,I.stack,I.stkFree,I.hok,I.bare⟩
theorem Inv.after {Q:VK} {u:Value} (I:Inv X pins σ H s) (h:CE X.stack X.prog X.w H s Q u s'):EP X pins σ Q u s':=by
 obtain ⟨v,H',os,bare,un,hok,r,q⟩:=h
 obtain ⟨hh,g,d,t,os'⟩:=s'
 obtain rfl:os'=s.os:=os
 exact ⟨v,H',I.call (h':=hh) (g':=g) (d':=d) (t':=t) (ch:=[]) un hok bare (fun b z=>absurd z (by simp)),r,q⟩
end
def ap4 (sp:Sp) (dvs:List V) (E:XK) (t:TA):TE:=fun σ H Q=>t σ H fun vs H1=>sp (vs++dvs) H1 Q E
def Binds (K:PySem.W.Frag) (fd:FuncData) (ps:List Str) (ds:List Value):Prop :=
 ∀ (s:Shared) (us:List Value),K.In s.heap→(us++ds).length=ps.length→BindsTo s fd ⟨us,[]⟩ (ps.zip (us++ds))
theorem Binds.all {K:PySem.W.Frag} {fd:FuncData} {ps:List Str} (h:∀ us:List Value,us.length=ps.length→bindArgs fd ⟨us,[]⟩=pure (ps.zip us)):Binds K fd ps []:=fun s us _ hl=>by
 rw [List.append_nil] at hl ⊢
 exact .of_eq (h us hl)
def a8j (CX:CXT) (X:Cx) (E:XK):Prop:=∀ (pins:List (Addr × Obj)) (σ:St) (H:Hp) (s:Shared) (e:Value) (s':Shared),Inv X pins σ H s→CX X.stack H s E e s'→X.xe e s'
section
variable {X:Cx} {CX:CXT} {k:Nat} {f C:Addr} {fd:FuncData} {ps:List Str} {sp:Sp} {dvs:List V} {ds:List Value} {E:XK} {x m:Str} {p pos apos:Pos} {e o:Expr} {es:List Expr} {ta:TE} {t:TA}
theorem ajn {pins:List (Addr × Obj)} {σ:St} {H:Hp} {s:Shared} {Q:VK} {us:List Value} {vs:List V} (F:FnOk X.prog X.w X.K X.mg X.base CX k f fd ps sp) (hr:Room k X.A) (hb:Binds X.K fd ps ds) (hd:Vals dvs ds) (hx:a8j CX X E)
  (I:Inv X pins σ H s) (r:Vals vs us) (h:sp (vs++dvs) H Q E):wpAny (model X.prog X.w) X.A (call (.ref f) us) (EP X pins σ Q) X.xe s:=by
 have r2:Vals (vs++dvs) (us++ds):=r.append hd
 have hl:(us++ds).length=ps.length:=by rw [← r2.length];exact F.len _ _ _ _ h
 refine wpAny_call (codeAny_mono (F.run X.A X.stack s H ⟨us,[]⟩ (us++ds) (vs++dvs) Q E hr I.env0 (hb s us I.kIn hl) r2 h) fun r s' hq=>?_)
 cases r with
 | error e=>exact hx pins σ H s e s' I hq
 | ok fl =>
  cases fl with
  | ret u=>exact I.after hq
  | next=>exact False.elim hq
  | brk=>exact False.elim hq
  | cont=>exact False.elim hq
theorem aab (F:FnOk X.prog X.w X.K X.mg X.base CX k f fd ps sp) (hr:Room k X.A) (hg:Gl X x) (hm:X.mg x=some (.ref f)) (hk:PySem.W.keepIn X.K (.ref f)=true) (hb:Binds X.K fd ps ds) (hd:Vals dvs ds) (hx:a8j CX X E)
  (ha:PA X (e::es) t) (hdb:(x == ("__debug__" : Str))=false:=by decide) (he:starEach (e::es) X.env=(false,eval e X.env)::starEach es X.env:=by rfl) (hpl:(backTo pos (starEach es X.env)).any (·.1)=false:=by rfl) :
  PE X (.Call (.Name x p) (e::es) [] pos) (ap4 sp dvs E t):=by
 intro pins s σ H Q I h
 refine wpAny_Call_Name_kw (a3t I hg hm ?_ hdb)
 refine PySem.W.callWith_K (h₀:=X.base) I.ok.mod.kin hk (thn (ha pos pins s σ H _ I h) fun us s1 ⟨vs,H1,I1,r,q⟩=>⟨I1.kIn,?_⟩) he hpl
 exact ajn F hr hb hd hx I1 r q
theorem ahl (F:FnOk X.prog X.w X.K X.mg X.base CX k f fd ps sp) (hr:Room k X.A) (hg:Gl X x) (hm:X.mg x=some (.ref f)) (hk:PySem.W.keepIn X.K (.ref f)=true) (hb:Binds X.K fd ps ds) (hd:Vals dvs ds) (hx:a8j CX X E)
  (hdb:(x == ("__debug__" : Str))=false:=by decide):PE X (.Call (.Name x p) [] [] pos) (ap4 sp dvs E avz):=by
 intro pins s σ H Q I h
 refine wpAny_Call_Name_kw (a3t I hg hm ?_ hdb)
 exact PySem.W.callWith_K0 I.kIn hk (ajn (us:=[]) F hr hb hd hx I .nil h)
end
structure FnScope (N P:List Str) (sc:Scope):Prop where
 kind:sc.kind = .function
 co:sc.isCoroutine=false
 gen:sc.isGenerator=false
 nd:N.Nodup
 pre:N.take P.length=P
 par:∀ x∈P,sc.names.lookup x=some .local∨sc.names.lookup x=some .cell
 nofree:∀ y∈sc.names,y.2≠.free
theorem a8k {kindOf:Str→Option NameKind} {x:Str}:∀ {binds:List (Str × Value)} {m:Str→Option Value},(∀ v,(x,v) ∉ binds)→bindL kindOf binds m x=m x
 | [],_,_=>rfl
 | (n,v)::r,m,h=>by
  unfold bindL
  rw [a8k fun w hw=>h w (List.mem_cons_of_mem _ hw)]
  split
  ·have:x≠n:=by rintro rfl;exact h v List.mem_cons_self
   simp [this]
  ·rfl
theorem a8l {kindOf:Str→Option NameKind} {x:Str}:∀ {binds:List (Str × Value)} {m:Str→Option Value},(∀ v,(x,v) ∉ binds)→bindC kindOf binds m x=m x
 | [],_,_=>rfl
 | (n,v)::r,m,h=>by
  unfold bindC
  rw [a8l fun w hw=>h w (List.mem_cons_of_mem _ hw)]
  split
  ·rfl
  ·have:x≠n:=by rintro rfl;exact h v List.mem_cons_self
   simp [this]
theorem a8m {kindOf:Str→Option NameKind} {x:Str} {v:Value}:∀ {P:List Str} {vs:List Value} {i:Nat} {m:Str→Option Value},P.Nodup→P[i]? = some x→vs[i]? = some v→kindOf x=some .local →
  bindL kindOf (P.zip vs) m x=some v
 | [],_,_,_,_,h,_,_=>by simp at h
 | _::_,[],_,_,_,_,h,_=>by simp at h
 | p::P,w::vs,0,m,nd,h1,h2,hk=>by
  simp at h1 h2;subst h1;subst h2
  show bindL kindOf ((p,w)::P.zip vs) m p=_
  unfold bindL
  rw [a8k fun v hv=>(List.nodup_cons.mp nd).1 (List.of_mem_zip hv).1,if_pos hk]
  simp
 | p::P,w::vs,i+1,m,nd,h1,h2,hk=>by
  show bindL kindOf ((p,w)::P.zip vs) m x=_
  unfold bindL
  exact a8m (i:=i) (List.nodup_cons.mp nd).2 (by simpa using h1) (by simpa using h2) hk
theorem a8n {kindOf:Str→Option NameKind} {x:Str} {v:Value}:∀ {P:List Str} {vs:List Value} {i:Nat} {m:Str→Option Value},P.Nodup→P[i]? = some x→vs[i]? = some v→kindOf x≠some .local →
  bindC kindOf (P.zip vs) m x=some v
 | [],_,_,_,_,h,_,_=>by simp at h
 | _::_,[],_,_,_,_,h,_=>by simp at h
 | p::P,w::vs,0,m,nd,h1,h2,hk=>by
  simp at h1 h2;subst h1;subst h2
  show bindC kindOf ((p,w)::P.zip vs) m p=_
  unfold bindC
  rw [a8l fun v hv=>(List.nodup_cons.mp nd).1 (List.of_mem_zip hv).1,if_neg hk]
  simp
 | p::P,w::vs,i+1,m,nd,h1,h2,hk=>by
  show bindC kindOf ((p,w)::P.zip vs) m x=_
  unfold bindC
  exact a8n (i:=i) (List.nodup_cons.mp nd).2 (by simpa using h1) (by simpa using h2) hk
def start (N:List Str) (vs:List V):St:=vs.map some++List.replicate (N.length - vs.length) none
def a00 (CX:CXT) (P:Program) (w:World) (K:PySem.W.Frag) (mg:Str→Option Value) (base:Heap) (N:List Str) (qual:Str) (scope:Scope) (f:Addr) (cd:Value) (A:Around) (outer:List Env) (s:Shared) (H:Hp) (E:XK):Cx where
 prog:=P
 w:=w
 K:=K
 mg:=mg
 base:=base
 A:=A.deeper (envOfC qual scope s.heap.objs.size f cd)
 N:=N
 s₀:=s
 H₀:=H
 env:=envOfC qual scope s.heap.objs.size f cd
 outer:=outer
 stack:=envOfC qual scope s.heap.objs.size f cd::outer
 ex:=[]
 calm:=true
 fn:=fun _=>true
 pn:=[]
 xe:=fun e s'=>wpAny (model P w) (A.deeper (envOfC qual scope s.heap.objs.size f cd)) (leaving (envOfC qual scope s.heap.objs.size f cd) e) (fun _ s''=>CX outer H s E e s'') (fun e' s''=>CX outer H s E e' s'') s'
theorem abd {sc:Scope} {n:Nat} {x:Str} (h:sc.names.lookup x=some .cell):∃ c,(cellsFrom n sc.names []).lookup x=some c:=by
 have q:=PySem.W.cellsFrom_some sc.names n [] (.inl h)
 exact Option.isSome_iff_exists.mp q
theorem aeb {CX:CXT} {P:Program} {w:World} {K:PySem.W.Frag} {mg:Str→Option Value} {base:Heap} {N ps:List Str} {qual:Str} {scope:Scope} {f:Addr} {cd:Value} {A:Around} {outer:List Env} {s s1:Shared} {H:Hp} {E:XK} {us:List Value} {vs:List V}
  (S:FnScope N ps scope) (hd:A.handled=none) (e0:Env0 P w K mg base A outer s H) (hl:vs.length=ps.length) (r:Vals vs us)
  (x:InCallC s s.heap.objs.size (bindL (envOfC qual scope s.heap.objs.size f cd).kindOf (ps.zip us) fun _=>none) (cellsFrom (s.heap.objs.size+1) scope.names []) (bindC (envOfC qual scope s.heap.objs.size f cd).kindOf (ps.zip us) fun _=>none) s1) :
  Inv (a00 CX P w K mg base N qual scope f cd A outer s H E) [] (start N vs) H s1:=by
 have hpl:ps.length≤N.length:=by have:=congrArg List.length S.pre;rw [List.length_take] at this;omega
 obtain ⟨h1,tk,rfl,hk⟩:=x.done
 have noA:∀ b:Addr,b ∉ (a00 CX P w K mg base N qual scope f cd A outer s H E).ex:=fun b z=>absurd (show b∈([]:List Addr) from z) (by simp)
 refine ⟨⟨e0.mod,S.kind,rfl,rfl,Nat.le_refl _,fun y z c h1 h2=>?_,fun y hy=>?_,fun y c _ h=>?_,fun _=>hd,Around.frames_deeper e0.frames, .inr ⟨rfl,rfl⟩,fun b z=>absurd z (noA b),e0.bs,e0.bsz,fun b _ _=>noA b,fun b z=>absurd z (noA b),e0.funs,e0.frf⟩,
  rfl,e0.bare,Un.kept hk,⟨_,x.toInCall.ns,fun i y v h1 h2 h3=>?_⟩,fun y c h=>⟨_,x.cell y c h⟩,e0.hok.fresh (Nat.le_refl _),fun y c h=>?_,fun p hp=>absurd (show p∈([]:List (Addr × Obj)) from hp) (by simp),e0.hok.kept hk,?_⟩
 ·exact name_of_addr x.apart (PySem.mem_of_lookup h1) (PySem.mem_of_lookup h2)
 ·have hy:scope.names.lookup y=some .cell∨scope.names.lookup y=some .free:=hy
  rcases hy with hy | hy
  ·exact abd hy
  ·exact absurd rfl (S.nofree _ (PySem.mem_of_lookup hy))
 ·exact Nat.le_of_lt (x.above y c (PySem.mem_of_lookup h))
 ·have hi:i<vs.length:=by
   unfold start at h2
   by_cases hi:i<vs.length
   ·exact hi
   ·rw [List.getElem?_append_right (by simpa using hi)] at h2
    rw [List.getElem?_replicate] at h2
    split at h2<;>cases h2
  have ha:vs[i]? = some v:=by
   unfold start at h2
   rw [List.getElem?_append_left (by simpa using hi),List.getElem?_map] at h2
   cases e:vs[i]? with
   | none=>rw [e] at h2;cases h2
   | some a=>rw [e] at h2;cases h2;rfl
  obtain ⟨u,hu,rv⟩:=r.get ha
  have hp:ps[i]? = some y:=by
   rw [← S.pre,List.getElem?_take_of_lt (by omega)];exact h1
  have ndP:ps.Nodup:=by rw [← S.pre];exact S.nd.sublist (List.take_sublist _ _)
  refine ⟨u,rv,?_⟩
  rcases S.par y (List.mem_of_getElem? hp) with k | k
  ·exact .inl ⟨k,a8m ndP hp hu k⟩
  ·obtain ⟨c,e⟩:=abd (n:=s.heap.objs.size+1) k
   refine .inr ⟨.inl k,c,e,?_⟩
   have q:=x.cell y c e
   rw [a8n ndP hp hu (by show scope.names.lookup y≠_;rw [k];decide)] at q
   exact q
 ·exact e0.hok.fresh (Nat.le_of_lt (x.above y c (PySem.mem_of_lookup h)))
 ·unfold start
  show _=N.length
  rw [List.length_append,List.length_map,List.length_replicate]
  omega
theorem ap5 {CX:CXT} {P:Program} {w:World} {K:PySem.W.Frag} {mg:Str→Option Value} {base:Heap} {k:Nat} {f:Addr} {name qual:Str} {params:Arguments} {body:List Stmt} {scope:Scope} {dV kV doc pm cdv ct oc:Value} {an od:Option Addr}
  {osl:Array (Option Value)} {N ps:List Str} {sp:Sp} (lk:K.lookup f=some ⟨oc,od, .func (PySem.W.fnOf name qual params body scope dV kV doc pm an cdv ct),osl⟩) (hcd:PySem.W.codeIn K cdv qual=true) (S:FnScope N ps scope)
  (len:∀ vs H Q E,sp vs H Q E→vs.length=ps.length)
  (hbody:∀ (A:Around) (outer:List Env) (s:Shared) (H:Hp) (vs:List V) (Q:VK) (E:XK),Room k (A.deeper (envOfC qual scope s.heap.objs.size f cdv))→sp vs H Q E →
   ∃ t,PSs (a00 CX P w K mg base N qual scope f cdv A outer s H E) body t∧t { nx:=fun _ H'=>Q .non H',rt:=Q } (start N vs) H) :
  FnOk P w K mg base CX (k+1) f (PySem.W.fnOf name qual params body scope dV kV doc pm an cdv ct) ps sp:=by
 refine ⟨len,fun A outer s H args us vs Q E hr e0 hb r hsp=>?_⟩
 have hl:=len _ _ _ _ hsp
 have KX:K.In s.heap:=e0.mod.kin.keeps fun b o e=>(e0.bs b o e).1
 have lim:s.heap.NoLimit:=e0.mod.nolimit.keeps fun b o e=>(e0.bs b o e).1
 have hkind:∀ y∈ps.zip us,scope.names.lookup y.1=some .local∨(scope.names.lookup y.1=some .cell∧((cellsFrom (s.heap.objs.size+1) scope.names []).lookup y.1).isSome=true):=fun ⟨n,v⟩ hy=>by
  rcases S.par n (List.of_mem_zip hy).1 with q | q
  ·exact .inl q
  ·exact .inr ⟨q,PySem.W.cellsFrom_some _ _ _ (.inl q)⟩
 refine codeAny_call_function hr.depth (KX _ _ lk) rfl S.co S.gen rfl (PySem.W.codeRec_of KX hcd) (hb _ _ _ _ ?_)
 refine wpAny_newFunctionEnv_cells S.kind hkind fun env he s1 x=>?_
 subst he
 refine ⟨lim.keeps x.toInCall.keep,codeAny_func ?_⟩
 obtain ⟨t,ht,hq⟩:=hbody A outer s H vs Q E (hr.deeper _) hsp
 have I:Inv (a00 CX P w K mg base N qual scope f cdv A outer s H E) [] (start N vs) H s1:=aeb S hr.hd e0 hl r x
 refine wpAny_mono (ht [] s1 (start N vs) H _ I hq) (fun fl s' hs=>?_) fun e s' hs=>hs
 have fin:∀ {σ':St} {H':Hp} {v:V} {u:Value},Inv (a00 CX P w K mg base N qual scope f cdv A outer s H E) [] σ' H' s'→RelV v u→Q v H'→CE outer P w H s Q u s' :=
  fun {σ' H' v u} J rv q=>⟨v,H',J.os,J.bare,J.base,J.hok,rv,q⟩
 cases fl with
 | ret u =>
  obtain ⟨v,σ',H',J,rv,q⟩:=hs
  exact fin J rv q
 | next =>
  obtain ⟨σ',H',J,q⟩:=hs
  exact fin (v:=V.non) (u:=Value.none) J rfl q
 | brk =>
  obtain ⟨_,_,_,q⟩:=hs
  exact False.elim q
 | cont =>
  obtain ⟨_,_,_,q⟩:=hs
  exact False.elim q
end L2
namespace L2
open PySem PySem.Spec PyProof.Rows
section
variable {X:Cx} {x:Str} {p pos:Pos} {e:Expr} {es:List Expr} {t:TA} {id T:String} {r:List V→Hp→VK→Prop}
def tCB (r:List V→Hp→VK→Prop) (t:TA):TE:=fun σ H Q=>t σ H fun vs H1=>r vs H1 Q
theorem a5g (hc:CallR X (.builtin id) r) (hg:Gl X x) (hm:X.mg x=none) (hv:bootBuiltins x=some (.builtin id)) (ha:PA X (e::es) t) (hn:x ≠ "__name__":=by decide) (hdb:(x == ("__debug__" : Str))=false:=by decide)
  (he:starEach (e::es) X.env=(false,eval e X.env)::starEach es X.env:=by rfl) (hpl:(backTo pos (starEach es X.env)).any (·.1)=false:=by rfl):PE X (.Call (.Name x p) (e::es) [] pos) (tCB r t):=by
 intro pins s σ H Q I h
 refine wpAny_Call_Name_kw (a4o I hg hm hv ?_ hn hdb)
 exact PyProof.Rows.callWith_builtin1 (thn (ha pos pins s σ H _ I h) fun us s1 ⟨vs,H1,I1,r1,q1⟩=>hc pins s1 σ H1 vs us Q I1 r1 q1) he hpl
theorem a5q (hc:CallR X (.type T) r) (hg:Gl X x) (hm:X.mg x=none) (hv:bootBuiltins x=some (.type T)) (ha:PA X (e::es) t) (hn:x ≠ "__name__":=by decide) (hdb:(x == ("__debug__" : Str))=false:=by decide)
  (he:starEach (e::es) X.env=(false,eval e X.env)::starEach es X.env:=by rfl) (hpl:(backTo pos (starEach es X.env)).any (·.1)=false:=by rfl):PE X (.Call (.Name x p) (e::es) [] pos) (tCB r t):=by
 intro pins s σ H Q I h
 refine wpAny_Call_Name_kw (a4o I hg hm hv ?_ hn hdb)
 exact PyProof.Rows.callWith_type1 (thn (ha pos pins s σ H _ I h) fun us s1 ⟨vs,H1,I1,r1,q1⟩=>hc pins s1 σ H1 vs us Q I1 r1 q1) he hpl
end
end L2
namespace HT
open PySem PyProof.Rows
section
variable {prog:Program} {w:World} {A:Around} {E:Value→Shared→Prop} {s:Shared}
theorem al6 {t b:Addr} {vs ws:List Value} {Q:Value→Shared→Prop} (ht:IsTup s.heap t vs.toArray) (hb:IsTup s.heap b ws.toArray) (hv:vs≠[])
  (h1:ws=[]→Q (.ref t) s) (h2:ws≠[]→Q (.ref s.heap.objs.size) { s with heap:=s.heap.push { cls:=.type "tuple",data:=.seq (vs++ws).toArray } })
  (hsz:vs.length+ws.length≤sizeLine):wpAny (model prog w) A (binaryOp .Add (.ref t) (.ref b)) Q E s:=by
 obtain ⟨⟨cls,dd,data,sl⟩,ho,hc,n,hd⟩:=id ht
 obtain ⟨⟨cls2,dd2,data2,sl2⟩,ho2,hc2,n2,hd2⟩:=id hb
 simp only at hc hd hc2 hd2
 subst hc hd hc2 hd2
 have e:vs.toArray++ws.toArray=(vs++ws).toArray:=by simp
 by_cases hw:ws=[]
 ·exact concat_meets ⟨_,ho,rfl⟩ ⟨_,ho2,rfl⟩ noFill_tuple_add seq_tuple_add PySem.F.slot_tuple_add PySem.F.entry_tuple_add (PySem.F.args_tuple_add_2 _ _)
   (tuple_addW1 t b vs.toArray ws.toArray n n2 dd dd2 sl sl2 (by simpa using hv) (by simp [hw])) ⟨ho,ho2,h1 hw⟩
 ·refine concat_meets ⟨_,ho,rfl⟩ ⟨_,ho2,rfl⟩ noFill_tuple_add seq_tuple_add PySem.F.slot_tuple_add PySem.F.entry_tuple_add (PySem.F.args_tuple_add_2 _ _)
   (tuple_addW2 t b vs.toArray ws.toArray n n2 dd dd2 sl sl2 (by simpa using hv) (by simpa using hw) (by rw [List.size_toArray,List.size_toArray];exact hsz)) ⟨ho,ho2,?_⟩
  rw [e]
  exact h2 hw
def sIx (n d:Nat):Option Int→Nat
 | none=>d
 | some v=>if v<0 then (v+(n:Int)).toNat else min v.toNat n
theorem abe (n d:Nat):sIx n d none=d:=rfl
theorem aec (n d k:Nat):sIx n d (some (k:Int))=min k n:=by
 show (if (k:Int)<0 then ((k:Int)+(n:Int)).toNat else min (k:Int).toNat n)=min k n
 rw [if_neg (by omega),Int.toNat_natCast]
theorem aed (n d:Nat) (hd:d≤n) (o:Option Int):sIx n d o≤n:=by
 cases o with
 | none=>exact hd
 | some v =>
  show (if v<0 then (v+(n:Int)).toNat else min v.toNat n)≤n
  by_cases hv:v<0
  ·rw [if_pos hv];omega
  ·rw [if_neg hv];exact Nat.min_le_right _ _
theorem aee (v:Int) (n d:Nat):(if v<0 then max (v+(n:Int)) 0 else min v (n:Int))=((sIx n d (some v):Nat):Int):=by
 show (if v<0 then max (v+(n:Int)) 0 else min v (n:Int))=(((if v<0 then (v+(n:Int)).toNat else min v.toNat n):Nat):Int)
 by_cases hv:v<0
 ·simp only [if_pos hv];omega
 ·simp only [if_neg hv];omega
theorem ad1 (lo hi:Option Int) (n:Nat):Builtin.Slice.sliceAdjust lo hi 1 (n:Int)=(((sIx n 0 lo:Nat):Int),((sIx n n hi:Nat):Int)):=by
 have h1:¬ ((1:Int)<0):=by omega
 unfold Builtin.Slice.sliceAdjust
 simp only [h1,if_false]
 refine Prod.ext ?_ ?_
 ·cases lo with
  | none=>rfl
  | some v=>exact aee v n 0
 ·cases hi with
  | none=>rfl
  | some v=>exact aee v n n
theorem ad2 (i j:Nat):Builtin.Slice.slicePlaces (i:Int) (j:Int) 1=j - i:=by
 unfold Builtin.Slice.slicePlaces
 have h1:(1:Int) > 0:=by omega
 simp only [h1,if_true,Int.ediv_one]
 split<;>omega
theorem a6v {v:Value} {o:Option Int} {Q:Option Int→Shared→Prop} (p:IsPart v o) (h:Q o s):wpAny (model prog w) A (Builtin.Slice.slicePartIndex v) Q E s:=by
 cases p with
 | none=>exact slicePart_none h
 | int i t=>exact slicePart_int h
theorem a0r {sl:Addr} {vl vu:Value} {lo hi:Option Int} {n:Nat} {Q:Int × Int × Nat→Shared→Prop} (hs:s.heap.IsSliceOf sl vl vu .none) (pl:IsPart vl lo) (pu:IsPart vu hi)
  (h:Q (((sIx n 0 lo:Nat):Int),1,sIx n n hi - sIx n 0 lo) s):wpAny (model prog w) A (Builtin.Slice.sliceApplied (.ref sl) (pure (n:Int))) Q E s:=by
 obtain ⟨os,hos,hcs,hds⟩:=id hs
 unfold Builtin.Slice.sliceApplied Builtin.Slice.sliceFields
 refine wpAny_bind (wpAny_bind (wpAny_field hos hds (x:=vl) rfl (wpAny_bind (wpAny_field hos hds (x:=vu) rfl (wpAny_bind (wpAny_field hos hds (x:=.none) rfl (wpAny_pure ?_)))))))
 refine wpAny_bind (slicePart_none ?_)
 show wpAny _ _ (if ((1:Int) == 0)=true then _ else _) _ _ s
 rw [if_neg (by decide)]
 refine wpAny_bind (a6v pl (wpAny_bind (a6v pu (wpAny_bind (wpAny_pure ?_)))))
 show wpAny _ _ (match Builtin.Slice.sliceAdjust lo hi 1 (n:Int) with | (lo,hi)=>pure (lo,(1:Int),Builtin.Slice.slicePlaces lo hi 1)) _ _ s
 rw [ad1 lo hi n]
 show wpAny _ _ (pure (((sIx n 0 lo:Nat):Int),(1:Int),Builtin.Slice.slicePlaces ((sIx n 0 lo:Nat):Int) ((sIx n n hi:Nat):Int) 1)) _ _ s
 rw [ad2]
 exact wpAny_pure h
theorem ahm (xs:Array Value) (i k:Nat):((List.range k).filterMap fun (m:Nat)=>xs[((i:Int)+(m:Int)*1).toNat]?).toArray=((xs.toList.drop i).take k).toArray:=by
 have e:(fun (m:Nat)=>xs[((i:Int)+(m:Int)*1).toNat]?)=fun m=>xs[i+m]?:=by
  funext m
  have:((i:Int)+(m:Int)*1).toNat=i+m:=by omega
  rw [this]
 rw [e]
 have:=pick_run xs i k
 rw [List.filterMap_map] at this
 have e2:((fun x=>xs[x]?) ∘ fun x=>i+x)=fun m=>xs[i+m]?:=rfl
 rw [e2] at this
 rw [this]
theorem a3v {t sl:Addr} {items:Array Value} {vl vu:Value} {lo hi:Option Int} {Q:Value→Shared→Prop} (ht:IsTup s.heap t items) (hs:s.heap.IsSliceOf sl vl vu .none) (pl:IsPart vl lo) (pu:IsPart vu hi)
  (hw:¬ (sIx items.size 0 lo=0∧sIx items.size items.size hi=items.size))
  (h:Q (.ref s.heap.objs.size) { s with heap:=s.heap.push { cls:=.type "tuple",data:=.seq ((items.toList.drop (sIx items.size 0 lo)).take (sIx items.size items.size hi - sIx items.size 0 lo)).toArray } })
  (hsz:items.size≤sizeLine):wpAny (model prog w) A (getItem (.ref t) (.ref sl)) Q E s:=by
 have htake:sizeOk (.seq ((items.toList.drop (sIx items.size 0 lo)).take (sIx items.size items.size hi - sIx items.size 0 lo)).toArray):=by
  show ((items.toList.drop (sIx items.size 0 lo)).take (sIx items.size items.size hi - sIx items.size 0 lo)).toArray.size≤sizeLine
  rw [List.size_toArray,List.length_take,List.length_drop,Array.length_toList]
  omega
 have hj:sIx items.size items.size hi≤items.size:=aed _ _ (Nat.le_refl _) hi
 obtain ⟨os,hos,hcs,hds⟩:=id hs
 have hTs:s.TypeIs (.ref sl) "slice":=⟨os,hos,hcs⟩
 unfold getItem
 try with_reducible refine wpAny_holding ?_
 first | refine wpAny_bind (wpAny_pure ?_) | skip
 refine wpAny_bind (wpAny_sequenceKey ht.typeIs (by decide) ?_)
 refine wpAny_bind (wpAny_callSpecial?_slot (name:=Str.ofString "__getitem__") ht.typeIs PyProof.Rows.slot_tuple_getitem
  (wpAny_call_entry PyProof.Rows.slot_tuple_getitem ht.typeIs entry_tuple_getitem ?_ (args_tuple_getitem _ _)))
 show wpAny _ _ (Builtin.Tuple.tupleItemsOf (.ref t)>>=_) _ _ s
 refine wpAny_bind (tupleItemsOf_ ht ?_)
 refine wpAny_bind (wpAny_typeOf hTs ?_)
 rw [if_pos (by decide)]
 refine wpAny_bind (a0r hs pl pu ?_)
 have hno:¬ ((((sIx items.size 0 lo:Nat):Int) == 0 && (1:Int) == 1 && (sIx items.size items.size hi - sIx items.size 0 lo) == items.size)=true):=by
  intro q
  rw [Bool.and_eq_true,Bool.and_eq_true] at q
  have q1:((sIx items.size 0 lo:Nat):Int)=0:=eq_of_beq q.1.1
  have q2:sIx items.size items.size hi - sIx items.size 0 lo=items.size:=eq_of_beq q.2
  exact hw ⟨by omega,by omega⟩
 show wpAny _ _ (if (((sIx items.size 0 lo:Nat):Int) == 0 && (1:Int) == 1 && (sIx items.size items.size hi - sIx items.size 0 lo) == items.size)=true then _ else _) _ _ s
 rw [if_neg hno,ahm]
 first
  | exact wpAny_bind (m:=Builtin.Tuple.tupleExact _) (wpAny_newObj_type (wpAny_pure ⟨_,rfl,wpAny_pure h⟩) htake)
  | exact wpAny_bind (m:=Builtin.Tuple.tupleExact _) (wpAny_newObj_type (wpAny_bind (wpAny_pure (wpAny_pure ⟨_,rfl,wpAny_pure h⟩))) htake)
  | exact wpAny_bind (wpAny_bind (m:=Builtin.Tuple.tupleExact _) (wpAny_newObj_type (wpAny_pure (wpAny_pure ⟨_,rfl,wpAny_pure h⟩)) htake))
  | exact wpAny_bind (wpAny_bind (m:=Builtin.Tuple.tupleExact _) (wpAny_newObj_type (wpAny_pure ⟨_,rfl,wpAny_pure h⟩) htake))
end
end HT
namespace L2
open PySem PySem.Spec PyProof.Rows
abbrev TO:=St→Hp→(Option Int→Hp→Prop)→Prop
def PO (X:Cx) (e:Option Expr) (t:TO):Prop :=
 ∀ (pins:List (Addr × Obj)) (s:Shared) (σ:St) (H:Hp) (Q:Option Int→Hp→Prop),Inv X pins σ H s→t σ H Q →
  wpAny (model X.prog X.w) X.A (evalPart e X.env) (fun u s'=>∃ o H',Inv X pins σ H' s'∧IsPart u o∧Q o H') X.xe s
def al7:TO:=fun _ H Q=>Q none H
def aum (t:TE):TO:=fun σ H Q=>t σ H fun x H1=>∃ i,x = .int i∧Q (some i) H1
section
variable {X:Cx} {e:Expr} {te:TE} {lo hi:Option Expr} {tl th:TO} {pos p2:Pos}
theorem al8:PO X none al7:=by
 intro pins s σ H Q I h
 rw [evalPart_none]
 exact wpAny_pure ⟨none,H,I, .none,h⟩
theorem al9 (h:PE X e te):PO X (some e) (aum te):=by
 intro pins s σ H Q I hw
 rw [evalPart_some]
 refine thn (h pins s σ H _ I hw) fun u s1 ⟨x,H1,I1,r1,q1⟩=>?_
 obtain ⟨i,rfl,q⟩:=q1
 obtain ⟨t,rfl⟩:=r1
 exact ⟨some i,H1,I1, .int i t,q⟩
def SlR (X:Cx) (r:V→Option Int→Option Int→Hp→VK→Prop):Prop :=
 ∀ (pins:List (Addr × Obj)) (s:Shared) (σ:St) (H:Hp) (x:V) (v vl vu:Value) (lo hi:Option Int) (sl:Addr) (Q:VK),Inv X pins σ H s→RelV x v→s.heap.IsSliceOf sl vl vu .none→IsPart vl lo→IsPart vu hi→r x lo hi H Q →
  ∃ T id,typeLookup (.type T) "__getitem__" = pure (some (.builtin id))∧s.TypeIs v T∧wpAny (model X.prog X.w) X.A (getItem v (.ref sl)) (EP X pins σ Q) X.xe s
theorem SlR.or {r r':V→Option Int→Option Int→Hp→VK→Prop} (h:SlR X r) (h':SlR X r'):SlR X (fun x lo hi H Q=>r x lo hi H Q∨r' x lo hi H Q):=by
 intro pins s σ H x v vl vu lo hi sl Q I rx hs pl pu q
 rcases q with q | q
 ·exact h pins s σ H x v vl vu lo hi sl Q I rx hs pl pu q
 ·exact h' pins s σ H x v vl vu lo hi sl Q I rx hs pl pu q
def tSl (r:V→Option Int→Option Int→Hp→VK→Prop) (te:TE) (tl th:TO):TE:=fun σ H Q=>te σ H fun x H1=>tl σ H1 fun l H2=>th σ H2 fun u H3=>r x l u H3 Q
theorem ahn {r:V→Option Int→Option Int→Hp→VK→Prop} (hr:SlR X r) (he:PE X e te) (hl:PO X lo tl) (hu:PO X hi th):PE X (.Subscript e (.Slice lo hi none p2) pos) (tSl r te tl th):=by
 intro pins s σ H Q I h
 refine Subscript_ (thn (he pins s σ H _ I h) fun v s1 ⟨x,H1,I1,r1,q1⟩=>?_)
 refine wpAny_Slice (thn (hl pins s1 σ H1 _ I1 q1) fun vl s2 ⟨l,H2,I2,pl,q2⟩=>thn (hu pins s2 σ H2 _ I2 q2) fun vu s3 ⟨u,H3,I3,pu,q3⟩=>?_)
 rw [evalPart_none]
 refine wpAny_pure ?_
 have I4:Inv X pins σ H3 { s3 with heap:=s3.heap.push { cls:=.type "slice",data:=.fields #[vl,vu, .none] } }:=I3.kept (t':=s3.toks) fun b ob q=>Heap.get?_push_of_some _ q
 obtain ⟨T,id,hT,ht,hg⟩:=hr pins { s3 with heap:=s3.heap.push { cls:=.type "slice",data:=.fields #[vl,vu, .none] } } σ H3 x v vl vu l u s3.heap.objs.size Q I4 r1 (Heap.IsSliceOf.new ..) pl pu q3
 show wpAny (model X.prog X.w) X.A (subscriptTail e (.Slice lo hi none p2) v (.ref s3.heap.objs.size)) (EP X pins σ Q) X.xe { s3 with heap:=s3.heap.push { cls:=.type "slice",data:=.fields #[vl,vu, .none] } }
 exact tail_any (ops:=[.ref s3.heap.objs.size,v]) ht hT hg (by with_unfolding_all rfl)
def ajo (xs:List V) (lo hi:Option Int):List V:=(xs.drop (HT.sIx xs.length 0 lo)).take (HT.sIx xs.length xs.length hi - HT.sIx xs.length 0 lo)
theorem a5r (xs:List V) (lo hi:Option Int):(ajo xs lo hi).length≤xs.length:=by
 unfold ajo
 rw [List.length_take,List.length_drop]
 omega
def aun (K:PySem.W.Frag):V→Option Int→Option Int→Hp→VK→Prop:=fun x lo hi H Q=>∃ a xs,x = .ref a∧SqT K H a xs ∧
 ¬ (HT.sIx xs.length 0 lo=0∧HT.sIx xs.length xs.length hi=xs.length)∧∀ p,H p=none→Q (.ref p) (upd H p (.tup (ajo xs lo hi)))
theorem ap6:SlR X (aun X.K):=by
 intro pins s σ H x v vl vu lo hi sl Q I rx hs pl pu h
 obtain ⟨a,xs,rfl,hx,hw,q⟩:=h
 cases rx
 obtain ⟨its,r,ht,hz⟩:=I.tuple hx
 have hlen:its.toArray.size=xs.length:=by rw [List.size_toArray];exact r.length.symm
 refine ⟨"tuple",_,PyProof.Rows.slot_tuple_getitem.lookup,ht.typeIs,?_⟩
 refine HT.a3v ht hs pl pu (by rw [hlen];exact hw) ?_ (by rw [hlen];exact hz)
 rw [hlen]
 refine ⟨.ref s.heap.objs.size,_,I.laid (t':=s.toks) (o:=.tup (ajo xs lo hi)) (fun b ob q=>Heap.get?_push_of_some _ q) (Nat.le_refl _) ?_,rfl,q _ (I.hok.fresh (Nat.le_refl _))⟩
 exact ⟨Nat.le_trans (a5r xs lo hi) hz,_,(r.drop (HT.sIx xs.length 0 lo)).take (HT.sIx xs.length xs.length hi - HT.sIx xs.length 0 lo),IsTup.new _ _⟩
def ap7 (K:PySem.W.Frag):R2:=fun x y H Q=>∃ a b xs ys,x = .ref a∧y = .ref b∧SqT K H a xs∧SqT K H b ys∧xs≠[]∧xs.length+ys.length≤sizeLine ∧
 (ys=[]→Q (.ref a) H)∧(ys≠[]→∀ p,H p=none→Q (.ref p) (upd H p (.tup (xs++ys))))
theorem Vals.nil_iff {xs:List V} {us:List Value} (r:Vals xs us):us=[]↔xs=[]:=by
 cases r with
 | nil=>simp
 | cons _ _=>simp
theorem ala:OpR X (binaryOp .Add) (ap7 X.K):=by
 intro pins s σ H x y v u Q I rx ry h
 obtain ⟨a,b,xs,ys,rfl,rfl,ha,hb,hx,hz,q1,q2⟩:=h
 cases rx
 cases ry
 obtain ⟨its,r1,p1,_⟩:=I.tuple ha
 obtain ⟨its2,r2,p2,_⟩:=I.tuple hb
 refine HT.al6 p1 p2 (fun z=>hx (r1.nil_iff.mp z)) (fun z=>⟨.ref a,H,I,rfl,q1 (r2.nil_iff.mp z)⟩) (fun z=>?_) (by rw [← r1.length,← r2.length];exact hz)
 refine ⟨.ref s.heap.objs.size,_,I.laid (t':=s.toks) (o:=.tup (xs++ys)) (fun b ob q=>Heap.get?_push_of_some _ q) (Nat.le_refl _) ?_,rfl,q2 (fun w=>z (r2.nil_iff.mpr w)) _ (I.hok.fresh (Nat.le_refl _))⟩
 exact ⟨by rw [List.length_append];exact hz,_,r1.append r2,IsTup.new _ _⟩
end
end L2
namespace L2
open PySem PySem.Spec PyProof.Rows
def ixN (n:Nat) (i:Int):Option Nat:=if 0≤i then (if i<n then some i.toNat else none) else if -(n:Int)≤i then some (i+n).toNat else none
def atI {α:Type} (xs:List α) (i:Int):Option α:=(ixN xs.length i).bind fun j=>xs[j]?
theorem aac {n:Nat} {i:Int} {j:Nat} (h:ixN n i=some j):seqIndex? i n=some j∧j<n ∧ -(n:Int)≤i∧i<n:=by
 unfold ixN at h
 by_cases h0:0≤i
 ·rw [if_pos h0] at h
  by_cases h1:i<n
  ·rw [if_pos h1] at h
   have e:i.toNat=j:=Option.some.inj h
   exact ⟨by rw [seqIndex_of h0 h1,e],by omega,by omega,h1⟩
  ·rw [if_neg h1] at h;cases h
 ·rw [if_neg h0] at h
  by_cases h1 : -(n:Int)≤i
  ·rw [if_pos h1] at h
   have e:(i+n).toNat=j:=Option.some.inj h
   exact ⟨by rw [seqIndex_neg (by omega) h1,e],by omega,h1,by omega⟩
  ·rw [if_neg h1] at h;cases h
theorem a7e {α:Type} {xs:List α} {i:Int} {v:α} (h:atI xs i=some v):∃ j,seqIndex? i xs.length=some j∧xs[j]? = some v∧j<xs.length ∧ -(xs.length:Int)≤i∧i<xs.length:=by
 unfold atI at h
 cases e:ixN xs.length i with
 | none=>rw [e] at h;cases h
 | some j =>
  rw [e] at h
  obtain ⟨h1,h2,h3,h4⟩:=aac e
  exact ⟨j,h1,h,h2,h3,h4⟩
theorem v7 {α:Type} {xs:List α} {j:Nat} {v:α} (h:xs[j]? = some v):atI xs (j:Int)=some v:=by
 have hj:j<xs.length:=(List.getElem?_eq_some_iff.mp h).1
 have e:ixN xs.length (j:Int)=some j:=by
  unfold ixN
  rw [if_pos (by omega),if_pos (by omega)];simp
 unfold atI;rw [e];exact h
def aad (b:Expr):Prop:=∀ o i,subscripted b false o i=operate [o,i] (getItem o i)
def IxR (X:Cx) (r:R2):Prop :=
 ∀ (value slice:Expr) (pins:List (Addr × Obj)) (s:Shared) (σ:St) (H:Hp) (x y:V) (v u:Value) (Q:VK),Inv X pins σ H s→RelV x v→RelV y u→r x y H Q →
  subscripted slice false v u=operate [v,u] (getItem v u)→wpAny (model X.prog X.w) X.A (subscriptTail value slice v u) (EP X pins σ Q) X.xe s
def MtR (X:Cx) (id:String) (r:V→List V→Hp→VK→Prop):Prop :=
 ∀ (pins:List (Addr × Obj)) (s:Shared) (σ:St) (H:Hp) (x:V) (xs:List V) (v:Value) (us:List Value) (Q:VK),Inv X pins σ H s→RelV x v→Vals xs us→r x xs H Q →
  wpAny (model X.prog X.w) X.A (call (.builtin id) (v::us)) (EP X pins σ Q) X.xe s
section
variable {X:Cx} {a b:Expr} {ta tb:TE} {pos:Pos}
theorem IxR.or {r r':R2} (h:IxR X r) (h':IxR X r'):IxR X (fun x y H Q=>r x y H Q∨r' x y H Q):=by
 intro value slice pins s σ H x y v u Q I rx ry q hs
 rcases q with q | q
 ·exact h value slice pins s σ H x y v u Q I rx ry q hs
 ·exact h' value slice pins s σ H x y v u Q I rx ry q hs
theorem MtR.or {id:String} {r r':V→List V→Hp→VK→Prop} (h:MtR X id r) (h':MtR X id r'):MtR X id (fun x xs H Q=>r x xs H Q∨r' x xs H Q):=by
 intro pins s σ H x xs v us Q I rx rs q
 rcases q with q | q
 ·exact h pins s σ H x xs v us Q I rx rs q
 ·exact h' pins s σ H x xs v us Q I rx rs q
theorem auo {r:R2} (hr:IxR X r) (ha:PE X a ta) (hb:PE X b tb) (hs:aad b):PE X (.Subscript a b pos) (tOp r ta tb):=by
 intro pins s σ H Q I h
 exact Subscript_ (aue ha hb I h fun v u s2 x y H2 I2 rx ry q=>hr a b pins s2 σ H2 x y v u Q I2 rx ry q (hs _ _))
def atp (K:PySem.W.Frag):R2:=fun x y H Q=>∃ p xs i v,x = .ref p∧y = .int i∧SqL K H p xs∧atI xs i=some v∧Q v H
def aw0 (K:PySem.W.Frag):R2:=fun x y H Q=>∃ p xs i v,x = .ref p∧y = .int i∧SqT K H p xs∧atI xs i=some v∧Q v H
def aw1:R2:=fun x y H Q=>∃ z i c,x = .str z∧y = .int i∧z.length≤sizeLine∧atI z.cps.toList i=some c∧Q (.str ⟨#[c]⟩) H
theorem alb:IxR X (atp X.K):=by
 intro value slice pins s σ H x y v u Q I rx ry h hs
 obtain ⟨p,xs,i,z,rfl,rfl,hq,he,q⟩:=h
 cases rx
 obtain ⟨t,rfl⟩:=ry
 obtain ⟨its,r,pl,hz⟩:=I.list hq
 obtain ⟨j,h1,h2,h3,h4,h5⟩:=a7e he
 obtain ⟨w,ew,rw'⟩:=r.get h2
 have hl:=r.length
 have hn:=a4p
 have fin:EP X pins σ Q w s:=⟨z,H,I,rw',q⟩
 by_cases h0:0≤i
 ·have hj:i.toNat=j:=by
   rw [seqIndex_of h0 h5] at h1
   exact Option.some.inj h1
  exact item_listR pl.isList h0 (by omega) (by rw [hj];simpa using ew) fin hs
 ·have hj:(i+(its.toArray.size:Int)).toNat=j:=by
   rw [seqIndex_neg (by omega) h4] at h1
   rw [List.size_toArray,← hl]
   exact Option.some.inj h1
  exact subscriptTail_builtinR (x:=w) pl.isList.typeIs slot_list_getitem.lookup
   (wpAny_getItem_list_neg (Q:=fun r s'=>r=w∧EP X pins σ Q r s') pl.isList (by omega) (by rw [List.size_toArray]<;>omega) (by omega) (by rw [hj];simpa using ew) ⟨rfl,fin⟩) hs
theorem a8o:IxR X (aw0 X.K):=by
 intro value slice pins s σ H x y v u Q I rx ry h hs
 obtain ⟨p,xs,i,z,rfl,rfl,hq,he,q⟩:=h
 cases rx
 obtain ⟨t,rfl⟩:=ry
 obtain ⟨its,r,pl,hz⟩:=I.tuple hq
 obtain ⟨j,h1,h2,h3,h4,h5⟩:=a7e he
 obtain ⟨w,ew,rw'⟩:=r.get h2
 have hl:=r.length
 have hn:=a4p
 have fin:EP X pins σ Q w s:=⟨z,H,I,rw',q⟩
 exact subscriptTail_builtinR (x:=w) pl.typeIs slot_tuple_getitem.lookup
  (getItem_tuple (j:=j) (Q:=fun r s'=>r=w∧EP X pins σ Q r s') pl (by omega) (by omega) (by rw [List.size_toArray,← hl];exact h1) (by simpa using ew) ⟨rfl,fin⟩) hs
theorem ap8:IxR X aw1:=by
 intro value slice pins s σ H x y v u Q I rx ry h hs
 obtain ⟨z,i,c,rfl,rfl,hz,he,q⟩:=h
 obtain ⟨t,rfl⟩:=rx
 obtain ⟨t',rfl⟩:=ry
 obtain ⟨j,h1,h2,h3,h4,h5⟩:=a7e he
 have hl:z.cps.toList.length=z.length:=by simp [Str.length]
 rw [hl] at h1 h4 h5
 have hn:=a4p
 exact tail_any (typeIs_str s z t) slot_str_getitem.lookup (getItem_str (c:=c) (by
  have e1:decide (i < -(2 ^ 63:Int))=false:=decide_eq_false (by omega)
  have e2:decide (i≥2 ^ 63)=false:=decide_eq_false (by omega)
  rw [e1,e2,Bool.or_false]) (by rw [h1];simpa using h2) ⟨.str ⟨#[c]⟩,H,I.tok _,⟨_,rfl⟩,q⟩) hs
def rIx (K:PySem.W.Frag):R2:=fun x y H Q=>atp K x y H Q∨aw0 K x y H Q∨aw1 x y H Q
theorem ap9:IxR X (rIx X.K):=alb.or (a8o.or ap8)
theorem ad3 (its:List Value) (n j:Nat) (u:Value):Obj.mapSeq (·.setIfInBounds j u) { cls:=.type "list",data:=.seq its.toArray n }={ cls:=.type "list",data:=.seq (its.set j u).toArray n }:=by
 simp [Obj.mapSeq]
theorem Inv.lst {pins:List (Addr × Obj)} {σ:St} {H:Hp} {s:Shared} {p:Addr} {xs:List V} (I:Inv X pins σ H s) (h:H p=some (.lst xs)) :
  ∃ (its:List Value) (n:Nat),Vals xs its∧s.heap.get? p=some { cls:=.type "list",data:=.seq its.toArray n }∧xs.length≤sizeLine:=by
 obtain ⟨z,its,n,r,e⟩:=I.hok p _ h
 exact ⟨its,n,r,e,z⟩
theorem Inv.lstUpd {pins:List (Addr × Obj)} {σ:St} {H:Hp} {s:Shared} {p:Addr} {xs ys:List V} {its its':List Value} {n n':Nat} {f:Obj→Obj} (I:Inv X pins σ H s) (h:H p=some (.lst xs))
  (ho:s.heap.get? p=some { cls:=.type "list",data:=.seq its.toArray n }) (hf:f { cls:=.type "list",data:=.seq its.toArray n }={ cls:=.type "list",data:=.seq its'.toArray n' }) (r:Vals ys its') (hz:ys.length≤sizeLine) (t:Nat) :
  Inv X pins σ (upd H p (.lst ys)) { s with heap:=s.heap.update p f,toks:=t }:=by
 have e:(s.heap.update p f).get? p=some { cls:=.type "list",data:=.seq its'.toArray n' }:=by
  rw [Heap.get?_update_self f ho (by rw [hf]<;>rfl),hf]
 refine I.write (x:=p) (e:=p) (by rw [h];trivial) (.inl rfl) (fun b u hb q=>(Heap.get?_update_other _ _ (Ne.symm hb)).trans q) ⟨_,e⟩ ?_
 exact ⟨hz,its',n',r,e⟩
def apa:V→V→V→Hp→(Hp→Prop)→Prop:=fun o i v H Q=>∃ p xs k j,o = .ref p∧i = .int k∧H p=some (.lst xs)∧ixN xs.length k=some j∧Q (upd H p (.lst (xs.set j v)))
theorem set_list:au8 X apa:=by
 intro pins s σ H o i v ov iv u Q I ro ri rv h
 obtain ⟨p,xs,k,j,rfl,rfl,hp,hj,q⟩:=h
 cases ro
 obtain ⟨t,rfl⟩:=ri
 obtain ⟨its,n,r,ho,hz⟩:=I.lst hp
 obtain ⟨h1,h2,h3,h4⟩:=aac hj
 have hl:=r.length
 have hn:=a4p
 have I':Inv X pins σ (upd H p (.lst (xs.set j v))) { s with heap:=s.heap.update p (Obj.mapSeq (·.setIfInBounds j u)) } :=
  I.lstUpd hp ho (ad3 its n j u) (r.set rv j) (by rw [List.length_set];exact hz) s.toks
 by_cases h0:0≤k
 ·have hk:k.toNat=j:=by
   rw [seqIndex_of h0 h4] at h1
   exact Option.some.inj h1
  exact PySem.W.ki_setAt ho h0 (by omega) (by rw [List.size_toArray,← hl];exact h4) (by rw [hk];exact ⟨_,I',q⟩)
 ·have hk:(k+(its.toArray.size:Int)).toNat=j:=by
   rw [seqIndex_neg (by omega) h3] at h1
   rw [List.size_toArray,← hl]
   exact Option.some.inj h1
  exact PySem.W.ki_setBack ho (by omega) (by rw [List.size_toArray,← hl];exact h3) (by omega) (by rw [hk];exact ⟨_,I',q⟩)
theorem a8p (lo hi:Option Int) (n:Nat):(sliceBounds lo hi none n).1=((HT.sIx n 0 lo:Nat):Int)∧(sliceBounds lo hi none n).2.1=((HT.sIx n n hi:Nat):Int)∧(sliceBounds lo hi none n).2.2=1:=by
 refine ⟨?_,?_,rfl⟩
 ·cases lo with
  | none=>simp [sliceBounds,HT.sIx]
  | some i =>
   simp only [sliceBounds,HT.sIx,Option.getD_none,show (1:Int) > 0 by decide,if_true]
   by_cases h:i<0
   ·simp only [h,if_true]<;>omega
   ·simp only [h,if_false]<;>omega
 ·cases hi with
  | none=>simp [sliceBounds,HT.sIx]
  | some i =>
   simp only [sliceBounds,HT.sIx,Option.getD_none,show (1:Int) > 0 by decide,if_true]
   by_cases h:i<0
   ·simp only [h,if_true]<;>omega
   ·simp only [h,if_false]<;>omega
theorem a7f (its:List Value) (lo hi:Option Int):slicePick its.toArray lo hi none=((its.drop (HT.sIx its.length 0 lo)).take (HT.sIx its.length its.length hi - HT.sIx its.length 0 lo)).toArray:=by
 obtain ⟨h1,h2,h3⟩:=a8p lo hi its.toArray.size
 unfold slicePick
 rw [h1,h2,h3]
 simp only [sliceRange_one,pick_run,List.size_toArray]<;>rfl
def aup (K:PySem.W.Frag):V→Option Int→Option Int→Hp→VK→Prop:=fun x lo hi H Q=>∃ a xs,x = .ref a∧SqL K H a xs∧∀ p,H p=none→Q (.ref p) (upd H p (.lst (ajo xs lo hi)))
theorem alc:SlR X (aup X.K):=by
 intro pins s σ H x v vl vu lo hi sl Q I rx hs pl pu h
 obtain ⟨a,xs,rfl,hx,q⟩:=h
 cases rx
 obtain ⟨its,r,ht,hz⟩:=I.list hx
 have hlen:=r.length
 refine ⟨"list",_,slot_list_getitem.lookup,ht.isList.typeIs,?_⟩
 refine wpAny_getItem_list_slice ht.isList hs pl pu .none (by simp) ?_ (by rw [List.size_toArray]<;>omega)
 rw [a7f,← hlen]
 refine ⟨.ref s.heap.objs.size,_,I.laid (t':=s.toks) (o:=.lst (ajo xs lo hi)) (fun b ob q=>Heap.get?_push_of_some _ q) (Nat.le_refl _) ?_,rfl,q _ (I.hok.fresh (Nat.le_refl _))⟩
 exact ⟨Nat.le_trans (a5r xs lo hi) hz,_,0,(r.drop (HT.sIx xs.length 0 lo)).take (HT.sIx xs.length xs.length hi - HT.sIx xs.length 0 lo),Heap.get?_push_size _ rfl⟩
def a2o:V→Bool
 | .non=>true
 | .bl _=>true
 | .int _=>true
 | .str _=>true
 | _=>false
def eqV:V→V→Bool
 | .non, .non=>true
 | .bl a, .bl b=>a == b
 | .bl a, .int b=>(if a then 1 else 0) == b
 | .int a, .bl b=>a == (if b then 1 else 0)
 | .int a, .int b=>a == b
 | .str a, .str b=>a == b
 | _,_=>false
theorem aef {A:Around} {s:Shared} {y x:V} {u v:Value} (ry:RelV y u) (rx:RelV x v) (fy:a2o y=true) (fx:a2o x=true):SeqAt.EqAt A s u v (eqV y x):=by
 cases y with
 | non =>
  cases ry
  cases x with
  | non=>cases rx;exact SeqAt.EqAt.same _
  | bl b=>cases rx;exact SeqAt.EqAt.none_bool b
  | int b=>obtain ⟨t,rfl⟩:=rx;exact SeqAt.EqAt.none_int b t
  | str b=>obtain ⟨t,rfl⟩:=rx;exact SeqAt.EqAt.none_str b t
  | _=>exact absurd (show false=true from fx) Bool.false_ne_true
 | bl a =>
  cases ry
  cases x with
  | non=>cases rx;exact SeqAt.EqAt.bool_none a
  | bl b=>cases rx;exact SeqAt.EqAt.bool_bool a b
  | int b=>obtain ⟨t,rfl⟩:=rx;exact SeqAt.EqAt.bool_int a b t
  | str b=>obtain ⟨t,rfl⟩:=rx;exact SeqAt.EqAt.bool_str a b t
  | _=>exact absurd (show false=true from fx) Bool.false_ne_true
 | int a =>
  obtain ⟨t',rfl⟩:=ry
  cases x with
  | non=>cases rx;exact SeqAt.EqAt.int_none a t'
  | bl b=>cases rx;exact SeqAt.EqAt.int_bool a t' b
  | int b=>obtain ⟨t,rfl⟩:=rx;exact SeqAt.EqAt.int_int a t' b t
  | str b=>obtain ⟨t,rfl⟩:=rx;exact SeqAt.EqAt.int_str a t' b t
  | _=>exact absurd (show false=true from fx) Bool.false_ne_true
 | str a =>
  obtain ⟨t',rfl⟩:=ry
  cases x with
  | non=>cases rx;exact SeqAt.EqAt.str_none a t'
  | bl b=>cases rx;exact SeqAt.EqAt.str_bool a t' b
  | int b=>obtain ⟨t,rfl⟩:=rx;exact SeqAt.EqAt.str_int a t' b t
  | str b=>obtain ⟨t,rfl⟩:=rx;exact SeqAt.EqAt.str_str a t' b t
  | _=>exact absurd (show false=true from fx) Bool.false_ne_true
 | _=>exact absurd (show false=true from fy) Bool.false_ne_true
def eqU (x:V) (u:Value):Bool:=match u with
 | .none=>eqV .non x
 | .bool b=>eqV (.bl b) x
 | .int i _=>eqV (.int i) x
 | .str z _=>eqV (.str z) x
 | _=>false
theorem ajp {x y:V} {u:Value} (r:RelV y u) (f:a2o y=true):eqU x u=eqV y x:=by
 cases y with
 | non=>cases r;rfl
 | bl b=>cases r;rfl
 | int i=>obtain ⟨t,rfl⟩:=r;rfl
 | str z=>obtain ⟨t,rfl⟩:=r;rfl
 | _=>exact absurd (show false=true from f) Bool.false_ne_true
theorem a5s {x:V}:∀ {xs:List V} {us:List Value},Vals xs us→xs.all a2o=true→us.any (eqU x)=xs.any fun y=>eqV y x
 | _,_, .nil,_=>rfl
 | y::xs,u::us, .cons r t,f=>by
  rw [List.all_cons,Bool.and_eq_true] at f
  rw [List.any_cons,List.any_cons,ajp r f.1,a5s t f.2]
theorem a3b {A:Around} {s:Shared} {x:V} {v:Value} (rx:RelV x v) (fx:a2o x=true):∀ {xs:List V} {us:List Value},Vals xs us→xs.all a2o=true→∀ u∈us,SeqAt.EqAt A s u v (eqU x u)
 | _,_, .nil,_=>fun u hu=>by cases hu
 | y::xs,u::us, .cons r t,f=>fun u' hu=>by
  rw [List.all_cons,Bool.and_eq_true] at f
  rcases List.mem_cons.mp hu with rfl | hu
  ·rw [ajp r f.1];exact aef r rx f.1 fx
  ·exact a3b rx fx t f.2 u' hu
def inV (x:V) (xs:List V):Bool:=xs.any fun y=>eqV y x
def rIn (K:PySem.W.Frag) (neg:Bool):R2:=fun x y H Q=>∃ p xs,y = .ref p∧(SqL K H p xs∨SqT K H p xs)∧a2o x=true∧xs.all a2o=true∧Q (.bl (if neg then !inV x xs else inV x xs)) H
theorem aeg:OpR X (compareOp .In) (rIn X.K false):=by
 intro pins s σ H x y v u Q I rx ry h
 obtain ⟨p,xs,rfl,hq,fx,fs,q⟩:=h
 cases ry
 rcases hq with hq | hq
 ·obtain ⟨its,r,pl,hz⟩:=I.list hq
  refine SeqAt.in_listAt (eqU x) pl.isList (fun w hw=>a3b rx fx r fs w (by simpa using hw)) ⟨.bl _,H,I,rfl,?_⟩
  rw [show its.toArray.any (eqU x)=its.any (eqU x) by simp,a5s r fs]
  exact q
 ·obtain ⟨its,r,pl,hz⟩:=I.tuple hq
  refine SeqAt.in_tupleAt (eqU x) pl (fun w hw=>a3b rx fx r fs w (by simpa using hw)) ⟨.bl _,H,I,rfl,?_⟩
  rw [show its.toArray.any (eqU x)=its.any (eqU x) by simp,a5s r fs]
  exact q
theorem a4q:OpR X (compareOp .NotIn) (rIn X.K true):=by
 intro pins s σ H x y v u Q I rx ry h
 obtain ⟨p,xs,rfl,hq,fx,fs,q⟩:=h
 cases ry
 rcases hq with hq | hq
 ·obtain ⟨its,r,pl,hz⟩:=I.list hq
  refine SeqAt.notIn_listAt (eqU x) pl.isList (fun w hw=>a3b rx fx r fs w (by simpa using hw)) ⟨.bl _,H,I,rfl,?_⟩
  rw [show its.toArray.any (eqU x)=its.any (eqU x) by simp,a5s r fs]
  exact q
 ·obtain ⟨its,r,pl,hz⟩:=I.tuple hq
  refine SeqAt.notIn_tupleAt (eqU x) pl (fun w hw=>a3b rx fx r fs w (by simpa using hw)) ⟨.bl _,H,I,rfl,?_⟩
  rw [show its.toArray.any (eqU x)=its.any (eqU x) by simp,a5s r fs]
  exact q
theorem bw:CallR X (.builtin "len") (fun xs H Q=>∃ p ys,xs=[.ref p]∧(SqL X.K H p ys∨SqT X.K H p ys)∧Q (.int ys.length) H):=by
 intro pins s σ H xs us Q I r h
 obtain ⟨p,ys,rfl,hq,q⟩:=h
 obtain ⟨u,rfl,rx⟩:=vals1 r
 cases rx
 have hn:=a4p
 rcases hq with hq | hq
 ·obtain ⟨its,r',pl,hz⟩:=I.list hq
  have hlen:=r'.length
  exact Calls.call_len_list pl.isList (by simp only [List.size_toArray]<;>omega) ⟨.int ys.length,H,I.tok _,⟨s.toks+1,by rw [List.size_toArray,hlen]⟩,q⟩
 ·obtain ⟨its,r',pl,hz⟩:=I.tuple hq
  have hlen:=r'.length
  exact len_tuple pl (by simp only [List.size_toArray]<;>omega) ⟨.int ys.length,H,I.tok _,⟨s.toks+1,by rw [List.size_toArray,hlen]⟩,q⟩
theorem bx:CallR X (.builtin "len") (fun xs H Q=>∃ z,xs=[.str z]∧z.length≤sizeLine∧Q (.int z.length) H):=by
 intro pins s σ H xs us Q I r h
 obtain ⟨z,rfl,hz,q⟩:=h
 obtain ⟨u,rfl,t,rfl⟩:=vals1 r
 have hn:=a4p
 exact len_str (by omega) ⟨.int z.length,H,I.tok _,⟨_,rfl⟩,q⟩
theorem CallR.or {f:Value} {r r':List V→Hp→VK→Prop} (h:CallR X f r) (h':CallR X f r'):CallR X f (fun xs H Q=>r xs H Q∨r' xs H Q):=by
 intro pins s σ H xs us Q I rs q
 rcases q with q | q
 ·exact h pins s σ H xs us Q I rs q
 ·exact h' pins s σ H xs us Q I rs q
theorem yx:CallR X (.type "list") (fun xs H Q=>∃ p ys,xs=[.ref p]∧(SqL X.K H p ys∨SqT X.K H p ys)∧∀ l,H l=none→Q (.ref l) (upd H l (.lst ys))):=by
 intro pins s σ H xs us Q I r h
 obtain ⟨p,ys,rfl,hq,q⟩:=h
 obtain ⟨u,rfl,rx⟩:=vals1 r
 cases rx
 have fin:∀ (its:List Value),Vals ys its→ys.length≤sizeLine→∀ (h':Heap) (c':Nat),(∀ b o',s.heap.get? b=some o'→h'.get? b=some o') →
   h'.get? s.heap.objs.size=some { cls:=.type "list",dict:=none,data:=.seq its.toArray c',slots := #[] }→EP X pins σ Q (.ref s.heap.objs.size) { s with heap:=h' }:=fun its r' hz h' c' kp e =>
  ⟨.ref s.heap.objs.size,_,I.laid (t':=s.toks) kp (Nat.le_refl _) (show ObjOk X.prog X.w _ h' _ (.lst ys) from ⟨hz,its,c',r',e⟩),rfl,q _ (I.hok.fresh (Nat.le_refl _))⟩
 rcases hq with hq | hq
 ·obtain ⟨its,r',pl,hz⟩:=I.list hq
  have hlen:=r'.length
  obtain ⟨o,ho,hc,n,hd⟩:=pl.isList
  exact call_list_seq p (.inl rfl) ho hc hd (fun h' c' kp e=>fin its r' hz h' c' kp e) (by simp only [List.size_toArray]<;>omega)
 ·obtain ⟨its,r',pl,hz⟩:=I.tuple hq
  have hlen:=r'.length
  obtain ⟨o,ho,hc,n,hd⟩:=pl
  exact call_list_seq p (.inr rfl) ho hc hd (fun h' c' kp e=>fin its r' hz h' c' kp e) (by simp only [List.size_toArray]<;>omega)
theorem xq:CallR X (.type "tuple") (fun xs H Q=>∃ p ys,xs=[.ref p]∧((SqL X.K H p ys∧∀ l,H l=none→Q (.ref l) (upd H l (.tup ys)))∨(SqT X.K H p ys∧Q (.ref p) H))):=by
 intro pins s σ H xs us Q I r h
 obtain ⟨p,ys,rfl,h⟩:=h
 obtain ⟨u,rfl,rx⟩:=vals1 r
 cases rx
 rcases h with ⟨hq,q⟩ | ⟨hq,q⟩
 ·obtain ⟨its,r',pl,hz⟩:=I.list hq
  have hlen:=r'.length
  refine call_tuple_list pl.isList (fun h' kp=>?_) (by simp only [List.size_toArray]<;>omega)
  have I1:Inv X pins σ H { s with heap:=h' }:=I.kept (t':=s.toks) kp
  have I2:Inv X pins σ (upd H h'.objs.size (.tup ys)) { s with heap:=h'.push { cls:=.type "tuple",data:=.seq its.toArray } } :=
   I1.laid (t':=s.toks) (fun b o e=>Heap.get?_push_of_some _ e) (Nat.le_refl _) (show ObjOk X.prog X.w _ _ _ (.tup ys) from ⟨hz,its,r',IsTup.new _ _⟩)
  exact ⟨.ref h'.objs.size,_,I2,rfl,q _ (I1.hok.fresh (Nat.le_refl _))⟩
 ·obtain ⟨its,r',pl,hz⟩:=I.tuple hq
  exact call_tuple_same pl ⟨.ref p,H,I,rfl,q⟩
def tyV (K:PySem.W.Frag) (T:String) (x:V) (H:Hp):Prop:=match x with
 | .str _=>T = "str"
 | .int _=>T = "int"
 | .ref p=>(T = "list"∧∃ xs,SqL K H p xs)∨(T = "tuple"∧∃ o,K.lookup p=some o∧o.cls = .type "tuple"∧o.dict=none) ∨
   (T = "dict"∧((∃ kvs,H p=some (.dK kvs))∨∃ kvs,H p=some (.dT kvs)))∨(T = "set"∧∃ S n,H p=some (.set S n))
 | _=>False
theorem apb {pins:List (Addr × Obj)} {σ:St} {H:Hp} {s:Shared} {T:String} {x:V} {v:Value} (I:Inv X pins σ H s) (r:RelV x v) (ty:tyV X.K T x H) :
  s.TypeIs v T∧∀ a,v = .ref a→∃ ob,s.heap.get? a=some ob∧ob.dict=none:=by
 cases x with
 | str z =>
  obtain ⟨t,rfl⟩:=r
  cases (show T = "str" from ty)
  exact ⟨typeIs_str s z t,fun _ e=>nomatch e⟩
 | int i =>
  obtain ⟨t,rfl⟩:=r
  cases (show T = "int" from ty)
  exact ⟨typeIs_int s i t,fun _ e=>nomatch e⟩
 | ref p =>
  cases r
  rcases ty with ⟨rfl,xs,hq⟩ | ⟨rfl,o,hk,hc,hd⟩ | ⟨rfl,hk⟩ | ⟨rfl,S,n,hk⟩
  ·obtain ⟨its,_,pl,_⟩:=I.list hq
   refine ⟨pl.isList.typeIs,fun a e=>?_⟩
   cases e
   obtain ⟨o,n,e,c,hd,_⟩:=pl
   exact ⟨o,e,hd⟩
  ·refine ⟨⟨o,I.kIn p o hk,hc⟩,fun a e=>?_⟩
   cases e
   exact ⟨o,I.kIn _ o hk,hd⟩
  ·have z:∃ o,s.heap.get? p=some o∧o.ExactDict:=by
    rcases hk with ⟨kvs,hk⟩ | ⟨kvs,hk⟩
    ·obtain ⟨_,_,_,_,o,_,_,e,ex,_⟩:=I.hok p _ hk
     exact ⟨o,e,ex⟩
    ·obtain ⟨_,_,_,_,o,_,_,e,ex,_⟩:=I.hok p _ hk
     exact ⟨o,e,ex⟩
   obtain ⟨o,e,ex⟩:=z
   refine ⟨⟨o,e,ex.1⟩,fun a e2=>?_⟩
   cases e2
   exact ⟨o,e,ex.2.1⟩
  ·obtain ⟨o,_,_,_,e,ex,_⟩:=I.hok p _ hk
   refine ⟨⟨o,e,ex.1⟩,fun a e2=>?_⟩
   cases e2
   exact ⟨o,e,ex.2.1⟩
 | _=>exact False.elim ty
def tBM (K:PySem.W.Frag) (T:String) (r:V→List V→Hp→VK→Prop) (to:TE) (t:TA):TE:=fun σ H Q=>to σ H fun x H1=>tyV K T x H1∧t σ H1 fun xs H2=>r x xs H2 Q
variable {o e:Expr} {es:List Expr} {to:TE} {t:TA} {name:Str} {apos cpos:Pos} {T id:String} {r:V→List V→Hp→VK→Prop}
theorem auq (pa:PlainAttrs T) (slot:Slot T name id) (hty:typeOf (.builtin id)=pure (.type "method_descriptor")) (hm:MtR X id r) (ho:PE X o to) (ha:PA X (e::es) t)
  (hbase:attributeBase o name X.env (eval o X.env)=eval o X.env:=by rfl)
  (hfew:((backTo cpos (starEach (e::es) X.env)).all (fun x => !x.1) && (backToKw cpos (keywordEach [] X.env)).all (fun x=>x.1.isSome)
   && decide ((e::es).length+([]:List Keyword).length+(if ([]:List Keyword).isEmpty then 0 else 1)<30))=true:=by rfl)
  (hline:(apos.endLine == cpos.line)=true:=by rfl) (hs:starEach (e::es) X.env=(false,eval e X.env)::starEach es X.env:=by rfl) (hplain:(backTo cpos (starEach es X.env)).any (·.1)=false:=by rfl) :
  PE X (.Call (.Attribute o name apos) (e::es) [] cpos) (tBM X.K T r to t):=by
 intro pins s σ H Q I h
 refine wpAny_Call_method_late hbase hfew hline rfl (thn (ho pins s σ H _ I h) fun v s1 ⟨x,H1,I1,r1,ty,q1⟩=>?_)
 obtain ⟨h1,h2⟩:=apb I1 r1 ty
 refine ⟨T,id,pa,slot,hty,h1,h2,?_⟩
 have hA:=ha cpos pins s1 σ H1 _ I1 q1
 rw [hs] at hA ⊢
 refine Calls.callWith_builtin (by show (false || (backTo cpos (starEach es X.env)).any (·.1))=false;rw [hplain]<;>rfl) (Calls.evalArgs_plain ?_)
 exact thn hA fun us s2 ⟨vs,H2,I2,r2,q2⟩=>hm pins s2 σ H2 x vs v us Q I2 r1 r2 q2
end
end L2
namespace L2
open PySem PySem.Spec PyProof.Rows
def MtM (X:Cx) (id:String) (r:V→List V→Hp→VK→Prop):Prop :=
 ∀ (pins:List (Addr × Obj)) (s:Shared) (σ:St) (H:Hp) (x:V) (xs:List V) (v:Value) (us:List Value) (Q:VK),Inv X pins σ H s→RelV x v→Vals xs us→r x xs H Q →
  wpAny (model X.prog X.w) X.A (call (.builtin id) (v::us)) (EP X pins σ Q) X.xe s
theorem Vals.one:∀ {x:V} {us:List Value},Vals [x] us→∃ u,us=[u]∧RelV x u
 | _,_, .cons r .nil=>⟨_,rfl,r⟩
theorem Vals.eraseIdx:∀ {xs:List V} {us:List Value} (i:Nat),Vals xs us→Vals (xs.eraseIdx i) (us.eraseIdx i)
 | _,_,_, .nil=>.nil
 | _,_,0, .cons _ t=>t
 | _,_,i+1, .cons r t=>.cons r (Vals.eraseIdx i t)
theorem Vals.rep {xs:List V} {us:List Value} (h:Vals xs us):∀ k:Nat,Vals (List.replicate k xs).flatten (List.replicate k us).flatten
 | 0=>.nil
 | k+1=>by
  rw [List.replicate_succ,List.replicate_succ,List.flatten_cons,List.flatten_cons]
  exact Vals.append h (Vals.rep h k)
theorem a8q {α:Type}:∀ (l:List α) (i:Nat),(l.eraseIdx i).length≤l.length
 | [],_=>Nat.le_refl _
 | _::_,0=>Nat.le_succ _
 | _::r,i+1=>Nat.succ_le_succ (a8q r i)
theorem foldl_rep (its:List Value):∀ (k:Nat) (acc:List Value),
  List.foldl (fun x1 x2=>x1++x2) acc.toArray (List.replicate k its.toArray)=(acc++(List.replicate k its).flatten).toArray
 | 0,acc=>by simp
 | k+1,acc=>by
  have e:acc.toArray++its.toArray=(acc++its).toArray:=by simp
  have e2:(acc++its)++(List.replicate k its).flatten=acc++(List.replicate (k+1) its).flatten:=by
   rw [List.replicate_succ,List.flatten_cons,List.append_assoc]
  rw [← e2,← foldl_rep its k (acc++its),← e,List.replicate_succ,List.foldl_cons]
section
variable {X:Cx} {pins:List (Addr × Obj)} {σ:St} {H:Hp} {s:Shared} {l b:Addr} {xs ys zs:List V}
theorem Inv.lset {its its':List Value} {n:Nat} {f:Array Value→Array Value} {t':Nat} (I:Inv X pins σ H s) (hH:H l=some (.lst xs))
  (e:s.heap.get? l=some { cls:=.type "list",data:=.seq its.toArray n }) (hf:f its.toArray=its'.toArray) (hv:Vals ys its') (hz:ys.length≤sizeLine) :
  Inv X pins σ (upd H l (.lst ys)) { s with heap:=s.heap.update l (Obj.mapSeq f),toks:=t' }:=by
 have q:=PySem.IsL.update e f
 rw [hf] at q
 refine I.write (x:=l) (e:=l) (by rw [hH];exact trivial) (.inl rfl) (fun b' u hb hu=>(Heap.get?_update_other s.heap (Obj.mapSeq f) (Ne.symm hb)).trans hu) ⟨_,q⟩ ?_
 exact ⟨hz,its',_,hv,q⟩
theorem Inv.lnew {its:List Value} {t':Nat} (I:Inv X pins σ H s) (hv:Vals ys its) (hz:ys.length≤sizeLine) :
  Inv X pins σ (upd H s.heap.objs.size (.lst ys)) { s with heap:=s.heap.push { cls:=.type "list",data:=.seq its.toArray },toks:=t' } :=
 I.laid (fun _ _ q=>Heap.get?_push_of_some _ q) (Nat.le_refl _) ⟨hz,its,0,hv,Heap.get?_push_size _ rfl⟩
theorem Inv.fresh (I:Inv X pins σ H s):H s.heap.objs.size=none:=I.hok.fresh (Nat.le_refl _)
theorem Inv.lstM (I:Inv X pins σ H s) (hH:H l=some (.lst xs)):xs.length≤sizeLine∧∃ (its:List Value) (n:Nat),Vals xs its∧xs.length=its.length∧s.heap.get? l=some { cls:=.type "list",data:=.seq its.toArray n }:=by
 obtain ⟨z,its,n,r,e⟩:=I.hok l _ hH
 exact ⟨z,its,n,r,r.length,e⟩
theorem a5h {n:Nat} (h:n≤sizeLine):Builtin.List.listTooLong n=false:=by
 unfold Builtin.List.listTooLong
 exact decide_eq_false (by omega)
end
section
variable {X:Cx}
def aeh:V→List V→Hp→VK→Prop:=fun x vs H Q=>∃ l xs y,x = .ref l∧vs=[y]∧H l=some (.lst xs)∧xs.length<sizeLine∧Q .non (upd H l (.lst (xs++[y])))
theorem a1b:MtM X "list.append" aeh:=by
 intro pins s σ H x vs v us Q I rx rv h
 obtain ⟨l,xs,y,rfl,rfl,hH,hz,q⟩:=h
 cases rx
 obtain ⟨u,rfl,ru⟩:=rv.one
 obtain ⟨z,its,n,r,hl,e⟩:=I.lstM hH
 refine call_meets F.slot_list_append ⟨_,e,rfl⟩ F.entry_list_append (F.args_list_append_2 _ _) (PySem.list_append l its.toArray n u (by rw [List.size_toArray];omega)) ⟨e,?_⟩
 refine ⟨.non,_,I.lset (its':=its++[u]) hH e (by simp) (r.append (.cons ru .nil)) ?_,rfl,q⟩
 rw [List.length_append,List.length_singleton]
 omega
def ajq:V→List V→Hp→VK→Prop:=fun x vs H Q=>∃ l xs i k y,x = .ref l∧vs=[.int i]∧H l=some (.lst xs) ∧ -(2 ^ 63)≤i∧i<2 ^ 63∧seqIndex? i xs.length=some k∧xs[k]? = some y∧Q y (upd H l (.lst (xs.eraseIdx k)))
theorem abf:MtM X "list.pop" ajq:=by
 intro pins s σ H x vs v us Q I rx rv h
 obtain ⟨l,xs,i,k,y,rfl,rfl,hH,h1,h2,hk,hy,q⟩:=h
 cases rx
 obtain ⟨u,rfl,ru⟩:=rv.one
 obtain ⟨t,rfl⟩:=ru
 obtain ⟨z,its,n,r,hl,e⟩:=I.lstM hH
 obtain ⟨w,hw,rw'⟩:=r.get hy
 refine call_meets F.slot_list_pop ⟨_,e,rfl⟩ F.entry_list_pop (F.args_list_pop_2 _ _)
  (MeetsSeq.list_pop_at l its.toArray n i t k w (fitsIndex_both h1 h2) (by rw [List.size_toArray,← hl];exact hk) (by rw [← Array.getElem?_toList];exact hw) (by rw [List.size_toArray];omega)) ⟨e,?_⟩
 refine ⟨y,_,I.lset (its':=its.eraseIdx k) hH e ?_ (r.eraseIdx k) ?_,rw',q⟩
 ·show its.toArray.eraseIdxIfInBounds k=(its.eraseIdx k).toArray
  rw [List.eraseIdxIfInBounds_toArray]
 ·have:=a8q xs k
  omega
def aur:R2:=fun x y H Q=>∃ l k xs,x = .ref l∧y = .int k∧H l=some (.lst xs) ∧ -(2 ^ 63)≤k∧k<2 ^ 63∧xs.length*k.toNat≤sizeLine ∧
 ∀ p,H p=none→Q (.ref p) (upd H p (.lst (List.replicate k.toNat xs).flatten))
theorem len_rep {α:Type} (xs:List α) (k:Nat):(List.replicate k xs).flatten.length=k*xs.length:=by
 induction k with
 | zero=>simp
 | succ k ih=>rw [List.replicate_succ,List.flatten_cons,List.length_append,ih,Nat.succ_mul,Nat.add_comm]
theorem apc:OpR X (binaryOp .Mult) aur:=by
 intro pins s σ H x y v u Q I rx ry h
 obtain ⟨l,k,xs,rfl,rfl,hH,h1,h2,hz,q⟩:=h
 cases rx
 obtain ⟨t,rfl⟩:=ry
 obtain ⟨z,its,n,r,hl,e⟩:=I.lstM hH
 have hlen:its.toArray.size*k.toNat≤sizeLine:=by rw [List.size_toArray,← hl];exact hz
 have hcap:¬ its.toArray.size*k.toNat > (2 ^ 63 - 1) / 8:=by
  have:(sizeLine:Nat)≤(2 ^ 63 - 1) / 8:=by decide
  omega
 have hfit:¬ (!Builtin.List.listFitsIndex k)=true:=by
  rw [fitsIndex_both h1 h2]
  exact Bool.false_ne_true
 have hlong:¬ Builtin.List.listTooLong (its.toArray.size*k.toNat)=true:=by
  rw [a5h hlen]
  exact Bool.false_ne_true
 have hnew:List.foldl (fun x1 x2=>x1++x2) #[] (List.replicate (if its.toArray.isEmpty=true then 0 else k.toNat) its.toArray)=(List.replicate k.toNat its).flatten.toArray:=by
  have f0:∀ m:Nat,List.foldl (fun x1 x2=>x1++x2) #[] (List.replicate m its.toArray)=(List.replicate m its).flatten.toArray:=fun m=>by
   have:=foldl_rep its m []
   rw [List.nil_append] at this
   exact this
  rw [f0]
  cases its with
  | nil=>simp
  | cons a r'=>rw [if_neg (by simp)]
 refine wpAny_binaryOp_repeat_ref (T := "list") (U := "int") (by decide) ⟨_,e,rfl⟩ (fun s'=>typeIs_int s' k t) noFill_list_mul F.fills_int_mul F.slot_int_rmul repeat_list F.slot_int_index.lookup
  (call_meets F.slot_int_rmul (typeIs_int s k t) F.entry_int_rmul (F.args_int_rmul_2 _ _) (int___rmul___int_list k t l its.toArray n)
   ⟨e,rfl,⟨_,e,rfl⟩,call_meets F.slot_list_mul ⟨_,e,rfl⟩ F.entry_list_mul (F.args_list_mul_2 _ _) (AutoListH.list___mul___list_int_3 l its.toArray n k t hfit hcap hlong) ⟨e,?_⟩⟩)
 rw [hnew]
 exact ⟨.ref _,_,I.lnew (t':=s.toks) (r.rep k.toNat) (by rw [len_rep,Nat.mul_comm];exact hz),rfl,q _ I.fresh⟩
end
end L2
namespace Att
open PySem PySem.W PySem.Calls PyProof.Rows
theorem a5t {P:Params} {h:Heap}:∀ (ns:List Int) (vs:List Value),WellAll P h vs (ns.map WData.int)→IntsAre vs ns:=by
 intro ns
 induction ns with
 | nil =>
  intro vs w
  rw [List.map_nil] at w
  cases w
  exact .nil
 | cons n ns ih =>
  intro vs w
  rw [List.map_cons] at w
  cases w with
  | cons a b =>
   cases a
   exact .cons _ _ (ih _ b)
theorem aei {l:OpenLaw} {n:Nat} (hn:l.most=some n) {P:Params} {h:Heap} {args:List WData} {vals:List Value}
  (hpre:l.row.toRowW.claim.pre args=true) (hwl:WellAll P h vals args) :
  ∃ a vs ns,vals=[Value.ref a]∧args=[WData.list (ns.map WData.int)]∧h.get? a=some { cls:=.type "list",data:=.seq vs.toArray }∧IntsAre vs ns∧ns.length≤n:=by
 have hsh:WShape.hasAll [] args [.list .int]=true:=(pre_splitW hpre).1
 have hc:l.pre.holds [] { args:=args }=true:=(pre_splitW hpre).2
 obtain ⟨d,r,rfl,h1,h2⟩:=hasAllW_cons hsh
 obtain rfl:=hasAllW_nil h2
 obtain ⟨xs,rfl,h3⟩:=hasW_list h1
 obtain ⟨ns,rfl⟩:=items_int h3
 have hlen:ns.length≤n:=by
  unfold OpenLaw.pre at hc
  have h4:(WTm.not (.lt (.lit (.int (n:Int))) (.len (.arg 0)))).holds [] { args:=[.list (ns.map .int)] }=true:=by
   have h4:=(holds_andW hc).1
   rw [hn] at h4
   exact h4
  have h5:=condW_of h4 (w_not (w_lt w_lit (w_len_list (w_arg rfl))))
  rw [List.length_map] at h5
  refine Nat.le_of_not_lt fun q=>?_
  have q':(n:Int)<((ns.length:Nat):Int):=by omega
  first
   | (rw [decide_eq_true q'] at h5;exact absurd h5 (by decide))
   | (simp at h5;omega)
 cases hwl with
 | cons w1 w2 =>
  cases w2
  cases w1 with
  | list ho hall=>exact ⟨_,_,ns,rfl,rfl,ho,a5t ns _ hall,hlen⟩
theorem aej (l:OpenLaw) (args:List WData):l.row.toRowW.claim.post args (.bool true) args=true :=
 postW_of (r:=l.row.toRowW) (X:=(true == true))
  (show WShape.has [] (.bool true) .bool=true by first | rfl | decide | simp [WShape.has,WShape.arms,WShape.armsAll])
  (show (WTm.eq .res (.lit (.bool true))).value [] { args:=args,res:=some (.bool true),after:=args }=some (.bool (true == true)) from w_eq_bool (w_res rfl) w_lit) rfl
theorem aae {l:OpenLaw} {n:Nat} {q:Program} {loose:List Str} {XP:(Str→Option Value)→Heap→Prop} {YP:World→Heap→Prop} {d:DefRec}
  (hn:l.most=some n) (hdf:d.params.defaults=[])
  (call:∀ (w:World) (s₀ s₁:Shared) (mg mb:Str→Option Value) (fa:Addr) (o:Obj) (pm cd doc:Value) (a:Addr) (vs:List Value) (ns:List Int),
   Ground q loose [] XP w s₀ mg mb s₁.heap→YP w s₁.heap →
   s₁.heap.get? fa=some o→o.data = .func (docDef d.name d.params d.body d.scope pm cd doc)→s₁.heap.CodeRec cd d.name→mg d.name=some (.ref fa) →
   s₁.heap.get? a=some { cls:=.type "list",data:=.seq vs.toArray }→IntsAre vs ns→ns.length≤n→s₁.gens = #[] →
   codeAny (model l.prog w) callerA (.call (.ref fa) ⟨[.ref a],[]⟩) (fun r s'=>r = .ok (.ret (.bool true))∧OldK s₁.heap s'.heap∧s'.os=s₁.os∧AllBare s'.gens) s₁) :
  WalkO q loose XP YP l.row.toRowW d [] (fun f vs=>PySem.call f vs):=by
 intro w s₀ s₁ mg mb G Y fa o pm cd doc dV kV ho hd hcd hD hmg hg args vals as hpre hlay hrd hwl hlo
 obtain rfl:dV = .none:=Dflts.none hD hdf
 obtain rfl:kV = .none:=Dflts.noKw hD
 obtain ⟨a,vs,ns,rfl,rfl,hobj,hints,hlen⟩:=aei hn hpre hwl
 refine enter_call (codeAny_mono (call w s₀ s₁ mg mb fa o pm cd doc a vs ns G Y ho (fd_plain hd) hcd hmg hobj hints hlen hg) fun r s' hq=>?_)
 obtain ⟨rfl,h2,h3,h4⟩:=hq
 exact ⟨.inl ⟨.bool true, .bool true,[],rfl,fun _=>rfl, .bool true,aej l _,fun _=>⟨List.Pairwise.nil,fun _ hm=>(nomatch hm)⟩⟩,h2,h3,h4⟩
end Att
namespace L2
open PySem PySem.Spec PyProof.Rows
theorem a8r:∀ {vs:List Value} {ns:List Int},IntsAre vs ns→Vals (ns.map V.int) vs
 | _,_, .nil=>.nil
 | _,_, .cons n t h=>.cons ⟨t,rfl⟩ (a8r h)
def Only (H:Hp):Prop:=∀ b,H b=none∨∃ o xs,H b=some (.frz o (.lst xs))
theorem aho {P:Program} {w:World} {K:PySem.W.Frag} {mg mb:Str→Option Value} {CX:CXT} {k:Nat} {fa a:Addr} {fd:FuncData} {x:Str} {sp:Sp} {s₁:Shared} {vs:List Value} {ns:List Int}
  (KX:K.In s₁.heap) (hns:s₁.heap.Ns mainGlobals mg) (hb:s₁.heap.Ns builtinsNs mb) (hbb:∀ x:Str,x ≠ "__name__"→mb x=bootBuiltins x) (hlim:s₁.heap.NoLimit) (hg:s₁.gens = #[])
  (ha:s₁.heap.get? a=some { cls:=.type "list",data:=.seq vs.toArray }) (hi:IntsAre vs ns) (hl:ns.length≤sizeLine) (hr:Room k callerA)
  (F:∀ base:Heap,K.In base→base.Ns mainGlobals mg→FnOk P w K mg base CX k fa fd [x] sp) (hbind:∀ (s:Shared) (u:Value),BindsTo s fd ⟨[u],[]⟩ [(x,u)])
  (hsp:∀ H:Hp,Only H→SqL K H a (ns.map V.int)→sp [.ref a] H (fun v _=>v = .bl true) fun _ _ _=>False)
  (hCX:∀ H e s',CX [] H s₁ (fun _ _ _=>False) e s'→False) :
  codeAny (model P w) callerA (.call (.ref fa) ⟨[.ref a],[]⟩) (fun r s'=>r = .ok (.ret (.bool true))∧OldK s₁.heap s'.heap∧s'.os=s₁.os∧AllBare s'.gens) s₁:=by
 have rv:=a8r hi
 have lenV:=hi.length
 have core:∀ H:Hp,Only H→SqL K H a (ns.map V.int)→HOk P w H s₁.heap→(∀ b,H b≠none→b=a)→(H a≠none→K.lookup a=none) →
   codeAny (model P w) callerA (.call (.ref fa) ⟨[.ref a],[]⟩) (fun r s'=>r = .ok (.ret (.bool true))∧OldK s₁.heap s'.heap∧s'.os=s₁.os∧AllBare s'.gens) s₁:=by
  intro H hO hS hok hA hK
  have base_of:∀ {b:Addr} {o:Obj},s₁.heap.get? b=some o→H b=none→(ahb s₁.heap H).get? b=some o:=fun e n=>ahc e n
  have noA:∀ {b:Addr} {o:Obj} {es:Array DictEntry} {ep:Nat},s₁.heap.get? b=some o→o.data = .dict es ep→H b=none:=fun {b o es ep} e d=>by
   cases q:H b with
   | none=>rfl
   | some u =>
    have e':b=a:=hA b (by rw [q];simp)
    subst e'
    rw [ha] at e;cases e
    have d':Data.seq vs.toArray _=Data.dict es ep:=d
    cases d'
  have nsK:∀ {b:Addr} {m:Str→Option Value},s₁.heap.Ns b m→(ahb s₁.heap H).Ns b m:=fun {b m} ⟨o,es,ep,e,d,r⟩=>⟨o,es,ep,base_of e (noA e d),d,r⟩
  have hKb:K.In (ahb s₁.heap H):=fun b o e=>base_of (KX b o e) (by
   cases q:H b with
   | none=>rfl
   | some u =>
    have e':b=a:=hA b (by rw [q];simp)
    subst e'
    rw [hK (by rw [q];simp)] at e;cases e)
  have hM:Mod K mg (ahb s₁.heap H):=⟨hKb,nsK hns,⟨mb,nsK hb,hbb⟩,let ⟨mc,h1,h2⟩:=hlim; ⟨mc,nsK h1,h2⟩⟩
  have e0:Env0 P w K mg (ahb s₁.heap H) callerA [] s₁ H:=⟨rfl,hM,fun b o e=>aks e,Nat.le_of_eq (adw _ _),trivial,fun b hb=>absurd (show b∈([]:List Addr) from hb) (by simp),hok, .of_eq hg⟩
  refine codeAny_mono ((F _ hKb (nsK hns)).run callerA [] s₁ H ⟨[.ref a],[]⟩ [.ref a] [.ref a] _ _ hr e0 (hbind s₁ (.ref a)) (.cons rfl .nil) (hsp H hO hS)) fun r s' h=>?_
  cases r with
  | error e=>exact (hCX H e s' h).elim
  | ok fl =>
   cases fl with
   | next=>exact False.elim h
   | brk=>exact False.elim h
   | cont=>exact False.elim h
   | ret u =>
    obtain ⟨v,H',os,bare,un,hok',r',q⟩:=h
    have q':v = .bl true:=q
    subst q'
    obtain rfl:u=Value.bool true:=r'
    refine ⟨rfl,OldK.of_keep fun b o e=>?_,os,bare⟩
    cases q:H b with
    | none=>exact un.keep b o e q (by intro z;exact absurd (show b∈([]:List Addr) from z) (by simp)) (by simp)
    | some u =>
     rcases hO b with z | ⟨ob,xs,z⟩
     ·rw [q] at z;cases z
     ·have z2:=un.frzs b ob _ z
      obtain ⟨e1,_⟩:=hok b _ z
      obtain ⟨e2,_⟩:=hok' b _ z2
      rw [e] at e1;cases e1
      exact e2
 cases hk:K.lookup a with
 | some o =>
  have e:=KX a o hk
  rw [ha] at e
  cases e
  refine core (fun _=>none) (fun _=>.inl rfl) (.inr ⟨_,vs.toArray,_,hk,rfl,rfl,rfl,by rw [List.size_toArray,lenV];exact hl,by simpa using rv⟩) (fun b u z=>by have z':(none:Option HO)=some u:=z;cases z') (fun b z=>absurd rfl z) fun z=>absurd rfl z
 | none =>
  refine core (fun b=>if b=a then some (.frz { cls:=.type "list",data:=.seq vs.toArray } (.lst (ns.map V.int))) else none) (fun b=>?_) (.inl (.inr ⟨{ cls:=.type "list",data:=.seq vs.toArray },if_pos rfl⟩)) (fun b u z=>?_) (fun b z=>?_) fun _=>hk
  ·by_cases hb:b=a
   ·exact .inr ⟨_,_,if_pos hb⟩
   ·exact .inl (if_neg hb)
  ·by_cases hb:b=a
   ·have z':=(if_pos hb).symm.trans z
    cases z'
    subst hb
    exact ⟨ha,by rw [List.length_map];exact hl,vs,_,rv,ha⟩
   ·have z':=(if_neg hb).symm.trans z
    cases z'
  ·by_cases hb:b=a
   ·exact hb
   ·exact absurd (if_neg hb) z
end L2
namespace L2
open PySem PySem.Spec PyProof.Rows
theorem ald {l:PySem.W.OpenLaw} {n k:Nat} {q:Program} {loose:List Str} {XP:(Str→Option Value)→Heap→Prop} {YP:World→Heap→Prop} {d:DefRec} {K:Params→PySem.W.Frag} {CX:World→CXT} {sp:World→Sp} {x:Str}
  (hn:l.most=some n) (hn2:n≤sizeLine) (hdf:d.params.defaults=[]) (hr:Room k callerA)
  (hY:∀ (w:World) (h:Heap),YP w h→(K w.params).In h)
  (F:∀ (w:World) (mg:Str→Option Value) (fa:Addr) (h:Heap),(K w.params).In h→h.Ns mainGlobals mg→mg d.name=some (.ref fa) →
   ∃ fd:FuncData,(∀ (s:Shared) (u:Value),BindsTo s fd ⟨[u],[]⟩ [(x,u)]) ∧
    ∀ base:Heap,(K w.params).In base→base.Ns mainGlobals mg→FnOk l.prog w (K w.params) mg base (CX w) k fa fd [x] (sp w))
  (hsp:∀ (w:World) (H:Hp) (a:Addr) (ns:List Int),ns.length≤n→Only H→SqL (K w.params) H a (ns.map V.int)→sp w [.ref a] H (fun v _=>v = .bl true) fun _ _ _=>False)
  (hCX:∀ (w:World) (H:Hp) (s:Shared) (e:Value) (s':Shared),CX w [] H s (fun _ _ _=>False) e s'→False) :
  PySem.W.WalkO q loose XP YP l.row.toRowW d [] (fun f vs=>PySem.call f vs):=by
 refine Att.aae hn hdf fun w s₀ s₁ mg mb fa o pm cd doc a vs ns G Y ho hd hcd hmg hobj hints hlen hg=>?_
 have KX:=hY w _ Y
 obtain ⟨fd,hb,hF⟩:=F w mg fa _ KX G.T.g hmg
 exact aho KX G.T.g G.T.b G.T.builtins G.T.nolimit hg hobj hints (Nat.le_trans hlen hn2) hr hF hb (fun H hO hS=>hsp w H a ns hlen hO hS) fun H e s'=>hCX w H s₁ e s'
end L2
namespace L2
open PySem PySem.Spec PyProof.Rows
def a3w (s:Stmt):Arguments:=match s with
 | .FunctionDef _ a _ _ _ _ _ _ _ _=>a
 | _=>{ posonlyargs:=[],args:=[],vararg:=none,kwonlyargs:=[],kw_defaults:=[],kwarg:=none,defaults:=[] }
def g8 (s:Stmt):List Stmt:=match s with
 | .FunctionDef _ _ b _ _ _ _ _ _ _=>b
 | _=>[]
def au (s:Stmt):Scope:=match s with
 | .FunctionDef _ _ _ _ _ _ sc _ _ _=>sc
 | _=>{ kind:=.function,names:=[],isGenerator:=false,isCoroutine:=false }
abbrev CX0:CXT:=fun _ _ _ _ _ _=>False
abbrev E0:XK:=fun _ _ _=>False
theorem ale {X:Cx}:a8j CX0 X E0:=fun _ _ _ _ _ _ _ h=>h.elim
structure Fun (K:PySem.W.Frag) (x qual:Str) (st:Stmt) (f:Addr) (fd:FuncData):Prop where
 ex:∃ (oc:Value) (od:Option Addr) (kV doc pm:Value) (an:Option Addr) (cdv ct:Value) (osl:Array (Option Value)),
  fd=PySem.W.fnOf x qual (a3w st) (g8 st) (au st) .none kV doc pm an cdv ct∧K.lookup f=some ⟨oc,od, .func fd,osl⟩∧PySem.W.codeIn K cdv qual=true
 kp:PySem.W.keepIn K (.ref f)=true
section
variable {P:Program} {w:World} {K:PySem.W.Frag} {mg:Str→Option Value} {base:Heap}
theorem Fun.ok {x qual:Str} {st:Stmt} {f:Addr} {fd:FuncData} {N ps:List Str} {k:Nat} {sp:Sp} (F:Fun K x qual st f fd) (S:FnScope N ps (au st)) (len:∀ vs H Q E,sp vs H Q E→vs.length=ps.length)
  (hbody:∀ (cdv:Value) (A:Around) (outer:List Env) (s:Shared) (H:Hp) (vs:List V) (Q:VK) (E:XK),Room k (A.deeper (envOfC qual (au st) s.heap.objs.size f cdv))→sp vs H Q E →
   ∃ t,PSs (a00 CX0 P w K mg base N qual (au st) f cdv A outer s H E).nox (g8 st) t∧t { nx:=fun _ H'=>Q .non H',rt:=Q } (start N vs) H):FnOk P w K mg base CX0 (k+1) f fd ps sp:=by
 obtain ⟨oc,od,kV,doc,pm,an,cdv,ct,osl,rfl,lk,hcd⟩:=F.ex
 refine ap5 lk hcd S len fun A outer s H vs Q E hr hsp=>?_
 obtain ⟨t,h,q⟩:=hbody cdv A outer s H vs Q E hr hsp
 exact ⟨t,h.nox,q⟩
theorem Fun.binds {x qual:Str} {st:Stmt} {f:Addr} {fd:FuncData} {ps:List Str} (F:Fun K x qual st f fd)
  (h:∀ (kV doc pm:Value) (an:Option Addr) (cdv ct:Value) (us:List Value),us.length=ps.length→bindArgs (PySem.W.fnOf x qual (a3w st) (g8 st) (au st) .none kV doc pm an cdv ct) ⟨us,[]⟩=pure (ps.zip us)):Binds K fd ps []:=by
 obtain ⟨oc,od,kV,doc,pm,an,cdv,ct,osl,rfl,lk,hcd⟩:=F.ex
 exact .all (h kV doc pm an cdv ct)
theorem km {x qual:Str} {st:Stmt} {f:Addr} {oc:Value} {od an:Option Addr} {osl:Array (Option Value)} {kV doc pm cdv ct:Value} (l:K.lookup f=some ⟨oc,od, .func (PySem.W.fnOf x qual (a3w st) (g8 st) (au st) .none kV doc pm an cdv ct),osl⟩)
  (c:PySem.W.codeIn K cdv qual=true) (k:PySem.W.keepIn K (.ref f)=true):Fun K x qual st f (PySem.W.fnOf x qual (a3w st) (g8 st) (au st) .none kV doc pm an cdv ct):=⟨⟨oc,od,kV,doc,pm,an,cdv,ct,osl,rfl,l,c⟩,k⟩
end
end L2
namespace L2
open PySem PySem.Spec PyProof.Rows
section
variable {κ:Type} [DecidableEq κ]
def aa3 (kvs:List (κ × V)) (k:κ):Option V:=(kvs.find? fun kv=>decide (kv.1=k)).map (·.2)
def putK (kvs:List (κ × V)) (k:κ) (v:V):List (κ × V) :=
 if (kvs.any fun kv=>decide (kv.1=k))=true then kvs.map (fun kv=>if kv.1=k then (kv.1,v) else kv) else kvs++[(k,v)]
theorem a7g {p:κ × V} {r:List (κ × V)} {k:κ} (e:p.1=k):aa3 (p::r) k=some p.2:=by simp [aa3,List.find?_cons,e]
theorem a7h {p:κ × V} {r:List (κ × V)} {k:κ} (e:¬ p.1=k):aa3 (p::r) k=aa3 r k:=by simp [aa3,List.find?_cons,e]
theorem abg (k:κ):∀ kvs:List (κ × V),(kvs.any fun kv=>decide (kv.1=k))=(aa3 kvs k).isSome
 | []=>rfl
 | p::r=>by
  rw [List.any_cons]
  by_cases e:p.1=k
  ·simp only [a7g e,decide_eq_true e,Bool.true_or,Option.isSome_some]
  ·rw [a7h e,decide_eq_false e,Bool.false_or];exact abg k r
theorem a2p (kvs:List (κ × V)) (k:κ) (v:V):(putK kvs k v).length≤kvs.length+1:=by
 unfold putK
 split
 ·rw [List.length_map];omega
 ·rw [List.length_append,List.length_cons,List.length_nil];omega
theorem RelO.isSome_eq {o:Option V} {u:Option Value} (r:RelO o u):o.isSome=u.isSome:=by
 cases o with
 | none=>cases u with
  | none=>rfl
  | some _=>exact (show False from r).elim
 | some _=>cases u with
  | none=>exact (show False from r).elim
  | some _=>rfl
theorem KV.val {kvs:List (κ × V)} {vs:List (κ × Value)} (r:KV kvs vs) (k:κ):RelO (aa3 kvs k) (valueAt vs k):=by
 unfold KV at r
 induction r with
 | nil=>exact True.intro
 | @cons p q ps qs h t ih =>
  obtain ⟨h1,h2⟩:=h
  by_cases e:p.1=k
  ·have e':q.1=k:=h1.symm.trans e
   have b:valueAt (q::qs) k=some q.2:=by simp [valueAt,List.find?_cons,e']
   rw [a7g e,b];exact h2
  ·have e':¬ q.1=k:=fun z=>e (h1.trans z)
   have b:valueAt (q::qs) k=valueAt qs k:=by simp [valueAt,List.find?_cons,e']
   rw [a7h e,b];exact ih
theorem KV.any {kvs:List (κ × V)} {vs:List (κ × Value)} (r:KV kvs vs) (k:κ):(kvs.any fun kv=>decide (kv.1=k))=vs.any fun kv=>decide (kv.1=k):=by
 unfold KV at r
 induction r with
 | nil=>rfl
 | cons h t ih=>rw [List.any_cons,List.any_cons,ih,h.1]
theorem KV.repl {kvs:List (κ × V)} {vs:List (κ × Value)} (r:KV kvs vs) (k:κ) {y:V} {u:Value} (ry:RelV y u) :
  KV (kvs.map fun kv=>if kv.1=k then (kv.1,y) else kv) (vs.map fun kv=>if kv.1=k then (kv.1,u) else kv):=by
 unfold KV at r ⊢
 induction r with
 | nil=>exact .nil
 | @cons p q ps qs h t ih =>
  rw [List.map_cons,List.map_cons]
  refine .cons ?_ ih
  obtain ⟨h1,h2⟩:=h
  by_cases e:p.1=k
  ·rw [if_pos e,if_pos (h1.symm.trans e)];exact ⟨h1,ry⟩
  ·rw [if_neg e,if_neg (fun z=>e (h1.trans z))];exact ⟨h1,h2⟩
theorem KV.put {kvs:List (κ × V)} {vs:List (κ × Value)} (r:KV kvs vs) (k:κ) {y:V} {u:Value} (ry:RelV y u):KV (putK kvs k y) (stored vs k u):=by
 unfold putK stored
 rw [r.any k]
 by_cases e:(vs.any fun kv=>decide (kv.1=k))=true
 ·rw [if_pos e,if_pos e];exact r.repl k ry
 ·rw [if_neg e,if_neg e];exact Paired.snoc r ⟨rfl,ry⟩
theorem KV.length {kvs:List (κ × V)} {vs:List (κ × Value)} (r:KV kvs vs):kvs.length=vs.length:=Paired.length r
end
theorem ahp {P:Program} {w:World} {k:Key} {u:Value} (r:RelV (kV k) u):(uf P w).is k u=true:=by
 cases k with
 | inl i=>obtain ⟨t,e⟩:=(show ∃ t,u=Value.int i t from r);subst e;exact aa7 P w i t
 | inr x=>obtain ⟨t,e⟩:=(show ∃ t,u=Value.str x t from r);subst e;exact aa8 P w x t
theorem a8s {P:Program} {w:World}:∀ {ks:List Key} {us:List Value},Vals (ks.map kV) us→ItemsAre (uf P w) ks us
 | [],_,r=>by rw [List.map_nil] at r;cases r;exact .nil
 | k::ks,_,r=>by
  rw [List.map_cons] at r
  cases r with
  | cons h t=>exact .cons (ahp h) (a8s t)
abbrev KT (H:Hp):List (List Key × V)→List (List Key × Addr × Value)→Prop:=Paired fun p q=>p.1=q.1∧H q.2.1=some (.tup (p.1.map kV))∧RelV p.2 q.2.2
theorem KT.val {H:Hp} {kvs:List (List Key × V)} {xs:List (List Key × Addr × Value)} (r:KT H kvs xs) (k:List Key):RelO (aa3 kvs k) ((atKey xs k).map (·.2)):=by
 induction r with
 | nil=>exact True.intro
 | @cons p q ps qs h t ih =>
  obtain ⟨h1,_,h2⟩:=h
  by_cases e:p.1=k
  ·have e':q.1=k:=h1.symm.trans e
   have b:atKey (q::qs) k=some q.2:=by simp [atKey,List.find?_cons,e']
   rw [a7g e,b];exact h2
  ·have e':¬ q.1=k:=fun z=>e (h1.trans z)
   have b:atKey (q::qs) k=atKey qs k:=by simp [atKey,List.find?_cons,e']
   rw [a7h e,b];exact ih
theorem KT.repl {H:Hp} {kvs:List (List Key × V)} {xs:List (List Key × Addr × Value)} (r:KT H kvs xs) (k:List Key) {y:V} {u:Value} (ry:RelV y u) :
  KT H (kvs.map fun kv=>if kv.1=k then (kv.1,y) else kv) (xs.map (putAt k u)):=by
 induction r with
 | nil=>exact .nil
 | @cons p q ps qs h t ih =>
  rw [List.map_cons,List.map_cons]
  refine .cons ?_ ih
  obtain ⟨h1,h2,h3⟩:=h
  unfold putAt
  by_cases e:p.1=k
  ·rw [if_pos e,if_pos (h1.symm.trans e)];exact ⟨h1,h2,ry⟩
  ·rw [if_neg e,if_neg (fun z=>e (h1.trans z))];exact ⟨h1,h2,h3⟩
theorem KT.put {H:Hp} {kvs:List (List Key × V)} {xs:List (List Key × Addr × Value)} (r:KT H kvs xs) (k:List Key) {b:Addr} {y:V} {u:Value} (hb:H b=some (.tup (k.map kV))) (ry:RelV y u) :
  KT H (putK kvs k y) (storedH xs k b u):=by
 have e:(kvs.any fun kv=>decide (kv.1=k))=(atKey xs k).isSome:=by
  rw [abg,(r.val k).isSome_eq,Option.isSome_map]
 unfold putK storedH
 rw [e]
 by_cases q:(atKey xs k).isSome=true
 ·rw [if_pos q,if_pos q];exact r.repl k ry
 ·rw [if_neg q,if_neg q];exact Paired.snoc r ⟨rfl,hb,ry⟩
theorem KT.keeps {H H':Hp} {kvs:List (List Key × V)} {xs:List (List Key × Addr × Value)} (r:KT H kvs xs) (ht:∀ b ys,H b=some (.tup ys)→H' b=some (.tup ys)):KT H' kvs xs :=
 Paired.mapP r fun _ _ z=>⟨z.1,ht _ _ z.2.1,z.2.2⟩
section
variable {P:Program} {w:World} {H:Hp} {h:Heap} {a:Addr}
theorem apd {u:HO} (ok:HOk P w H h) (e:Rd H a u):ObjOk P w H h a u:=e.ok ok
theorem ape {kvs:List (Key × V)} (ok:HOk P w H h) (e:Rd H a (.dK kvs)):kvs.length≤sizeLine∧(a == sysModules)=false∧∃ vs,KV kvs vs∧h.DictOf (uf P w) a vs :=
 show ObjOk P w H h a (.dK kvs) from apd ok e
theorem apf {kvs:List (Key × V)} (ok:HOk P w H h) (e:H a=some (.dK kvs)):kvs.length≤sizeLine∧(a == sysModules)=false∧∃ vs,KV kvs vs∧h.DictOf (uf P w) a vs:=ape ok (.inl e)
theorem aek {ks:List Key} (ok:HOk P w H h) (e:H a=some (.tup (ks.map kV))):(tupleKind (uf P w)).is h ks a:=by
 obtain ⟨_,its,r,o,h1,h2,n,h3⟩:=(show ObjOk P w H h a (.tup (ks.map kV)) from ok a _ e)
 exact ⟨o,its.toArray,n,h1,h2,h3,by simpa using a8s r⟩
theorem apg {kvs:List (List Key × V)} (ok:HOk P w H h) (e:Rd H a (.dT kvs)):kvs.length≤sizeLine∧(a == sysModules)=false ∧
  ∃ xs,KT H kvs xs∧h.DictOfH (tupleKind (uf P w)) a xs:=by
 obtain ⟨z,y,xs,r,o,es,ep,h1,h2,h3,h4,h5⟩:=(show ObjOk P w H h a (.dT kvs) from apd ok e)
 refine ⟨z,y,xs,r,o,es,ep,h1,h2,h3,h4,fun x hx=>?_,h5⟩
 have all:∀ {l:List (List Key × V)} {m:List (List Key × Addr × Value)},KT H l m→∀ x∈m,(tupleKind (uf P w)).is h x.1 x.2.1:=by
  intro l m q
  induction q with
  | nil=>intro x hx;exact nomatch hx
  | @cons p q ps qs hq t ih =>
   intro x hx
   rcases List.mem_cons.mp hx with e | hx
   ·subst e
    exact aek ok (by rw [← hq.1];exact hq.2.1)
   ·exact ih x hx
 exact all r x hx
theorem aus {kvs:List (List Key × V)} (ok:HOk P w H h) (e:H a=some (.dT kvs)):kvs.length≤sizeLine∧(a == sysModules)=false ∧
  ∃ xs,KT H kvs xs∧h.DictOfH (tupleKind (uf P w)) a xs:=apg ok (.inl e)
end
def DGet (H:Hp) (a:Addr) (y:V) (r:Option V):Prop :=
 (∃ kvs k,Rd H a (.dK kvs)∧y=kV k∧r=aa3 kvs k)∨∃ kvs k b,Rd H a (.dT kvs)∧y = .ref b∧H b=some (.tup (k.map kV))∧r=aa3 kvs k
def DPut (H:Hp) (a:Addr) (y v:V) (H':Hp):Prop :=
 (∃ kvs k,H a=some (.dK kvs)∧y=kV k∧kvs.length<sizeLine∧H'=upd H a (.dK (putK kvs k v))) ∨
 ∃ kvs k b,H a=some (.dT kvs)∧y = .ref b∧H b=some (.tup (k.map kV))∧kvs.length<sizeLine∧H'=upd H a (.dT (putK kvs k v))
theorem DGet.k {H:Hp} {a:Addr} {kvs:List (Key × V)} {k:Key} (e:H a=some (.dK kvs)):DGet H a (kV k) (aa3 kvs k):=.inl ⟨kvs,k, .inl e,rfl,rfl⟩
theorem DGet.t {H:Hp} {a b:Addr} {kvs:List (List Key × V)} {k:List Key} (e:H a=some (.dT kvs)) (eb:H b=some (.tup (k.map kV))):DGet H a (.ref b) (aa3 kvs k):=.inr ⟨kvs,k,b, .inl e,rfl,eb,rfl⟩
theorem DPut.k {H:Hp} {a:Addr} {kvs:List (Key × V)} {k:Key} {v:V} (e:H a=some (.dK kvs)) (hl:kvs.length<sizeLine):DPut H a (kV k) v (upd H a (.dK (putK kvs k v))):=.inl ⟨kvs,k,e,rfl,hl,rfl⟩
theorem DPut.t {H:Hp} {a b:Addr} {kvs:List (List Key × V)} {k:List Key} {v:V} (e:H a=some (.dT kvs)) (eb:H b=some (.tup (k.map kV))) (hl:kvs.length<sizeLine) :
  DPut H a (.ref b) v (upd H a (.dT (putK kvs k v))):=.inr ⟨kvs,k,b,e,rfl,eb,hl,rfl⟩
section
variable {X:Cx} {pins:List (Addr × Obj)} {σ:St} {H:Hp} {s:Shared} {a:Addr} {y v:V} {u r:Value} {o:Option V} {A:Around} {E:Value→Shared→Prop}
theorem Inv.big (I:Inv X pins σ H s):sysModules<s.heap.objs.size:=by
 have h:mainGlobals<s.heap.objs.size:=(I.mod.glob.keeps I.bk).lt
 exact Nat.lt_trans (by decide) h
theorem alf {Q:Value→Shared→Prop} (hu:A.units+1<cLine) (I:Inv X pins σ H s) (g:DGet H a y o) (ry:RelV y u) (h:∀ s',Inv X pins σ H s'→Q (.bool (!o.isSome)) s') :
  wpAny (model X.prog X.w) A (compareOp .NotIn u (.ref a)) Q E s:=by
 rcases g with ⟨kvs,k,e,ey,l⟩ | ⟨kvs,k,b,e,ey,eb,l⟩
 ·subst ey
  obtain ⟨z,hd,vs,rel,dd⟩:=ape I.hok e
  refine wpAny_notIn_of (ahp ry) hd dd.mapOf ?_
  rw [← (rel.val k).isSome_eq,← l]
  exact h _ (I.tok _)
 ·subst ey
  cases (show u=Value.ref b from ry)
  obtain ⟨z,hd,xs,rel,dd⟩:=apg I.hok e
  refine wpAny_notIn_heap (tupleKind_room_in1 hu) (aek I.hok eb) hd dd ?_
  have q:=(rel.val k).isSome_eq
  rw [Option.isSome_map] at q
  rw [← q,← l]
  exact h _ (I.tok _)
theorem aaf {h':Heap} {t':Nat} {ob:HO} (I:Inv X pins σ H s) (mu:Mut (H a)) (hs:Heap.SameBut a s.heap h') (he:∃ q,h'.get? a=some q) (new:ObjOk X.prog X.w (upd H a ob) h' a ob) :
  Inv X pins σ (upd H a ob) { s with heap:=h',toks:=t' } :=
 I.write (x:=a) (e:=a) mu (.inl rfl) (fun b q hb z=>(hs.2 b hb).trans z) he new
theorem ajr {P:Program} {w:World} {H':Hp} {h':Heap} {kvs:List (Key × V)} {vs:List (Key × Value)} (z:kvs.length≤sizeLine) (hd:(a == sysModules)=false) (rel:KV kvs vs) (dd:h'.DictOf (uf P w) a vs) :
  ObjOk P w H' h' a (.dK kvs):=⟨z,hd,vs,rel,dd⟩
theorem ael {H':Hp} {Q:Unit→Shared→Prop} (hu:A.units+1<cLine) (I:Inv X pins σ H s) (g:DPut H a y v H') (ry:RelV y u) (rv:RelV v r) (h:∀ s',Inv X pins σ H' s'→Q () s') :
  wpAny (model X.prog X.w) A (setItem (.ref a) u r) Q E s:=by
 rcases g with ⟨kvs,k,e,ey,l,eH⟩ | ⟨kvs,k,b,e,ey,eb,l,eH⟩
 ·subst ey eH
  obtain ⟨z,hd,vs,rel,dd⟩:=apf I.hok e
  have hz:vs.length≤sizeLine:=by rw [← rel.length];exact z
  have hl:(putK kvs k v).length≤sizeLine:=by have:=a2p kvs k v;omega
  refine wpAny_setItem_pairs (hsz:=hz) (ahp ry) dd fun h' dd' hs=>h _ ?_
  have he:∃ q,h'.get? a=some q:=let ⟨q,_,_,hq,_⟩:=dd'; ⟨q,hq⟩
  exact aaf I (by rw [e];exact True.intro) hs he (ajr hl hd (rel.put k rv) dd')
 ·subst ey eH
  cases (show u=Value.ref b from ry)
  obtain ⟨z,hd,xs,rel,dd⟩:=aus I.hok e
  have hz:xs.length≤sizeLine:=by rw [← Paired.length rel];exact z
  have hl:(putK kvs k v).length≤sizeLine:=by have:=a2p kvs k v;omega
  refine wpAny_setItem_heap (hsz:=hz) (tupleKind_room_in1 hu) (aek I.hok eb) dd fun h' dd' hs=>h _ ?_
  obtain ⟨q,es,ep,hq,h2,h3,h4,_,h5⟩:=dd'
  refine aaf I (by rw [e];exact True.intro) hs ⟨q,hq⟩ ⟨hl,hd,_,(rel.put k eb rv).keeps fun c ys ec=>?_,q,es,ep,hq,h2,h3,h4,h5⟩
  rw [iz (au0 ec e (fun z=>nomatch z))]
  exact ec
end
def aut (td ty tv:TE):TS:=fun D σ H=>tv σ H fun v H1=>td σ H1 fun x H2=>ty σ H2 fun y H3=>∃ a H4,x = .ref a∧DPut H3 a y v H4∧D.nx σ H4
section
variable {X:Cx} {o i e value:Expr} {pos pos' tpos:Pos} {td ty tv:TE}
theorem alg (hu:X.A.units+1<cLine) (ho:PE X o td) (hi:PE X i ty) (hv:PE X value tv) (hs:swapsWith value (some (.Subscript o i pos')) pos.line X.env=pure false) :
  PS X (.Assign [.Subscript o i pos'] value pos) (aut td ty tv):=by
 intro pins s σ H D I h
 refine wpAny_Assign_Subscript (thn (hv pins s σ H _ I h) fun r s1 ⟨v,H1,I1,rv,q1⟩=>thn (ho pins s1 σ H1 _ I1 q1) fun u s2 ⟨x,H2,I2,rx,q2⟩=>thn (hi pins s2 σ H2 _ I2 q2) fun iv s3 ⟨y,H3,I3,ry,a,H4,ex,g,q3⟩=>?_) hs
 subst ex
 obtain rfl:u=Value.ref a:=rx
 exact ael hu I3 g ry rv fun s4 I4=>⟨σ,H4,I4,q3⟩
end
theorem abh {P:Program} {w:World} {H:Hp} (h:Heap) (hb:sysModules<h.objs.size):ObjOk P w H (h.push { cls:=.type "dict",data:=.dict #[] }) h.objs.size (.dK []) :=
 ⟨Nat.zero_le _,beq_eq_false_iff_ne.mpr (Ne.symm (Nat.ne_of_lt hb)),[], .nil,Heap.DictOf.new h⟩
def aph:TE:=fun _ H Q=>∀ p,H p=none→Q (.ref p) (upd H p (.dK []))
section
variable {X:Cx} {pos:Pos}
theorem ahq:PE X (.Dict [] [] pos) aph:=fun pins s σ H Q I h =>
 wpAny_Dict_empty ⟨.ref s.heap.objs.size,_,I.laid (a:=s.heap.objs.size) (o:=.dK []) (t':=s.toks) (fun _ _ q=>Heap.get?_push_of_some _ q) (Nat.le_refl _) (abh s.heap I.big),rfl,h _ (I.hok.fresh (Nat.le_refl _))⟩
end
def aem:List (TE × TE)→St→Hp→(List (V × V)→Hp→Prop)→Prop
 | [],_,H,Q=>Q [] H
 | (tk,tv)::r,σ,H,Q=>tk σ H fun x H1=>tv σ H1 fun y H2=>aem r σ H2 fun ps H3=>Q ((x,y)::ps) H3
abbrev VV:List (V × V)→List (Value × Value)→Prop:=Paired fun p q=>RelV p.1 q.1∧RelV p.2 q.2
def PPs (X:Cx) (pos:Pos) (keys:List (Option Expr)) (values:List Expr) (trs:List (TE × TE)):Prop :=
 ∀ (pins:List (Addr × Obj)) (s:Shared) (σ:St) (H:Hp) (Q:List (V × V)→Hp→Prop),Inv X pins σ H s→aem trs σ H Q →
  wpAny (model X.prog X.w) X.A (evalPairs (pairTrees keys values X.env pos)) (fun vs s'=>∃ ps H',Inv X pins σ H' s'∧VV ps vs∧Q ps H') X.xe s
theorem alh {X:Cx} {pos:Pos}:PPs X pos [] [] []:=fun pins s σ H Q I h=>pairTrees_nil_walk ⟨[],H,I, .nil,h⟩
theorem ahr {X:Cx} {pos:Pos} {k v:Expr} {ks:List (Option Expr)} {vs:List Expr} {tk tv:TE} {trs:List (TE × TE)} (hk:PE X k tk) (hv:PE X v tv) (hr:PPs X pos ks vs trs) :
  PPs X pos (some k::ks) (v::vs) ((tk,tv)::trs):=fun pins s σ H Q I h =>
 pairTrees_cons_walk (thn (hk pins s σ H _ I h) fun u s1 ⟨x,H1,I1,rx,q1⟩=>thn (hv pins s1 σ H1 _ I1 q1) fun w2 s2 ⟨y,H2,I2,ry,q2⟩ =>
  thn (hr pins s2 σ H2 _ I2 q2) fun ws s3 ⟨ps,H3,I3,rel,q3⟩=>⟨(x,y)::ps,H3,I3, .cons ⟨rx,ry⟩ rel,q3⟩)
def a8t (kvs more:List (Key × V)):List (Key × V):=more.foldl (fun acc kv=>putK acc kv.1 kv.2) kvs
theorem KV.merge:∀ {more:List (Key × V)} {rs:List (Key × Value)} {kvs:List (Key × V)} {vs:List (Key × Value)},KV more rs→KV kvs vs→KV (a8t kvs more) (merged vs rs):=by
 intro more rs kvs vs r
 unfold KV at r
 induction r generalizing kvs vs with
 | nil=>intro q;exact q
 | @cons p q ps qs h t ih =>
  intro r0
  have e:KV (putK kvs p.1 p.2) (stored vs q.1 q.2):=by
   have:=r0.put p.1 h.2
   rw [← h.1];exact this
  exact ih e
theorem a3c:∀ (more kvs:List (Key × V)),(a8t kvs more).length≤kvs.length+more.length
 | [],kvs=>by show kvs.length≤kvs.length+0;omega
 | p::r,kvs=>by
  have h1:=a3c r (putK kvs p.1 p.2)
  have h2:=a2p kvs p.1 p.2
  show (a8t (putK kvs p.1 p.2) r).length≤_
  rw [List.length_cons];omega
theorem a6w {P:Program} {w:World}:∀ {kvs:List (Key × V)} {ws:List (Value × Value)},VV (kvs.map fun kv=>(kV kv.1,kv.2)) ws→∃ rs,Carries (uf P w) ws rs∧KV kvs rs
 | [],_,r=>by rw [List.map_nil] at r;cases r;exact ⟨[],True.intro, .nil⟩
 | p::kvs,_,r=>by
  rw [List.map_cons] at r
  cases r with
  | @cons a b as bs h t =>
   obtain ⟨rs,c,q⟩:=a6w (P:=P) (w:=w) t
   obtain ⟨b1,b2⟩:=b
   exact ⟨(p.1,b2)::rs,⟨ahp h.1,rfl,c⟩, .cons ⟨rfl,h.2⟩ q⟩
def auu (trs:List (TE × TE)):TE:=fun σ H Q=>∀ p,H p=none→aem trs σ (upd H p (.dK [])) fun ps H2=>H2 p=some (.dK [])∧∃ kvs:List (Key × V),ps=kvs.map (fun kv=>(kV kv.1,kv.2))∧kvs.length≤15∧Q (.ref p) (upd H2 p (.dK (a8t [] kvs)))
theorem ali {X:Cx} {pos:Pos} {keys:List (Option Expr)} {values:List Expr} {trs:List (TE × TE)} (h:PPs X pos keys values trs) (hall:keys.all (·.isSome)=true) (hl:keys.length=values.length) (h0:keys≠[])
  (h15:keys.length≤15):PE X (.Dict keys values pos) (auu trs):=by
 intro pins s σ H Q I q
 have hn:=I.hok.fresh (Nat.le_refl s.heap.objs.size)
 have I1:=I.laid (a:=s.heap.objs.size) (o:=.dK []) (h':=s.heap.push { cls:=.type "dict",data:=.dict #[] }) (t':=s.toks) (fun _ _ q=>Heap.get?_push_of_some _ q) (Nat.le_refl _) (abh s.heap I.big)
 refine wpAny_Dict_walk (knd:=uf X.prog X.w) hall hl h0 h15 (thn (h pins _ σ _ _ I1 (q _ hn)) fun ws s2 ⟨ps,H2,I2,rel,e,kvs,ep,lk,q2⟩=>?_)
 subst ep
 obtain ⟨rs,c,rk⟩:=a6w (P:=X.prog) (w:=X.w) rel
 obtain ⟨z,hd,vs0,r0,dd⟩:=apf I2.hok e
 cases r0
 refine ⟨rs,c,dd,fun h' dd' hs=>⟨.ref s.heap.objs.size,_,?_,rfl,q2⟩⟩
 have hz:(a8t [] kvs).length≤sizeLine:=by
  have h1:=a3c kvs []
  rw [List.length_nil] at h1
  rw [sizeLine_eq];omega
 have he:∃ q,h'.get? s.heap.objs.size=some q:=let ⟨q,_,_,hq,_⟩:=dd'; ⟨q,hq⟩
 exact aaf I2 (by rw [e];exact True.intro) hs he (ajr hz hd (rk.merge .nil) dd')
end L2
set_option maxHeartbeats 4000000
namespace L2
open PySem PySem.Spec PyProof.Rows
section
variable {X:Cx}
theorem n6:OpR X (compareOp .LtE) (fun x y H Q=>∃ i j,x = .str i∧y = .str j∧Q (.bl (!decide (j.cps.toList<i.cps.toList))) H):=by
 intro pins s σ H x y v u Q I rx ry h
 obtain ⟨i,j,rfl,rfl,q⟩:=h
 obtain ⟨t,rfl⟩:=rx
 obtain ⟨t',rfl⟩:=ry
 exact PySem.P.le_str (aba I q rfl)
def a6k {α:Type} (xs:List α) (lo hi:Option Int):List α:=(xs.drop (HT.sIx xs.length 0 lo)).take (HT.sIx xs.length xs.length hi - HT.sIx xs.length 0 lo)
def auv:V→Option Int→Option Int→Hp→VK→Prop:=fun x lo hi H Q=>∃ z,x = .str z∧z.length≤sizeLine∧Q (.str ⟨(a6k z.cps.toList lo hi).toArray⟩) H
theorem api (lo hi:Option Int) (n:Nat):Builtin.Str.strSliceIndices lo hi 1 n=(List.range (HT.sIx n n hi - HT.sIx n 0 lo)).map fun k=>HT.sIx n 0 lo+k:=by
 have e1:Builtin.Str.strSliceIndices lo hi 1 n=sliceRange ((HT.sIx n 0 lo:Nat):Int) ((HT.sIx n n hi:Nat):Int) 1:=by
  unfold Builtin.Str.strSliceIndices
  dsimp only
  congr 1
  ·cases lo with
   | none=>simp [HT.sIx]
   | some i=>simp only [HT.sIx,show (1:Int) > 0 by decide,if_true];split<;>omega
  ·cases hi with
   | none=>simp [HT.sIx]
   | some i=>simp only [HT.sIx,show (1:Int) > 0 by decide,if_true];split<;>omega
 rw [e1]
 exact sliceRange_one _ _
theorem apj {α:Type} (xs:List α) (a:Nat):∀ k,a+k≤xs.length→((List.range k).map fun j=>a+j).filterMap (xs[·]?)=(xs.drop a).take k
 | 0,_=>by simp
 | k+1,h=>by
  rw [List.range_succ,List.map_append,List.filterMap_append,apj xs a k (by omega)]
  have hk:a+k<xs.length:=by omega
  rw [List.take_succ]
  congr 1
  simp [List.getElem?_drop,hk]
theorem apk:SlR X auv:=by
 intro pins s σ H x v vl vu lo hi sl Q I rx hs pl pu h
 obtain ⟨z,rfl,hz,q⟩:=h
 obtain ⟨t,rfl⟩:=rx
 refine ⟨"str",_,PyProof.Rows.slot_str_getitem.lookup,typeIs_str s z t,?_⟩
 have hl:z.cps.toList.length=z.length:=by simp [Str.length]
 have fin:∀ (l u:Option (Int × Tok)),vl=partValue l→vu=partValue u→l.map (·.1)=lo→u.map (·.1)=hi→wpAny (model X.prog X.w) X.A (getItem (.str z t) (.ref sl)) (EP X pins σ Q) X.xe s:=by
  intro l u e1 e2 e3 e4
  subst e1 e2
  refine wpAny_getItem_str_slice (l:=l) (u:=u) (st:=none) hs rfl ?_
  have hp:slicePicked z l u none=(List.range (HT.sIx z.length z.length hi - HT.sIx z.length 0 lo)).map fun k=>HT.sIx z.length 0 lo+k:=by
   unfold slicePicked
   rw [e3,e4]
   exact api lo hi z.length
  have hb1:HT.sIx z.length z.length hi≤z.length:=HT.aed _ _ (Nat.le_refl _) _
  have hb2:HT.sIx z.length 0 lo≤z.length:=HT.aed _ _ (Nat.zero_le _) _
  unfold sliceMade
  split
  ·rename_i c
   simp only [Bool.and_eq_true,beq_iff_eq] at c
   obtain ⟨_,c⟩:=c
   rw [hp,List.length_map,List.length_range] at c
   have e:(⟨(a6k z.cps.toList lo hi).toArray⟩:Str)=z:=by
    unfold a6k
    rw [hl]
    have z1:HT.sIx z.length 0 lo=0:=by omega
    have z2:HT.sIx z.length z.length hi=z.length:=by omega
    rw [z1,z2,List.drop_zero,Nat.sub_zero,List.take_of_length_le (by omega)]
   rw [e] at q
   exact ⟨.str z,H,I,⟨_,rfl⟩,q⟩
  ·have e:(⟨(a6k z.cps.toList lo hi).toArray⟩:Str)=⟨((slicePicked z l u none).filterMap (z.cps[·]?)).toArray⟩:=by
    rw [hp]
    unfold a6k
    rw [hl]
    by_cases hc:HT.sIx z.length 0 lo≤HT.sIx z.length z.length hi
    ·rw [← apj z.cps.toList _ _ (by omega)]
     simp only [Array.getElem?_toList]
    ·rw [show HT.sIx z.length z.length hi - HT.sIx z.length 0 lo=0 by omega]
     simp
   rw [e] at q
   refine ⟨?_, .str _,H,I.tok _,⟨_,rfl⟩,q⟩
   rw [← e]
   show (a6k z.cps.toList lo hi).toArray.size≤sizeLine
   rw [List.size_toArray]
   unfold a6k
   rw [List.length_take,List.length_drop,hl]
   omega
 cases pl with
 | none=>cases pu with
  | none=>exact fin none none rfl rfl rfl rfl
  | int j t'=>exact fin none (some (j,t')) rfl rfl rfl rfl
 | int i t'=>cases pu with
  | none=>exact fin (some (i,t')) none rfl rfl rfl rfl
  | int j t''=>exact fin (some (i,t')) (some (j,t'')) rfl rfl rfl rfl
theorem jj:CallR X (.builtin "isinstance") (fun xs H Q=>∃ x T t b,xs=[x, .ty T]∧TyOf X.K H x t∧PySem.W.kitOne X.K t (.type T)=some b∧Q (.bl b) H):=by
 intro pins s σ H xs us Q I r h
 obtain ⟨x,T,t,b,rfl,ty,e,q⟩:=h
 obtain ⟨u,w',rfl,rx,rt⟩:=vals2 r
 cases rt
 exact aea I rx ty e fun tk=>⟨.bl b,H,I.tok tk,rfl,q⟩
theorem a8u (bs:List Bool):((List.range bs.length).all fun i=>(bs[i]?).getD true)=bs.all id:=by
 have e:(List.range bs.length).map (fun i=>(bs[i]?).getD true)=bs:=by
  apply List.ext_getElem (by simp)
  intro i h1 h2
  simp [h2]
 have f:((List.range bs.length).map fun i=>(bs[i]?).getD true).all id=bs.all id:=by rw [e]
 rw [← f,List.all_map]
 rfl
theorem ux (hc:X.calm=true):CallR X (.builtin "all") (fun xs H Q=>∃ (p:Addr) (bs:List Bool),xs=[.ref p]∧SqL X.K H p (bs.map V.bl)∧Q (.bl (bs.all id)) H):=by
 intro pins s σ H xs us Q I r h
 obtain ⟨p,bs,rfl,hq,q⟩:=h
 obtain ⟨u,rfl,rx⟩:=vals1 r
 cases rx
 obtain ⟨its,r',pl,hz⟩:=I.list hq
 have hl:=r'.length
 rw [List.length_map] at hl
 have hlt:p<s.heap.objs.size:=by obtain ⟨_,e,_⟩:=pl.isList;exact Heap.lt_size e
 refine call_all_walk (wpAny_pyIter_list pl.isList ?_)
 refine ⟨s.heap.objs.size,[s.heap.objs.size,p],[s.heap.objs.size],its.toArray.size,_,_,fun i=>(bs[i]?).getD true,rfl,Walks.list (A:=X.A.in1) (I.ok.hd hc) _ p (Nat.ne_of_lt hlt) its.toArray,
  ⟨⟨_,Heap.get?_push_size _ rfl,rfl,rfl⟩,pl.isList.push _⟩,fun i v s' Q' E' hP hQ=>?_,fun h' tk hk=>?_⟩
 ·have hP':its[i]? = some v:=by simpa using hP
  have hi:i<bs.length:=by
   have:=(List.getElem?_eq_some_iff.mp hP').1
   omega
  obtain ⟨u,e,ru⟩:=r'.get (i:=i) (x:=.bl bs[i]) (by simp [hi])
  rw [hP'] at e
  cases e
  cases ru
  simp only [List.getElem?_eq_getElem hi,Option.getD_some] at hQ
  exact wpAny_truthy_bool hQ
 ·have e:((List.range its.toArray.size).all fun i=>(bs[i]?).getD true)=bs.all id:=by
   rw [List.size_toArray,← hl];exact a8u bs
  rw [e]
  exact ⟨.bl _,H,I.kept fun b x e=>hk b x (fun hm=>by rw [List.mem_singleton.mp hm] at e;exact Nat.lt_irrefl _ (Heap.lt_size e)) (Heap.get?_push_of_some _ e),rfl,q⟩
def xj (x:Str):List V:=x.cps.toList.map fun c=>V.str ⟨#[c]⟩
theorem a6x {x:Str} {acc:Array Value} (h:ItemsOf (SignAt x) acc x.cps.size):Vals (xj x) acc.toList:=by
 obtain ⟨hs,ha⟩:=h
 have key:∀ (cs:List Nat) (us:List Value),us.length=cs.length→(∀ (j:Nat) (v:Value),us[j]? = some v→∃ c u,cs[j]? = some c∧v = .str ⟨#[c]⟩ u)→Vals (cs.map fun c=>V.str ⟨#[c]⟩) us:=by
  intro cs
  induction cs with
  | nil=>intro us hl _;cases us with | nil=>exact .nil | cons _ _=>simp at hl
  | cons c cs ih =>
   intro us hl hp
   cases us with
   | nil=>simp at hl
   | cons u us =>
    refine .cons ?_ (ih us (by simpa using hl) fun j v e=>hp (j+1) v (by simpa using e))
    obtain ⟨c',t,e1,e2⟩:=hp 0 u rfl
    simp at e1
    subst e1
    exact ⟨t,e2⟩
 refine key _ _ (by simp [hs]) fun j v e=>?_
 obtain ⟨c,u,e1,e2⟩:=ha j v (by simpa using e)
 exact ⟨c,u,by simpa using e1,e2⟩
theorem a0c (hc:X.calm=true):CallR X (.type "list") (fun xs H Q=>∃ z,xs=[.str z]∧z.length≤sizeLine∧∀ l,H l=none→Q (.ref l) (upd H l (.lst (xj z)))):=by
 intro pins s σ H xs us Q I r h
 obtain ⟨z,rfl,hz,q⟩:=h
 obtain ⟨u,rfl,t,rfl⟩:=vals1 r
 refine PySem.call_list_str (I.ok.hd hc) z t (fun h' tk acc c kp e hi=>?_) (by simpa [Str.length] using hz)
 refine ⟨.ref s.heap.objs.size,_,I.laid (t':=tk) kp (Nat.le_refl _) (show ObjOk X.prog X.w _ h' _ (.lst (xj z)) from ⟨by simpa [xj,Str.length] using hz,acc.toList,c,a6x hi,by simpa using e⟩),rfl,q _ (I.hok.fresh (Nat.le_refl _))⟩
theorem yz (hc:X.calm=true):CallR X (.type "tuple") (fun xs H Q=>∃ z,xs=[.str z]∧z.length≤sizeLine∧∀ l,H l=none→Q (.ref l) (upd H l (.tup (xj z)))):=by
 intro pins s σ H xs us Q I r h
 obtain ⟨z,rfl,hz,q⟩:=h
 obtain ⟨u,rfl,t,rfl⟩:=vals1 r
 refine PySem.call_tuple_str (I.ok.hd hc) z t (fun h' tk acc kp hi=>?_) (by simpa [Str.length] using hz)
 have I1:Inv X pins σ H { s with heap:=h',toks:=tk }:=I.kept kp
 have I2:Inv X pins σ (upd H h'.objs.size (.tup (xj z))) { s with heap:=h'.push { cls:=.type "tuple",data:=.seq acc },toks:=tk } :=
  I1.laid (t':=tk) (fun b o e=>Heap.get?_push_of_some _ e) (Nat.le_refl _) (show ObjOk X.prog X.w _ _ _ (.tup (xj z)) from ⟨by simpa [xj,Str.length] using hz,acc.toList,a6x hi,by simpa using IsTup.new h' acc⟩)
 exact ⟨.ref h'.objs.size,_,I2,rfl,q _ (I1.hok.fresh (Nat.le_refl _))⟩
end
def Its (x:Str):It:=⟨fun i _=>i<x.cps.size,fun i H v H'=>H'=H∧∃ c,x.cps.toList[i]? = some c∧v = .str ⟨#[c]⟩,fun i _=>i=x.cps.size⟩
theorem abi {P:Program} {w:World} {K:PySem.W.Frag} {tg:Expr} (it:Addr) (x:Str) (t:Tok) (ty:String)
  (hty:["enumerate", "zip", "dict_itemiterator", "dict_reverseitemiterator", "odict_iterator", "itertools.zip_longest", "itertools.pairwise"].contains ty=false)
  (W:∀ A':Around,A'.handled=none→Walks P w A' it [it] [it] x.cps.size (SignAt x) (fun i h=>h.IsStrIter it ty x t i))
  (slf:∀ (A:Around) (i:Nat) (s:Shared) (Q:Value→Shared→Prop) (E:Value→Shared→Prop),s.heap.IsStrIter it ty x t i→Q (.ref it) s→wpAny (model P w) A (pyIter (.ref it)) Q E s) :
  Turn P w K tg (Its x) [it] it (fun i h=>h.IsStrIter it ty x t i) where
 mem:=by simp
 obj:=fun i h st b hb=>by
  have e:b=it:=by simpa using hb
  subst e
  obtain ⟨o,e,c,d⟩:=st
  exact ⟨o,e,fun v z=>by rw [d] at z;cases z⟩
 keep:=fun i h h' st k=>by
  obtain ⟨o,e,c,d⟩:=st
  exact ⟨o,k it (by simp) o e,c,d⟩
 item:=by
  intro X hP hw hK hc i pins s σ H E I hf st hg
  subst hP hw hK
  obtain ⟨f0,f1,f2,f3,f4,f5⟩:=hf it (by simp)
  refine (W X.A (I.ok.hd hc)).item i s _ _ hg st fun v h' tk hv st' kk=>?_
  obtain ⟨c,u,hx,rfl⟩:=hv
  have I1:Inv X pins σ H { s with heap:=h',toks:=tk }:=I.turned (fun b o hb e=>kk b o (by simpa using hb) e) f0 f1 f3 f4 f5
  obtain ⟨o,e,oc,d⟩:=id st'
  exact ⟨_,rfl,ahg (s:={ s with heap:=h',toks:=tk }) e oc d hty ⟨.str ⟨#[c]⟩,H,I1,⟨_,rfl⟩,⟨rfl,c,by simpa using hx,rfl⟩,st',fun b hb=>(hf b hb).1⟩⟩
 done:=by
  intro X hP hw hK hc i pins s σ H E I hf st hg
  subst hP hw hK
  obtain ⟨f0,f1,f2,f3,f4,f5⟩:=hf it (by simp)
  have hg':i=x.cps.size:=hg
  subst hg'
  exact (W X.A (I.ok.hd hc)).done s _ _ st fun h' tk eb=>⟨rfl,I.turned (fun b o hb e=>eb b o (by simpa using hb) e) f0 f1 f3 f4 f5⟩
 self:=slf
section
variable {X:Cx} {tg:Expr}
def axd (tl:TE):TI:=fun σ H R=>tl σ H fun x H1=>∃ z,x = .str z∧R (Its z) H1
theorem ajs {l:Expr} {tl:TE} (hl:PE X l tl):PI X tg l (axd tl):=by
 intro pins s σ H R I h
 refine thn (hl pins s σ H _ I h) fun v s1 ⟨x,H1,I1,r1,q1⟩=>?_
 obtain ⟨z,e,q⟩:=q1
 subst e
 obtain ⟨t,rfl⟩:=r1
 have fp:∀ b∈[s1.heap.objs.size],ab8 X pins H1 b:=fun b hb=>by
  have e:b=s1.heap.objs.size:=by simpa using hb
  subst e
  exact I1.fpOk (Nat.le_refl _) (I1.hok.fresh (Nat.le_refl _))
 cases ha:z.cps.all (· < 128)
 ·exact wpAny_pyIter_wide ha ⟨s1.heap.objs.size,[s1.heap.objs.size],_,_,H1,rfl,I1.kept (t':=s1.toks) fun b o e=>Heap.get?_push_of_some _ e,
   abi _ z t "str_iterator" (by decide) (fun A' hA=>Walks.strWide hA _ z t) (fun _ _ _ _ _ st h=>wpAny_pyIter_striter_wide st h),⟨_,Heap.get?_push_size _ rfl,rfl,rfl⟩,fp,q⟩
 ·exact wpAny_pyIter_ascii ha ⟨s1.heap.objs.size,[s1.heap.objs.size],_,_,H1,rfl,I1.kept (t':=s1.toks) fun b o e=>Heap.get?_push_of_some _ e,
   abi _ z t "str_ascii_iterator" (by decide) (fun A' hA=>Walks.strAscii hA _ z t) (fun _ _ _ _ _ st h=>wpAny_pyIter_striter_ascii st h),⟨_,Heap.get?_push_size _ rfl,rfl,rfl⟩,fp,q⟩
end
end L2
namespace L2
open PySem PySem.Spec PyProof.Rows
def cxC (X:Cx) (N:List Str) (scope:Scope) (cl:List (Str × Addr)) (C:Addr) (fp:List Addr) (s:Shared) (H:Hp):Cx where
 prog:=X.prog
 w:=X.w
 K:=X.K
 mg:=X.mg
 base:=X.base
 A:=X.A
 N:=N
 s₀:=s
 H₀:=H
 env:=compEnvC scope cl C X.env
 outer:=X.stack
 stack:=X.stack
 ex:=fp
 fn:=fun _=>false
 calm:=X.calm
 pn:=[]
 xe:=fun _ _=>False
structure CSc (X:Cx) (scope:Scope) (cl:List (Str × Addr)) (ts fr:List Str) (ix:List Nat):Prop where
 clos:closureFor scope X.env=pure cl
 kind:scope.kind = .function
 nocell:∀ y∈scope.names,y.2≠.cell
 names:∀ y∈scope.names,y.2 = .local→scope.names.lookup y.1=some .local
 sub:∀ y c,cl.lookup y=some c→X.env.cells.lookup y=some c
 has:∀ y,((relabel scope X.env).names.lookup y=some .cell∨(relabel scope X.env).names.lookup y=some .free)→∃ c,cl.lookup y=some c
 nofn:∀ y∈ts,(relabel scope X.env).names.lookup y=some .local
 len:ix.length=fr.length
 vis:∀ (j:Nat) (y:Str),fr[j]? = some y→∃ i:Nat,ix[j]? = some i∧X.N[i]? = some y∧(X.env.kindOf y=some .cell∨X.env.kindOf y=some .free)∧((relabel scope X.env).names.lookup y=some .cell∨(relabel scope X.env).names.lookup y=some .free)
def Ext (a b:St):Prop:=b.length=a.length∧∀ (i:Nat) v,a[i]? = some (some v)→b[i]? = some (some v)
def a02 (nt:Nat) (ix:List Nat) (σ:St):St:=List.replicate nt none++ix.map fun i=>(σ[i]?).join
def apl (J:It) (s0:St) (g:TG) (te:TE) (Q:VK) (H1:Hp):Prop:=∃ W:Nat→Nat→List V→Hp→Prop,(∃ m,W 0 m [] H1)∧∀ i m ys H,W i m ys H →
 (J.stop i H∧∀ p,H p=none→Q (.ref p) (upd H p (.lst ys))) ∨
 (J.go i H∧ys.length<sizeLine∧∀ x H',J.yld i H x H'→g x s0 H' fun σ2 H2=>Ext s0 σ2∧te σ2 H2 fun y H3=>∃ m',m'<m∧W (i+1) m' (ys++[y]) H3)
def ahs (wi:TI) (s0:St→St) (g:TG) (te:TE):TE:=fun σ H Q=>wi σ H fun J H1=>apl J (s0 σ) g te Q H1
theorem aen {prog:Program} {w:World} {A:Around} {R:Result→Shared→Prop} {s:Shared} {elt target iter:Expr} {scope:Scope} {pos:Pos} {it acc:Value} {env:Env} (J:Nat→Shared→Prop)
  (step:∀ m z,J m z→wpAny (model prog w) A (pyNext it) (fun got z1=>match got with
   | none=>R (.ok .next) z1
   | some v=>wpAny (model prog w) A (letOwnedTupleGo target it v) (fun _ z2=>wpAny (model prog w) A (assign target env v) (fun _ z3=>wpAny (model prog w) A (eval elt env) (fun x z4 =>
     wpAny (model prog w) A (call (.builtin "list.append") [acc,x]) (fun _ z5=>∃ m',m'<m∧J m' z5) (fun _ _=>False) z4)
     (fun _ _=>False) z3) (fun _ _=>False) z2) (fun _ _=>False) z1) (fun _ _=>False) z)
  (m:Nat) (j0:J m s):codeAny (model prog w) A (.compLoop (.ListComp elt [⟨target,iter,[],0⟩] scope pos) 0 it acc env) R s:=by
 refine codeAny_loop rfl J (fun m z hj=>(wpAny_noted ?_:wpAny _ _ ((compTurn (.ListComp elt [⟨target,iter,[],0⟩] scope pos) 0 it acc env).onRaise _) _ _ z)) m j0
 rw [compTurn_list1]
 refine wpAny_bind (wpAny_standAt (wpAny_bind (wpAny_mono (step m z hj) (fun got z1 h1=>?_) fun _ _ no=>no.elim)))
 match got,h1 with
 | none,h1=>exact wpAny_pure h1
 | some v,h1 =>
  refine wpAny_bind (wpAny_mono h1 (fun _ z2 h2=>wpAny_bind (wpAny_mono h2 (fun _ z3 h3=>?_) fun _ _ no=>no.elim)) fun _ _ no=>no.elim)
  refine wpAny_bind (wpAny_bind (wpAny_mono h3 (fun x z4 h4=>?_) fun _ _ no=>no.elim))
  exact wpAny_bind (wpAny_mono h4 (fun _ z5 h5=>wpAny_pure (wpAny_pure ⟨rfl,h5⟩)) fun _ _ no=>no.elim)
section
variable {X:Cx}
theorem aeo {pins:List (Addr × Obj)} {σ:St} {H:Hp} {s:Shared} {scope:Scope} {cl:List (Str × Addr)} {ts fr:List Str} {ix:List Nat} {C:Addr} {fp:List Addr} (S:CSc X scope cl ts fr ix) (I:Inv X pins σ H s)
  (hf:∀ b∈fp,ab8 X pins H b) (hb:∀ b∈fp,b<s.heap.objs.size) (hC:s.heap.objs.size≤C):(cxC X (ts++fr) scope cl C fp s H).Ok where
 mod:=I.ok.mod
 kind:=S.kind
 glob:=I.ok.glob
 blt:=I.ok.blt
 above:=hC
 inj:=fun x y c h1 h2=>I.ok.inj x y c (S.sub x c h1) (S.sub y c h2)
 has:=S.has
 cab:=fun _ _ z=>nomatch z
 hd:=I.ok.hd
 frames:=I.ok.frames
 stk:=.inl rfl
 exf:=fun b hb'=>⟨Nat.ne_of_lt (Nat.lt_of_lt_of_le (hb b hb') hC),fun x c e=>(hf b hb').2.2.2.2.1 x c (S.sub x c e)⟩
 bs:=fun b o e=>I.bs b o e
 bsz:=Nat.le_trans I.ok.bsz I.sz
 noex:=fun b o e hb'=>by
  rcases (hf b hb').2.2.2.1 with z | z
  ·exact I.ok.noex b o e z
  ·exact absurd (Nat.lt_of_lt_of_le (Heap.lt_size e) (Nat.le_trans I.ok.bsz z)) (Nat.lt_irrefl _)
 exfs:=fun b hb' z=>by
  rcases List.mem_cons.mp (I.stkSub b z) with e | e
  ·exact (hf b hb').2.1 e
  ·exact (hf b hb').2.2.1 e
 funs:=I.stack
 frf:=fun b hb'=>I.stkFree b hb'
theorem ad4 {nt:Nat} {ix:List Nat} {σ:St}:(a02 nt ix σ).length=nt+ix.length:=by
 unfold a02;rw [List.length_append,List.length_replicate,List.length_map]
theorem alj {pins:List (Addr × Obj)} {σ:St} {H:Hp} {s s4:Shared} {scope:Scope} {cl:List (Str × Addr)} {ts fr:List Str} {ix:List Nat} {C:Addr} {fp:List Addr} {m:Str→Option Value} (S:CSc X scope cl ts fr ix) (I:Inv X pins σ H s)
  (hf:∀ b∈fp,ab8 X pins H b) (hb:∀ b∈fp,b<s.heap.objs.size) (hC:s.heap.objs.size≤C)
  (k:∀ b o,s.heap.get? b=some o→s4.heap.get? b=some o) (hn:s4.heap.Ns C m) (ho:s4.os=s.os) (hg:s4.gens=s.gens) :
  Inv (cxC X (ts++fr) scope cl C fp s H) [] (a02 ts.length ix σ) H s4 where
 ok:=aeo S I hf hb hC
 os:=ho
 bare:=by rw [hg];exact I.bare
 base:=Un.kept k
 loc:=by
  refine ⟨m,hn,fun i x v e1 e2 e3=>?_⟩
  have e1:(ts++fr)[i]? = some x:=e1
  by_cases hi:i<ts.length
  ·unfold a02 at e2
   rw [List.getElem?_append_left (by simpa using hi),List.getElem?_replicate,if_pos hi] at e2
   cases e2
  ·rw [List.getElem?_append_right (by omega)] at e1
   unfold a02 at e2
   rw [List.getElem?_append_right (by simpa using hi),List.length_replicate,List.getElem?_map] at e2
   obtain ⟨j,h1,h2,h3,h4⟩:=S.vis _ x e1
   rw [h1] at e2
   have e2':(σ[j]?).join=some v:=Option.some.inj e2
   have e5:σ[j]? = some (some v):=by
    cases q:σ[j]? with
    | none=>rw [q] at e2';cases e2'
    | some o=>rw [q] at e2';simp at e2';rw [e2']
   obtain ⟨m0,_,hl⟩:=I.loc
   have vis:Vis X.env.scope x:=h3.elim (fun z=>.inr (.inl z)) fun z=>.inr (.inr z)
   obtain ⟨u,ru,l⟩:=hl j x v h2 e5 vis
   refine ⟨u,ru,?_⟩
   rcases l with ⟨z,_⟩ | ⟨_,c,hc,hcell⟩
   ·rcases h3 with h3 | h3<;>rw [h3] at z<;>cases z
   ·obtain ⟨c',hc'⟩:=S.has x h4
    have e6:c'=c:=Option.some.inj ((S.sub x c' hc').symm.trans hc)
    subst e6
    obtain ⟨o,ho,hd⟩:=hcell
    exact .inr ⟨h4,c',hc',o,k _ _ ho,hd⟩
 cell:=fun x c e=>by
  obtain ⟨v,o,ho,hd⟩:=I.cell x c (S.sub x c e)
  exact ⟨v,o,k _ _ ho,hd⟩
 free:=I.hok.fresh hC
 freeC:=fun x c e=>I.freeC x c (S.sub x c e)
 pin:=fun p hp=>absurd (show p∈([]:List (Addr × Obj)) from hp) (by simp)
 hok:=I.hok.kept k
 len:=by
  rw [ad4]
  show _=(ts++fr).length
  rw [List.length_append,S.len]
theorem Inv.unpinned' {pins:List (Addr × Obj)} {σ:St} {H:Hp} {s:Shared} (I:Inv X pins σ H s):Inv X [] σ H s:=I.pins_of fun _ hp=>nomatch hp
theorem comp_back {pins:List (Addr × Obj)} {σ σ':St} {H H':Hp} {s s':Shared} {scope:Scope} {cl:List (Str × Addr)} {N:List Str} {C acc:Addr} {fp:List Addr} {h':Heap} {ys:List V} {its:List Value} {n:Nat} (I:Inv X pins σ H s)
  (hf:∀ b∈fp,ab8 X pins H b) (hC:s.heap.objs.size≤C) (hacc:s.heap.objs.size≤acc) (hCa:C≠acc)
  (J:Inv (cxC X N scope cl C fp s H) [] σ' H' s') (hn:H' acc=none) (ha:s'.heap.get? acc=some { cls:=.type "list",data:=.seq its.toArray n }) (rv:Vals ys its) (hz:ys.length≤sizeLine) (sb:Heap.SameBut C s'.heap h') :
  Inv X pins σ (upd H' acc (.lst ys)) { s' with heap:=h' }:=by
 have k:∀ b o,b≠C→s'.heap.get? b=some o→h'.get? b=some o:=fun b o hb e=>sb.extBut b o hb e
 have old:∀ b o,s.heap.get? b=some o→b≠C∧b≠acc:=fun b o e=>⟨Nat.ne_of_lt (Nat.lt_of_lt_of_le (Heap.lt_size e) hC),Nat.ne_of_lt (Nat.lt_of_lt_of_le (Heap.lt_size e) hacc)⟩
 have u0:Un (frs X.stack) fp H H' s.heap s'.heap:=J.base
 have fC:H' C=none:=J.free
 have u:Un (frs X.stack) fp H (upd H' acc (.lst ys)) s.heap h':=by
  refine ⟨fun b o e n' hb hx=>k b o (old b o e).1 (u0.keep b o e n' hb hx),fun b o e n' hb hx=>?_,fun b o e n' hx=>?_,fun b o e hx=>?_,fun b xs e=>?_,fun b o v e=>?_,fun b ps e=>?_⟩
  ·obtain ⟨sl,e1⟩:=u0.slot b o e n' hb hx
   exact ⟨sl,k b _ (old b o e).1 e1⟩
  ·rw [iz (old b o e).2];exact u0.free b o e n' hx
  ·obtain ⟨o',e1⟩:=u0.there b o e hx
   exact ⟨o',k b _ (old b o e).1 e1⟩
  ·rw [iz (jd (u0.tups b xs e) hn)];exact u0.tups b xs e
  ·rw [iz (jd (u0.frzs b o v e) hn)];exact u0.frzs b o v e
  ·obtain ⟨more,e1⟩:=u0.tbls b ps e
   exact ⟨more,by rw [iz (jd e1 hn)];exact e1⟩
 have hok:HOk X.prog X.w (upd H' acc (.lst ys)) h':=fun b o e=>by
  by_cases hb:b=acc
  ·subst hb;rw [jy] at e;cases e
   exact ⟨hz,its,n,rv,k _ _ (Ne.symm hCa) ha⟩
  ·rw [iz hb] at e
   refine (J.hok b o e).stay (fun c v hc q=>k c v ?_ q) (fun c q=>by rw [iz (jd q hn)];exact q) fun c xs q=>by rw [iz (jd q hn)];exact q
   rcases hc with z | z
   ·rw [z];exact jd e fC
   ·exact jd z fC
 have J':=I.call (g':=s'.gens) (t':=s'.toks) (d':=s'.drawn) (ch:=fp) u hok J.bare fun b hb=>⟨(hf b hb).2.2.2.1,(hf b hb).2.1,(hf b hb).2.2.2.2.1,(hf b hb).2.2.2.2.2⟩
 have eo:s'.os=s.os:=J.os
 obtain ⟨hp,g,d,t,o⟩:=s'
 have eo':o=s.os:=eo
 subst eo'
 exact J'
def aag (X:Cx) (pins:List (Addr × Obj)) (σ:St) (use:Option (Value→Sem Unit)) (Q:VK) (Qf:Value→Shared→Prop):Prop :=
 ∀ (acc C:Addr) (s6:Shared) (H6:Hp) (m6:Str→Option Value),s6.heap.Ns C m6→ab8 X pins H6 C→(∀ h',Heap.SameBut C s6.heap h'→Inv X pins σ H6 { s6 with heap:=h' })→Q (.ref acc) H6 →
  compPost (model X.prog X.w) X.A X.xe use Qf (.ref acc) C (.ok .next) s6
theorem aht {pins:List (Addr × Obj)} {σ:St} {Q:VK}:aag X pins σ none Q (EP X pins σ Q):=fun acc C s6 H6 m6 hn _ k q=>⟨m6,hn,fun h' sb=>⟨.ref acc,H6,k h' sb,rfl,q⟩⟩
theorem ahu {pins:List (Addr × Obj)} {σ:St} {D:Ends} {i:Nat} {x:Str} {pos':Pos} (hN:X.N.Nodup) (hi:X.N[i]? = some x) (hx:Loc X.env.scope x) (hf:X.fn x=true∨X.env.scope.names.lookup x=some .local) :
  aag X pins σ (some (assign (.Name x pos') X.env)) (fun v H1=>aa9 i v σ H1 D.nx) (fun _ s'=>SP X pins D .next s'):=by
 intro acc C s6 H6 m6 hn fp k q
 obtain ⟨f1,f2,f3,f4,f5,f6⟩:=fp
 have I6:Inv X pins σ H6 s6:=k s6.heap (Heap.SameBut.refl _ _)
 refine wpAny_assign_Name (a8g (v:=.ref acc) I6 hN hi hx rfl (fun s' I' ⟨a,sb,ha⟩=>⟨m6,hn.sameBut sb ?_,fun h' sb'=>⟨_,H6,I'.turned (t':=s'.toks) (it:=C) (fun b o hb e=>sb'.extBut b o hb e) f1 f2 f4 f5 f6,q⟩⟩) hf)
 rcases ha with ha | ha
 ·rw [ha];exact f2
 ·exact fun z=>f5 x a ha z.symm
theorem a8v {elt tg iter:Expr} {scope:Scope} {pos ppos:Pos} {cl:List (Str × Addr)} {ts fr:List Str} {ix:List Nat} {wi:TI} {g:TG} {te:TE} (hc:X.calm=true) (S:CSc X scope cl ts fr ix) (hi:PI X tg iter wi)
  (hg:∀ C fp s H,PG (cxC X (ts++fr) scope cl C fp s H) tg g) (he:∀ C fp s H,PE (cxC X (ts++fr) scope cl C fp s H) elt te) (hs:∀ x,foldedSetIterable iter X.env x=pure x)
  (use:Option (Value→Sem Unit)) {pins:List (Addr × Obj)} {s:Shared} {σ:St} {H:Hp} {Q:VK} {Qf:Value→Shared→Prop} (I:Inv X pins σ H s) (h:ahs wi (a02 ts.length ix) g te σ H Q) (fin:aag X pins σ use Q Qf) :
  wpAny (model X.prog X.w) X.A (comprehension (.ListComp elt [⟨tg,iter,[],0⟩] scope pos) scope X.env ppos (newList []) false (eval iter X.env) use) Qf X.xe s:=by
 refine wpAny_comprehension_free (use:=use) rfl hs S.clos S.kind S.names (thn (hi pins s σ H _ I h) fun v s1 h1=>thn h1 fun itv s2 h2=>?_)
 obtain ⟨it,fp,tn,J,H2,e,I2,T,st2,f2,W,⟨m0,w0⟩,turn⟩:=h2
 subst e
 have hob:∀ b∈fp,b<s2.heap.objs.size:=fun b hb=>let ⟨o,e,_⟩:=T.obj _ _ st2 b hb;Heap.lt_size e
 refine wpAny_newObj_type (wpAny_newFunctionEnv S.nocell (by intro y hy;simp at hy) (fun h4 hns4 hsb4=>?_) S.kind)
 dsimp only at hns4 hsb4 ⊢
 generalize hH2:s2.heap.push { cls:=.type "list",dict:=none,data:=.seq ([]:List Value).toArray }=G at hns4 hsb4 ⊢
 have hCs:G.objs.size=s2.heap.objs.size+1:=by rw [← hH2,Heap.size_push]
 have hCle:s2.heap.objs.size≤G.objs.size:=by omega
 have hne:G.objs.size≠s2.heap.objs.size:=by omega
 have old:∀ b o,s2.heap.get? b=some o→h4.get? b=some o:=fun b o e=>by
  have hlt:=Heap.lt_size e
  exact hsb4.extBut b o (Nat.ne_of_lt (Nat.lt_of_lt_of_le hlt hCle)) (Heap.get?_push_of_some _ (hH2 ▸ Heap.get?_push_of_some _ e))
 have hacc:h4.get? s2.heap.objs.size=some { cls:=.type "list",data:=.seq ([]:List Value).toArray 0 } :=
  hsb4.extBut _ _ (Ne.symm hne) (Heap.get?_push_of_some _ (hH2 ▸ Heap.get?_push_size _ rfl))
 have K0:Inv (cxC X (ts++fr) scope cl G.objs.size fp s2 H2) [] (a02 ts.length ix σ) H2 { s2 with heap:=h4,toks:=s2.toks+([]:List (Str × Value)).length } :=
  alj S I2 f2 hob hCle old hns4 rfl rfl
 have st4:tn 0 h4:=T.keep _ _ _ st2 fun b _ o e=>old b o e
 have accF:s2.heap.objs.size ∉ fp:=fun z=>Nat.lt_irrefl _ (hob _ z)
 have stat:∀ {H':Hp},(∀ b∈fp,H' b=none)→∀ b∈fp,ab8 (cxC X (ts++fr) scope cl G.objs.size fp s2 H2) [] H' b:=fun hn b hb =>
  ⟨hn b hb,fun z=>by have h1:=hob b hb;have z':b=G.objs.size:=z;exact Nat.ne_of_lt (Nat.lt_of_lt_of_le h1 hCle) z',fun z=>(aeo S I2 f2 hob hCle).exfs b hb z, .inl hb,fun x c e=>(f2 b hb).2.2.2.2.1 x c (S.sub x c e),fun p hp=>absurd (show p∈([]:List (Addr × Obj)) from hp) (by simp)⟩
 have statA:∀ {H':Hp},H' s2.heap.objs.size=none→ab8 (cxC X (ts++fr) scope cl G.objs.size fp s2 H2) [] H' s2.heap.objs.size:=fun hn =>
  ⟨hn,fun z=>hne (show G.objs.size=s2.heap.objs.size from z.symm),fun z=>by
   obtain ⟨_,o,ho,_⟩:=(aeo S I2 f2 hob hCle).funs.mem z
   exact Nat.lt_irrefl _ (Heap.lt_size ho), .inr (Nat.le_refl _),fun x c e z=>by
   obtain ⟨v,o,ho,_⟩:=I2.cell x c (S.sub x c e)
   rw [z] at ho
   exact Nat.lt_irrefl _ (Heap.lt_size ho),fun p hp=>absurd (show p∈([]:List (Addr × Obj)) from hp) (by simp)⟩
 have loop:∀ s4:Shared,s4={ s2 with heap:=h4,toks:=s2.toks+([]:List (Str × Value)).length } →
   codeAny (model X.prog X.w) X.A (.compLoop (.ListComp elt [⟨tg,iter,[],0⟩] scope pos) 0 (.ref it) (.ref s2.heap.objs.size) (compEnvC scope cl G.objs.size X.env))
    (compPost (model X.prog X.w) X.A X.xe use Qf (.ref s2.heap.objs.size) G.objs.size) s4:=by
  rintro s4 rfl
  refine aen (fun n s'=>∃ i σ' H' ys its k,Inv (cxC X (ts++fr) scope cl G.objs.size fp s2 H2) [] σ' H' s'∧Ext (a02 ts.length ix σ) σ'∧tn i s'.heap∧(∀ b∈fp,H' b=none)∧H' s2.heap.objs.size=none ∧
   s'.heap.get? s2.heap.objs.size=some { cls:=.type "list",data:=.seq its.toArray k }∧Vals ys its∧ys.length≤sizeLine∧W i n ys H') ?_ m0
   ⟨0,_,H2,[],[],0,K0,⟨rfl,fun _ _ z=>z⟩,st4,fun b hb=>(f2 b hb).1,I2.hok.fresh (Nat.le_refl _),hacc, .nil,Nat.zero_le _,w0⟩
  rintro n s5 ⟨i,σ5,H5,ys,its,k5,I5,x5,st5,fr5,fa5,ac5,rv5,hz5,w5⟩
  have I5':Inv (cxC X (ts++fr) scope cl G.objs.size fp s2 H2) [] (a02 ts.length ix σ) H5 s5:=I5.weak x5.1.symm x5.2
  rcases turn i n ys H5 w5 with ⟨stop,qn⟩ | ⟨go,hlt,step⟩
  ·refine thn (T.done (cxC X (ts++fr) scope cl G.objs.size fp s2 H2) rfl rfl rfl hc i [(s2.heap.objs.size,{ cls:=.type "list",data:=.seq its.toArray k5 })] s5 _ H5 _ (I5'.pins_of fun p hp=>?_) (fun b hb=>?_) st5 stop) fun r s6 ⟨hr,I6⟩=>?_
   ·have e:p=(s2.heap.objs.size,{ cls:=.type "list",data:=.seq its.toArray k5 }):=by simpa using hp
    subst e
    obtain ⟨a0,a1,a2,_⟩:=statA fa5
    exact ⟨ac5,a0,a1,a2,fun v z=>by cases z⟩
   ·obtain ⟨b0,b1,b2,b3,b4,b5⟩:=stat fr5 b hb
    refine ⟨b0,b1,b2,b3,b4,fun p hp=>?_⟩
    have e:p=(s2.heap.objs.size,{ cls:=.type "list",data:=.seq its.toArray k5 }):=by
     have hp':p∈[(s2.heap.objs.size,_)]:=hp
     simpa using hp'
    subst e
    exact fun z=>accF (by have z':s2.heap.objs.size=b:=z;rw [z'];exact hb)
   ·subst hr
    have e6:=(I6.pin (s2.heap.objs.size,{ cls:=.type "list",data:=.seq its.toArray k5 }) (by show _∈[]++[_];simp)).1
    obtain ⟨m6,hn6,_⟩:=I6.loc
    exact fin _ _ s6 _ m6 hn6 (I2.fpOk hCle (by rw [iz hne];exact I6.free)) (fun h' sb=>comp_back I2 f2 hCle (Nat.le_refl _) hne I6.unpinned' fa5 e6 rv5 hz5 sb) (qn _ fa5)
  ·refine thn (T.item (cxC X (ts++fr) scope cl G.objs.size fp s2 H2) rfl rfl rfl hc i [(s2.heap.objs.size,{ cls:=.type "list",data:=.seq its.toArray k5 })] s5 _ H5 _ (I5'.pins_of fun p hp=>?_) (fun b hb=>?_) st5 go) fun r s6 ⟨u,hr,h6⟩=>?_
   ·have e:p=(s2.heap.objs.size,{ cls:=.type "list",data:=.seq its.toArray k5 }):=by simpa using hp
    subst e
    obtain ⟨a0,a1,a2,_⟩:=statA fa5
    exact ⟨ac5,a0,a1,a2,fun v z=>by cases z⟩
   ·obtain ⟨b0,b1,b2,b3,b4,b5⟩:=stat fr5 b hb
    refine ⟨b0,b1,b2,b3,b4,fun p hp=>?_⟩
    have e:p=(s2.heap.objs.size,{ cls:=.type "list",data:=.seq its.toArray k5 }):=by
     have hp':p∈[(s2.heap.objs.size,_)]:=hp
     simpa using hp'
    subst e
    exact fun z=>accF (by have z':s2.heap.objs.size=b:=z;rw [z'];exact hb)
   ·subst hr
    refine thn h6 fun _ s7 ⟨x,H7,I7,r7,y7,st7,fr7⟩=>?_
    have fa7:H7 s2.heap.objs.size=none:=(I7.pin (s2.heap.objs.size,{ cls:=.type "list",data:=.seq its.toArray k5 }) (by show _∈[]++[_];simp)).2.1
    have ac7:=(I7.pin (s2.heap.objs.size,{ cls:=.type "list",data:=.seq its.toArray k5 }) (by show _∈[]++[_];simp)).1
    have I7':Inv (cxC X (ts++fr) scope cl G.objs.size fp s2 H2) ([]++a8h (s2.heap.objs.size::fp) s7.heap) (a02 ts.length ix σ) H7 s7:=by
     refine Inv.pinned I7.unpinned' (fun b hb=>?_) fun b hb=>?_
     ·rcases List.mem_cons.mp hb with e | e
      ·subst e;exact statA fa7
      ·exact stat fr7 b e
     ·rcases List.mem_cons.mp hb with e | e
      ·subst e;exact ⟨_,ac7,fun v z=>by cases z⟩
      ·exact T.obj _ _ st7 b e
    refine thn (hg G.objs.size fp s2 H2 _ s7 _ H7 x u _ I7' r7 (step x H7 y7)) fun _ s8 ⟨σ8,H8,I8,x8,q8⟩=>?_
    refine thn (he G.objs.size fp s2 H2 _ s8 _ H8 _ I8 q8) fun yv s9 ⟨y,H9,I9,r9,m',hm',w9⟩=>?_
    obtain ⟨ac9,fa9,_⟩:=I9.pin (s2.heap.objs.size,{ cls:=.type "list",data:=.seq its.toArray k5 }) (by show _∈[]++([]++_);simp;exact a1s List.mem_cons_self ac7)
    have keep9:∀ b∈fp,∀ o,s7.heap.get? b=some o→s9.heap.get? b=some o∧H9 b=none:=fun b hb o e=>by
     obtain ⟨z1,z2,_⟩:=I9.pin (b,o) (by show _∈[]++([]++_);simp;exact a1s (List.mem_cons_of_mem _ hb) e)
     exact ⟨z1,z2⟩
    have hl:=rv5.length
    refine call_meets F.slot_list_append ⟨_,ac9,rfl⟩ F.entry_list_append (F.args_list_append_2 _ _) (PySem.list_append s2.heap.objs.size its.toArray k5 yv (by rw [List.size_toArray];omega)) ⟨ac9,?_⟩
    have q:=PySem.IsL.update ac9 (fun a=>a.push yv)
    have qo:∀ b o,b≠s2.heap.objs.size→s9.heap.get? b=some o→(s9.heap.update s2.heap.objs.size (Obj.mapSeq (fun a=>a.push yv))).get? b=some o:=fun b o hb e=>(Heap.get?_update_other s9.heap _ (Ne.symm hb)).trans e
    have q':∃ k,(s9.heap.update s2.heap.objs.size (Obj.mapSeq (fun a=>a.push yv))).get? s2.heap.objs.size=some { cls:=.type "list",data:=.seq (its++[yv]).toArray k }:=⟨_,by rw [q];simp;rfl⟩
    obtain ⟨k9,q9⟩:=q'
    obtain ⟨a0,a1,a2,a3,a4,a5⟩:=statA (show H9 s2.heap.objs.size=none from fa9)
    refine ⟨m',hm',i+1,σ8,H9,ys++[y],its++[yv],k9,(I9.unpinned').turned qo a0 a1 a3 a4 a5,x8,?_,?_,fa9,q9,rv5.append (.cons r9 .nil),?_,w9⟩
    ·refine T.keep _ _ _ st7 fun b hb o e=>qo b o (fun z=>accF (z ▸ hb)) (keep9 b hb o e).1
    ·intro b hb
     obtain ⟨o,e,_⟩:=T.obj _ _ st7 b hb
     exact (keep9 b hb o e).2
    ·rw [List.length_append,List.length_singleton];omega
 exact codeAny_compStart_list (loop _ rfl) (T.self _ 0 _ _ _ st4 (loop _ rfl))
theorem ahv {elt tg iter:Expr} {scope:Scope} {pos:Pos} {cl:List (Str × Addr)} {ts fr:List Str} {ix:List Nat} {wi:TI} {g:TG} {te:TE} (hc:X.calm=true) (S:CSc X scope cl ts fr ix) (hi:PI X tg iter wi)
  (hg:∀ C fp s H,PG (cxC X (ts++fr) scope cl C fp s H) tg g) (he:∀ C fp s H,PE (cxC X (ts++fr) scope cl C fp s H) elt te)
  (hs:∀ x,foldedSetIterable iter X.env x=pure x:=by intro _;rfl) :
  PE X (.ListComp elt [⟨tg,iter,[],0⟩] scope pos) (ahs wi (a02 ts.length ix) g te):=by
 intro pins s σ H Q I h
 rw [eval_ListComp]
 exact a8v hc S hi hg he hs none I h aht
theorem ahw {elt tg iter:Expr} {scope:Scope} {pos:Pos} {cl:List (Str × Addr)} {ts fr:List Str} {ix:List Nat} {wi:TI} {g:TG} {te:TE} {i:Nat} {x:Str} {pos' spos:Pos} (hN:X.N.Nodup) (hi':X.N[i]? = some x) (hx:Loc X.env.scope x) (hc:X.calm=true) (S:CSc X scope cl ts fr ix) (hi:PI X tg iter wi)
  (hg:∀ C fp s H,PG (cxC X (ts++fr) scope cl C fp s H) tg g) (he:∀ C fp s H,PE (cxC X (ts++fr) scope cl C fp s H) elt te)
  (hs:∀ x,foldedSetIterable iter X.env x=pure x:=by intro _;rfl) (hsw:swapsWith (.ListComp elt [⟨tg,iter,[],0⟩] scope pos) (some (.Name x pos')) spos.line X.env=pure true:=by rfl) (hf:X.fn x=true∨X.env.scope.names.lookup x=some .local:=by first | exact .inl rfl | exact .inr rfl | assumption) :
  PS X (.Assign [.Name x pos'] (.ListComp elt [⟨tg,iter,[],0⟩] scope pos) spos) (au9 (ahs wi (a02 ts.length ix) g te) (aa9 i)):=by
 intro pins s σ H D I h
 rw [exec_Assign_Name_used _ _ _ _ hsw]
 refine wpAny_bind (wpAny_standAt (wpAny_bind ?_))
 refine wpAny_bind (wpAny_mono (a8v hc S hi hg he hs (some (assign (.Name x pos') X.env)) I h (ahu hN hi' hx hf)) (fun _ s' hq=>wpAny_pure (wpAny_pure hq)) fun _ _ e=>e)
end
end L2
namespace L2
open PySem PySem.Spec PyProof.Rows
section
variable {K:Type} [DecidableEq K]
def stepK (l:List K) (v:K):List K:=if v∈l then l else l++[v]
def a4y (l:List K):List K:=l.foldl stepK []
theorem a8w (l:List K) (v k:K):k∈stepK l v↔k∈l∨k=v:=by
 unfold stepK;split
 ·rename_i h
  constructor
  ·exact .inl
  ·rintro (z | rfl)
   ·exact z
   ·exact h
 ·simp
theorem a8x (l:List K) (v:K):(stepK l v).length=if v∈l then l.length else l.length+1:=by
 unfold stepK;split<;>simp
theorem yf:∀ (l acc:List K),acc.Nodup→(l.foldl stepK acc).Nodup∧(l.foldl stepK acc).length≤acc.length+l.length∧((l.foldl stepK acc).length=acc.length+l.length↔(acc++l).Nodup)
 | [],acc,h=>by simp [h]
 | v::l,acc,h=>by
  rw [List.foldl_cons]
  unfold stepK
  split
  ·rename_i hv
   obtain ⟨h1,h2,h3⟩:=yf l acc h
   unfold stepK at h1 h2 h3
   refine ⟨h1,by rw [List.length_cons];omega,?_⟩
   constructor
   ·intro e;rw [List.length_cons] at e;omega
   ·intro e
    have:=(List.nodup_append.mp e).2.2 v hv v List.mem_cons_self
    exact absurd rfl this
  ·rename_i hv
   obtain ⟨h1,h2,h3⟩:=yf l (acc++[v]) (by
    rw [List.nodup_append]
    exact ⟨h,by simp,fun a ha b hb=>by rw [List.mem_singleton] at hb;subst hb;rintro rfl;exact hv ha⟩)
   unfold stepK at h1 h2 h3
   rw [List.length_append,List.length_singleton] at h2 h3
   rw [List.append_assoc,List.singleton_append] at h3
   refine ⟨h1,by rw [List.length_cons];omega,?_⟩
   rw [← h3,List.length_cons]
   omega
theorem a8y (l:List K):((a4y l).length=l.length)↔l.Nodup:=by
 have h:=(yf l [] List.nodup_nil).2.2
 rw [List.length_nil,Nat.zero_add,List.nil_append] at h
 exact h
theorem aep {J:Type} [DecidableEq J] (f:K→J) (hf:∀ a b,f a=f b→a=b) (l:List K):a4y (l.map f)=(a4y l).map f:=by
 have key:∀ (l acc:List K),(l.map f).foldl stepK (acc.map f)=(l.foldl stepK acc).map f:=by
  intro l
  induction l with
  | nil=>intro acc;rfl
  | cons v l ih =>
   intro acc
   rw [List.map_cons,List.foldl_cons,List.foldl_cons]
   have e:stepK (acc.map f) (f v)=(stepK acc v).map f:=by
    unfold stepK
    by_cases hv:v∈acc
    ·rw [if_pos hv,if_pos (List.mem_map_of_mem hv)]
    ·rw [if_neg hv,if_neg (fun z=>by
      obtain ⟨a,ha,e⟩:=List.mem_map.mp z
      rw [hf a v e] at ha;exact hv ha)]
     simp
   rw [e,ih]
 exact key l []
def aah (val:Nat→K) (i:Nat):List K:=a4y ((List.range i).map val)
theorem a5u (val:Nat→K) (i:Nat):aah val (i+1)=stepK (aah val i) (val i):=by
 unfold aah a4y;rw [List.range_succ,List.map_append,List.foldl_append];rfl
theorem aeq (val:Nat→K):∀ i,(aah val i).length≤i
 | 0=>by simp [aah,a4y]
 | i+1=>by
  rw [a5u,a8x]
  have:=aeq val i
  split<;>omega
end
section
variable {prog:Program} {w:World} {K:Type} [DecidableEq K] {knd:KeyKind prog w K} {A:Around} {R:Result→Shared→Prop}
def Held (knd:KeyKind prog w K) (S:Addr) (val:Nat→K) (i:Nat) (h:Heap):Prop:=h.SetOf knd S (fun k=>decide (k∈aah val i)) (aah val i).length
theorem Held.keep {S:Addr} {val:Nat→K} {i:Nat} {h h':Heap} (x:Held knd S val i h) (k:∀ o,h.get? S=some o→h'.get? S=some o):Held knd S val i h':=by
 obtain ⟨o,es,ep,t,e,rest⟩:=x
 exact ⟨o,es,ep,t,k o e,rest⟩
theorem ahx {E:Value→Shared→Prop} {s:Shared} {S:Addr} {val:Nat→K} {i:Nat} {v:Value} {Q:Bool→Shared→Prop} (is:knd.is (val i) v=true) (sc:v.scannable=true) (few:i+1<scanBound) (x:Held knd S val i s.heap)
  (q:∀ b h' tk,Held knd S val (i+1) h'→(∀ c,c≠S→h'.get? c=s.heap.get? c)→Q b { s with heap:=h',toks:=tk }):wpAny (model prog w) A (setAdd S v) Q E s:=by
 have le:=aeq val i
 have key:∀ k,(decide (k∈aah val i) || decide (k=val i))=decide (k∈aah val (i+1)):=fun k=>by
  rw [a5u,Bool.eq_iff_iff];simp [a8w]
 have num:(if decide (val i∈aah val i)=true then (aah val i).length else (aah val i).length+1)=(aah val (i+1)).length:=by
  rw [a5u,a8x];simp
 have y:wpAny (model prog w) A (setAddHashed S v (knd.hash (val i))) Q E { s with toks:=s.toks+1 } :=
  wpAny_setAddHashed_of is sc x (by omega) fun h' same z=>q _ h' _ (by unfold Held;rw [← num,← funext key];exact z) fun c hc=>same.2 c hc
 exact wpAny_holding (wpAny_bind (knd.pyHash is y))
theorem a5v {I S:Addr} {fp wr:List Addr} {n:Nat} {P:Nat→Value→Prop} {St:Nat→Heap→Prop} (W:Walks prog w A.in1 I fp wr n P St) (apart:S ∉ fp) (val:Nat→K) (key:∀ i v,P i v→knd.is (val i) v=true∧v.scannable=true) (few:n+1<scanBound) :
  ∀ (left i:Nat) (s:Shared),i+left=n→St i s.heap→Held knd S val i s.heap →
   (∀ h' tk,Held knd S val n h'→(∀ c o,c≠S→c ∉ wr→s.heap.get? c=some o→h'.get? c=some o)→R (.ok (.ret .none)) { s with heap:=h',toks:=tk }) →
   codeAny (model prog w) A (.builtin "set.update.loop" ⟨[.ref S, .ref I],[]⟩) R s
 | 0,i,s,hi,st,x,fin=>codeAny_builtin F.entry_set_update_loop (by
   obtain rfl:i=n:=by omega
   simp only [Around.under_plainId F.plain_set_update_loop]
   exact wpAny_bind (W.done s _ _ st fun h' tk k=>wpAny_pure (fin h' tk (x.keep fun o e=>k S o (fun z=>apart (W.sub S z)) e) fun c o _ hc e=>k c o hc e)))
 | left+1,i,s,hi,st,x,fin=>codeAny_builtin F.entry_set_update_loop (by
   simp only [Around.under_plainId F.plain_set_update_loop]
   refine wpAny_bind (W.item i s _ _ (by omega) st fun v h1 t1 p st1 k1=>?_)
   obtain ⟨is,sc⟩:=key i v p
   refine wpAny_bind (wpAny_holding (ahx is sc (by omega) (x.keep fun o e=>k1 S o (fun z=>apart (W.sub S z)) e) fun _ h2 t2 x2 k2=>?_))
   refine wpAny_pure ⟨plainId_quiet F.plain_set_update_loop _,a5v W apart val key few left (i+1) _ (by omega) (W.frame _ _ _ st1 fun c hc o e=>(k2 c (fun z=>apart (z ▸ hc))).trans e) x2 fun h3 t3 x3 k3=>?_⟩
   exact fin h3 t3 x3 fun c o cS cw e=>k3 c o cS cw ((k2 c cS).trans (k1 c o cw e)))
end
theorem ahy:isSubtype (.type "str") (.type "set")=pure false∧isSubtype (.type "str") (.type "frozenset")=pure false:=by
 constructor<;>(rw [isSubtype_type];kernel_rfl)
section
variable {prog:Program} {w:World} {A:Around} {E:Value→Shared→Prop} {s:Shared}
def a4r (x:Str) (i:Nat):Str:=⟨#[x.cps.getD i 0]⟩
abbrev a2q (led:Bool):Obj:={ cls:=.type "set",dict:=none,data:=.set #[] 0 (.fresh 0 0 led) }
theorem aer {K:Type} [DecidableEq K] {knd:KeyKind prog w K} {S:Addr} {val:Nat→K} {h:Heap} {led:Bool} (e:h.get? S=some (a2q led)):Held knd S val 0 h :=
 (PyProof.Rows.setObjOf_fresh (knd:=knd) led).setOf e (by decide)
theorem ahz {x:Str} {t:Tok} {led:Bool} {R:Result→Shared→Prop} (hh:A.handled=none) (few:x.cps.size+1<scanBound)
  (q:∀ h' tk,Held (strKind prog w) s.heap.objs.size (a4r x) x.cps.size h'→(∀ c o,s.heap.get? c=some o→h'.get? c=some o)→R (.ok (.ret .none)) { s with heap:=h',toks:=tk }) :
  wpAny (model prog w) A.in1 (Builtin.«set.__init__» ⟨[.ref s.heap.objs.size, .str x t],[]⟩)
   (fun fin s'=>match fin with | .done f=>R (.ok f) s' | .again c'=>c'.quiet=true∧codeAny (model prog w) A c' R s') (fun e s'=>R (.error e) s') { s with heap:=s.heap.push (a2q led) }:=by
 have at0:(s.heap.push (a2q led)).get? s.heap.objs.size=some (a2q led):=Heap.get?_push_size _ rfl
 have ne1:(Value.type "str" == Value.type "dict")=false:=by decide
 obtain ⟨no1,no2⟩:=ahy
 unfold Builtin.«set.__init__»
 unfold noKeywords Builtin.Frozenset.updateFrom
 generalize ep:pyIter=walker
 wp_walk
 subst ep
 refine wpAny_pyIter_str fun o St W st=>wpAny_bind (wpAny_runValue ?_)
 have far:s.heap.objs.size ∉ [(s.heap.push (a2q led)).objs.size]:=fun z=>by
  have:=List.mem_singleton.mp z
  rw [Heap.size_push] at this
  exact absurd this (Nat.ne_of_lt (Nat.lt_succ_self _))
 refine a5v (knd:=strKind prog w) (W _ (by simp [hh])) far (a4r x) (fun i v ⟨c,u,e,ev⟩=>?_) few x.cps.size 0 _ (by omega) st (aer (Heap.get?_push_of_some _ at0)) fun h' tk held k=>?_
 ·subst ev
  refine ⟨?_,rfl⟩
  have ec:a4r x i=⟨#[c]⟩:=by simp [a4r,Array.getD_eq_getD_getElem?,e]
  rw [ec]
  show Value.isStrOf _ (.str _ u)=true
  simp [Value.isStrOf]
 ·refine wpAny_pure (wpAny_pure ?_)
  refine q h' tk held fun c o e=>k c o ?_ ?_ (Heap.get?_push_of_some _ (Heap.get?_push_of_some _ e))
  ·exact Nat.ne_of_lt (Heap.lt_size e)
  ·intro z
   have:=List.mem_singleton.mp z
   rw [Heap.size_push] at this
   exact absurd (Heap.lt_size e) (by rw [this];exact Nat.not_lt.mpr (Nat.le_succ _))
theorem a8z {x:Str} {t:Tok} {Q:Value→Shared→Prop} (hh:A.handled=none) (few:x.cps.size+1<scanBound)
  (q:∀ h' tk,Held (strKind prog w) s.heap.objs.size (a4r x) x.cps.size h'→(∀ c o,s.heap.get? c=some o→h'.get? c=some o)→Q (.ref s.heap.objs.size) { s with heap:=h',toks:=tk }) :
  wpAny (model prog w) A (call (.type "set") [.str x t]) Q E s:=by
 obtain ⟨_,_,order⟩:=F.called_set.mro
 have made:=F.called_set.made
 have self:=F.called_set.sub
 have nt:=F.called_set.notType
 have cc:=F.called_set.canCreate
 have tc:=F.typeCall_set_1 (.str x t)
 refine wpAny_call (codeAny_of_tree (wpAny_pure ⟨Code.quiet_builtin _ (by decide +kernel),codeAny_builtin F.entry_type_call ?_⟩))
 simp only [Around.under_plain (weight_type_call_type "set" [.str x t] []) rfl]
 repeat any_goals first | assumption | wp_step
 refine codeAny_mono (code_set_new_1 (.str x t) (E:=E) (Q₁:=fun obj s1=>obj = .ref s.heap.objs.size∧∃ led,s1={ s with heap:=s.heap.push (a2q led) }) fun led=>⟨rfl,led,rfl⟩) fun r s1 hr=>?_
 match r,hr with
 | .error _,hr=>exact hr
 | .ok (.ret _),⟨eo,led,es⟩ =>
  subst eo es
  have ty:Shared.TypeIs { s with heap:=s.heap.push (a2q led) } (.ref s.heap.objs.size) "set":=⟨_,Heap.get?_push_size _ rfl,rfl⟩
  have look:=F.called_set.init.lookup
  have bound:=F.called_set.init.bind (.ref s.heap.objs.size)
  repeat any_goals first | assumption | wp_step
  refine codeAny_mono (codeAny_call_builtin (R:=wants (fun r s2=>r = .none∧Q (.ref s.heap.objs.size) s2) E) F.called_set.init.plain F.entry_set_init (check_set_init_1 ty (ahz hh few fun h' tk x1 k1=>⟨rfl,q h' tk x1 k1⟩))) fun r2 s2 hr2=>?_
  match r2,hr2 with
  | .error _,hr2=>exact hr2
  | .ok (.ret _),⟨e2,q2⟩ =>
   subst e2
   repeat any_goals first | assumption | wp_step
  | .ok .next,hr2=>exact hr2.elim
  | .ok .brk,hr2=>exact hr2.elim
  | .ok .cont,hr2=>exact hr2.elim
 | .ok .next,hr=>exact hr.elim
 | .ok .brk,hr=>exact hr.elim
 | .ok .cont,hr=>exact hr.elim
end
def auw (a:Addr) (P:Program) (w:World) (n:Nat):HO:=.ext fun h=>∃ S,h.SetOf (strKind P w) a S n
section
variable {X:Cx}
theorem ad5 (hc:X.calm=true):CallR X (.type "set") (fun xs H Q=>∃ z,xs=[.str z]∧z.length≤1000∧∀ l,H l=none→Q (.ref l) (upd H l (auw l X.prog X.w (a4y z.cps.toList).length))):=by
 intro pins s σ H xs us Q I r h
 obtain ⟨z,rfl,hz,q⟩:=h
 obtain ⟨u,rfl,t,rfl⟩:=vals1 r
 have hz':z.cps.size≤1000:=hz
 refine a8z (I.ok.hd hc) (by unfold scanBound;omega) fun h' tk hS kp=>?_
 unfold Held at hS
 have en:(aah (a4r z) z.cps.size).length=(a4y z.cps.toList).length:=by
  have e1:(List.range z.cps.size).map (a4r z)=z.cps.toList.map fun c=>(⟨#[c]⟩:Str):=by
   apply List.ext_getElem?
   intro i
   rw [List.getElem?_map,List.getElem?_map]
   by_cases hi:i<z.cps.size
   ·rw [List.getElem?_range hi]
    simp [a4r,hi]
   ·rw [List.getElem?_eq_none (by simpa using hi),List.getElem?_eq_none (by simpa using hi)];rfl
  unfold aah
  rw [e1,aep (fun c=>(⟨#[c]⟩:Str)) (fun a b e=>by cases e;rfl),List.length_map]
 rw [en] at hS
 refine ⟨.ref s.heap.objs.size,_,I.laid (t':=tk) (o:=auw s.heap.objs.size X.prog X.w (a4y z.cps.toList).length) kp (Nat.le_refl _) ?_,rfl,q _ (I.hok.fresh (Nat.le_refl _))⟩
 refine ⟨⟨_,hS⟩,let ⟨o,_,_,_,e,_⟩:=hS; ⟨o,e⟩,fun h1 h2 p k=>?_⟩
 obtain ⟨S,o,es,ep,t,e,r⟩:=p
 exact ⟨S,o,es,ep,t,k o e,r⟩
theorem call_len_set:CallR X (.builtin "len") (fun xs H Q=>∃ l n,xs=[.ref l]∧H l=some (auw l X.prog X.w n)∧Q (.int (n:Nat)) H):=by
 intro pins s σ H xs us Q I r h
 obtain ⟨l,n,rfl,hl,q⟩:=h
 obtain ⟨u,rfl,rx⟩:=vals1 r
 cases rx
 obtain ⟨⟨S,o,es,ep,t,e,hex,hd,_,_,hb,hf,hn⟩,_⟩:=I.hok l _ hl
 refine PySem.call_len_set e hex hd hf (by unfold scanBound at hb;omega) ⟨.int (n:Nat),H,I.tok _,⟨_,by rw [hn]⟩,q⟩
end
end L2
namespace L2
open PySem PySem.Spec
theorem jt:bootBuiltins "len" = some (.builtin "len"):=PySem.boot_len
theorem du:bootBuiltins "isinstance" = some (.builtin "isinstance"):=by first | exact PySem.boot_isinstance | exact PyProof.Rows.boot_isinstance
theorem a90:bootBuiltins "str" = some (.type "str"):=by first | exact PySem.boot_str | exact PyProof.Rows.boot_str
theorem apm:bootBuiltins "ord" = some (.builtin "ord"):=by first | exact PySem.boot_ord | exact PyProof.Rows.boot_ord
theorem apn:bootBuiltins "set" = some (.type "set"):=by first | exact PySem.boot_set | exact PyProof.Rows.boot_set
theorem a5w:bootBuiltins "all" = some (.builtin "all"):=by first | exact PySem.boot_all | exact PyProof.Rows.boot_all
theorem ajt:bootBuiltins "abs" = some (.builtin "abs"):=by first | exact PySem.boot_abs | exact PyProof.Rows.boot_abs
theorem aju:bootBuiltins "int" = some (.type "int"):=by first | exact PySem.boot_int | exact PyProof.Rows.boot_int
theorem a5x:bootBuiltins "list" = some (.type "list"):=by first | exact PySem.boot_list | exact PyProof.Rows.boot_list
theorem wg:bootBuiltins "tuple" = some (.type "tuple"):=by first | exact PySem.boot_tuple | exact PyProof.Rows.boot_tuple
structure Dn (P:Program) (w:World) (K:PySem.W.Frag) (mg:Str→Option Value) (base:Heap) (k:Nat) (x:Str) (ps:List Str) (sp:Sp) (f:Addr) (fd:FuncData):Prop where
 ok:FnOk P w K mg base CX0 k f fd ps sp
 m:mg x=some (.ref f)
 kp:PySem.W.keepIn K (.ref f)=true
 b:Binds K fd ps []
theorem alk:sizeLine=16777216:=sizeLine_eq
theorem aai {n:Nat} (h:n≤16777216):n≤sizeLine:=by rw [sizeLine_eq];exact h
end L2
namespace L2
open PySem PySem.Spec
theorem CSc.noFree {X:Cx} {scope:Scope} {ts:List Str} (kind:scope.kind = .function) (h:∀ y∈scope.names,y.2≠.cell∧y.2≠.free) (names:∀ y∈scope.names,y.2 = .local→scope.names.lookup y.1=some .local)
  (ht:∀ y∈ts,scope.names.lookup y=some .local):CSc X scope [] ts [] []:=by
 have e:(relabel scope X.env).names=scope.names:=by
  show scope.names.map _=_
  refine map_eq_self fun y hy=>?_
  obtain ⟨n,k⟩:=y
  have:(k == NameKind.free)=false:=by simpa using (h _ hy).2
  simp [this]
 refine ⟨closureFor_none fun y hy=>(h y hy).2,kind,fun y hy=>(h y hy).1,names,(fun _ _ z=>nomatch z),fun y z=>?_,fun y hy=>by rw [e];exact ht y hy,rfl,(fun _ _ z=>by simp at z)⟩
 rw [e] at z
 rcases z with z | z
 ·exact absurd rfl (h _ (PySem.mem_of_lookup z)).1
 ·exact absurd rfl (h _ (PySem.mem_of_lookup z)).2
theorem auy (x y:Str):(x++y).cps.toList=x.cps.toList++y.cps.toList:=by
 show (x.cps++y.cps).toList=_
 simp
theorem aaj {α:Type} (xs:List α) (k:Nat):a6k xs none (some (k:Int))=xs.take k:=by
 unfold a6k
 rw [HT.abe,HT.aec,List.drop_zero,Nat.sub_zero]
 by_cases h:k≤xs.length
 ·rw [Nat.min_eq_left h]
 ·rw [Nat.min_eq_right (by omega),List.take_of_length_le (Nat.le_refl _),List.take_of_length_le (by omega)]
theorem a91 {α:Type} (xs:List α) (k:Nat):a6k xs (some (k:Int)) none=xs.drop k:=by
 unfold a6k
 rw [HT.abe,HT.aec]
 by_cases h:k≤xs.length
 ·rw [Nat.min_eq_left h,List.take_of_length_le (by rw [List.length_drop];omega)]
 ·rw [Nat.min_eq_right (by omega),List.drop_eq_nil_of_le (Nat.le_refl _),List.drop_eq_nil_of_le (by omega),List.take_nil]
end L2
namespace L2
open PySem PySem.Spec PyProof.Rows
end L2
namespace L2
open PySem PySem.Spec PyProof.Rows
section
variable {X:Cx}
theorem alm:OpR X (compareOp .In) (fun x y H Q=>∃ c T,x = .str ⟨#[c]⟩∧y = .str T∧Q (.bl (decide (c∈T.cps.toList))) H):=by
 intro pins s σ H x y v u Q I rx ry h
 obtain ⟨c,T,rfl,rfl,q⟩:=h
 exact ae6 pins s σ H _ _ v u Q I rx ry ⟨_,_,rfl,rfl,by rw [StrLaws.found_one];exact q⟩
theorem a6y:OpR X (compareOp .NotIn) (fun x y H Q=>∃ c T,x = .str ⟨#[c]⟩∧y = .str T∧Q (.bl (!decide (c∈T.cps.toList))) H):=by
 intro pins s σ H x y v u Q I rx ry h
 obtain ⟨c,T,rfl,rfl,q⟩:=h
 exact a8i pins s σ H _ _ v u Q I rx ry ⟨_,_,rfl,rfl,by rw [StrLaws.found_one];exact q⟩
end
theorem CSc.of {X:Cx} {scope:Scope} {cl:List (Str × Addr)} {ts fr:List Str} {ix:List Nat} (clos:closureFor scope X.env=pure cl) (kind:scope.kind = .function)
  (nocell:(scope.names.all fun p=>p.2 != .cell)=true) (names:(scope.names.all fun p=>p.2 != .local || scope.names.lookup p.1 == some .local)=true) (sub:∀ p∈cl,X.env.cells.lookup p.1=some p.2)
  (has:((relabel scope X.env).names.all fun p => !(p.2 == .cell || p.2 == .free) || (cl.lookup p.1).isSome)=true) (nofn:(ts.all fun y=>(relabel scope X.env).names.lookup y == some .local)=true)
  (len:ix.length=fr.length) (vis:((fr.zip ix).all fun p=>X.N[p.2]? == some p.1 && (X.env.kindOf p.1 == some .cell || X.env.kindOf p.1 == some .free) && ((relabel scope X.env).names.lookup p.1 == some .cell || (relabel scope X.env).names.lookup p.1 == some .free))=true) :
  CSc X scope cl ts fr ix:=by
 refine ⟨clos,kind,fun y hy=>?_,fun y hy e=>?_,fun y c e=>sub _ (PySem.mem_of_lookup e),fun y z=>?_,fun y hy=>?_,len,fun j y e=>?_⟩
 ·have:=List.all_eq_true.mp nocell y hy
  simpa using this
 ·have:=List.all_eq_true.mp names y hy
  rw [e] at this
  simpa using this
 ·have key:∀ k,(relabel scope X.env).names.lookup y=some k→(k == .cell || k == .free)=true→∃ c,cl.lookup y=some c:=fun k e hk=>by
   have:=List.all_eq_true.mp has _ (PySem.mem_of_lookup e)
   rw [hk] at this
   exact Option.isSome_iff_exists.mp (by simpa using this)
  rcases z with z | z
  ·exact key _ z rfl
  ·exact key _ z rfl
 ·have:=List.all_eq_true.mp nofn y hy
  simpa using this
 ·obtain ⟨hj,_⟩:=List.getElem?_eq_some_iff.mp e
  have hj2:j<ix.length:=by omega
  have hm:(y,ix[j])∈fr.zip ix:=by
   rw [List.mem_iff_getElem?]
   exact ⟨j,by rw [List.getElem?_zip_eq_some];exact ⟨e,List.getElem?_eq_getElem hj2⟩⟩
  have:=List.all_eq_true.mp vis _ hm
  simp only [Bool.and_eq_true,Bool.or_eq_true,beq_iff_eq] at this
  exact ⟨ix[j],List.getElem?_eq_getElem hj2,this.1.1,this.1.2,this.2⟩
end L2
namespace HT
open PySem PySem.Spec PyProof.Rows
end HT
namespace L2
open PySem PySem.Spec PyProof.Rows
end L2
namespace L2
open PySem PySem.Spec PyProof.Rows
end L2
namespace L2
open PySem PySem.Spec PyProof.Rows
end L2
namespace SHP
open PySem L2
end SHP
namespace L2
open PySem PySem.Spec PyProof.Rows
open PySem.AutoSeq1 in
theorem a5y (l b:Addr) (xs ys:Array Value) (n m:Nat) (dd:Option Addr) (sl:Array (Option Value)) (long:¬(!xs.isEmpty && Builtin.List.listTooLong (xs.size+ys.size))=true) (fit1:xs.size≤sizeLine) (fit2:xs.size+ys.size≤sizeLine+1) :
  Meets (Builtin.«list.extend» ⟨[.ref l, .ref b],[]⟩) (fun _ R s=>(s.heap.get? l=some { cls:=.type "list",dict:=none,data:=.seq xs n,slots := #[] }∧s.heap.get? b=some { cls:=.type "tuple",dict:=dd,data:=.seq ys m,slots:=sl })∧R (.ok (.ret Value.none)) { s with heap:=s.heap.update l (Obj.mapSeq (·++ys)) }) :=
 .of_wp fun prog w A R ⟨hp,gn,dr,tk,os⟩ ⟨⟨hl,hb⟩,q⟩=>by
  have a1:=idx_int
  have a2:=AutoSeq1.sub_tuple_tuple
  have a3:=AutoSeq1.sub_list_list
  have a4:=AutoSeq1.sub_tuple_list
  have a5:=AutoSeq1.sub_list_tuple
  have both:(xs++ys).size≤sizeLine+1:=by simpa using fit2
  wp_walk using wpAny_updateSeq hl rfl (hz:=fit1) (_hz':=both),wpAny_loadPart' hl,wpAny_loadPart' hb
  exact ⟨_,rfl,q⟩
section
variable {X:Cx}
def abj (K:PySem.W.Frag):V→List V→Hp→VK→Prop:=fun x vs H Q=>∃ l b xs zs,x = .ref l∧vs=[.ref b]∧H l=some (.lst xs)∧SqT K H b zs∧xs.length+zs.length≤sizeLine∧Q .non (upd H l (.lst (xs++zs)))
theorem ad6:MtM X "list.extend" (abj X.K):=by
 intro pins s σ H x vs v us Q I rx rv h
 obtain ⟨l,b,xs,zs,rfl,rfl,hH,hB,hz,q⟩:=h
 cases rx
 obtain ⟨u,rfl,ru⟩:=rv.one
 cases ru
 obtain ⟨z,its,n,r,hl,e⟩:=I.lstM hH
 obtain ⟨its2,r2,p2,_⟩:=I.tuple hB
 have hl2:=r2.length
 obtain ⟨⟨cls,dd,data,sl⟩,e2,hc,hrest⟩:=id p2
 have hsz:its.toArray.size+its2.toArray.size≤sizeLine:=by rw [List.size_toArray,List.size_toArray];omega
 have hlong:¬ (!its.toArray.isEmpty && Builtin.List.listTooLong (its.toArray.size+its2.toArray.size))=true:=by
  rw [a5h hsz,Bool.and_false]
  exact Bool.false_ne_true
 obtain ⟨n2,hd⟩:=(show ∃ n2,data = .seq its2.toArray n2 from by first | exact hrest | exact ⟨_,hrest.2⟩ | (obtain ⟨_,n,hd⟩:=hrest;exact ⟨n,hd⟩))
 have hc':cls = .type "tuple":=hc
 subst hc' hd
 refine call_meets F.slot_list_extend ⟨_,e,rfl⟩ F.entry_list_extend (F.args_list_extend_2 _ _)
  (a5y l b its.toArray its2.toArray n n2 dd sl hlong (by rw [List.size_toArray];omega) (by omega)) ⟨⟨e,e2⟩,?_⟩
 refine ⟨.non,_,I.lset (its':=its++its2) hH e (by simp) (r.append r2) ?_,rfl,q⟩
 rw [List.length_append]
 omega
end
end L2
namespace SHP
open PySem L2
end SHP
namespace MI
open PySem L2
inductive D where
 | non | bl (b:Bool) | int (i:Int) | str (x:Str) | ty (n:String) | tup (xs:List D) | rol (xs:List D) | ref (i:Nat) | scr (xs:List D) | rod (ks:List Key) (xs:List D) | rdT (ks:List (List Key)) (xs:List D) | exc (c:Str)
inductive O where
 | lst (xs:List D) | dK (kvs:List (Key × D)) | dT (kvs:List (List Key × D))
abbrev Hd:=List O
abbrev Sd:=List (Option D)
inductive R (α:Type) where
 | ok (a:α) (h:Hd) | ex (c:Str) (h:Hd) | no
def R.bind {α β:Type}:R α→(α→Hd→R β)→R β
 | .ok a h,k=>k a h
 | .ex c h,_=>.ex c h
 | .no,_=>.no
inductive Fl where
 | nx (σ:Sd) (h:Hd) | rt (d:D) (h:Hd) | bk (σ:Sd) (h:Hd) | ct (σ:Sd) (h:Hd) | ex (c:Str) (h:Hd) | no
def R.fl {α:Type}:R α→(α→Hd→Fl)→Fl
 | .ok a h,k=>k a h
 | .ex c h,_=>.ex c h
 | .no,_=>.no
abbrev SE:=Sd→Hd→R D
abbrev ST:=Sd→Hd→R Bool
abbrev SA:=Sd→Hd→R (List D)
abbrev SS:=Sd→Hd→Fl
def SqF (K:PySem.W.Frag) (H:Hp) (a:Addr) (vs:List V):Prop:=(∃ o,H a=some (.frz o (.lst vs)))∨SqL K (fun _=>none) a vs
theorem SqF.l {K:PySem.W.Frag} {H:Hp} {a:Addr} {vs:List V} (h:SqF K H a vs):SqL K H a vs:=by
 rcases h with ⟨o,h⟩ | h
 ·exact .inl (.inr ⟨o,h⟩)
 ·rcases h with (h | ⟨o,h⟩) | h
  ·cases h
  ·cases h
  ·exact .inr h
def SqZ (H:Hp) (a:Addr) (vs:List V):Prop:=∃ o,H a=some (.frz o (.lst vs))
theorem SqZ.l {K:PySem.W.Frag} {H:Hp} {a:Addr} {vs:List V} (h:SqZ H a vs):SqL K H a vs:=let ⟨o,e⟩:=h; .inl (.inr ⟨o,e⟩)
def exO (a:Addr):HO:=.ext fun h=>∃ o,h.get? a=some o
mutual
inductive Rep (K:PySem.W.Frag) (ι:List Addr) (H:Hp):V→D→Prop
 | non:Rep K ι H .non .non
 | bl (b:Bool):Rep K ι H (.bl b) (.bl b)
 | int (i:Int):Rep K ι H (.int i) (.int i)
 | str (x:Str):Rep K ι H (.str x) (.str x)
 | ty (n:String):Rep K ι H (.ty n) (.ty n)
 | tup {a:Addr} {vs:List V} {xs:List D} (h:H a=some (.tup vs)) (r:Reps K ι H vs xs):Rep K ι H (.ref a) (.tup xs)
 | rol {a:Addr} {vs:List V} {xs:List D} (h:SqZ H a vs) (r:Reps K ι H vs xs):Rep K ι H (.ref a) (.rol xs)
 | scr {a:Addr} {vs:List V} {xs:List D} (h:SqF K H a vs) (r:Reps K ι H vs xs):Rep K ι H (.ref a) (.scr xs)
 | ref {a:Addr} {i:Nat} (h:ι[i]? = some a):Rep K ι H (.ref a) (.ref i)
 | rod {a:Addr} {o:Obj} {us:List (Key × V)} {ks:List Key} {xs:List D} (h:H a=some (.frz o (.dK us))) (e:us.map (·.1)=ks) (r:Reps K ι H (us.map (·.2)) xs):Rep K ι H (.ref a) (.rod ks xs)
 | rdT {a:Addr} {o:Obj} {us:List (List Key × V)} {ks:List (List Key)} {xs:List D} (h:H a=some (.frz o (.dT us))) (e:us.map (·.1)=ks) (r:Reps K ι H (us.map (·.2)) xs):Rep K ι H (.ref a) (.rdT ks xs)
 | exc {a C:Addr} {o:Obj} {c:Str} (h:H a=some (.frz o (exO a))) (hc:o.cls = .ref C) (hn:PySem.W.nsIn K mainGlobals c=some (some (.ref C))):Rep K ι H (.ref a) (.exc c)
inductive Reps (K:PySem.W.Frag) (ι:List Addr) (H:Hp):List V→List D→Prop
 | nil:Reps K ι H [] []
 | cons {v:V} {d:D} {vs:List V} {ds:List D} (r:Rep K ι H v d) (rs:Reps K ι H vs ds):Reps K ι H (v::vs) (d::ds)
end
structure Gw (ι:List Addr) (H:Hp) (ι':List Addr) (H':Hp):Prop where
 pre:∃ m,ι'=ι++m
 tup:∀ a vs,H a=some (.tup vs)→H' a=some (.tup vs)
 frz:∀ a o u,H a=some (.frz o u)→H' a=some (.frz o u)
structure Gr (ι:List Addr) (H:Hp) (ι':List Addr) (H':Hp):Prop where
 pre:∃ m,ι'=ι++m∧∀ a∈m,H a=none
 tup:∀ a vs,H a=some (.tup vs)→H' a=some (.tup vs)
 frz:∀ a o u,H a=some (.frz o u)→H' a=some (.frz o u)
 oth:∀ a u,H a=some u→a ∉ ι→H' a=some u
 kp:∀ a u,H a=some u→∃ u',H' a=some u'
theorem Gr.w {ι ι':List Addr} {H H':Hp} (g:Gr ι H ι' H'):Gw ι H ι' H':=⟨let ⟨m,e,_⟩:=g.pre; ⟨m,e⟩,g.tup,g.frz⟩
theorem Gr.refl (ι:List Addr) (H:Hp):Gr ι H ι H:=⟨⟨[],by simp,by simp⟩,fun _ _ h=>h,fun _ _ _ h=>h,fun _ _ h _=>h,fun _ u h=>⟨u,h⟩⟩
theorem Gr.trans {ι ι1 ι2:List Addr} {H H1 H2:Hp} (a:Gr ι H ι1 H1) (b:Gr ι1 H1 ι2 H2):Gr ι H ι2 H2:=by
 obtain ⟨m,rfl,hm⟩:=a.pre
 obtain ⟨n,rfl,hn⟩:=b.pre
 refine ⟨⟨m++n,by simp,fun x hx=>?_⟩,fun x vs h=>b.tup x vs (a.tup x vs h),fun x o u h=>b.frz x o u (a.frz x o u h),fun x u h hx=>?_,fun x u h=>?_⟩
 ·rcases List.mem_append.mp hx with hx | hx
  ·exact hm x hx
  ·cases e:H x with
   | none=>rfl
   | some u =>
    obtain ⟨u',e'⟩:=a.kp x u e
    rw [hn x hx] at e';cases e'
 ·refine b.oth x u (a.oth x u h hx) fun z=>?_
  rcases List.mem_append.mp z with z | z
  ·exact hx z
  ·rw [hm x z] at h;cases h
 ·obtain ⟨u',e⟩:=a.kp x u h
  exact b.kp x u' e
theorem Gw.at {ι ι':List Addr} {H H':Hp} (g:Gw ι H ι' H') {i:Nat} {a:Addr} (h:ι[i]? = some a):ι'[i]? = some a:=by
 obtain ⟨m,rfl⟩:=g.pre
 rw [List.getElem?_append_left (List.getElem?_eq_some_iff.mp h).1]
 exact h
theorem Gr.at {ι ι':List Addr} {H H':Hp} (g:Gr ι H ι' H') {i:Nat} {a:Addr} (h:ι[i]? = some a):ι'[i]? = some a:=g.w.at h
theorem SqF.monoW {K:PySem.W.Frag} {ι ι':List Addr} {H H':Hp} (g:Gw ι H ι' H') {a:Addr} {vs:List V} (h:SqF K H a vs):SqF K H' a vs:=by
 rcases h with ⟨o,h⟩ | h
 ·exact .inl ⟨o,g.frz _ _ _ h⟩
 ·exact .inr h
theorem SqZ.monoW {ι ι':List Addr} {H H':Hp} (g:Gw ι H ι' H') {a:Addr} {vs:List V} (h:SqZ H a vs):SqZ H' a vs:=let ⟨o,e⟩:=h; ⟨o,g.frz _ _ _ e⟩
theorem SqZ.mono {ι ι':List Addr} {H H':Hp} (g:Gr ι H ι' H') {a:Addr} {vs:List V} (h:SqZ H a vs):SqZ H' a vs:=h.monoW g.w
mutual
theorem Rep.monoW {K:PySem.W.Frag} {ι ι':List Addr} {H H':Hp} (g:Gw ι H ι' H'):∀ {v:V} {d:D},Rep K ι H v d→Rep K ι' H' v d
 | _,_, .non=>.non
 | _,_, .bl b=>.bl b
 | _,_, .int i=>.int i
 | _,_, .str x=>.str x
 | _,_, .ty n=>.ty n
 | _,_, .tup h r=>.tup (g.tup _ _ h) (Reps.monoW g r)
 | _,_, .rol h r=>.rol (h.monoW g) (Reps.monoW g r)
 | _,_, .scr h r=>.scr (h.monoW g) (Reps.monoW g r)
 | _,_, .ref h=>.ref (g.at h)
 | _,_, .rod h e r=>.rod (g.frz _ _ _ h) e (Reps.monoW g r)
 | _,_, .rdT h e r=>.rdT (g.frz _ _ _ h) e (Reps.monoW g r)
 | _,_, .exc h hc hn=>.exc (g.frz _ _ _ h) hc hn
theorem Reps.monoW {K:PySem.W.Frag} {ι ι':List Addr} {H H':Hp} (g:Gw ι H ι' H'):∀ {vs:List V} {ds:List D},Reps K ι H vs ds→Reps K ι' H' vs ds
 | _,_, .nil=>.nil
 | _,_, .cons r rs=>.cons (Rep.monoW g r) (Reps.monoW g rs)
end
theorem Rep.mono {K:PySem.W.Frag} {ι ι':List Addr} {H H':Hp} (g:Gr ι H ι' H') {v:V} {d:D} (r:Rep K ι H v d):Rep K ι' H' v d:=r.monoW g.w
theorem Reps.mono {K:PySem.W.Frag} {ι ι':List Addr} {H H':Hp} (g:Gr ι H ι' H') {vs:List V} {ds:List D} (r:Reps K ι H vs ds):Reps K ι' H' vs ds:=r.monoW g.w
section
variable {K:PySem.W.Frag} {ι:List Addr} {H:Hp}
theorem Reps.len {vs:List V} {ds:List D}:Reps K ι H vs ds→vs.length=ds.length
 | .nil=>rfl
 | .cons _ rs=>by rw [List.length_cons,List.length_cons,rs.len]
theorem Reps.get:∀ {vs:List V} {ds:List D} {i:Nat} {d:D},Reps K ι H vs ds→ds[i]? = some d→∃ v,vs[i]? = some v∧Rep K ι H v d
 | _,_,_,_, .nil,e=>by simp at e
 | _,_,0,_, .cons r _,e=>by simp at e;subst e;exact ⟨_,rfl,r⟩
 | _,_,i+1,d, .cons _ rs,e=>by
  obtain ⟨u,h1,h2⟩:=Reps.get (i:=i) (d:=d) rs (by simpa using e)
  exact ⟨u,by simpa using h1,h2⟩
theorem Reps.app:∀ {vs us:List V} {ds es:List D},Reps K ι H vs ds→Reps K ι H us es→Reps K ι H (vs++us) (ds++es)
 | _,_,_,_, .nil,s=>s
 | _,_,_,_, .cons r rs,s=>.cons r (Reps.app rs s)
theorem Reps.set {v:V} {d:D} (q:Rep K ι H v d):∀ {vs:List V} {ds:List D} (i:Nat),Reps K ι H vs ds→Reps K ι H (vs.set i v) (ds.set i d)
 | _,_,_, .nil=>.nil
 | _,_,0, .cons _ rs=>.cons q rs
 | _,_,i+1, .cons r rs=>.cons r (Reps.set q i rs)
theorem Reps.take:∀ {vs:List V} {ds:List D} (n:Nat),Reps K ι H vs ds→Reps K ι H (vs.take n) (ds.take n)
 | _,_,0,_=>.nil
 | _,_,_+1, .nil=>.nil
 | _,_,n+1, .cons r rs=>.cons r (Reps.take n rs)
theorem Reps.drop:∀ {vs:List V} {ds:List D} (n:Nat),Reps K ι H vs ds→Reps K ι H (vs.drop n) (ds.drop n)
 | _,_,0,r=>r
 | _,_,_+1, .nil=>.nil
 | _,_,n+1, .cons _ rs=>Reps.drop n rs
theorem Reps.erase:∀ {vs:List V} {ds:List D} (n:Nat),Reps K ι H vs ds→Reps K ι H (vs.eraseIdx n) (ds.eraseIdx n)
 | _,_,_, .nil=>.nil
 | _,_,0, .cons _ rs=>rs
 | _,_,n+1, .cons r rs=>.cons r (Reps.erase n rs)
theorem Reps.snoc {vs:List V} {ds:List D} {v:V} {d:D} (r:Reps K ι H vs ds) (q:Rep K ι H v d):Reps K ι H (vs++[v]) (ds++[d]):=r.app (.cons q .nil)
theorem Reps.flat:∀ {vs:List V} {ds:List D} (k:Nat),Reps K ι H vs ds→Reps K ι H (List.replicate k vs).flatten (List.replicate k ds).flatten
 | _,_,0,_=>.nil
 | vs,ds,k+1,r=>by
  rw [List.replicate_succ,List.replicate_succ,List.flatten_cons,List.flatten_cons]
  exact r.app (Reps.flat k r)
end
def KRep {κ:Type} (K:PySem.W.Frag) (ι:List Addr) (H:Hp) (us:List (κ × V)) (kvs:List (κ × D)):Prop:=us.map (·.1)=kvs.map (·.1)∧Reps K ι H (us.map (·.2)) (kvs.map (·.2))
def ORep (K:PySem.W.Frag) (ι:List Addr) (H:Hp) (a:Addr):O→Prop
 | .lst xs=>∃ vs,H a=some (.lst vs)∧Reps K ι H vs xs
 | .dK kvs=>∃ us,H a=some (.dK us)∧KRep K ι H us kvs
 | .dT kvs=>∃ us,H a=some (.dT us)∧KRep K ι H us kvs
structure HRep (K:PySem.W.Frag) (ι:List Addr) (H:Hp) (h:Hd):Prop where
 nd:ι.Nodup
 len:ι.length=h.length
 obj:∀ (i:Nat) (a:Addr) (o:O),ι[i]? = some a→h[i]? = some o→ORep K ι H a o
section
variable {K:PySem.W.Frag} {ι:List Addr} {H:Hp} {h:Hd}
theorem ORep.some {a:Addr} {o:O} (r:ORep K ι H a o):∃ u,H a=some u∧(∀ vs,u≠.tup vs)∧(∀ o' u',u≠.frz o' u'):=by
 cases o with
 | lst xs=>obtain ⟨vs,e,_⟩:=r;exact ⟨_,e,fun _ z=>(by cases z),fun _ _ z=>(by cases z)⟩
 | dK kvs=>obtain ⟨us,e,_⟩:=r;exact ⟨_,e,fun _ z=>(by cases z),fun _ _ z=>(by cases z)⟩
 | dT kvs=>obtain ⟨us,e,_⟩:=r;exact ⟨_,e,fun _ z=>(by cases z),fun _ _ z=>(by cases z)⟩
theorem HRep.at (r:HRep K ι H h) {i:Nat} {a:Addr} (e:ι[i]? = some a):∃ o,h[i]? = some o∧ORep K ι H a o:=by
 have hi:i<h.length:=by rw [← r.len];exact (List.getElem?_eq_some_iff.mp e).1
 exact ⟨h[i],List.getElem?_eq_getElem hi,r.obj i a _ e (List.getElem?_eq_getElem hi)⟩
theorem HRep.addr (r:HRep K ι H h) {i:Nat} {o:O} (e:h[i]? = some o):∃ a,ι[i]? = some a∧ORep K ι H a o:=by
 have hi:i<ι.length:=by rw [r.len];exact (List.getElem?_eq_some_iff.mp e).1
 exact ⟨ι[i],List.getElem?_eq_getElem hi,r.obj i _ o (List.getElem?_eq_getElem hi) e⟩
theorem HRep.notin (r:HRep K ι H h) {p:Addr} (e:H p=none):p ∉ ι:=fun z=>by
 obtain ⟨i,hi⟩:=List.getElem?_of_mem z
 obtain ⟨o,_,q⟩:=r.at hi
 obtain ⟨u,q,_⟩:=q.some
 rw [e] at q;cases q
theorem ORep.monoW {ι':List Addr} {H':Hp} {a:Addr} {o:O} (g:Gw ι H ι' H') (e:H' a=H a) (r:ORep K ι H a o):ORep K ι' H' a o:=by
 cases o with
 | lst xs=>obtain ⟨vs,h1,h2⟩:=r;exact ⟨vs,by rw [e];exact h1,h2.monoW g⟩
 | dK kvs=>obtain ⟨us,h1,h2,h3⟩:=r;exact ⟨us,by rw [e];exact h1,h2,h3.monoW g⟩
 | dT kvs=>obtain ⟨us,h1,h2,h3⟩:=r;exact ⟨us,by rw [e];exact h1,h2,h3.monoW g⟩
theorem ORep.mono {ι':List Addr} {H':Hp} {a:Addr} {o:O} (g:Gr ι H ι' H') (e:H' a=H a) (r:ORep K ι H a o):ORep K ι' H' a o:=r.monoW g.w e
theorem wy {p:Addr} (e:H p=none) (o:HO):Gr ι H ι (upd H p o) :=
 ⟨⟨[],by simp,by simp⟩,fun a vs h=>by rw [iz (jd h e)];exact h,fun a o u h=>by rw [iz (jd h e)];exact h,fun a u h _=>by rw [iz (jd h e)];exact h,fun a u h=>⟨u,by rw [iz (jd h e)];exact h⟩⟩
theorem HRep.aside (r:HRep K ι H h) {p:Addr} (e:H p=none) (o:HO):HRep K ι (upd H p o) h:=by
 refine ⟨r.nd,r.len,fun i a o' e1 e2=>?_⟩
 have q:=r.obj i a o' e1 e2
 obtain ⟨u,hu,_⟩:=q.some
 exact q.mono (wy e o) (iz (jd hu e))
theorem abk {p:Addr} (e:H p=none) (o:HO):Gr ι H (ι++[p]) (upd H p o) :=
 ⟨⟨[p],rfl,by simpa using e⟩,(wy (ι:=ι) e o).tup,(wy (ι:=ι) e o).frz,(wy (ι:=ι) e o).oth,(wy (ι:=ι) e o).kp⟩
theorem HRep.add (r:HRep K ι H h) {p:Addr} (e:H p=none) {o:HO} {ob:O} (q:ORep K (ι++[p]) (upd H p o) p ob):HRep K (ι++[p]) (upd H p o) (h++[ob]):=by
 refine ⟨?_,by simp [r.len],fun i a o' e1 e2=>?_⟩
 ·rw [List.nodup_append]
  exact ⟨r.nd,by simp,fun a ha b hb z=>r.notin e (by rw [List.mem_singleton.mp hb] at z;rw [← z];exact ha)⟩
 ·by_cases hi:i<ι.length
  ·rw [List.getElem?_append_left hi] at e1
   rw [List.getElem?_append_left (by rw [← r.len];exact hi)] at e2
   have q:=r.obj i a o' e1 e2
   obtain ⟨u,hu,_⟩:=q.some
   exact q.mono (abk e o) (iz (jd hu e))
  ·have hi2:i<(ι++[p]).length:=(List.getElem?_eq_some_iff.mp e1).1
   have:i=ι.length:=by simp at hi2;omega
   subst this
   rw [List.getElem?_append_right (Nat.le_refl _)] at e1
   rw [r.len,List.getElem?_append_right (Nat.le_refl _)] at e2
   simp at e1 e2
   subst e1 e2
   exact q
theorem a2h {a:Addr} {i:Nat} (r:HRep K ι H h) (e:ι[i]? = some a) (o:HO):Gr ι H ι (upd H a o):=by
 obtain ⟨_,_,q⟩:=r.at e
 obtain ⟨u,hu,n1,n2⟩:=q.some
 refine ⟨⟨[],by simp,by simp⟩,fun b vs hb=>?_,fun b o' u' hb=>?_,fun b u' hb hn=>?_,fun b u' hb=>?_⟩
 ·rw [iz (fun z=>by subst z;rw [hu] at hb;exact n1 _ (Option.some.inj hb))];exact hb
 ·rw [iz (fun z=>by subst z;rw [hu] at hb;exact n2 _ _ (Option.some.inj hb))];exact hb
 ·rw [iz (fun z=>hn (by subst z;exact List.mem_of_getElem? e))];exact hb
 ·by_cases z:b=a
  ·subst z;exact ⟨o,jy⟩
  ·exact ⟨u',by rw [iz z];exact hb⟩
theorem HRep.put (r:HRep K ι H h) {a:Addr} {i:Nat} (e:ι[i]? = some a) {o:HO} {ob:O} (q:ORep K ι (upd H a o) a ob):HRep K ι (upd H a o) (h.set i ob):=by
 refine ⟨r.nd,by rw [List.length_set];exact r.len,fun j b o' e1 e2=>?_⟩
 by_cases hj:i=j
 ·subst hj
  rw [e] at e1;cases e1
  have hi:i<h.length:=by rw [← r.len];exact (List.getElem?_eq_some_iff.mp e).1
  rw [List.getElem?_set_self hi] at e2;cases e2
  exact q
 ·rw [List.getElem?_set_ne hj] at e2
  have hne:b≠a:=fun z=>by
   subst z
   obtain ⟨h1,g1⟩:=List.getElem?_eq_some_iff.mp e
   obtain ⟨h2,g2⟩:=List.getElem?_eq_some_iff.mp e1
   have np:=List.pairwise_iff_getElem.mp r.nd
   rcases Nat.lt_or_gt_of_ne hj with l | l
   ·exact np i j h1 h2 l (g1.trans g2.symm)
   ·exact np j i h2 h1 l (g2.trans g1.symm)
  exact (r.obj j b o' e1 e2).mono (a2h r e o) (iz hne)
end
structure SRep (K:PySem.W.Frag) (ι:List Addr) (H:Hp) (σ:St) (τ:Sd):Prop where
 len:σ.length=τ.length
 val:∀ (i:Nat) (d:D),τ[i]? = some (some d)→∃ v,σ[i]? = some (some v)∧Rep K ι H v d
theorem SRep.mono {K:PySem.W.Frag} {ι ι':List Addr} {H H':Hp} {σ:St} {τ:Sd} (g:Gr ι H ι' H') (s:SRep K ι H σ τ):SRep K ι' H' σ τ :=
 ⟨s.len,fun i d e=>let ⟨v,h1,h2⟩:=s.val i d e; ⟨v,h1,h2.mono g⟩⟩
theorem SRep.set {K:PySem.W.Frag} {ι:List Addr} {H:Hp} {σ:St} {τ:Sd} (s:SRep K ι H σ τ) {v:V} {d:D} (r:Rep K ι H v d) (i:Nat):SRep K ι H (σ.set i (some v)) (τ.set i (some d)):=by
 refine ⟨by simp [s.len],fun j d' e=>?_⟩
 by_cases hj:i=j
 ·subst hj
  have hi:i<τ.length:=by
   have:=(List.getElem?_eq_some_iff.mp e).1
   simpa using this
  rw [List.getElem?_set_self hi] at e
  cases e
  exact ⟨v,by rw [List.getElem?_set_self (by rw [s.len];exact hi)],r⟩
 ·rw [List.getElem?_set_ne hj] at e ⊢
  exact s.val j d' e
abbrev XD:=Str→List Addr→Hp→Hd→Prop
def out {α β:Type} (K:PySem.W.Frag) (E:XD) (Rp:List Addr→Hp→β→α→Prop) (ι:List Addr) (H:Hp) (r:R α) (Q:β→Hp→Prop):Prop :=
 match r with
 | .ok a h=>∀ ι' H' b,Gr ι H ι' H'→Rp ι' H' b a→HRep K ι' H' h→Q b H'
 | .ex c h=>∀ ι' H',Gr ι H ι' H'→HRep K ι' H' h→E c ι' H' h
 | .no=>False
theorem a3d {α β:Type} {K:PySem.W.Frag} {E:XD} {Rp:List Addr→Hp→β→α→Prop} {ι ι1:List Addr} {H H1:Hp} {r:R α} {Q:β→Hp→Prop} (o:out K E Rp ι H r Q) (g:Gr ι H ι1 H1):out K E Rp ι1 H1 r Q:=by
 cases r with
 | ok a h=>exact fun ι' H' b g'=>o ι' H' b (g.trans g')
 | ex c h=>exact fun ι' H' g'=>o ι' H' (g.trans g')
 | no=>exact o
theorem dq {α β γ δ:Type} {K:PySem.W.Frag} {E:XD} {Rp:List Addr→Hp→β→α→Prop} {Sp:List Addr→Hp→δ→γ→Prop} {ι:List Addr} {H:Hp} {r:R α} {k:α→Hd→R γ} {Q:δ→Hp→Prop} {P:β→Hp→Prop}
  (o:out K E Sp ι H (r.bind k) Q) (hP:∀ a h ι1 H1 b,Gr ι H ι1 H1→Rp ι1 H1 b a→HRep K ι1 H1 h→out K E Sp ι1 H1 (k a h) Q→P b H1):out K E Rp ι H r P:=by
 cases r with
 | ok a h=>exact fun ι' H' b g r' hr=>hP a h ι' H' b g r' hr (a3d o g)
 | ex c h=>exact o
 | no=>exact o
abbrev yt (K:PySem.W.Frag):List Addr→Hp→V→D→Prop:=fun ι H v d=>Rep K ι H v d
abbrev axe (K:PySem.W.Frag):List Addr→Hp→List V→List D→Prop:=fun ι H v d=>Reps K ι H v d
abbrev atq:List Addr→Hp→Bool→Bool→Prop:=fun _ _ a b=>a=b
abbrev axf:List Addr→Hp→Option Int→Option Int→Prop:=fun _ _ a b=>a=b
def ah7 (K:PySem.W.Frag) (E:XD) (ι:List Addr) (H:Hp) (r:Fl) (N:Ends):Prop :=
 match r with
 | .nx τ h=>∀ ι' H' σ,Gr ι H ι' H'→SRep K ι' H' σ τ→HRep K ι' H' h→N.nx σ H'
 | .bk τ h=>∀ ι' H' σ,Gr ι H ι' H'→SRep K ι' H' σ τ→HRep K ι' H' h→N.bk σ H'
 | .ct τ h=>∀ ι' H' σ,Gr ι H ι' H'→SRep K ι' H' σ τ→HRep K ι' H' h→N.ct σ H'
 | .rt d h=>∀ ι' H' v,Gr ι H ι' H'→Rep K ι' H' v d→HRep K ι' H' h→N.rt v H'
 | .ex c h=>∀ ι' H',Gr ι H ι' H'→HRep K ι' H' h→E c ι' H' h
 | .no=>False
theorem ul {K:PySem.W.Frag} {E:XD} {ι ι1:List Addr} {H H1:Hp} {r:Fl} {N:Ends} (o:ah7 K E ι H r N) (g:Gr ι H ι1 H1):ah7 K E ι1 H1 r N:=by
 cases r with
 | nx τ h=>exact fun ι' H' b g'=>o ι' H' b (g.trans g')
 | bk τ h=>exact fun ι' H' b g'=>o ι' H' b (g.trans g')
 | ct τ h=>exact fun ι' H' b g'=>o ι' H' b (g.trans g')
 | rt d h=>exact fun ι' H' b g'=>o ι' H' b (g.trans g')
 | ex c h=>exact fun ι' H' g'=>o ι' H' (g.trans g')
 | no=>exact o
theorem qy {α β:Type} {K:PySem.W.Frag} {E:XD} {Rp:List Addr→Hp→β→α→Prop} {ι:List Addr} {H:Hp} {r:R α} {k:α→Hd→Fl} {N:Ends} {P:β→Hp→Prop}
  (o:ah7 K E ι H (r.fl k) N) (hP:∀ a h ι1 H1 b,Gr ι H ι1 H1→Rp ι1 H1 b a→HRep K ι1 H1 h→ah7 K E ι1 H1 (k a h) N→P b H1):out K E Rp ι H r P:=by
 cases r with
 | ok a h=>exact fun ι' H' b g r' hr=>hP a h ι' H' b g r' hr (ul o g)
 | ex c h=>exact o
 | no=>exact o
def lift {α β:Type} (K:PySem.W.Frag) (E:XD) (Rp:List Addr→Hp→β→α→Prop) (f:Sd→Hd→R α):St→Hp→(β→Hp→Prop)→Prop:=fun σ H Q =>
 ∃ ι τ h,SRep K ι H σ τ∧HRep K ι H h∧out K E Rp ι H (f τ h) Q
def a5z (K:PySem.W.Frag) (E:XD) (f:SS):TS:=fun N σ H=>∃ ι τ h,SRep K ι H σ τ∧HRep K ι H h∧ah7 K E ι H (f τ h) N
abbrev ME (X:Cx) (E:XD) (e:Expr) (f:SE):Prop:=PE X e (lift X.K E (yt X.K) f)
abbrev MT (X:Cx) (E:XD) (e:Expr) (f:ST):Prop:=PT X e (lift X.K E atq f)
abbrev MW (X:Cx) (E:XD) (e:Expr) (f:ST):Prop:=PW X e (lift X.K E atq f)
abbrev MA (X:Cx) (E:XD) (es:List Expr) (f:SA):Prop:=PA X es (lift X.K E (axe X.K) f)
abbrev MS (X:Cx) (E:XD) (st:Stmt) (f:SS):Prop:=PS X st (a5z X.K E f)
abbrev MSs (X:Cx) (E:XD) (st:List Stmt) (f:SS):Prop:=PSs X st (a5z X.K E f)
theorem PE.weak {X:Cx} {e:Expr} {t t':TE} (h:PE X e t) (i:∀ σ H Q,t' σ H Q→t σ H Q):PE X e t':=fun pins s σ H Q I q=>h pins s σ H Q I (i _ _ _ q)
theorem PT.weak {X:Cx} {e:Expr} {t t':TT} (h:PT X e t) (i:∀ σ H Q,t' σ H Q→t σ H Q):PT X e t':=fun pins s σ H Q I q=>h pins s σ H Q I (i _ _ _ q)
theorem PW.weak {X:Cx} {e:Expr} {t t':TT} (h:PW X e t) (i:∀ σ H Q,t' σ H Q→t σ H Q):PW X e t':=fun wh pins s σ H Q I q=>h wh pins s σ H Q I (i _ _ _ q)
theorem PA.weak {X:Cx} {e:List Expr} {t t':TA} (h:PA X e t) (i:∀ σ H Q,t' σ H Q→t σ H Q):PA X e t':=fun pos pins s σ H Q I q=>h pos pins s σ H Q I (i _ _ _ q)
theorem PS.weak {X:Cx} {e:Stmt} {t t':TS} (h:PS X e t) (i:∀ N σ H,t' N σ H→t N σ H):PS X e t':=fun pins s σ H N I q=>h pins s σ H N I (i _ _ _ q)
theorem PSs.weak {X:Cx} {e:List Stmt} {t t':TS} (h:PSs X e t) (i:∀ N σ H,t' N σ H→t N σ H):PSs X e t':=fun pins s σ H N I q=>h pins s σ H N I (i _ _ _ q)
end MI
namespace MI
open PySem L2
abbrev LINE:Nat:=16777216
theorem ll {n:Nat} (h:n≤LINE):n≤sizeLine:=aai h
def sV (i:Nat):SE:=fun τ h=>match τ[i]? with | some (some d)=>.ok d h | _=>.no
def sC (d:D):SE:=fun _ h=>.ok d h
section
variable {X:Cx} {E:XD} {a b c e:Expr} {fa fb fc:SE} {pos:Pos}
theorem bf (i:Nat) {x:Str} {pos:Pos} (hN:X.N[i]? = some x:=by rfl) (hv:Vis X.env.scope x:=by first | exact Or.inl rfl | exact Or.inr (Or.inl rfl) | exact Or.inr (Or.inr rfl)) (hd:(x == ("__debug__" : Str))=false:=by decide)
  (hcd:(x == ("__classdict__" : Str))=false:=by decide):ME X E (.Name x pos) (sV i):=by
 refine PE.weak (adx hN hv hd hcd) fun σ H Q ⟨ι,τ,h,S,Rh,o⟩=>?_
 unfold sV at o
 split at o
 ·rename_i d e
  obtain ⟨v,h1,h2⟩:=S.val i d e
  exact ⟨v,h1,o ι H v (.refl _ _) h2 Rh⟩
 ·exact o.elim
theorem ao0 {v:V} {d:D} (h:PE X e (tC v)) (r:∀ ι H,Rep X.K ι H v d):ME X E e (sC d) :=
 PE.weak h fun σ H Q ⟨ι,τ,h,S,Rh,o⟩=>o ι H v (.refl _ _) (r ι H) Rh
theorem bc {i j pos}:ME X E (.Constant (.int i) j pos) (sC (.int i)):=ao0 aog fun _ _=>.int i
theorem a2c {i j pos}:ME X E (.Constant (.bool i) j pos) (sC (.bl i)):=ao0 au1 fun _ _=>.bl i
theorem a4s {i j pos}:ME X E (.Constant (.str i) j pos) (sC (.str i)):=ao0 aoi fun _ _=>.str i
theorem apo {j pos}:ME X E (.Constant .none j pos) (sC .non):=ao0 aoh fun _ _=>.non
theorem a2d {x:Str} {n:String} {pos:Pos} (hg:Gl X x) (hm:X.mg x=none) (hv:bootBuiltins x=some (.type n)) (hn:x ≠ "__name__":=by decide) (hd:(x == ("__debug__" : Str))=false:=by decide):ME X E (.Name x pos) (sC (.ty n)) :=
 ao0 (ady (v:=.ty n) hg hm hv rfl hn hd) fun _ _=>.ty n
theorem aes {x:Str} {i:Int} {t:Tok} {pos:Pos} (hg:Gl X x) (hm:X.mg x=some (.int i t)) (hd:(x == ("__debug__" : Str))=false:=by decide):ME X E (.Name x pos) (sC (.int i)) :=
 ao0 (a3u (v:=.int i) hg hm ⟨t,rfl⟩ hd) fun _ _=>.int i
def s2 (g:D→D→Hd→R D) (fa fb:SE):SE:=fun τ h=>(fa τ h).bind fun x h1=>(fb τ h1).bind fun y h2=>g x y h2
def s1 (g:D→Hd→R D) (fa:SE):SE:=fun τ h=>(fa τ h).bind g
def a1t (K:PySem.W.Frag) (g:D→D→Hd→R D) (r:R2):Prop:=∀ (E:XD) ι H h x y dx dy Q,Rep K ι H x dx→Rep K ι H y dy→HRep K ι H h→out K E (yt K) ι H (g dx dy h) Q→r x y H Q
def axg (K:PySem.W.Frag) (g:D→Hd→R D) (r:V→Hp→VK→Prop):Prop:=∀ (E:XD) ι H h x dx Q,Rep K ι H x dx→HRep K ι H h→out K E (yt K) ι H (g dx h) Q→r x H Q
def adp (K:PySem.W.Frag) (g:List D→Hd→R D) (r:List V→Hp→VK→Prop):Prop:=∀ (E:XD) ι H h xs ds Q,Reps K ι H xs ds→HRep K ι H h→out K E (yt K) ι H (g ds h) Q→r xs H Q
theorem atr {g:D→D→Hd→R D} {r:R2} {K:PySem.W.Frag} (hs:a1t K g r) {σ:St} {H:Hp} {Q:VK} (q:lift K E (yt K) (s2 g fa fb) σ H Q):tOp r (lift K E (yt K) fa) (lift K E (yt K) fb) σ H Q:=by
 obtain ⟨ι,τ,h,S,Rh,o⟩:=q
 refine ⟨ι,τ,h,S,Rh,dq o fun d h1 ι1 H1 v g1 r1 hr1 o1=>?_⟩
 refine ⟨ι1,τ,h1,S.mono g1,hr1,dq o1 fun d2 h2 ι2 H2 u g2 r2 hr2 o2=>?_⟩
 exact hs E ι2 H2 h2 v u d d2 Q (r1.mono g2) r2 hr2 o2
theorem aak {op:Operator} {r:R2} {g:D→D→Hd→R D} (ho:OpR X (binaryOp op) r) (hs:a1t X.K g r) (ha:ME X E a fa) (hb:ME X E b fb):ME X E (.BinOp a op b pos) (s2 g fa fb) :=
 PE.weak (auf ho ha hb) fun σ H Q q=>atr hs q
theorem yh {op:CmpOp} {r:R2} {g:D→D→Hd→R D} (ho:OpR X (compareOp op) r) (hs:a1t X.K g r) (ha:ME X E a fa) (hb:ME X E b fb) (hm:behindInMarks op b=false):ME X E (.Compare a [op] [b] pos) (s2 g fa fb) :=
 PE.weak (al2 ho ha hb hm) fun σ H Q q=>atr hs q
theorem auz {op:UnaryOp} {r:V→Hp→VK→Prop} {g:D→Hd→R D} (ho:UnR X (unaryOp op) r) (hs:axg X.K g r) (ha:ME X E a fa):ME X E (.UnaryOp op a pos) (s1 g fa):=by
 refine PE.weak (auh ho ha) fun σ H Q ⟨ι,τ,h,S,Rh,o⟩=>?_
 exact ⟨ι,τ,h,S,Rh,dq o fun d h1 ι1 H1 v g1 r1 hr1 o1=>hs E ι1 H1 h1 v d Q r1 hr1 o1⟩
theorem av0 {r:R2} {g:D→D→Hd→R D} (ho:IxR X r) (hs:a1t X.K g r) (ha:ME X E a fa) (hb:ME X E b fb) (hp:aad b):ME X E (.Subscript a b pos) (s2 g fa fb) :=
 PE.weak (auo ho ha hb hp) fun σ H Q q=>atr hs q
def asB (d:D) (h:Hd):R Bool:=match d with | .bl b=>.ok b h | _=>.no
def sT (f:SE):ST:=fun τ h=>(f τ h).bind asB
theorem aet {K:PySem.W.Frag} {t:TE} {f:SE} (hi:∀ σ H Q,lift K E (yt K) f σ H Q→t σ H Q) {σ:St} {H:Hp} {Q:Bool→Hp→Prop} (q:lift K E atq (sT f) σ H Q):al3 t σ H Q:=by
 refine hi σ H _ ?_
 obtain ⟨ι,τ,h,S,Rh,o⟩:=q
 refine ⟨ι,τ,h,S,Rh,dq o fun d h1 ι1 H1 v g1 r1 hr1 o1=>?_⟩
 cases r1 with
 | bl b=>exact ⟨b,rfl,o1 ι1 H1 b (.refl _ _) rfl hr1⟩
 | _=>exact o1.elim
theorem gq {op:CmpOp} {r:R2} {g:D→D→Hd→R D} (ho:OpR X (compareOp op) r) (hs:a1t X.K g r) (ha:ME X E a fa) (hb:ME X E b fb) (hm:behindInMarks op b=false):MT X E (.Compare a [op] [b] pos) (sT (s2 g fa fb)) :=
 PT.weak (al4 ho ha hb hm) fun σ H Q q=>aet (fun _ _ _=>atr hs) q
def sCh (g g':D→D→Hd→R D) (fa fb fc:SE):SE:=fun τ h=>(fa τ h).bind fun x h1=>(fb τ h1).bind fun y h2=>(g x y h2).bind fun z h3=>match z with
 | .bl true=>(fc τ h3).bind fun w h4=>g' y w h4
 | .bl false=>.ok (.bl false) h3
 | _=>.no
theorem ajv {K:PySem.W.Frag} {g g':D→D→Hd→R D} {r r':R2} (hs:a1t K g r) (hs':a1t K g' r') {σ:St} {H:Hp} {Q:VK} (q:lift K E (yt K) (sCh g g' fa fb fc) σ H Q) :
  ae7 r r' (lift K E (yt K) fa) (lift K E (yt K) fb) (lift K E (yt K) fc) σ H Q:=by
 obtain ⟨ι,τ,h,S,Rh,o⟩:=q
 refine ⟨ι,τ,h,S,Rh,dq o fun d h1 ι1 H1 v g1 r1 hr1 o1=>?_⟩
 refine ⟨ι1,τ,h1,S.mono g1,hr1,dq o1 fun d2 h2 ι2 H2 u g2 r2 hr2 o2=>?_⟩
 refine hs E ι2 H2 h2 v u d d2 _ (r1.mono g2) r2 hr2 (dq o2 fun d3 h3 ι3 H3 z g3 r3 hr3 o3=>?_)
 cases r3 with
 | bl k =>
  refine ⟨k,rfl,?_⟩
  cases k with
  | true =>
   rw [if_pos rfl]
   refine ⟨ι3,τ,h3,((S.mono g1).mono g2).mono g3,hr3,dq o3 fun d4 h4 ι4 H4 w g4 r4 hr4 o4=>?_⟩
   exact hs' E ι4 H4 h4 u w d2 d4 Q ((r2.mono g3).mono g4) r4 hr4 o4
  | false =>
   rw [if_neg Bool.false_ne_true]
   exact o3 ι3 H3 (.bl false) (.refl _ _) (.bl false) hr3
 | _=>exact o3.elim
theorem a5i {op op':CmpOp} {r r':R2} {g g':D→D→Hd→R D} (ho:OpR X (compareOp op) r) (ho':OpR X (compareOp op') r') (hs:a1t X.K g r) (hs':a1t X.K g' r') (ha:ME X E a fa) (hb:ME X E b fb) (hc:ME X E c fc)
  (hm:lastMarks [op,op'] [b,c]=false:=by with_unfolding_all rfl):ME X E (.Compare a [op,op'] [b,c] pos) (sCh g g' fa fb fc) :=
 PE.weak (ahh ho ho' ha hb hc hm) fun σ H Q q=>ajv hs hs' q
theorem a7i {op op':CmpOp} {r r':R2} {g g':D→D→Hd→R D} (ho:OpR X (compareOp op) r) (ho':OpR X (compareOp op') r') (hs:a1t X.K g r) (hs':a1t X.K g' r') (ha:ME X E a fa) (hb:ME X E b fb) (hc:ME X E c fc)
  (hm:lastMarks [op,op'] [b,c]=false:=by with_unfolding_all rfl):MT X E (.Compare a [op,op'] [b,c] pos) (sT (sCh g g' fa fb fc)) :=
 PT.weak (ahi ho ho' ha hb hc hm) fun σ H Q q=>aet (fun _ _ _=>ajv hs hs') q
def tru (d:D) (h:Hd):R Bool:=match d with
 | .non=>.ok false h
 | .bl b=>.ok b h
 | .int i=>.ok (i != 0) h
 | .str x=>if x.length≤LINE then .ok ((x.length:Int) != 0) h else .no
 | .tup xs=>.ok (!xs.isEmpty) h
 | .rol xs=>.ok (!xs.isEmpty) h
 | .ref i=>match h[i]? with
  | some (.lst xs)=>.ok (!xs.isEmpty) h
  | some (.dK kvs)=>.ok (!kvs.isEmpty) h
  | _=>.no
 | _=>.no
theorem Reps.emp {K:PySem.W.Frag} {ι:List Addr} {H:Hp} {vs:List V} {ds:List D} (r:Reps K ι H vs ds):vs.isEmpty=ds.isEmpty:=by cases r<;>rfl
theorem KRep.emp {κ:Type} {K:PySem.W.Frag} {ι:List Addr} {H:Hp} {us:List (κ × V)} {kvs:List (κ × D)} (r:KRep K ι H us kvs):us.isEmpty=kvs.isEmpty:=by
 have:=congrArg List.length r.1
 cases us<;>cases kvs<;>simp at this ⊢
theorem aln {K:PySem.W.Frag} {ι:List Addr} {H:Hp} {h:Hd} {x:V} {d:D} {Q:Bool→Hp→Prop} (r:Rep K ι H x d) (hr:HRep K ι H h) (o:out K E atq ι H (tru d h) Q):∃ k,auk K x H k∧Q k H:=by
 cases r with
 | non=>exact ⟨false,rfl,o ι H _ (.refl _ _) rfl hr⟩
 | bl b=>exact ⟨b,rfl,o ι H _ (.refl _ _) rfl hr⟩
 | int i=>exact ⟨_,rfl,o ι H _ (.refl _ _) rfl hr⟩
 | str x =>
  by_cases hl:x.length≤LINE
  ·simp only [tru,if_pos hl] at o
   exact ⟨_,⟨ll hl,rfl⟩,o ι H _ (.refl _ _) rfl hr⟩
  ·simp only [tru,if_neg hl] at o
   exact o.elim
 | ty n=>exact o.elim
 | rod _ _ _=>exact o.elim
 | scr _ _=>exact o.elim
 | rdT _ _ _=>exact o.elim
 | exc _ _ _=>exact o.elim
 | tup e rs=>exact ⟨_, .inr (.inl ⟨_,SqT.of e,rfl⟩),by rw [rs.emp];exact o ι H _ (.refl _ _) rfl hr⟩
 | rol e rs=>exact ⟨_, .inl ⟨_,e.l,rfl⟩,by rw [rs.emp];exact o ι H _ (.refl _ _) rfl hr⟩
 | @ref a i e =>
  obtain ⟨ob,h1,h2⟩:=hr.at e
  simp only [tru,h1] at o
  cases ob with
  | lst xs =>
   obtain ⟨vs,h3,h4⟩:=h2
   exact ⟨_, .inl ⟨_,SqL.of h3,rfl⟩,by rw [h4.emp];exact o ι H _ (.refl _ _) rfl hr⟩
  | dK kvs =>
   obtain ⟨us,h3,h4⟩:=h2
   exact ⟨_, .inr (.inr ⟨_,h3,rfl⟩),by rw [h4.emp];exact o ι H _ (.refl _ _) rfl hr⟩
  | dT kvs=>exact o.elim
def zb (f:SE):ST:=fun τ h=>(f τ h).bind tru
theorem qj (ha:ME X E a fa) (he:∀ whole,isTrue a X.env whole=(do let v ← whole;standAt a.pos;holding [v] (truthy v)):=by intro _;rfl):MT X E a (zb fa):=by
 refine PT.weak (ahj ha he) fun σ H Q ⟨ι,τ,h,S,Rh,o⟩=>?_
 exact ⟨ι,τ,h,S,Rh,dq o fun d h1 ι1 H1 v g1 r1 hr1 o1=>aln r1 hr1 o1⟩
def ad7 (f g:ST):ST:=fun τ h=>(f τ h).bind fun b h1=>if b=true then g τ h1 else .ok false h1
def sOr (f g:ST):ST:=fun τ h=>(f τ h).bind fun b h1=>if b=true then .ok true h1 else g τ h1
def a0z (f:ST):ST:=fun τ h=>(f τ h).bind fun b h1=>.ok (!b) h1
variable {ga gb:ST}
theorem a3x (ha:MT X E a ga):MW X E (.BoolOp .And [a] pos) ga:=aku ha
theorem a3e (ha:MT X E a ga):MW X E (.BoolOp .Or [a] pos) ga:=aoj ha
theorem a6z {rest:List Expr} (ha:MT X E a ga) (hb:MW X E (.BoolOp .And (b::rest) pos) gb):MW X E (.BoolOp .And (a::b::rest) pos) (ad7 ga gb):=by
 refine PW.weak (aok ha hb) fun σ H Q ⟨ι,τ,h,S,Rh,o⟩=>?_
 refine ⟨ι,τ,h,S,Rh,dq o fun d h1 ι1 H1 v g1 r1 hr1 o1=>?_⟩
 cases r1
 cases d with
 | true=>exact ⟨ι1,τ,h1,S.mono g1,hr1,o1⟩
 | false=>exact o1 ι1 H1 false (.refl _ _) rfl hr1
theorem a6l {rest:List Expr} (ha:MT X E a ga) (hb:MW X E (.BoolOp .Or (b::rest) pos) gb):MW X E (.BoolOp .Or (a::b::rest) pos) (sOr ga gb):=by
 refine PW.weak (au2 ha hb) fun σ H Q ⟨ι,τ,h,S,Rh,o⟩=>?_
 refine ⟨ι,τ,h,S,Rh,dq o fun d h1 ι1 H1 v g1 r1 hr1 o1=>?_⟩
 cases r1
 cases d with
 | true=>exact o1 ι1 H1 true (.refl _ _) rfl hr1
 | false=>exact ⟨ι1,τ,h1,S.mono g1,hr1,o1⟩
theorem qz (ha:MT X E a ga):MT X E (.UnaryOp .Not a pos) (a0z ga):=by
 refine PT.weak (aol ha) fun σ H Q ⟨ι,τ,h,S,Rh,o⟩=>?_
 refine ⟨ι,τ,h,S,Rh,dq o fun d h1 ι1 H1 v g1 r1 hr1 o1=>?_⟩
 cases r1
 exact o1 ι1 H1 _ (.refl _ _) rfl hr1
def yu (f g:SE):SE:=fun τ h=>(f τ h).bind fun d h1=>match d with | .bl true=>g τ h1 | .bl false=>.ok (.bl false) h1 | _=>.no
def aw2 (f g:SE):SE:=fun τ h=>(f τ h).bind fun d h1=>match d with | .bl true=>.ok (.bl true) h1 | .bl false=>g τ h1 | _=>.no
def aal (f:SE):SE:=fun τ h=>(f τ h).bind fun d h1=>match d with | .bl b=>.ok (.bl (!b)) h1 | _=>.no
theorem a03 {op} (ha:ME X E a fa):ME X E (.BoolOp op [a] pos) fa:=aom ha
theorem yj {rest:List Expr} (ha:ME X E a fa) (hb:ME X E (.BoolOp .And (b::rest) pos) fb):ME X E (.BoolOp .And (a::b::rest) pos) (yu fa fb):=by
 refine PE.weak (aon ha hb) fun σ H Q ⟨ι,τ,h,S,Rh,o⟩=>?_
 refine ⟨ι,τ,h,S,Rh,dq o fun d h1 ι1 H1 v g1 r1 hr1 o1=>?_⟩
 cases r1 with
 | bl k =>
  refine ⟨k,rfl,?_⟩
  cases k with
  | true=>exact ⟨ι1,τ,h1,S.mono g1,hr1,o1⟩
  | false=>exact o1 ι1 H1 _ (.refl _ _) (.bl _) hr1
 | _=>exact o1.elim
theorem ajw (ha:ME X E a fa):ME X E (.UnaryOp .Not a pos) (aal fa):=by
 refine PE.weak (aoo ha) fun σ H Q ⟨ι,τ,h,S,Rh,o⟩=>?_
 refine ⟨ι,τ,h,S,Rh,dq o fun d h1 ι1 H1 v g1 r1 hr1 o1=>?_⟩
 cases r1 with
 | bl k=>exact ⟨k,rfl,o1 ι1 H1 _ (.refl _ _) (.bl _) hr1⟩
 | _=>exact o1.elim
def aw3 (c:ST) (f g:SE):SE:=fun τ h=>(c τ h).bind fun b h1=>if b=true then f τ h1 else g τ h1
def bz:SA:=fun _ h=>.ok [] h
def ak (f:SE) (g:SA):SA:=fun τ h=>(f τ h).bind fun d h1=>(g τ h1).bind fun ds h2=>.ok (d::ds) h2
variable {es:List Expr} {ka:SA}
theorem aq:MA X E [] bz:=PA.weak a3a fun σ H Q ⟨ι,τ,h,S,Rh,o⟩=>o ι H [] (.refl _ _) .nil Rh
theorem aj (ha:ME X E e fa) (hr:MA X E es ka) (hs:starEach (e::es) X.env=(false,eval e X.env)::starEach es X.env:=by rfl):MA X E (e::es) (ak fa ka):=by
 refine PA.weak (uw ha hr hs) fun σ H Q ⟨ι,τ,h,S,Rh,o⟩=>?_
 refine ⟨ι,τ,h,S,Rh,dq o fun d h1 ι1 H1 v g1 r1 hr1 o1=>?_⟩
 refine ⟨ι1,τ,h1,S.mono g1,hr1,dq o1 fun d2 h2 ι2 H2 u g2 r2 hr2 o2=>?_⟩
 exact o2 ι2 H2 _ (.refl _ _) (.cons (r1.mono g2) r2) hr2
def qx (ds:List D) (h:Hd):R D:=if ds.length≤LINE then .ok (.tup ds) h else .no
def a2i (ds:List D) (h:Hd):R D:=if ds.length≤LINE then .ok (.ref h.length) (h++[.lst ds]) else .no
def sA (g:List D→Hd→R D) (k:SA):SE:=fun τ h=>(k τ h).bind g
theorem a1c {K:PySem.W.Frag} {ι:List Addr} {H:Hp} {h:Hd} {vs:List V} {ds:List D} {Q:VK} (r:Reps K ι H vs ds) (hr:HRep K ι H h) (o:out K E (yt K) ι H (.ok (.tup ds) h) Q):∀ p,H p=none→Q (.ref p) (upd H p (.tup vs)):=fun p hp =>
 o ι _ _ (wy hp _) (.tup jy (r.mono (wy hp _))) (hr.aside hp _)
theorem vo {K:PySem.W.Frag} {ι:List Addr} {H:Hp} {h:Hd} {vs:List V} {ds:List D} {Q:VK} (r:Reps K ι H vs ds) (hr:HRep K ι H h) (o:out K E (yt K) ι H (.ok (.ref h.length) (h++[.lst ds])) Q):∀ p,H p=none→Q (.ref p) (upd H p (.lst vs)):=fun p hp =>
 o (ι++[p]) _ _ (abk hp _) (.ref (by rw [List.getElem?_append_right (by rw [hr.len];exact Nat.le_refl _),hr.len];simp)) (hr.add hp ⟨_,jy,r.mono (abk hp _)⟩)
theorem a7j {K:PySem.W.Frag} {ι:List Addr} {H:Hp} {h:Hd} {i:Nat} {a:Addr} {vs:List V} {ds:List D} {d:D} {v:V} {Q:VK} (r:Reps K ι H vs ds) (hr:HRep K ι H h) (hi:ι[i]? = some a) (rd:Rep K ι H v d) (o:out K E (yt K) ι H (.ok d (h.set i (.lst ds))) Q):Q v (upd H a (.lst vs)) :=
 o ι _ _ (a2h hr hi _) (rd.mono (a2h hr hi _)) (hr.put hi ⟨_,jy,r.mono (a2h hr hi _)⟩)
theorem m8 {x1} (h:MA X E es ka):ME X E (.Tuple es x1 pos) (sA qx ka):=by
 refine PE.weak (ajm h) fun σ H Q ⟨ι,τ,h,S,Rh,o⟩=>?_
 refine ⟨ι,τ,h,S,Rh,dq o fun d h1 ι1 H1 v g1 r1 hr1 o1=>?_⟩
 unfold qx at o1
 split at o1
 ·rename_i hl
  exact ⟨ll (by rw [r1.len];exact hl),a1c r1 hr1 o1⟩
 ·exact o1.elim
theorem a0s (h:MA X E es ka):ME X E (.List es pos) (sA a2i ka):=by
 refine PE.weak (ap3 h) fun σ H Q ⟨ι,τ,h,S,Rh,o⟩=>?_
 refine ⟨ι,τ,h,S,Rh,dq o fun d h1 ι1 H1 v g1 r1 hr1 o1=>?_⟩
 unfold a2i at o1
 split at o1
 ·rename_i hl
  exact ⟨ll (by rw [r1.len];exact hl),vo r1 hr1 o1⟩
 ·exact o1.elim
theorem jg {x:Str} {p:Pos} {id:String} {r:List V→Hp→VK→Prop} {g:List D→Hd→R D} (hc:CallR X (.builtin id) r) (hs:adp X.K g r) (hg:Gl X x) (hm:X.mg x=none) (hv:bootBuiltins x=some (.builtin id)) (ha:MA X E (e::es) ka) (hn:x ≠ "__name__":=by decide) (hdb:(x == ("__debug__" : Str))=false:=by decide)
  (he:starEach (e::es) X.env=(false,eval e X.env)::starEach es X.env:=by rfl) (hpl:(backTo pos (starEach es X.env)).any (·.1)=false:=by rfl):ME X E (.Call (.Name x p) (e::es) [] pos) (sA g ka):=by
 refine PE.weak (a5g hc hg hm hv ha hn hdb he hpl) fun σ H Q ⟨ι,τ,h,S,Rh,o⟩=>?_
 exact ⟨ι,τ,h,S,Rh,dq o fun d h1 ι1 H1 v g1 r1 hr1 o1=>hs E ι1 H1 h1 v d Q r1 hr1 o1⟩
theorem a1d {x:Str} {p:Pos} {id:String} {r:List V→Hp→VK→Prop} {g:List D→Hd→R D} (hc:CallR X (.type id) r) (hs:adp X.K g r) (hg:Gl X x) (hm:X.mg x=none) (hv:bootBuiltins x=some (.type id)) (ha:MA X E (e::es) ka) (hn:x ≠ "__name__":=by decide) (hdb:(x == ("__debug__" : Str))=false:=by decide)
  (he:starEach (e::es) X.env=(false,eval e X.env)::starEach es X.env:=by rfl) (hpl:(backTo pos (starEach es X.env)).any (·.1)=false:=by rfl):ME X E (.Call (.Name x p) (e::es) [] pos) (sA g ka):=by
 refine PE.weak (a5q hc hg hm hv ha hn hdb he hpl) fun σ H Q ⟨ι,τ,h,S,Rh,o⟩=>?_
 exact ⟨ι,τ,h,S,Rh,dq o fun d h1 ι1 H1 v g1 r1 hr1 o1=>hs E ι1 H1 h1 v d Q r1 hr1 o1⟩
end
end MI
namespace MI
open PySem L2
def iu (f g:SS):SS:=fun τ h=>match f τ h with | .nx τ1 h1=>g τ1 h1 | r=>r
def sNx:SS:=fun τ h=>.nx τ h
def o9 (f:SE):SS:=fun τ h=>(f τ h).fl fun d h1=>.rt d h1
def a1e (f:SE):SS:=fun τ h=>(f τ h).fl fun _ h1=>.nx τ h1
def sIf (c:ST) (f g:SS):SS:=fun τ h=>(c τ h).fl fun b h1=>if b=true then f τ h1 else g τ h1
def qi (i:Nat) (f:SE):SS:=fun τ h=>(f τ h).fl fun d h1=>.nx (τ.set i (some d)) h1
def ajx (i:Nat) (g:D→D→Hd→R D) (f:SE):SS:=fun τ h=>match τ[i]? with
 | some (some x)=>(f τ h).fl fun y h1=>(g x y h1).fl fun z h2=>.nx (τ.set i (some z)) h2
 | _=>.no
section
variable {X:Cx} {E:XD} {e o:Expr} {es:List Expr} {fa fb fc:SE} {ga:ST} {st:Stmt} {sts a b:List Stmt} {f g:SS} {pos:Pos}
theorem dj:MSs X E [] sNx:=PSs.weak akv fun N σ H ⟨ι,τ,h,S,Rh,o⟩=>o ι H σ (.refl _ _) S Rh
theorem apq {K:PySem.W.Frag} {N:Ends} {σ:St} {H:Hp} (q:a5z K E (iu f g) N σ H):a5z K E f { N with nx:=a5z K E g N } σ H:=by
 obtain ⟨ι,τ,h,S,Rh,o⟩:=q
 refine ⟨ι,τ,h,S,Rh,?_⟩
 unfold iu at o
 cases hf:f τ h with
 | nx τ1 h1 =>
  rw [hf] at o
  exact fun ι1 H1 σ1 g1 S1 R1=>⟨ι1,τ1,h1,S1,R1,ul o g1⟩
 | _=>rw [hf] at o;exact o
theorem az (h1:MS X E st f) (h2:MSs X E sts g):MSs X E (st::sts) (iu f g):=PSs.weak (ahd h1 h2) fun N σ H q=>apq q
theorem bh (h1:MS X E st f):MSs X E [st] f:=akx h1
theorem di (he:ME X E e fa):MS X E (.Return (some e) pos) (o9 fa):=by
 refine PS.weak (aop he) fun N σ H ⟨ι,τ,h,S,Rh,o⟩=>?_
 exact ⟨ι,τ,h,S,Rh,qy o fun d h1 ι1 H1 v g1 r1 hr1 o1=>o1 ι1 H1 v (.refl _ _) r1 hr1⟩
theorem a3y (he:ME X E e fa) (hs:swapsWith e none pos.line X.env=pure false:=by rfl):MS X E (.Expr e pos) (a1e fa):=by
 refine PS.weak (aky he hs) fun N σ H ⟨ι,τ,h,S,Rh,o⟩=>?_
 exact ⟨ι,τ,h,S,Rh,qy o fun d h1 ι1 H1 v g1 r1 hr1 o1=>o1 ι1 H1 σ (.refl _ _) (S.mono g1) hr1⟩
theorem lq {c:Expr} (hc:MT X E c ga) (ha:MSs X E a f) (hb:MSs X E b g):MS X E (.If c a b pos) (sIf ga f g):=by
 refine PS.weak (au7 hc ha hb) fun N σ H ⟨ι,τ,h,S,Rh,o⟩=>?_
 refine ⟨ι,τ,h,S,Rh,qy o fun d h1 ι1 H1 v g1 r1 hr1 o1=>?_⟩
 cases r1
 cases d with
 | true=>exact ⟨ι1,τ,h1,S.mono g1,hr1,o1⟩
 | false=>exact ⟨ι1,τ,h1,S.mono g1,hr1,o1⟩
theorem j7 {i:Nat} {x:Str} {pos':Pos} (hN:X.N.Nodup) (hi:X.N[i]? = some x) (hx:Loc X.env.scope x) (he:ME X E e fa) (hs:swapsWith e (some (.Name x pos')) pos.line X.env=pure false:=by rfl) (hf:X.fn x=true∨X.env.scope.names.lookup x=some .local:=by first | exact .inl rfl | exact .inr rfl | assumption) :
  MS X E (.Assign [.Name x pos'] e pos) (qi i fa):=by
 refine PS.weak (aos hN hi hx he hs hf) fun N σ H ⟨ι,τ,h,S,Rh,o⟩=>?_
 exact ⟨ι,τ,h,S,Rh,qy o fun d h1 ι1 H1 v g1 r1 hr1 o1=>o1 ι1 H1 _ (.refl _ _) ((S.mono g1).set r1 i) hr1⟩
theorem ajy {i:Nat} {x:Str} {op:Operator} {r:R2} {gg:D→D→Hd→R D} {pos':Pos} (hN:X.N.Nodup) (hi:X.N[i]? = some x) (hx:Loc X.env.scope x) (ho:OpR X (inplaceOp op) r) (hs:a1t X.K gg r) (he:ME X E e fa) (hf:X.fn x=true∨X.env.scope.names.lookup x=some .local:=by first | exact .inl rfl | exact .inr rfl | assumption) :
  MS X E (.AugAssign (.Name x pos') op e pos) (ajx i gg fa):=by
 refine PS.weak (aot hN hi hx he ho hf) fun N σ H ⟨ι,τ,h,S,Rh,o⟩=>?_
 unfold ajx at o
 split at o
 ·rename_i d ed
  obtain ⟨v,h1,h2⟩:=S.val i d ed
  refine ⟨v,h1,ι,τ,h,S,Rh,qy o fun d2 h3 ι1 H1 u g1 r1 hr1 o1=>?_⟩
  refine hs E ι1 H1 h3 v u d d2 _ (h2.mono g1) r1 hr1 (qy o1 fun d3 h4 ι2 H2 z g2 r2 hr2 o2=>?_)
  exact o2 ι2 H2 _ (.refl _ _) (((S.mono g1).mono g2).set r2 i) hr2
 ·exact o.elim
def put (o k v:D) (h:Hd):Option Hd:=match o,k with
 | .ref i, .int j=>match h[i]? with
  | some (.lst xs)=>match ixN xs.length j with
   | some m=>some (h.set i (.lst (xs.set m v)))
   | none=>none
  | _=>none
 | _,_=>none
theorem aeu {K:PySem.W.Frag} {ι:List Addr} {H:Hp} {h h':Hd} {o k v:V} {od kd vd:D} {Q:Hp→Prop} (r1:Rep K ι H o od) (r2:Rep K ι H k kd) (r3:Rep K ι H v vd) (hr:HRep K ι H h) (e:put od kd vd h=some h')
  (q:∀ H',Gr ι H ι H'→HRep K ι H' h'→Q H'):apa o k v H Q:=by
 cases r1 with
 | @ref a i ha =>
  cases r2 with
  | int j =>
   obtain ⟨ob,h1,h2⟩:=hr.at ha
   cases ob with
   | lst xs =>
    obtain ⟨vs,h3,h4⟩:=h2
    simp only [put,h1] at e
    cases hm:ixN xs.length j with
    | none=>rw [hm] at e;cases e
    | some m =>
     rw [hm] at e
     cases e
     exact ⟨a,vs,j,m,rfl,rfl,h3,by rw [h4.len];exact hm,q _ (a2h hr ha _) (hr.put ha ⟨_,jy,(h4.set r3 m).mono (a2h hr ha _)⟩)⟩
   | dK _=>simp only [put,h1] at e;cases e
   | dT _=>simp only [put,h1] at e;cases e
  | _=>cases e
 | _=>cases e
def aam (fe fo fi:SE):SS:=fun τ h=>(fe τ h).fl fun v h1=>(fo τ h1).fl fun o h2=>(fi τ h2).fl fun k h3=>match put o k v h3 with | some h4=>.nx τ h4 | none=>.no
theorem a65 {i:Expr} {pos':Pos} (he:ME X E e fa) (ho:ME X E o fb) (hi:ME X E i fc)
  (hs:swapsWithSole [.Subscript o i pos'] e pos.line X.env=pure false:=by rfl) (hw:swappedStores [.Subscript o i pos'] e X.env=pure none:=by rfl)
  (h1:(assignEach [.Subscript o i pos'] X.env).map (·.2)=[assign (.Subscript o i pos') X.env]:=by rfl)
  (ha:∀ v,assign (.Subscript o i pos') X.env v=(do
   let ov ← holding [v] (eval o X.env)
   let iv ← holding [v,ov] (eval i X.env)
   standAt pos'
   holding [v,ov,iv] (setItem ov iv v)
   release [v,ov,iv] []):=by intro _;rfl):MS X E (.Assign [.Subscript o i pos'] e pos) (aam fa fb fc):=by
 refine PS.weak (ajk he (aor ho hi set_list ha) hs hw h1) fun N σ H ⟨ι,τ,h,S,Rh,oo⟩=>?_
 refine ⟨ι,τ,h,S,Rh,qy oo fun d h1 ι1 H1 v g1 r1 hr1 o1=>?_⟩
 refine ⟨ι1,τ,h1,S.mono g1,hr1,qy o1 fun d2 h2 ι2 H2 u g2 r2 hr2 o2=>?_⟩
 refine ⟨ι2,τ,h2,(S.mono g1).mono g2,hr2,qy o2 fun d3 h3 ι3 H3 w g3 r3 hr3 o3=>?_⟩
 cases hp:put d2 d3 d h3 with
 | none=>rw [hp] at o3;exact o3.elim
 | some h4 =>
  rw [hp] at o3
  exact aeu (r2.mono g3) r3 ((r1.mono g2).mono g3) hr3 hp fun H' g4 hr4=>o3 ι3 H' σ g4 ((((S.mono g1).mono g2).mono g3).mono g4) hr4
def sWh (c:ST) (f:SS):Nat→SS
 | 0,_,_=>.no
 | n+1,τ,h=>(c τ h).fl fun b h1=>if b=true then (match f τ h1 with | .nx τ2 h2=>sWh c f n τ2 h2 | .ct τ2 h2=>sWh c f n τ2 h2 | .bk τ2 h2=>.nx τ2 h2 | r=>r) else .nx τ h1
theorem a7k (n:Nat) {c:Expr} (hp:PassesOwn (model X.prog X.w) X.A X.env X.xe) (hc:MT X E c ga) (hb:MSs X E a f):MS X E (.While c a [] pos) (sWh ga f n):=by
 refine PS.weak (ahf hp hc hb) fun N σ H q=>?_
 refine ⟨fun m σ H=>a5z X.K E (sWh ga f m) N σ H,⟨n,q⟩,?_⟩
 rintro m σ1 H1 ⟨ι,τ,h,S,Rh,o⟩
 cases m with
 | zero=>exact o.elim
 | succ m =>
  refine ⟨ι,τ,h,S,Rh,qy o fun d h1 ι1 H1 v g1 r1 hr1 o1=>?_⟩
  cases r1
  cases d with
  | false=>exact o1 ι1 H1 _ (.refl _ _) (S.mono g1) hr1
  | true =>
   refine ⟨fun σ' H'=>a5z X.K E (sWh ga f m) N σ' H',fun σ' H' q=>⟨m,Nat.lt_succ_self m,q⟩,ι1,τ,h1,S.mono g1,hr1,?_⟩
   rw [if_pos rfl] at o1
   cases hf:f τ h1 with
   | nx τ2 h2=>rw [hf] at o1;exact fun ι2 H2 σ2 g2 S2 R2=>⟨ι2,τ2,h2,S2,R2,ul o1 g2⟩
   | ct τ2 h2=>rw [hf] at o1;exact fun ι2 H2 σ2 g2 S2 R2=>⟨ι2,τ2,h2,S2,R2,ul o1 g2⟩
   | bk τ2 h2=>rw [hf] at o1;exact o1
   | rt d h2=>rw [hf] at o1;exact o1
   | ex c h2=>rw [hf] at o1;exact o1
   | no=>rw [hf] at o1;exact o1.elim
end
abbrev SG:=D→Sd→Hd→Fl
def alo (K:PySem.W.Frag) (E:XD) (g:SG):TG:=fun v σ H Q=>∃ ι τ h d,Rep K ι H v d∧SRep K ι H σ τ∧HRep K ι H h∧ah7 K E ι H (g d τ h) { nx:=Q,rt:=fun _ _=>False }
abbrev MG (X:Cx) (E:XD) (tg:Expr) (g:SG):Prop:=PG X tg (alo X.K E g)
abbrev SGs:=List D→Sd→Hd→Fl
def aev (K:PySem.W.Frag) (E:XD) (g:SGs):TGs:=fun vs σ H Q=>∃ ι τ h ds,Reps K ι H vs ds∧SRep K ι H σ τ∧HRep K ι H h∧ah7 K E ι H (g ds τ h) { nx:=Q,rt:=fun _ _=>False }
abbrev MGs (X:Cx) (E:XD) (tg:List Expr) (g:SGs):Prop:=PGs X tg (aev X.K E g)
theorem PG.weak {X:Cx} {e:Expr} {t t':TG} (h:PG X e t) (i:∀ v σ H Q,t' v σ H Q→t v σ H Q):PG X e t':=fun pins s σ H v u Q I r q=>h pins s σ H v u Q I r (i _ _ _ _ q)
theorem PGs.weak {X:Cx} {e:List Expr} {t t':TGs} (h:PGs X e t) (i:∀ v σ H Q,t' v σ H Q→t v σ H Q):PGs X e t':=fun pins s σ H v u Q I r q=>h pins s σ H v u Q I r (i _ _ _ _ q)
def kN (i:Nat):SG:=fun d τ h=>.nx (τ.set i (some d)) h
def a92:SGs:=fun ds τ h=>match ds with | []=>.nx τ h | _=>.no
def qp (g:SG) (k:SGs):SGs:=fun ds τ h=>match ds with | d::r=>(match g d τ h with | .nx τ1 h1=>k r τ1 h1 | _=>.no) | []=>.no
def a8f (n:Nat) (k:SGs):SG:=fun d τ h=>match d with | .tup ds=>if ds.length=n then k ds τ h else .no | _=>.no
section
variable {X:Cx} {E:XD} {e:Expr} {es:List Expr} {fa:SE} {pos:Pos} {g:SG} {ks:SGs}
theorem m5 {i:Nat} {x:Str} (hN:X.N.Nodup) (hi:X.N[i]? = some x) (hx:Loc X.env.scope x) (hf:X.fn x=true∨X.env.scope.names.lookup x=some .local:=by first | exact .inl rfl | exact .inr rfl | assumption):MG X E (.Name x pos) (kN i) :=
 PG.weak (ug hN hi hx hf) fun v σ H Q ⟨ι,τ,h,d,r,S,Rh,o⟩=>o ι H _ (.refl _ _) (S.set r i) Rh
theorem a2r:MGs X E [] a92:=by
 refine PGs.weak aaa fun vs σ H Q ⟨ι,τ,h,ds,r,S,Rh,o⟩=>?_
 cases r with
 | nil=>exact ⟨rfl,o ι H σ (.refl _ _) S Rh⟩
 | cons _ _=>exact o.elim
theorem ai0 {K:PySem.W.Frag} {vs:List V} {σ:St} {H:Hp} {Q:St→Hp→Prop} (q:aev K E (qp g ks) vs σ H Q):ahe (alo K E g) (aev K E ks) vs σ H Q:=by
 obtain ⟨ι,τ,h,ds,r,S,Rh,o⟩:=q
 cases r with
 | nil=>exact o.elim
 | @cons v d vs ds r rs =>
  refine ⟨v,vs,rfl,ι,τ,h,d,r,S,Rh,?_⟩
  simp only [qp] at o
  cases hg:g d τ h with
  | nx τ1 h1 =>
   rw [hg] at o
   exact fun ι1 H1 σ1 g1 S1 R1=>⟨ι1,τ1,h1,ds,rs.mono g1,S1,R1,ul o g1⟩
  | _=>rw [hg] at o;exact o.elim
theorem a66 {k n:Nat} (hc:X.calm=true) (h:MGs X E es ks) (hn:(assignEach es X.env).length=n:=by rfl) (hst:(assignEach es X.env).findIdx? (·.1)=none:=by rfl):MG X E (.Tuple es k pos) (a8f n ks):=by
 refine PG.weak (adz hc h hn hst) fun v σ H Q ⟨ι,τ,h,d,r,S,Rh,o⟩=>?_
 cases r with
 | @tup a vs xs e rs =>
  simp only [a8f] at o
  by_cases hl:xs.length=n
  ·rw [if_pos hl] at o
   exact ⟨a,vs,rfl,SqT.of e,by rw [rs.len];exact hl,ι,τ,h,xs,rs,S,Rh,o⟩
  ·rw [if_neg hl] at o;exact o.elim
 | _=>exact o.elim
def aa4 (f:SE) (g:SG):SS:=fun τ h=>(f τ h).fl fun d h1=>match g d τ h1 with | .nx τ2 h2=>.nx τ2 h2 | _=>.no
theorem a93 {tg:Expr} (he:ME X E e fa) (hg:MG X E tg g) (hs:swapsWithSole [tg] e pos.line X.env=pure false:=by rfl) (hw:swappedStores [tg] e X.env=pure none:=by rfl)
  (h1:(assignEach [tg] X.env).map (·.2)=[assign tg X.env]:=by rfl):MS X E (.Assign [tg] e pos) (aa4 fa g):=by
 refine PS.weak (ajk he hg hs hw h1) fun N σ H ⟨ι,τ,h,S,Rh,o⟩=>?_
 refine ⟨ι,τ,h,S,Rh,qy o fun d h1 ι1 H1 v g1 r1 hr1 o1=>⟨ι1,τ,h1,d,r1,S.mono g1,hr1,?_⟩⟩
 cases hg:g d τ h1 with
 | nx τ1 h1=>rw [hg] at o1;exact o1
 | _=>rw [hg] at o1;exact o1.elim
end
structure Itm where
 xs:List D
 ck:Hd→Prop
def apr (K:PySem.W.Frag) (ι0:List Addr) (H0:Hp) (J:It) (it:Itm):Prop:=∀ ι H h,Gr ι0 H0 ι H→HRep K ι H h→it.ck h →
 (∀ (i:Nat) (d:D),it.xs[i]? = some d→J.go i H∧∀ x H',J.yld i H x H'→Gr ι H ι H'∧Rep K ι H' x d∧HRep K ι H' h)∧J.stop it.xs.length H
abbrev aw4 (K:PySem.W.Frag):List Addr→Hp→It→Itm→Prop:=fun ι H J it=>apr K ι H J it
abbrev SI:=Sd→Hd→R Itm
abbrev MI (X:Cx) (E:XD) (tg iter:Expr) (f:SI):Prop:=PI X tg iter (lift X.K E (aw4 X.K) f)
def vh (x:Str):List D:=x.cps.toList.map fun c=>D.str ⟨#[c]⟩
def ao1 (d:D) (h:Hd):R Itm:=match d with
 | .tup xs=>.ok ⟨xs,fun _=>True⟩ h
 | .rol xs=>.ok ⟨xs,fun _=>True⟩ h
 | .str x=>.ok ⟨vh x,fun _=>True⟩ h
 | .ref i=>match h[i]? with
  | some (.lst xs)=>.ok ⟨xs,fun h=>h[i]? = some (.lst xs)⟩ h
  | _=>.no
 | _=>.no
def sIt (f:SE):SI:=fun τ h=>(f τ h).bind ao1
theorem ajz {K:PySem.W.Frag} {ι0:List Addr} {H0:Hp} {a:Addr} {xs:List D} {ck:Hd→Prop} (hl:∀ ι H h,Gr ι0 H0 ι H→HRep K ι H h→ck h→∃ vs,SqL K H a vs∧Reps K ι H vs xs):apr K ι0 H0 (Itl K a) ⟨xs,ck⟩:=by
 intro ι H h g hr c
 obtain ⟨vs,h1,h2⟩:=hl ι H h g hr c
 refine ⟨fun i d e=>?_,⟨vs,h1,by rw [h2.len];exact Nat.le_refl _⟩⟩
 obtain ⟨v,e1,r⟩:=h2.get e
 refine ⟨⟨vs,v,h1,e1⟩,fun x H' y=>?_⟩
 obtain ⟨rfl,y⟩:=y
 have:=y vs h1
 rw [e1] at this;cases this
 exact ⟨.refl _ _,r,hr⟩
theorem a0t {X:Cx} {E:XD} {tg l:Expr} {f:SE} (hl:ME X E l f):MI X E tg l (sIt f):=by
 intro pins s σ H Rr I ⟨ι,τ,h,S,Rh,o⟩
 unfold sIt at o
 cases hf:f τ h with
 | no=>rw [hf] at o;exact o.elim
 | ex c h1 =>
  rw [hf] at o
  exact ajs hl pins s σ H Rr I ⟨ι,τ,h,S,Rh,by rw [hf];exact o⟩
 | ok d h1 =>
  rw [hf] at o
  cases d with
  | tup xs =>
   refine aov hl pins s σ H Rr I ⟨ι,τ,h,S,Rh,?_⟩
   rw [hf]
   intro ι1 H1 v g1 r1 hr1
   cases r1 with
   | @tup a vs _ e rs =>
    refine ⟨a,rfl,⟨vs,SqT.of e⟩,o ι1 H1 _ g1 ?_ hr1⟩
    intro ι2 H2 h2 g2 hr2 _
    have e2:=g2.tup _ _ e
    have rs2:=rs.mono g2
    refine ⟨fun i d ed=>?_,⟨vs,SqT.of e2,by rw [rs2.len];exact Nat.le_refl _⟩⟩
    obtain ⟨v,e1,r⟩:=rs2.get ed
    refine ⟨⟨vs,v,SqT.of e2,e1⟩,fun x H' y=>?_⟩
    obtain ⟨rfl,y⟩:=y
    have:=y vs (SqT.of e2)
    rw [e1] at this;cases this
    exact ⟨.refl _ _,r,hr2⟩
  | rol xs =>
   refine ae1 hl pins s σ H Rr I ⟨ι,τ,h,S,Rh,?_⟩
   rw [hf]
   intro ι1 H1 v g1 r1 hr1
   cases r1 with
   | @rol a vs _ e rs =>
    refine ⟨a,rfl,⟨vs,e.l⟩,o ι1 H1 _ g1 ?_ hr1⟩
    exact ajz (fun ι2 H2 h2 g2 hr2 _=>⟨vs,(e.mono g2).l,rs.mono g2⟩)
  | str x =>
   refine ajs hl pins s σ H Rr I ⟨ι,τ,h,S,Rh,?_⟩
   rw [hf]
   intro ι1 H1 v g1 r1 hr1
   cases r1
   refine ⟨x,rfl,o ι1 H1 _ g1 ?_ hr1⟩
   intro ι2 H2 h2 g2 hr2 _
   refine ⟨fun i d ed=>?_,by show (vh x).length=_;simp [vh]⟩
   simp only [vh,List.getElem?_map,Option.map_eq_some_iff] at ed
   obtain ⟨c,ec,rfl⟩:=ed
   refine ⟨by show i<x.cps.size;have:=(List.getElem?_eq_some_iff.mp ec).1;simpa using this,fun y H' q=>?_⟩
   obtain ⟨rfl,c',ec',rfl⟩:=q
   rw [ec] at ec';cases ec'
   exact ⟨.refl _ _, .str _,hr2⟩
  | ref i =>
   simp only [R.bind,ao1] at o
   cases ho:h1[i]? with
   | none=>rw [ho] at o;exact o.elim
   | some ob =>
    rw [ho] at o
    cases ob with
    | dK _=>exact o.elim
    | dT _=>exact o.elim
    | lst xs =>
     refine ae1 hl pins s σ H Rr I ⟨ι,τ,h,S,Rh,?_⟩
     rw [hf]
     intro ι1 H1 v g1 r1 hr1
     cases r1 with
     | @ref a _ e =>
      obtain ⟨vs,e1,rs⟩:=hr1.obj i a _ e ho
      refine ⟨a,rfl,⟨vs,SqL.of e1⟩,o ι1 H1 _ g1 ?_ hr1⟩
      refine ajz (fun ι2 H2 h2 g2 hr2 c=>?_)
      obtain ⟨us,e3,rs3⟩:=hr2.obj i a _ (g2.at e) c
      exact ⟨us,SqL.of e3,rs3⟩
  | _=>exact o.elim
def rng (lo:Int) (n:Nat):List D:=(List.range n).map fun i=>D.int (lo+(i:Nat))
def B62 (j:Int):Prop := -(2 ^ 62)≤j∧j<2 ^ 62
instance (j:Int):Decidable (B62 j):=by unfold B62;exact inferInstance
def a2s (ds:List D) (h:Hd):R Itm:=match ds with
 | [.int j]=>if B62 j then .ok ⟨rng 0 j.toNat,fun _=>True⟩ h else .no
 | _=>.no
def a6m (ds:List D) (h:Hd):R Itm:=match ds with
 | [.int i, .int j]=>if B62 i∧B62 j then .ok ⟨rng i (j - i).toNat,fun _=>True⟩ h else .no
 | _=>.no
def sRg (g:List D→Hd→R Itm) (k:SA):SI:=fun τ h=>(k τ h).bind g
theorem ak0 {K:PySem.W.Frag} {ι0:List Addr} {H0:Hp} (lo:Int) (n:Nat):apr K ι0 H0 (Itr lo n) ⟨rng lo n,fun _=>True⟩:=by
 intro ι H h g hr _
 refine ⟨fun i d ed=>?_,by show n≤(rng lo n).length;simp [rng]⟩
 simp only [rng,List.getElem?_map,Option.map_eq_some_iff] at ed
 obtain ⟨j,ej,rfl⟩:=ed
 obtain ⟨hj,e⟩:=List.getElem?_eq_some_iff.mp ej
 simp at e hj
 subst e
 refine ⟨hj,fun y H' q=>?_⟩
 obtain ⟨rfl,rfl⟩:=q
 exact ⟨.refl _ _, .int _,hr⟩
theorem a67 {X:Cx} {E:XD} {tg a:Expr} {k:SA} {p pos:Pos} (hg:Gl X "range") (hm:X.mg "range" = none) (ha:MA X E [a] k) (hs:starEach [a] X.env=[(false,eval a X.env)]:=by rfl):MI X E tg (.Call (.Name "range" p) [a] [] pos) (sRg a2s k):=by
 intro pins s σ H Rr I ⟨ι,τ,h,S,Rh,o⟩
 refine ae2 hg hm ha hs pins s σ H Rr I ⟨ι,τ,h,S,Rh,dq o fun ds h1 ι1 H1 vs g1 r1 hr1 o1=>?_⟩
 unfold a2s at o1
 split at o1
 ·rename_i j
  cases r1 with
  | cons r rs =>
   cases r;cases rs
   by_cases hb:B62 j
   ·rw [if_pos hb] at o1
    exact ⟨j,rfl,hb.1,hb.2,o1 ι1 H1 _ (.refl _ _) (ak0 0 j.toNat) hr1⟩
   ·rw [if_neg hb] at o1;exact o1.elim
 ·exact o1.elim
theorem aew {X:Cx} {E:XD} {tg a b:Expr} {k:SA} {p pos:Pos} (hg:Gl X "range") (hm:X.mg "range" = none) (ha:MA X E [a,b] k) (hs:starEach [a,b] X.env=[(false,eval a X.env),(false,eval b X.env)]:=by rfl) (hs2:starEach [b] X.env=[(false,eval b X.env)]:=by rfl):MI X E tg (.Call (.Name "range" p) [a,b] [] pos) (sRg a6m k):=by
 intro pins s σ H Rr I ⟨ι,τ,h,S,Rh,o⟩
 refine ae3 hg hm ha hs hs2 pins s σ H Rr I ⟨ι,τ,h,S,Rh,dq o fun ds h1 ι1 H1 vs g1 r1 hr1 o1=>?_⟩
 unfold a6m at o1
 split at o1
 ·rename_i i j
  cases r1 with
  | cons r rs =>
   cases r
   cases rs with
   | cons r rs =>
   cases r;cases rs
   by_cases hb:B62 i∧B62 j
   ·rw [if_pos hb] at o1
    exact ⟨i,j,rfl,⟨hb.1.1,hb.1.2,hb.2.1,hb.2.2⟩,o1 ι1 H1 _ (.refl _ _) (ak0 i _) hr1⟩
   ·rw [if_neg hb] at o1;exact o1.elim
 ·exact o1.elim
open Classical in
noncomputable def forL (ck:Hd→Prop) (g:SG) (b:SS):List D→Sd→Hd→Fl
 | [],τ,h=>if ck h then .nx τ h else .no
 | x::xs,τ,h=>if ck h then (match g x τ h with
   | .nx τ1 h1=>(match b τ1 h1 with
    | .nx τ2 h2=>forL ck g b xs τ2 h2
    | .ct τ2 h2=>forL ck g b xs τ2 h2
    | .bk τ2 h2=>.nx τ2 h2
    | r=>r)
   | _=>.no) else .no
noncomputable def abl (f:SI) (g:SG) (b:SS):SS:=fun τ h=>(f τ h).fl fun it h1=>forL it.ck g b it.xs τ h1
theorem alp {K:PySem.W.Frag} {E:XD} {ι0:List Addr} {H0:Hp} {J:It} {it:Itm} {g:SG} {b:SS} {N:Ends} {σ0:St} {τ0:Sd} {h0:Hd} (ir:apr K ι0 H0 J it) (S:SRep K ι0 H0 σ0 τ0) (Rh:HRep K ι0 H0 h0) (o:ah7 K E ι0 H0 (forL it.ck g b it.xs τ0 h0) N) :
  ∃ W:Nat→Nat→St→Hp→Prop,(∃ m,W 0 m σ0 H0)∧∀ i m σ H,W i m σ H →
   (J.stop i H∧N.nx σ H)∨(J.go i H∧∃ M:St→Hp→Prop,(∀ σ' H',M σ' H'→∃ m',m'<m∧W (i+1) m' σ' H')∧∀ x H',J.yld i H x H'→alo K E g x σ H' fun σ2 H2=>a5z K E b { N with nx:=M,ct:=M,bk:=N.nx } σ2 H2):=by
 refine ⟨fun i m σ H=>m=it.xs.length - i∧i≤it.xs.length∧∃ ι τ h,Gr ι0 H0 ι H∧SRep K ι H σ τ∧HRep K ι H h∧ah7 K E ι H (forL it.ck g b (it.xs.drop i) τ h) N,⟨_,rfl,Nat.zero_le _,ι0,τ0,h0, .refl _ _,S,Rh,o⟩,?_⟩
 rintro i m σ H ⟨rfl,hi,ι,τ,h,g0,S,Rh,o⟩
 by_cases hlt:i<it.xs.length
 ·rw [List.drop_eq_getElem_cons hlt,forL] at o
  by_cases hc:it.ck h
  ·rw [if_pos hc] at o
   obtain ⟨go,yl⟩:=(ir ι H h g0 Rh hc).1 i _ (List.getElem?_eq_getElem hlt)
   refine .inr ⟨go,fun σ' H'=>it.xs.length - (i+1)<it.xs.length - i∧∃ ι τ h,Gr ι0 H0 ι H'∧SRep K ι H' σ' τ∧HRep K ι H' h∧ah7 K E ι H' (forL it.ck g b (it.xs.drop (i+1)) τ h) N,fun σ' H' q=>⟨_,q.1,rfl,hlt,q.2⟩,fun x H' y=>?_⟩
   obtain ⟨g1,r1,hr1⟩:=yl x H' y
   refine ⟨ι,τ,h,_,r1,S.mono g1,hr1,?_⟩
   have o':=ul o g1
   cases hg:g it.xs[i] τ h with
   | nx τ1 h1 =>
    rw [hg] at o'
    dsimp only at o'
    intro ι2 H2 σ2 g2 S2 R2
    refine ⟨ι2,τ1,h1,S2,R2,?_⟩
    have o2:=ul o' g2
    have gg:=(g0.trans g1).trans g2
    cases hb:b τ1 h1 with
    | nx τ2 h2=>rw [hb] at o2;exact fun ι3 H3 σ3 g3 S3 R3=>⟨by omega,ι3,τ2,h2,gg.trans g3,S3,R3,ul o2 g3⟩
    | ct τ2 h2=>rw [hb] at o2;exact fun ι3 H3 σ3 g3 S3 R3=>⟨by omega,ι3,τ2,h2,gg.trans g3,S3,R3,ul o2 g3⟩
    | bk τ2 h2=>rw [hb] at o2;exact o2
    | rt d h2=>rw [hb] at o2;exact o2
    | ex c h2=>rw [hb] at o2;exact o2
    | no=>rw [hb] at o2;exact o2.elim
   | _=>rw [hg] at o';exact o'.elim
  ·rw [if_neg hc] at o;exact o.elim
 ·have e:i=it.xs.length:=by omega
  subst e
  rw [List.drop_eq_nil_of_le (Nat.le_refl _),forL] at o
  by_cases hc:it.ck h
  ·rw [if_pos hc] at o
   exact .inl ⟨(ir ι H h g0 Rh hc).2,o ι H σ (.refl _ _) S Rh⟩
  ·rw [if_neg hc] at o;exact o.elim
theorem a3f {X:Cx} {E:XD} {tg iter:Expr} {body:List Stmt} {f:SI} {g:SG} {b:SS} {pos:Pos} (hp:PassesOwn (model X.prog X.w) X.A X.env X.xe) (hc:X.calm=true) (hi:MI X E tg iter f) (hg:MG X E tg g) (hb:MSs X E body b) (hs:∀ x,foldedSetIterable iter X.env x=pure x:=by intro _;rfl):MS X E (.For tg iter body [] pos) (abl f g b):=by
 refine PS.weak (aow hp hc hi hg hb hs) fun N σ H ⟨ι,τ,h,S,Rh,o⟩=>?_
 exact ⟨ι,τ,h,S,Rh,qy o fun it h1 ι1 H1 J g1 r1 hr1 o1=>alp r1 (S.mono g1) hr1 o1⟩
end MI
namespace MI
open PySem PySem.Spec L2
open Classical in
noncomputable def mapR (ck:Hd→Prop) (f:D→Hd→R D):List D→Hd→R (List D)
 | [],h=>if ck h then .ok [] h else .no
 | x::xs,h=>if ck h then (f x h).bind fun y h1=>(mapR ck f xs h1).bind fun ys h2=>.ok (y::ys) h2 else .no
def frs' (ix:List Nat) (τ:Sd):Sd:=ix.map fun i=>(τ[i]?).join
def t1 (d:D):Option Sd:=some [some d]
def tN (n:Nat) (d:D):Option Sd:=match d with | .tup ds=>if ds.length=n then some (ds.map some) else none | _=>none
def a94 (t:D→Option Sd) (fe:SE) (rest:Sd) (x:D) (h:Hd):R D:=match t x with | some ts=>fe (ts++rest) h | none=>.no
def alq (yd zs:List D) (h:Hd):R D:=.ok (.ref h.length) (h++[.lst (yd++zs)])
theorem aps (r:R D) (m:Hd→R (List D)) (yd:List D):(r.bind fun y h1=>(m h1).bind fun ys h2=>.ok (y::ys) h2).bind (alq yd)=r.bind fun y h1=>(m h1).bind (alq (yd++[y])):=by
 cases r with
 | ok y h1 =>
  show ((m h1).bind _).bind _=(m h1).bind _
  cases m h1 with
  | ok ys h2=>simp [R.bind,alq]
  | _=>rfl
 | _=>rfl
noncomputable def wz (fi:SI) (t:D→Option Sd) (fe:SE) (ix:List Nat):SE:=fun τ h=>(fi τ h).bind fun it h1=>if it.xs.length≤LINE then (mapR it.ck (a94 t fe (frs' ix τ)) it.xs h1).bind (alq []) else .no
def ao2 (K:PySem.W.Frag) (n:Nat) (g:TG) (t:D→Option Sd):Prop:=∀ ι H v d ts (r:St) (Q:St→Hp→Prop),Rep K ι H v d→t d=some ts→(∀ us:St,us.length=n→SRep K ι H us ts→Q (us++r) H)→g v (List.replicate n none++r) H Q
theorem a7l {K:PySem.W.Frag} {ι:List Addr} {H:Hp}:SRep K ι H [] []:=⟨rfl,fun i d e=>by simp at e⟩
theorem a3g {K:PySem.W.Frag} {ι:List Addr} {H:Hp} {v:V} {d:D} {σ:St} {τ:Sd} (r:Rep K ι H v d) (s:SRep K ι H σ τ):SRep K ι H (some v::σ) (some d::τ):=by
 refine ⟨by simp [s.len],fun i d' e=>?_⟩
 cases i with
 | zero=>simp at e;subst e;exact ⟨v,rfl,r⟩
 | succ i=>simpa using s.val i d' (by simpa using e)
theorem abm {K:PySem.W.Frag} {ι:List Addr} {H:Hp} {σ σ':St} {τ τ':Sd} (s:SRep K ι H σ τ) (s':SRep K ι H σ' τ'):SRep K ι H (σ++σ') (τ++τ'):=by
 refine ⟨by simp [s.len,s'.len],fun i d e=>?_⟩
 by_cases hi:i<τ.length
 ·rw [List.getElem?_append_left hi] at e
  rw [List.getElem?_append_left (by rw [s.len];exact hi)]
  exact s.val i d e
 ·rw [List.getElem?_append_right (by omega)] at e
  rw [List.getElem?_append_right (by rw [s.len];omega),s.len]
  exact s'.val _ d e
theorem abn {K:PySem.W.Frag} {ι:List Addr} {H:Hp} {σ:St} {τ:Sd} (s:SRep K ι H σ τ) (ix:List Nat):SRep K ι H (ix.map fun i=>(σ[i]?).join) (frs' ix τ):=by
 refine ⟨by simp [frs'],fun j d e=>?_⟩
 simp only [frs',List.getElem?_map,Option.map_eq_some_iff] at e
 obtain ⟨i,hi,e⟩:=e
 have:τ[i]? = some (some d):=by
  cases q:τ[i]? with
  | none=>rw [q] at e;cases e
  | some o=>rw [q] at e;simp at e;rw [e]
 obtain ⟨v,h1,h2⟩:=s.val i d this
 exact ⟨v,by simp [hi,h1],h2⟩
theorem a1f {K:PySem.W.Frag}:ao2 K 1 (aa9 0) t1:=fun ι H v d ts r Q hr e q=>by
 cases e
 exact q [some v] rfl (a3g hr a7l)
theorem ak1 {K:PySem.W.Frag}:ao2 K 2 (L2.qx K 2 (ahe (aa9 0) (ahe (aa9 1) avv))) (tN 2):=fun ι H v d ts r Q hr e q=>by
 unfold tN at e
 cases hr with
 | @tup a vs xs h rs =>
  simp only at e
  split at e
  ·rename_i hl
   cases e
   match xs,hl,rs with
   | [_,_],_, .cons r1 (.cons r2 .nil)=>exact ⟨a,_,rfl,SqT.of h,rfl,_,_,rfl,_,_,rfl,rfl,q [some _,some _] rfl (a3g r1 (a3g r2 a7l))⟩
  ·cases e
 | _=>cases e
theorem alr {n:Nat} {us r:St} (h:us.length=n):L2.Ext (List.replicate n none++r) (us++r):=by
 refine ⟨by simp [h],fun i v e=>?_⟩
 by_cases hi:i<n
 ·rw [List.getElem?_append_left (by simpa using hi),List.getElem?_replicate,if_pos hi] at e
  cases e
 ·rw [List.getElem?_append_right (by simpa using hi),List.length_replicate] at e
  rw [List.getElem?_append_right (by omega),h]
  exact e
theorem abo {K:PySem.W.Frag} {E:XD} {ι0:List Addr} {H0:Hp} {J:It} {it:Itm} {g:TG} {t:D→Option Sd} {fe:SE} {n:Nat} {r:St} {rd:Sd} {h0:Hd} {Q:VK} (ir:apr K ι0 H0 J it) (tg:ao2 K n g t) (S:SRep K ι0 H0 r rd) (Rh:HRep K ι0 H0 h0) (hl:it.xs.length≤LINE)
  (o:out K E (yt K) ι0 H0 ((mapR it.ck (a94 t fe rd) it.xs h0).bind (alq [])) Q):apl J (List.replicate n none++r) g (lift K E (yt K) fe) Q H0:=by
 refine ⟨fun i m ys H=>m=it.xs.length - i∧i≤it.xs.length∧ys.length≤i∧∃ ι h yd,Gr ι0 H0 ι H∧HRep K ι H h∧Reps K ι H ys yd∧out K E (yt K) ι H ((mapR it.ck (a94 t fe rd) (it.xs.drop i) h).bind (alq yd)) Q,
  ⟨_,rfl,Nat.zero_le _,Nat.zero_le _,ι0,h0,[], .refl _ _,Rh, .nil,o⟩,?_⟩
 rintro i m ys H ⟨rfl,hi,hy,ι,h,yd,g0,Rh,ry,o⟩
 by_cases hlt:i<it.xs.length
 ·rw [List.drop_eq_getElem_cons hlt,mapR] at o
  by_cases hc:it.ck h
  ·rw [if_pos hc,aps] at o
   obtain ⟨go,yl⟩:=(ir ι H h g0 Rh hc).1 i _ (List.getElem?_eq_getElem hlt)
   refine .inr ⟨go,Nat.lt_of_le_of_lt hy (Nat.lt_of_lt_of_le hlt (ll hl)),fun x H' y=>?_⟩
   obtain ⟨g1,r1,hr1⟩:=yl x H' y
   have o':=a3d o g1
   cases ht:t it.xs[i] with
   | none=>simp only [a94,ht] at o';exact o'.elim
   | some ts =>
    simp only [a94,ht] at o'
    refine tg ι H' x _ ts r _ r1 ht fun us hus su=>⟨alr hus,ι,ts++rd,h,abm su (S.mono (g0.trans g1)),hr1,dq o' fun d2 h2 ι2 H2 u g2 r2 hr2 o2=>?_⟩
    refine ⟨it.xs.length - (i+1),by omega,rfl,hlt,by simp;omega,ι2,h2,yd++[d2],(g0.trans g1).trans g2,hr2,((ry.mono g1).mono g2).snoc r2,o2⟩
  ·rw [if_neg hc] at o;exact o.elim
 ·have e:i=it.xs.length:=by omega
  subst e
  rw [List.drop_eq_nil_of_le (Nat.le_refl _),mapR] at o
  by_cases hc:it.ck h
  ·rw [if_pos hc] at o
   refine .inl ⟨(ir ι H h g0 Rh hc).2,vo (E:=E) ry Rh ?_⟩
   simpa [R.bind,alq] using o
  ·rw [if_neg hc] at o;exact o.elim
section
variable {X:Cx} {E:XD} {elt tg iter cnd:Expr} {scope:Scope} {pos:Pos} {cl:List (Str × Addr)} {ts fr:List Str} {ix:List Nat} {fi:SI} {g:TG} {t:D→Option Sd} {fe:SE} {fc:ST}
theorem zp (hc:X.calm=true) (S:CSc X scope cl ts fr ix) (hi:MI X E tg iter fi) (hg:∀ C fp s H,PG (cxC X (ts++fr) scope cl C fp s H) tg g) (ht:ao2 X.K ts.length g t) (he:∀ C fp s H,ME (cxC X (ts++fr) scope cl C fp s H) E elt fe)
  (hs:∀ x,foldedSetIterable iter X.env x=pure x:=by intro _;rfl):ME X E (.ListComp elt [⟨tg,iter,[],0⟩] scope pos) (wz fi t fe ix):=by
 refine PE.weak (ahv (te:=lift X.K E (yt X.K) fe) hc S hi hg he hs) fun σ H Q ⟨ι,τ,h,Sr,Rh,o⟩=>?_
 refine ⟨ι,τ,h,Sr,Rh,dq o fun it h1 ι1 H1 J g1 r1 hr1 o1=>?_⟩
 by_cases hl:it.xs.length≤LINE
 ·rw [if_pos hl] at o1
  exact abo r1 ht (abn (Sr.mono g1) ix) hr1 hl o1
 ·rw [if_neg hl] at o1;exact o1.elim
end
mutual
def clo (n:Nat):D→Prop
 | .tup xs=>clos n xs
 | .rol xs=>clos n xs
 | .rod _ xs=>clos n xs
 | .scr xs=>clos n xs
 | .rdT _ xs=>clos n xs
 | .ref i=>i<n
 | _=>True
def clos (n:Nat):List D→Prop
 | []=>True
 | x::xs=>clo n x∧clos n xs
end
mutual
theorem Rep.clo {K:PySem.W.Frag} {ι:List Addr} {H:Hp}:∀ {v:V} {d:D},Rep K ι H v d→clo ι.length d
 | _,_, .non=>by simp [MI.clo]
 | _,_, .bl b=>by simp [MI.clo]
 | _,_, .int i=>by simp [MI.clo]
 | _,_, .str x=>by simp [MI.clo]
 | _,_, .ty n=>by simp [MI.clo]
 | _,_, .tup h r=>by simp only [MI.clo];exact Reps.clo r
 | _,_, .rol h r=>by simp only [MI.clo];exact Reps.clo r
 | _,_, .ref h=>by simp only [MI.clo];exact (List.getElem?_eq_some_iff.mp h).1
 | _,_, .rod h e r=>by simp only [MI.clo];exact Reps.clo r
 | _,_, .scr h r=>by simp only [MI.clo];exact Reps.clo r
 | _,_, .rdT h e r=>by simp only [MI.clo];exact Reps.clo r
 | _,_, .exc h hc hn=>by simp [MI.clo]
theorem Reps.clo {K:PySem.W.Frag} {ι:List Addr} {H:Hp}:∀ {vs:List V} {ds:List D},Reps K ι H vs ds→clos ι.length ds
 | _,_, .nil=>by simp [MI.clos]
 | _,_, .cons r rs=>by simp only [MI.clos];exact ⟨Rep.clo r,Reps.clo rs⟩
end
mutual
theorem Rep.cut {K:PySem.W.Frag} {ι:List Addr} {H:Hp} {n:Nat}:∀ {v:V} {d:D},Rep K ι H v d→clo n d→Rep K (ι.take n) H v d
 | _,_, .non,_=>.non
 | _,_, .bl b,_=>.bl b
 | _,_, .int i,_=>.int i
 | _,_, .str x,_=>.str x
 | _,_, .ty n,_=>.ty n
 | _,_, .tup h r,c=>.tup h (Reps.cut r (by simpa only [MI.clo] using c))
 | _,_, .rol h r,c=>.rol h (Reps.cut r (by simpa only [MI.clo] using c))
 | _,_, .ref h,c=>.ref (by simp only [MI.clo] at c;rw [List.getElem?_take,if_pos c];exact h)
 | _,_, .rod h e r,c=>.rod h e (Reps.cut r (by simpa only [MI.clo] using c))
 | _,_, .scr h r,c=>.scr h (Reps.cut r (by simpa only [MI.clo] using c))
 | _,_, .rdT h e r,c=>.rdT h e (Reps.cut r (by simpa only [MI.clo] using c))
 | _,_, .exc h hc hn,_=>.exc h hc hn
theorem Reps.cut {K:PySem.W.Frag} {ι:List Addr} {H:Hp} {n:Nat}:∀ {vs:List V} {ds:List D},Reps K ι H vs ds→clos n ds→Reps K (ι.take n) H vs ds
 | _,_, .nil,_=>.nil
 | _,_, .cons r rs,c=>by simp only [MI.clos] at c;exact .cons (Rep.cut r c.1) (Reps.cut rs c.2)
end
def a3s (n:Nat):O→Prop
 | .lst xs=>clos n xs
 | .dK kvs=>clos n (kvs.map (·.2))
 | .dT kvs=>clos n (kvs.map (·.2))
def apt (n:Nat) (h:Hd):Prop:=∀ o∈h,a3s n o
theorem ORep.clo {K:PySem.W.Frag} {ι:List Addr} {H:Hp} {a:Addr} {o:O} (r:ORep K ι H a o):a3s ι.length o:=by
 cases o with
 | lst xs=>obtain ⟨vs,_,r⟩:=r;exact r.clo
 | dK kvs=>obtain ⟨us,_,_,r⟩:=r;exact r.clo
 | dT kvs=>obtain ⟨us,_,_,r⟩:=r;exact r.clo
theorem ORep.cut {K:PySem.W.Frag} {ι:List Addr} {H:Hp} {a:Addr} {o:O} {n:Nat} (r:ORep K ι H a o) (c:a3s n o):ORep K (ι.take n) H a o:=by
 cases o with
 | lst xs=>obtain ⟨vs,h,r⟩:=r;exact ⟨vs,h,r.cut c⟩
 | dK kvs=>obtain ⟨us,h,e,r⟩:=r;exact ⟨us,h,e,r.cut c⟩
 | dT kvs=>obtain ⟨us,h,e,r⟩:=r;exact ⟨us,h,e,r.cut c⟩
theorem HRep.clo {K:PySem.W.Frag} {ι:List Addr} {H:Hp} {h:Hd} (r:HRep K ι H h):apt h.length h:=fun o ho=>by
 obtain ⟨i,hi⟩:=List.getElem?_of_mem ho
 obtain ⟨a,_,q⟩:=r.addr hi
 rw [← r.len];exact q.clo
theorem HRep.cut {K:PySem.W.Frag} {ι:List Addr} {H:Hp} {h g:Hd} (r:HRep K ι H (h++g)) (c:apt h.length h):HRep K (ι.take h.length) H h:=by
 refine ⟨r.nd.sublist (List.take_sublist _ _),?_,fun i a o e1 e2=>?_⟩
 ·have:=r.len
  rw [List.length_append] at this
  rw [List.length_take];omega
 ·have hi:i<h.length:=(List.getElem?_eq_some_iff.mp e2).1
  rw [List.getElem?_take,if_pos hi] at e1
  exact (r.obj i a o e1 (by rw [List.getElem?_append_left hi];exact e2)).cut (c o (List.mem_of_getElem? e2))
def X0:XD:=fun _ _ _ _=>False
abbrev SF:=List D→Hd→R D
def mz (K:PySem.W.Frag) (n:Nat) (F:SF):Sp:=fun vs H Q _=>vs.length=n∧∃ ι ds h,Reps K ι H vs ds∧HRep K ι H h∧out K X0 (yt K) ι H (F ds h) Q
def a0u (n:Nat) (ds:List D):Sd:=ds.map some++List.replicate (n - ds.length) none
def my (b:SS) (n:Nat) (ds:List D) (h:Hd):R D:=match b (a0u n ds) h with
 | .rt d h1=>.ok d h1
 | .nx _ h1=>.ok .non h1
 | .ex c h1=>.ex c h1
 | _=>.no
def Rf (n:Nat) (r' r:R D):Prop:=match r with
 | .no=>True
 | .ok d h1=>∃ g,r' = .ok d (h1++g)∧(g=[]∨(n≤h1.length∧clo h1.length d∧apt h1.length h1))
 | .ex c h1=>∃ g,r' = .ex c (h1++g)∧(g=[]∨(n≤h1.length∧apt h1.length h1))
theorem Rf.same {n:Nat} {r' r:R D} (h:r'=r):Rf n r' r:=by
 subst h
 cases r' with
 | ok d h1=>exact ⟨[],by simp, .inl rfl⟩
 | ex c h1=>exact ⟨[],by simp, .inl rfl⟩
 | no=>exact True.intro
theorem a70 {K:PySem.W.Frag} {ι:List Addr} {H:Hp} {vs:List V} {ds:List D} {N:List Str} (r:Reps K ι H vs ds):SRep K ι H (start N vs) (a0u N.length ds):=by
 refine abm ?_ ?_
 ·clear N
  induction r using Reps.rec (motive_1:=fun _ _ _=>True) with
  | nil=>exact a7l
  | cons r rs _ ih=>exact a3g r ih
  | _=>trivial
 ·rw [r.len]
  exact ⟨by simp,fun i d e=>by rw [List.getElem?_replicate] at e;split at e<;>cases e⟩
theorem ak2 {ι ι':List Addr} {H H':Hp} {n:Nat} (g:Gr ι H ι' H') (hn:ι.length≤n):Gr ι H (ι'.take n) H':=by
 obtain ⟨m,rfl,hm⟩:=g.pre
 exact ⟨⟨m.take (n - ι.length),by rw [List.take_append,List.take_of_length_le hn],fun a ha=>hm a (List.mem_of_mem_take ha)⟩,g.tup,g.frz,g.oth,g.kp⟩
section
variable {P:Program} {w:World} {K:PySem.W.Frag} {mg:Str→Option Value} {base:Heap}
theorem apu {x qual:Str} {st:Stmt} {f:Addr} {fd:FuncData} {N ps:List Str} {k:Nat} {b:SS} {F:SF} (Fu:Fun K x qual st f fd) (S:FnScope N ps (au st))
  (hb:∀ (cdv:Value) (A:Around) (outer:List Env) (s:Shared) (H:Hp) (E:XK),Room k (A.deeper (PyProof.Rows.envOfC qual (au st) s.heap.objs.size f cdv))→MSs (a00 CX0 P w K mg base N qual (au st) f cdv A outer s H E).nox X0 (g8 st) b)
  (hF:∀ ds h,ds.length=ps.length→clos h.length ds→apt h.length h→Rf h.length (my b N.length ds h) (F ds h)):FnOk P w K mg base CX0 (k+1) f fd ps (mz K ps.length F):=by
 refine Fu.ok S (fun vs H Q E h=>h.1) fun cdv A outer s H vs Q E hr h=>⟨_,hb cdv A outer s H E hr,?_⟩
 obtain ⟨hl,ι,ds,h,r,hr',o⟩:=h
 refine ⟨ι,a0u N.length ds,h,a70 r,hr',?_⟩
 have q:=hF ds h (by rw [← r.len];exact hl) (by rw [← hr'.len];exact r.clo) hr'.clo
 unfold my at q
 cases hFd:F ds h with
 | no=>rw [hFd] at o;exact o.elim
 | ex c h1 =>
  rw [hFd] at q o
  obtain ⟨g,e,cl⟩:=q
  have fin:∀ ι' H',Gr ι H ι' H'→HRep K ι' H' (h1++g)→X0 c ι' H' (h1++g):=fun ι' H' g1 hr1=>by
   rcases cl with rfl | ⟨hn,c2⟩
   ·rw [List.append_nil] at hr1
    exact o ι' H' g1 hr1
   ·exact o (ι'.take h1.length) H' (ak2 g1 (by rw [hr'.len];exact hn)) (hr1.cut c2)
  cases hbd:b (a0u N.length ds) h with
  | ex c' h' =>
   rw [hbd] at e
   injection e with e1 e2
   subst e1 e2
   exact fin
  | _=>rw [hbd] at e;cases e
 | ok d h1 =>
  rw [hFd] at q o
  obtain ⟨g,e,cl⟩:=q
  have fin:∀ ι' H' v,Gr ι H ι' H'→Rep K ι' H' v d→HRep K ι' H' (h1++g)→Q v H':=fun ι' H' v g1 r1 hr1=>by
   rcases cl with rfl | ⟨hn,c1,c2⟩
   ·rw [List.append_nil] at hr1
    exact o ι' H' v g1 r1 hr1
   ·exact o (ι'.take h1.length) H' v (ak2 g1 (by rw [hr'.len];exact hn)) (r1.cut c1) (hr1.cut c2)
  cases hbd:b (a0u N.length ds) h with
  | rt d' h' =>
   rw [hbd] at e
   injection e with e1 e2
   subst e1 e2
   exact fin
  | nx τ' h' =>
   rw [hbd] at e
   injection e with e1 e2
   subst e1 e2
   exact fun ι' H' σ' g1 S1 hr1=>fin ι' H' .non g1 .non hr1
  | _=>rw [hbd] at e;cases e
end
end MI
namespace MI
open PySem PySem.Spec L2
section
variable {K:PySem.W.Frag} {E:XD} {ι:List Addr} {H:Hp} {h:Hd} {Q:VK}
theorem ans {d:D} {v:V} (o:out K E (yt K) ι H (.ok d h) Q) (r:Rep K ι H v d) (hr:HRep K ι H h):Q v H:=o ι H v (.refl _ _) r hr
theorem HRep.lst (hr:HRep K ι H h) {i:Nat} {a:Addr} {xs:List D} (e:ι[i]? = some a) (hi:h[i]? = some (.lst xs)):∃ vs,H a=some (.lst vs)∧Reps K ι H vs xs:=hr.obj i a _ e hi
end
def ayh:D→D→Hd→R D
 | .int i, .int j,h=>.ok (.int (i+j)) h
 | .str x, .str y,h=>if x.length+y.length≤LINE then .ok (.str (x++y)) h else .no
 | .tup xs, .tup ys,h=>if xs≠[]∧xs.length+ys.length≤LINE then .ok (.tup (xs++ys)) h else .no
 | .ref i, .ref j,h=>match h[i]?,h[j]? with
  | some (.lst xs),some (.lst ys)=>if xs.length+ys.length≤LINE then .ok (.ref h.length) (h++[.lst (xs++ys)]) else .no
  | _,_=>.no
 | _,_,_=>.no
def a4x:D→D→Hd→R D
 | .int i, .int j,h=>.ok (.int (i - j)) h
 | _,_,_=>.no
open Classical in
noncomputable def apv:D→D→Hd→R D
 | .int i, .int j,h=>if CMul i j then .ok (.int (i*j)) h else .no
 | .ref i, .int k,h=>match h[i]? with
  | some (.lst xs)=>if (-(2 ^ 63)≤k∧k<2 ^ 63)∧xs.length*k.toNat≤LINE then .ok (.ref h.length) (h++[.lst (List.replicate k.toNat xs).flatten]) else .no
  | _=>.no
 | _,_,_=>.no
def a01:D→D→Hd→R D
 | .int i, .int j,h=>if 0<j then .ok (.int (i % j)) h else .no
 | _,_,_=>.no
def abp:D→D→Hd→R D
 | .int i, .int j,h=>if 0<j∧j<1073741824 then .ok (.int (i / j)) h else .no
 | _,_,_=>.no
def abq:D→D→Hd→R D
 | .int i, .int j,h=>if 0≤j∧j≤1000000∧i.natAbs<2 ^ 64 then .ok (.int (i ^ j.toNat)) h else .no
 | _,_,_=>.no
section
variable {X:Cx} {K:PySem.W.Frag}
theorem als:a1t K a4x (rI0 fun i j=>.int (i - j)):=by
 intro E ι H h x y dx dy Q rx ry hr o
 cases rx with
 | int i =>
  cases ry with
  | int j=>exact ⟨i,j,rfl,rfl,ans o (.int _) hr⟩
  | _=>exact o.elim
 | _=>exact o.elim
theorem alu:a1t K a01 (rI (fun _ j=>0<j) fun i j=>.int (i % j)):=by
 intro E ι H h x y dx dy Q rx ry hr o
 cases rx with
 | int i =>
  cases ry with
  | int j =>
   by_cases hc:0<j
   ·simp only [a01,if_pos hc] at o;exact ⟨i,j,rfl,rfl,hc,ans o (.int _) hr⟩
   ·simp only [a01,if_neg hc] at o;exact o.elim
  | _=>exact o.elim
 | _=>exact o.elim
theorem alv:a1t K abp (rI avx fun i j=>.int (i / j)):=by
 intro E ι H h x y dx dy Q rx ry hr o
 cases rx with
 | int i =>
  cases ry with
  | int j =>
   by_cases hc:0<j∧j<1073741824
   ·simp only [abp,if_pos hc] at o;exact ⟨i,j,rfl,rfl,hc,ans o (.int _) hr⟩
   ·simp only [abp,if_neg hc] at o;exact o.elim
  | _=>exact o.elim
 | _=>exact o.elim
theorem alw:a1t K abq (rI avy fun i j=>.int (i ^ j.toNat)):=by
 intro E ι H h x y dx dy Q rx ry hr o
 cases rx with
 | int i =>
  cases ry with
  | int j =>
   by_cases hc:0≤j∧j≤1000000∧i.natAbs<2 ^ 64
   ·simp only [abq,if_pos hc] at o;exact ⟨i,j,rfl,rfl,hc,ans o (.int _) hr⟩
   ·simp only [abq,if_neg hc] at o;exact o.elim
  | _=>exact o.elim
 | _=>exact o.elim
theorem aex:a1t K apv (fun x y H Q=>rI CMul (fun i j=>.int (i*j)) x y H Q∨aur x y H Q):=by
 intro E ι H h x y dx dy Q rx ry hr o
 cases rx with
 | int i =>
  cases ry with
  | int j =>
   by_cases hc:CMul i j
   ·simp only [apv,if_pos hc] at o;exact .inl ⟨i,j,rfl,rfl,hc,ans o (.int _) hr⟩
   ·simp only [apv,if_neg hc] at o;exact o.elim
  | _=>exact o.elim
 | @ref a i ha =>
  cases ry with
  | int k =>
   simp only [apv] at o
   split at o
   ·rename_i xs hx
    obtain ⟨vs,h3,h4⟩:=hr.lst ha hx
    split at o
    ·rename_i hc
     exact .inr ⟨a,k,vs,rfl,rfl,h3,hc.1.1,hc.1.2,ll (by rw [h4.len];exact hc.2),vo (h4.flat _) hr o⟩
    ·exact o.elim
   ·exact o.elim
  | _=>exact o.elim
 | _=>exact o.elim
variable {E:XD} {a b e:Expr} {es:List Expr} {fa fb:SE} {ka:SA} {pos:Pos}
theorem a0v (ha:ME X E a fa) (hb:ME X E b fb):ME X E (.BinOp a .Sub b pos) (s2 a4x fa fb):=aak aoy als ha hb
theorem uo (ha:ME X E a fa) (hb:ME X E b fb):ME X E (.BinOp a .Mod b pos) (s2 a01 fa fb):=aak aoz alu ha hb
theorem abr (ha:ME X E a fa) (hb:ME X E b fb):ME X E (.BinOp a .FloorDiv b pos) (s2 abp fa fb):=aak al0 alv ha hb
theorem aey (ha:ME X E a fa) (hb:ME X E b fb):ME X E (.BinOp a .Pow b pos) (s2 abq fa fb):=aak ap0 alw ha hb
def a4z:D→Hd→R D
 | .int i,h=>.ok (.int (-i)) h
 | _,_=>.no
theorem a1g (ha:ME X E a fa):ME X E (.UnaryOp .USub a pos) (s1 a4z fa):=auz ap1 (fun E ι H h x dx Q rx hr o=>by
 cases rx with
 | int i=>exact ⟨i,rfl,ans o (.int _) hr⟩
 | _=>exact o.elim) ha
def eqS:D→D→Bool
 | .non, .non=>true
 | .int i, .int j=>decide (i=j)
 | .bl i, .bl j=>decide (i=j)
 | .str i, .str j=>decide (i=j)
 | _,_=>false
def gLt:D→D→Hd→R D
 | .int i, .int j,h=>.ok (.bl (decide (i<j))) h
 | .str i, .str j,h=>.ok (.bl (decide (i.cps.toList<j.cps.toList))) h
 | _,_,_=>.no
def gLe:D→D→Hd→R D
 | .int i, .int j,h=>.ok (.bl (decide (i≤j))) h
 | .str i, .str j,h=>.ok (.bl (!decide (j.cps.toList<i.cps.toList))) h
 | _,_,_=>.no
def gGt:D→D→Hd→R D
 | .int i, .int j,h=>.ok (.bl (decide (j<i))) h
 | _,_,_=>.no
def gGe:D→D→Hd→R D
 | .int i, .int j,h=>.ok (.bl (decide (j≤i))) h
 | _,_,_=>.no
theorem a95:a1t K gLt (fun x y H Q=>rI0 (fun i j=>.bl (decide (i<j))) x y H Q∨∃ i j,x = .str i∧y = .str j∧Q (.bl (decide (i.cps.toList<j.cps.toList))) H):=by
 intro E ι H h x y dx dy Q rx ry hr o
 cases rx with
 | int i =>
  cases ry with
  | int j=>exact .inl ⟨i,j,rfl,rfl,ans o (.bl _) hr⟩
  | _=>exact o.elim
 | str i =>
  cases ry with
  | str j=>exact .inr ⟨i,j,rfl,rfl,ans o (.bl _) hr⟩
  | _=>exact o.elim
 | _=>exact o.elim
theorem zc:a1t K gLe (fun x y H Q=>rI0 (fun i j=>.bl (decide (i≤j))) x y H Q∨∃ i j,x = .str i∧y = .str j∧Q (.bl (!decide (j.cps.toList<i.cps.toList))) H):=by
 intro E ι H h x y dx dy Q rx ry hr o
 cases rx with
 | int i =>
  cases ry with
  | int j=>exact .inl ⟨i,j,rfl,rfl,ans o (.bl _) hr⟩
  | _=>exact o.elim
 | str i =>
  cases ry with
  | str j=>exact .inr ⟨i,j,rfl,rfl,ans o (.bl _) hr⟩
  | _=>exact o.elim
 | _=>exact o.elim
theorem aez:a1t K gGt (rI0 fun i j=>.bl (decide (j<i))):=by
 intro E ι H h x y dx dy Q rx ry hr o
 cases rx with
 | int i =>
  cases ry with
  | int j=>exact ⟨i,j,rfl,rfl,ans o (.bl _) hr⟩
  | _=>exact o.elim
 | _=>exact o.elim
theorem apw:a1t K gGe (rI0 fun i j=>.bl (decide (j≤i))):=by
 intro E ι H h x y dx dy Q rx ry hr o
 cases rx with
 | int i =>
  cases ry with
  | int j=>exact ⟨i,j,rfl,rfl,ans o (.bl _) hr⟩
  | _=>exact o.elim
 | _=>exact o.elim
def a96:D→Bool
 | .non=>true
 | _=>false
def gIs:D→D→Hd→R D
 | x, .non,h=>.ok (.bl (a96 x)) h
 | .bl i, .bl j,h=>.ok (.bl (i == j)) h
 | _,_,_=>.no
def ak3:D→D→Hd→R D
 | x, .non,h=>.ok (.bl (!a96 x)) h
 | .bl i, .bl j,h=>.ok (.bl (i != j)) h
 | _,_,_=>.no
def a2t:D→Bool
 | .non=>true | .bl _=>true | .int _=>true | .str _=>true
 | _=>false
def eqF:D→D→Bool
 | .non, .non=>true
 | .bl i, .bl j=>i == j
 | .int i, .int j=>i == j
 | .str i, .str j=>i == j
 | .int i, .bl j=>i == (if j then 1 else 0)
 | .bl i, .int j=>(if i then 1 else 0) == j
 | _,_=>false
end
end MI
namespace MI
open PySem PySem.Spec L2
section
variable {X:Cx} {K:PySem.W.Frag} {E:XD} {a b e o:Expr} {es:List Expr} {fa fb:SE} {ka:SA} {pos:Pos}
def a0a (d:D) (h:Hd):Option (List D):=match d with
 | .tup xs=>some xs
 | .rol xs=>some xs
 | .ref i=>match h[i]? with | some (.lst xs)=>some xs | _=>none
 | _=>none
def gIx (x y:D) (h:Hd):R D:=match y with
 | .int i=>(match x with
  | .str z=>if z.length≤LINE then (match atI z.cps.toList i with | some c=>.ok (.str ⟨#[c]⟩) h | none=>.no) else .no
  | x=>match a0a x h with
   | some xs=>(match atI xs i with | some d=>.ok d h | none=>.no)
   | none=>.no)
 | _=>.no
theorem abt {ι:List Addr} {H:Hp} {vs:List V} {xs:List D} {i:Int} {d:D} (r:Reps K ι H vs xs) (e:atI xs i=some d):∃ v,atI vs i=some v∧Rep K ι H v d:=by
 unfold atI at e ⊢
 rw [r.len]
 cases hx:ixN xs.length i with
 | none=>rw [hx] at e;cases e
 | some j=>rw [hx] at e;exact r.get e
theorem apx:a1t K gIx (rIx K):=by
 intro E ι H h x y dx dy Q rx ry hr o
 cases ry with
 | int i =>
  have go:∀ {p:Addr} {vs:List V} {xs:List D},Reps K ι H vs xs→out K E (yt K) ι H (match atI xs i with | some d=>.ok d h | none=>.no) Q→∃ v,atI vs i=some v∧Q v H:=fun {p vs xs} r o=>by
   cases he:atI xs i with
   | none=>rw [he] at o;exact o.elim
   | some d =>
    rw [he] at o
    obtain ⟨v,h1,h2⟩:=abt r he
    exact ⟨v,h1,ans o h2 hr⟩
  cases rx with
  | str z =>
   by_cases hc:z.length≤LINE
   ·simp only [gIx,if_pos hc] at o
    cases he:atI z.cps.toList i with
    | none=>rw [he] at o;exact o.elim
    | some c=>rw [he] at o;exact .inr (.inr ⟨z,i,c,rfl,rfl,ll hc,he,ans o (.str _) hr⟩)
   ·simp only [gIx,if_neg hc] at o;exact o.elim
  | @tup p vs xs hp r =>
   simp only [gIx,a0a] at o
   obtain ⟨v,h1,h2⟩:=go (p:=p) r o
   exact .inr (.inl ⟨p,vs,i,v,rfl,rfl,SqT.of hp,h1,h2⟩)
  | @rol p vs xs hp r =>
   simp only [gIx,a0a] at o
   obtain ⟨v,h1,h2⟩:=go (p:=p) r o
   exact .inl ⟨p,vs,i,v,rfl,rfl,hp.l,h1,h2⟩
  | @ref p j hp =>
   obtain ⟨ob,e1,e2⟩:=hr.at hp
   cases ob with
   | lst xs =>
    simp only [gIx,a0a,e1] at o
    obtain ⟨vs,h3,h4⟩:=e2
    obtain ⟨v,h1,h2⟩:=go (p:=p) h4 o
    exact .inl ⟨p,vs,i,v,rfl,rfl,SqL.of h3,h1,h2⟩
   | dK _=>simp only [gIx,a0a,e1] at o;exact o.elim
   | dT _=>simp only [gIx,a0a,e1] at o;exact o.elim
  | _=>exact o.elim
 | _=>exact o.elim
theorem gj (ha:ME X E a fa) (hb:ME X E b fb) (hp:aad b):ME X E (.Subscript a b pos) (s2 gIx fa fb):=av0 ap9 apx ha hb hp
abbrev SO:=Sd→Hd→R (Option Int)
abbrev MO (X:Cx) (E:XD) (e:Option Expr) (f:SO):Prop:=PO X e (lift X.K E axf f)
def oN:SO:=fun _ h=>.ok none h
def oS (f:SE):SO:=fun τ h=>(f τ h).bind fun d h1=>match d with | .int i=>.ok (some i) h1 | _=>.no
theorem PO.weak {e:Option Expr} {t t':St→Hp→(Option Int→Hp→Prop)→Prop} (h:PO X e t) (i:∀ σ H Q,t' σ H Q→t σ H Q):PO X e t':=fun pins s σ H Q I q=>h pins s σ H Q I (i _ _ _ q)
theorem pq:MO X E none oN:=PO.weak al8 fun σ H Q ⟨ι,τ,h,S,Rh,o⟩=>o ι H none (.refl _ _) rfl Rh
theorem qb (he:ME X E e fa):MO X E (some e) (oS fa):=by
 refine PO.weak (al9 he) fun σ H Q ⟨ι,τ,h,S,Rh,o⟩=>?_
 refine ⟨ι,τ,h,S,Rh,dq o fun d h1 ι1 H1 v g1 r1 hr1 o1=>?_⟩
 cases r1 with
 | int i=>exact ⟨i,rfl,o1 ι1 H1 _ (.refl _ _) rfl hr1⟩
 | _=>exact o1.elim
def whole (n:Nat) (lo hi:Option Int):Prop:=HT.sIx n 0 lo=0∧HT.sIx n n hi=n
instance (n:Nat) (lo hi:Option Int):Decidable (whole n lo hi):=by unfold whole;exact inferInstance
def gSl (d:D) (lo hi:Option Int) (h:Hd):R D:=match d with
 | .str z=>if z.length≤LINE then .ok (.str ⟨(a6k z.cps.toList lo hi).toArray⟩) h else .no
 | .tup xs=>if ¬ whole xs.length lo hi then .ok (.tup (a6k xs lo hi)) h else .no
 | .rol xs=>.ok (.ref h.length) (h++[.lst (a6k xs lo hi)])
 | .scr xs=>.ok (.ref h.length) (h++[.lst (a6k xs lo hi)])
 | .ref i=>match h[i]? with | some (.lst xs)=>.ok (.ref h.length) (h++[.lst (a6k xs lo hi)]) | _=>.no
 | _=>.no
theorem a3h {ι:List Addr} {H:Hp} {vs:List V} {xs:List D} (r:Reps K ι H vs xs) (lo hi:Option Int):Reps K ι H (ajo vs lo hi) (a6k xs lo hi):=by
 unfold ajo a6k
 rw [r.len]
 exact (r.drop _).take _
theorem abu {ι:List Addr} {H:Hp} {h:Hd} {x:V} {d:D} {lo hi:Option Int} {Q:VK} (rx:Rep K ι H x d) (hr:HRep K ι H h) (o:out K E (yt K) ι H (gSl d lo hi h) Q):auv x lo hi H Q∨aun K x lo hi H Q∨aup K x lo hi H Q:=by
 cases rx with
 | str z =>
  by_cases hc:z.length≤LINE
  ·simp only [gSl,if_pos hc] at o;exact .inl ⟨z,rfl,ll hc,ans o (.str _) hr⟩
  ·simp only [gSl,if_neg hc] at o;exact o.elim
 | @tup p vs xs hp r =>
  by_cases hc:¬ whole xs.length lo hi
  ·simp only [gSl,if_pos hc] at o
   exact .inr (.inl ⟨p,vs,rfl,SqT.of hp,by rw [r.len];exact hc,a1c (a3h r lo hi) hr o⟩)
  ·simp only [gSl,if_neg hc] at o;exact o.elim
 | @rol p vs xs hp r=>exact .inr (.inr ⟨p,vs,rfl,hp.l,vo (a3h r lo hi) hr o⟩)
 | @scr p vs xs hp r=>exact .inr (.inr ⟨p,vs,rfl,hp.l,vo (a3h r lo hi) hr o⟩)
 | @ref p j hp =>
  obtain ⟨ob,e1,e2⟩:=hr.at hp
  cases ob with
  | lst xs =>
   simp only [gSl,e1] at o
   obtain ⟨vs,h3,h4⟩:=e2
   exact .inr (.inr ⟨p,vs,rfl,SqL.of h3,vo (a3h h4 lo hi) hr o⟩)
  | dK _=>simp only [gSl,e1] at o;exact o.elim
  | dT _=>simp only [gSl,e1] at o;exact o.elim
 | _=>exact o.elim
theorem af0 {ι:List Addr} {H:Hp} {x:V} {d:D} (r:Rep K ι H x d) (f:a2t d=true):a2o x=true:=by cases r<;>first | rfl | cases f
theorem apy {ι:List Addr} {H:Hp} {x y:V} {d c:D} (r:Rep K ι H x d) (q:Rep K ι H y c):a2t d=true→a2t c=true→eqV x y=eqF d c:=fun f g=>by
 cases r<;>cases q<;>first | rfl | (cases f;done) | (cases g;done)
def inD (x:D) (xs:List D):Bool:=xs.any fun y=>eqF y x
theorem ai1 {ι:List Addr} {H:Hp} {vs:List V} {xs:List D} (r:Reps K ι H vs xs) (f:xs.all a2t=true):vs.all a2o=true:=by
 induction r using Reps.rec (motive_1:=fun _ _ _=>True) with
 | nil=>rfl
 | cons r rs _ ih =>
  rw [List.all_cons,Bool.and_eq_true] at f ⊢
  exact ⟨af0 r f.1,ih f.2⟩
 | _=>trivial
theorem apz {ι:List Addr} {H:Hp} {x:V} {d:D} {vs:List V} {xs:List D} (rx:Rep K ι H x d) (fx:a2t d=true) (r:Reps K ι H vs xs) (f:xs.all a2t=true):inV x vs=inD d xs:=by
 unfold inV inD
 induction r using Reps.rec (motive_1:=fun _ _ _=>True) with
 | nil=>rfl
 | cons r rs _ ih =>
  rw [List.all_cons,Bool.and_eq_true] at f
  rw [List.any_cons,List.any_cons,ih f.2,apy r rx f.1 fx]
 | _=>trivial
def gIn (neg:Bool) (x y:D) (h:Hd):R D:=match y with
 | .str T=>(match x with
  | .str z=>(match z.cps.toList with | [c]=>.ok (.bl (if neg then !decide (c∈T.cps.toList) else decide (c∈T.cps.toList))) h | _=>.no)
  | _=>.no)
 | y=>match a0a y h with
  | some xs=>if a2t x=true∧xs.all a2t=true then .ok (.bl (if neg then !inD x xs else inD x xs)) h else .no
  | none=>.no
theorem one_sign {z:Str} {c:Nat} (h:z.cps.toList=[c]):z=⟨#[c]⟩:=by
 obtain ⟨cps⟩:=z
 congr
 exact Array.ext' (by simpa using h)
theorem ak4 (neg:Bool) {r1:R2} (h1:∀ c T H (Q:VK),Q (.bl (if neg then !decide (c∈T.cps.toList) else decide (c∈T.cps.toList))) H→r1 (.str ⟨#[c]⟩) (.str T) H Q):a1t K (gIn neg) (fun x y H Q=>r1 x y H Q∨rIn K neg x y H Q):=by
 intro E ι H h x y dx dy Q rx ry hr o
 have go:∀ {p:Addr} {vs:List V} {xs:List D},(SqL K H p vs∨SqT K H p vs)→Reps K ι H vs xs→out K E (yt K) ι H (if a2t dx=true∧xs.all a2t=true then .ok (.bl (if neg then !inD dx xs else inD dx xs)) h else .no) Q→rIn K neg x (.ref p) H Q:=fun {p vs xs} sq r o=>by
  split at o
  ·rename_i hc
   exact ⟨p,vs,rfl,sq,af0 rx hc.1,ai1 r hc.2,by rw [apz rx hc.1 r hc.2];exact ans o (.bl _) hr⟩
  ·exact o.elim
 cases ry with
 | str T =>
  cases rx with
  | str z =>
   simp only [gIn] at o
   split at o
   ·rename_i c hz
    rw [one_sign hz]
    exact .inl (h1 c T H Q (ans o (.bl _) hr))
   ·exact o.elim
  | _=>exact o.elim
 | @tup p vs xs hp r=>simp only [gIn,a0a] at o;exact .inr (go (.inr (SqT.of hp)) r o)
 | @rol p vs xs hp r=>simp only [gIn,a0a] at o;exact .inr (go (.inl hp.l) r o)
 | @ref p j hp =>
  obtain ⟨ob,e1,e2⟩:=hr.at hp
  cases ob with
  | lst xs =>
   simp only [gIn,a0a,e1] at o
   obtain ⟨vs,h3,h4⟩:=e2
   exact .inr (go (.inl (SqL.of h3)) h4 o)
  | dK _=>simp only [gIn,a0a,e1] at o;exact o.elim
  | dT _=>simp only [gIn,a0a,e1] at o;exact o.elim
 | _=>exact o.elim
theorem alx:a1t K (gIn false) (fun x y H Q=>(∃ c T,x = .str ⟨#[c]⟩∧y = .str T∧Q (.bl (decide (c∈T.cps.toList))) H)∨rIn K false x y H Q):=ak4 false fun c T H Q q=>⟨c,T,rfl,rfl,q⟩
theorem af1:a1t K (gIn true) (fun x y H Q=>(∃ c T,x = .str ⟨#[c]⟩∧y = .str T∧Q (.bl (!decide (c∈T.cps.toList))) H)∨rIn K true x y H Q):=ak4 true fun c T H Q q=>⟨c,T,rfl,rfl,q⟩
def p7:List D→Hd→R D
 | [.str z],h=>if z.length≤LINE then .ok (.int z.length) h else .no
 | [x],h=>(match a0a x h with | some xs=>.ok (.int xs.length) h | none=>.no)
 | _,_=>.no
theorem ik:adp K p7 (fun xs H Q=>(∃ p ys,xs=[.ref p]∧(SqL K H p ys∨SqT K H p ys)∧Q (.int ys.length) H)∨∃ z,xs=[.str z]∧z.length≤sizeLine∧Q (.int z.length) H):=by
 intro E ι H h xs ds Q r hr o
 cases r with
 | nil=>exact o.elim
 | cons r rs =>
  cases rs with
  | cons _ _=>exact (show False by cases r<;>exact o).elim
  | nil =>
   cases r with
   | str z =>
    by_cases hc:z.length≤LINE
    ·simp only [p7,if_pos hc] at o;exact .inr ⟨z,rfl,ll hc,ans o (.int _) hr⟩
    ·simp only [p7,if_neg hc] at o;exact o.elim
   | @tup p vs xs hp r=>simp only [p7,a0a] at o;exact .inl ⟨p,vs,rfl, .inr (SqT.of hp),by rw [r.len];exact ans o (.int _) hr⟩
   | @rol p vs xs hp r=>simp only [p7,a0a] at o;exact .inl ⟨p,vs,rfl, .inl hp.l,by rw [r.len];exact ans o (.int _) hr⟩
   | @ref p j hp =>
    obtain ⟨ob,e1,e2⟩:=hr.at hp
    cases ob with
    | lst xs =>
     simp only [p7,a0a,e1] at o
     obtain ⟨vs,h3,h4⟩:=e2
     exact .inl ⟨p,vs,rfl, .inl (SqL.of h3),by rw [h4.len];exact ans o (.int _) hr⟩
    | dK _=>simp only [p7,a0a,e1] at o;exact o.elim
    | dT _=>simp only [p7,a0a,e1] at o;exact o.elim
   | _=>exact o.elim
def aq0:List D→Hd→R D
 | [.int i],h=>.ok (.int (if i<0 then -i else i)) h
 | _,_=>.no
theorem af2:adp K aq0 (fun xs H Q=>∃ i,xs=[.int i]∧Q (.int (if i<0 then -i else i)) H):=by
 intro E ι H h xs ds Q r hr o
 unfold aq0 at o
 split at o
 ·cases r with | cons r rs=>cases r;cases rs;exact ⟨_,rfl,ans o (.int _) hr⟩
 ·exact o.elim
def aq1:List D→Hd→R D
 | [.int i, .int j],h=>.ok (.int (if j > i then j else i)) h
 | _,_=>.no
def af3:List D→Hd→R D
 | [.int i, .int j],h=>.ok (.int (if j<i then j else i)) h
 | _,_=>.no
theorem ai2:adp K af3 (fun xs H Q=>∃ i j,xs=[.int i, .int j]∧Q (.int (if j<i then j else i)) H):=by
 intro E ι H h xs ds Q r hr o
 unfold af3 at o
 split at o
 ·cases r with | cons r rs=>cases rs with | cons q rs=>cases r;cases q;cases rs;exact ⟨_,_,rfl,ans o (.int _) hr⟩
 ·exact o.elim
def aw5:List D→Hd→R D
 | [.int i],h=>.ok (.int i) h
 | [.bl k],h=>.ok (.int (if k then 1 else 0)) h
 | _,_=>.no
def aq2:List D→Hd→R D
 | [.str x],h=>if x.length=1 then .ok (.int (x.cps.getD 0 0:Nat)) h else .no
 | _,_=>.no
theorem aly:adp K aq2 (fun xs H Q=>∃ x,xs=[.str x]∧x.length=1∧Q (.int (x.cps.getD 0 0:Nat)) H):=by
 intro E ι H h xs ds Q r hr o
 unfold aq2 at o
 split at o
 ·split at o
  ·rename_i hc
   cases r with | cons r rs=>cases r;cases rs;exact ⟨_,rfl,hc,ans o (.int _) hr⟩
  ·exact o.elim
 ·exact o.elim
def tyD (d:D) (h:Hd):Option String:=match d with
 | .non=>some "NoneType" | .bl _=>some "bool" | .int _=>some "int" | .str _=>some "str" | .tup _=>some "tuple" | .rol _=>some "list"
 | .ref i=>(match h[i]? with | some (.lst _)=>some "list" | some (.dK _)=>some "dict" | _=>none)
 | _=>none
def ah8 (t T:String):Option Bool :=
 if t∈["NoneType", "bool", "int", "str", "tuple", "list", "dict"]∧T∈["bool", "int", "str", "tuple", "list", "dict"] then some (t == T || (t == "bool" && T == "int")) else none
theorem af4 {t T:String} {b:Bool} (e:ah8 t T=some b):PySem.W.kitOne K (.type t) (.type T)=some b:=by
 unfold ah8 at e
 split at e
 ·rename_i h
  obtain ⟨h1,h2⟩:=h
  simp only [List.mem_cons,List.not_mem_nil,or_false] at h1 h2
  rcases h1 with rfl | rfl | rfl | rfl | rfl | rfl | rfl<;>rcases h2 with rfl | rfl | rfl | rfl | rfl | rfl<;>(cases e;rfl)
 ·cases e
def ak5:List D→Hd→R D
 | [x, .ty T],h=>(match tyD x h with | some t=>(match ah8 t T with | some b=>.ok (.bl b) h | none=>.no) | none=>.no)
 | _,_=>.no
theorem aq3 {ι:List Addr} {H:Hp} {h:Hd} {x:V} {d:D} {t:String} (r:Rep K ι H x d) (hr:HRep K ι H h) (e:tyD d h=some t):TyOf K H x (.type t):=by
 cases r with
 | non=>cases e;exact .non
 | bl b=>cases e;exact .bl b
 | int b=>cases e;exact .int b
 | str b=>cases e;exact .str b
 | ty _=>cases e
 | tup hp r=>cases e;exact .tup hp
 | rol hp r=>cases e;obtain ⟨o,hp⟩:=hp;exact .frz hp
 | scr _ _=>cases e
 | rod _ _ _=>cases e
 | rdT _ _ _=>cases e
 | exc _ _ _=>cases e
 | ref hp =>
  obtain ⟨ob,e1,e2⟩:=hr.at hp
  cases ob with
  | lst xs=>simp only [tyD,e1] at e;cases e;obtain ⟨vs,h3,h4⟩:=e2;exact .lst h3
  | dK _=>simp only [tyD,e1] at e;cases e;obtain ⟨vs,h3,h4⟩:=e2;exact .dK h3
  | dT _=>simp only [tyD,e1] at e;cases e
theorem alz:adp K ak5 (fun xs H Q=>∃ x T t b,xs=[x, .ty T]∧TyOf K H x t∧PySem.W.kitOne K t (.type T)=some b∧Q (.bl b) H):=by
 intro E ι H h xs ds Q r hr o
 unfold ak5 at o
 split at o
 ·rename_i d T
  cases r with
  | cons r rs =>
   cases rs with
   | cons q rs =>
    cases q;cases rs
    cases ht:tyD d h with
    | none=>rw [ht] at o;exact o.elim
    | some t =>
     rw [ht] at o
     cases hb:ah8 t T with
     | none=>simp only [hb] at o;exact o.elim
     | some b =>
      simp only [hb] at o
      exact ⟨_,T, .type t,b,rfl,aq3 r hr ht,af4 hb,ans o (.bl _) hr⟩
 ·exact o.elim
end
end MI
namespace MI
open PySem PySem.Spec L2
section
variable {X:Cx} {K:PySem.W.Frag} {E:XD} {a b e o:Expr} {es:List Expr} {fa fb fo:SE} {ka:SA} {pos apos cpos:Pos} {name:Str} {idn:String}
def atu (K:PySem.W.Frag) (g:D→List D→Hd→R D) (r:V→List V→Hp→VK→Prop):Prop:=∀ (E:XD) ι H h x dx xs ds Q,Rep K ι H x dx→Reps K ι H xs ds→HRep K ι H h→out K E (yt K) ι H (g dx ds h) Q→r x xs H Q
def isL (d:D) (h:Hd):Bool:=match d with | .ref i=>(match h[i]? with | some (.lst _)=>true | _=>false) | .rol _=>true | _=>false
def sML (g:D→List D→Hd→R D) (f:SE) (k:SA):SE:=fun τ h=>(f τ h).bind fun d h1=>if isL d h1=true then (k τ h1).bind fun ds h2=>g d ds h2 else .no
theorem aq4 {ι:List Addr} {H:Hp} {h:Hd} {x:V} {d:D} (r:Rep K ι H x d) (hr:HRep K ι H h) (e:isL d h=true):tyV K "list" x H:=by
 cases r with
 | rol hp _=>exact .inl ⟨rfl,_,hp.l⟩
 | ref hp =>
  obtain ⟨ob,e1,e2⟩:=hr.at hp
  cases ob with
  | lst xs=>obtain ⟨vs,h3,_⟩:=e2;exact .inl ⟨rfl,_,SqL.of h3⟩
  | dK _=>simp [isL,e1] at e
  | dT _=>simp [isL,e1] at e
 | _=>cases e
theorem a97 {r:V→List V→Hp→VK→Prop} {g:D→List D→Hd→R D} (slot:Slot "list" name idn) (hty:typeOf (.builtin idn)=pure (.type "method_descriptor")) (hm:MtR X idn r) (hs:atu X.K g r) (ho:ME X E o fo) (ha:MA X E (e::es) ka)
  (hbase:attributeBase o name X.env (eval o X.env)=eval o X.env:=by rfl)
  (hfew:((backTo cpos (starEach (e::es) X.env)).all (fun x => !x.1) && (backToKw cpos (keywordEach [] X.env)).all (fun x=>x.1.isSome)
   && decide ((e::es).length+([]:List Keyword).length+(if ([]:List Keyword).isEmpty then 0 else 1)<30))=true:=by rfl)
  (hline:(apos.endLine == cpos.line)=true:=by rfl) (hst:starEach (e::es) X.env=(false,eval e X.env)::starEach es X.env:=by rfl) (hplain:(backTo cpos (starEach es X.env)).any (·.1)=false:=by rfl) :
  ME X E (.Call (.Attribute o name apos) (e::es) [] cpos) (sML g fo ka):=by
 refine PE.weak (auq PySem.F.plainAttrs_list slot hty hm ho ha hbase hfew hline hst hplain) fun σ H Q ⟨ι,τ,h,S,Rh,o⟩=>?_
 refine ⟨ι,τ,h,S,Rh,dq o fun d h1 ι1 H1 v g1 r1 hr1 o1=>?_⟩
 by_cases hc:isL d h1=true
 ·rw [if_pos hc] at o1
  refine ⟨aq4 r1 hr1 hc,ι1,τ,h1,S.mono g1,hr1,dq o1 fun ds h2 ι2 H2 vs g2 r2 hr2 o2=>?_⟩
  exact hs E ι2 H2 h2 v d vs ds Q (r1.mono g2) r2 hr2 o2
 ·rw [if_neg hc] at o1;exact o1.elim
def aan:D→List D→Hd→R D
 | .ref i,[y],h=>(match h[i]? with | some (.lst xs)=>if xs.length<LINE then .ok .non (h.set i (.lst (xs++[y]))) else .no | _=>.no)
 | _,_,_=>.no
theorem a68:atu K aan aeh:=by
 intro E ι H h x dx xs ds Q rx r hr o
 unfold aan at o
 split at o
 ·rename_i i y
  cases rx with
  | @ref p _ hp =>
   cases r with
   | cons r1 rs =>
    cases rs
    split at o
    ·rename_i xs hx
     obtain ⟨vs,h3,h4⟩:=hr.lst hp hx
     split at o
     ·rename_i hc
      exact ⟨p,vs,_,rfl,rfl,h3,by rw [h4.len,alk];exact hc,a7j (h4.snoc r1) hr hp .non o⟩
     ·exact o.elim
    ·exact o.elim
 ·exact o.elim
def ayi:D→List D→Hd→R D
 | .ref i,[],h=>(match h[i]? with | some (.lst xs)=>(match xs[xs.length - 1]? with | some y=>.ok y (h.set i (.lst xs.dropLast)) | none=>.no) | _=>.no)
 | _,_,_=>.no
def a3i:D→List D→Hd→R D
 | .ref i,[.int j],h=>(match h[i]? with | some (.lst xs)=>(match ixN xs.length j with | some k=>(match xs[k]? with | some y=>if xs.length≤LINE then .ok y (h.set i (.lst (xs.eraseIdx k))) else .no | none=>.no) | none=>.no) | _=>.no)
 | _,_,_=>.no
theorem a98:atu K a3i ajq:=by
 intro E ι H h x dx xs ds Q rx r hr o
 unfold a3i at o
 split at o
 ·rename_i i j
  cases rx with
  | @ref p _ hp =>
   cases r with
   | cons r1 rs =>
    cases r1;cases rs
    split at o
    ·rename_i xs hx
     obtain ⟨vs,h3,h4⟩:=hr.lst hp hx
     split at o
     ·rename_i k hk
      split at o
      ·rename_i y hy
       split at o
       ·rename_i hl
        obtain ⟨v,h5,h6⟩:=h4.get hy
        obtain ⟨q1,q2,q3,q4⟩:=aac hk
        have hl':xs.length≤16777216:=hl
        exact ⟨p,vs,j,k,v,rfl,rfl,h3,by omega,by omega,by rw [h4.len];exact q1,h5,a7j (h4.erase k) hr hp h6 o⟩
       ·exact o.elim
      ·exact o.elim
     ·exact o.elim
    ·exact o.elim
 ·exact o.elim
def sMS (g:D→List D→Hd→R D) (f:SE) (k:SA):SE:=fun τ h=>(f τ h).bind fun d h1=>match d with | .str z=>(k τ h1).bind fun ds h2=>g (.str z) ds h2 | _=>.no
def am0:List D→Option (List Str)
 | []=>some []
 | .str z::r=>(am0 r).map (z::·)
 | _::_=>none
theorem ai3 {ι:List Addr} {H:Hp}:∀ {vs:List V} {xs:List D} {zs:List Str},Reps K ι H vs xs→am0 xs=some zs→vs=zs.map V.str
 | _,_,_, .nil,e=>by cases e;rfl
 | _,_,zs, .cons (d:=d) r rs,e=>by
  cases r with
  | str z =>
   simp only [am0,Option.map_eq_some_iff] at e
   obtain ⟨ws,h1,rfl⟩:=e
   rw [ai3 rs h1];rfl
  | _=>cases e
def a0d:List D→Hd→R D
 | [.str z],h=>if z.length≤LINE then .ok (.ref h.length) (h++[.lst (vh z)]) else .no
 | [x],h=>(match a0a x h with | some xs=>.ok (.ref h.length) (h++[.lst xs]) | none=>.no)
 | _,_=>.no
theorem a3z {ι:List Addr} {H:Hp} (z:Str):Reps K ι H (xj z) (vh z):=by
 unfold xj vh
 induction z.cps.toList with
 | nil=>exact .nil
 | cons c cs ih=>exact .cons (.str _) ih
theorem a5j:adp K a0d (fun xs H Q=>(∃ p ys,xs=[.ref p]∧(SqL K H p ys∨SqT K H p ys)∧∀ l,H l=none→Q (.ref l) (upd H l (.lst ys)))∨∃ z,xs=[.str z]∧z.length≤sizeLine∧∀ l,H l=none→Q (.ref l) (upd H l (.lst (xj z)))):=by
 intro E ι H h xs ds Q r hr o
 cases r with
 | nil=>exact o.elim
 | cons r rs =>
  cases rs with
  | cons _ _=>exact (show False by cases r<;>exact o).elim
  | nil =>
   cases r with
   | str z =>
    by_cases hc:z.length≤LINE
    ·simp only [a0d,if_pos hc] at o;exact .inr ⟨z,rfl,ll hc,vo (a3z z) hr o⟩
    ·simp only [a0d,if_neg hc] at o;exact o.elim
   | @tup p vs xs hp r=>simp only [a0d,a0a] at o;exact .inl ⟨p,vs,rfl, .inr (SqT.of hp),vo r hr o⟩
   | @rol p vs xs hp r=>simp only [a0d,a0a] at o;exact .inl ⟨p,vs,rfl, .inl hp.l,vo r hr o⟩
   | @ref p j hp =>
    obtain ⟨ob,e1,e2⟩:=hr.at hp
    cases ob with
    | lst xs =>
     simp only [a0d,a0a,e1] at o
     obtain ⟨vs,h3,h4⟩:=e2
     exact .inl ⟨p,vs,rfl, .inl (SqL.of h3),vo h4 hr o⟩
    | dK _=>simp only [a0d,a0a,e1] at o;exact o.elim
    | dT _=>simp only [a0d,a0a,e1] at o;exact o.elim
   | _=>exact o.elim
def ym:List D→Hd→R D
 | [.str z],h=>if z.length≤LINE then .ok (.tup (vh z)) h else .no
 | [x],h=>(match a0a x h with | some xs=>.ok (.tup xs) h | none=>.no)
 | _,_=>.no
theorem a3j:adp K ym (fun xs H Q=>(∃ p ys,xs=[.ref p]∧((SqL K H p ys∧∀ l,H l=none→Q (.ref l) (upd H l (.tup ys)))∨(SqT K H p ys∧Q (.ref p) H)))∨∃ z,xs=[.str z]∧z.length≤sizeLine∧∀ l,H l=none→Q (.ref l) (upd H l (.tup (xj z)))):=by
 intro E ι H h xs ds Q r hr o
 cases r with
 | nil=>exact o.elim
 | cons r rs =>
  cases rs with
  | cons _ _=>exact (show False by cases r<;>exact o).elim
  | nil =>
   cases r with
   | str z =>
    by_cases hc:z.length≤LINE
    ·simp only [ym,if_pos hc] at o;exact .inr ⟨z,rfl,ll hc,a1c (a3z z) hr o⟩
    ·simp only [ym,if_neg hc] at o;exact o.elim
   | @tup p vs xs hp r=>simp only [ym,a0a] at o;exact .inl ⟨p,vs,rfl, .inr ⟨SqT.of hp,ans o (.tup hp r) hr⟩⟩
   | @rol p vs xs hp r=>simp only [ym,a0a] at o;exact .inl ⟨p,vs,rfl, .inl ⟨hp.l,a1c r hr o⟩⟩
   | @ref p j hp =>
    obtain ⟨ob,e1,e2⟩:=hr.at hp
    cases ob with
    | lst xs =>
     simp only [ym,a0a,e1] at o
     obtain ⟨vs,h3,h4⟩:=e2
     exact .inl ⟨p,vs,rfl, .inl ⟨SqL.of h3,a1c h4 hr o⟩⟩
    | dK _=>simp only [ym,a0a,e1] at o;exact o.elim
    | dT _=>simp only [ym,a0a,e1] at o;exact o.elim
   | _=>exact o.elim
def am1:List D→Option (List Bool)
 | []=>some []
 | .bl z::r=>(am1 r).map (z::·)
 | _::_=>none
theorem aao {ι:List Addr} {H:Hp}:∀ {vs:List V} {xs:List D} {zs:List Bool},Reps K ι H vs xs→am1 xs=some zs→vs=zs.map V.bl
 | _,_,_, .nil,e=>by cases e;rfl
 | _,_,zs, .cons (d:=d) r rs,e=>by
  cases r with
  | bl z =>
   simp only [am1,Option.map_eq_some_iff] at e
   obtain ⟨ws,h1,rfl⟩:=e
   rw [aao rs h1];rfl
  | _=>cases e
theorem ai4 (bs:List Bool):am1 (bs.map D.bl)=some bs:=by
 induction bs with
 | nil=>rfl
 | cons b bs ih=>simp [am1,ih]
def adq:List D→Hd→R D
 | [.ref i],h=>(match h[i]? with | some (.lst xs)=>(match am1 xs with | some bs=>.ok (.bl (bs.all id)) h | none=>.no) | _=>.no)
 | [.rol xs],h=>(match am1 xs with | some bs=>.ok (.bl (bs.all id)) h | none=>.no)
 | _,_=>.no
theorem a2u:adp K adq (fun xs H Q=>∃ (p:Addr) (bs:List Bool),xs=[.ref p]∧SqL K H p (bs.map V.bl)∧Q (.bl (bs.all id)) H):=by
 intro E ι H h xs ds Q r hr o
 unfold adq at o
 split at o
 ·cases r with
  | cons r rs =>
   cases rs
   cases r with
   | @ref p _ hp =>
    split at o
    ·rename_i xs hx
     obtain ⟨vs,h3,h4⟩:=hr.lst hp hx
     split at o
     ·rename_i bs hb
      exact ⟨p,bs,rfl,SqL.of (by rw [h3,aao h4 hb]),ans o (.bl _) hr⟩
     ·exact o.elim
    ·exact o.elim
 ·cases r with
  | cons r rs =>
   cases rs
   cases r with
   | @rol p vs xs hp r =>
    split at o
    ·rename_i bs hb
     exact ⟨p,bs,rfl,by rw [← aao r hb];exact hp.l,ans o (.bl _) hr⟩
    ·exact o.elim
 ·exact o.elim
def a2v (d:D) (h:Hd):R D:=match d with | .str z=>if z.length≤1000 then .ok (.int ((a4y z.cps.toList).length:Nat)) h else .no | _=>.no
theorem af5 {e:Expr} {p1 p2 pos1 pos2:Pos} (hc:X.calm=true) (hg1:Gl X "len") (hm1:X.mg "len" = none) (hg2:Gl X "set") (hm2:X.mg "set" = none) (ha:ME X E e fa)
  (h1:starEach [e] X.env=[(false,eval e X.env)]:=by rfl) (h2:starEach [.Call (.Name "set" p2) [e] [] pos2] X.env=[(false,eval (.Call (.Name "set" p2) [e] [] pos2) X.env)]:=by rfl) :
  ME X E (.Call (.Name "len" p1) [.Call (.Name "set" p2) [e] [] pos2] [] pos1) (s1 a2v fa):=by
 have q:=a5g (pos:=pos1) (p:=p1) call_len_set hg1 hm1 jt (uw (a5q (pos:=pos2) (p:=p2) (ad5 hc) hg2 hm2 apn (uw ha a3a (by rw [h1];rfl)) (by decide) (by decide) (by rw [h1];rfl) rfl) a3a (by rw [h2];rfl)) (by decide) (by decide) (by rw [h2];rfl) rfl
 refine PE.weak q fun σ H Q ⟨ι,τ,h,S,Rh,o⟩=>?_
 refine ⟨ι,τ,h,S,Rh,dq o fun d h1 ι1 H1 v g1 r1 hr1 o1=>?_⟩
 cases r1 with
 | str z =>
  by_cases hz:z.length≤1000
  ·simp only [a2v,if_pos hz] at o1
   refine ⟨z,rfl,hz,fun l hl=>⟨l,_,rfl,jy,o1 ι1 _ _ (wy hl _) (.int _) (hr1.aside hl _)⟩⟩
  ·simp only [a2v,if_neg hz] at o1;exact o1.elim
 | _=>exact o1.elim
end
end MI
theorem L2.Room.u {k:Nat} {A:PySem.Around} (r:L2.Room k A):A.units+64<PySem.cLine:=r.units
namespace MI
open PySem PySem.Spec L2
mutual
def eqD:D→D→Bool
 | .non, .non=>true
 | .bl a, .bl b=>a == b
 | .bl a, .int b=>(if a then 1 else 0) == b
 | .int a, .bl b=>a == (if b then 1 else 0)
 | .int a, .int b=>a == b
 | .str a, .str b=>a == b
 | .tup xs, .tup ys=>ak6 xs ys
 | _,_=>false
def ak6:List D→List D→Bool
 | [],[]=>true
 | x::xs,y::ys=>eqD x y && ak6 xs ys
 | _,_=>false
end
def pur:Nat→D→Bool
 | _, .non=>true
 | _, .bl _=>true
 | _, .int _=>true
 | _, .str _=>true
 | n+1, .tup xs=>xs.all (pur n)
 | _,_=>false
theorem aw6 {n:Nat}:∀ {m:Nat} {d:D},n≤m→pur n d=true→pur m d=true:=by
 induction n with
 | zero=>intro m d _ h;cases d<;>first | (cases m<;>rfl) | (cases h;done)
 | succ n ih =>
  intro m d hm h
  cases m with
  | zero=>omega
  | succ m =>
   cases d with
   | tup xs =>
    simp only [pur,List.all_eq_true] at h ⊢
    exact fun x hx=>ih (by omega) (h x hx)
   | _=>first | rfl | (cases h;done)
def pairE (xs ys:List D) (j:Nat):Bool:=match xs[j]?,ys[j]? with | some x,some y=>eqD x y | _,_=>false
theorem a7m:∀ xs ys:List D,((List.range (min xs.length ys.length)).all (pairE xs ys) && xs.length == ys.length)=ak6 xs ys
 | [],[]=>by simp [ak6]
 | [],_::_=>by simp [ak6]
 | _::_,[]=>by simp [ak6]
 | x::xs,y::ys=>by
  have ih:=a7m xs ys
  rw [show min (x::xs).length (y::ys).length=min xs.length ys.length+1 by simp only [List.length_cons];omega,List.range_succ_eq_map]
  rw [List.all_cons,List.all_map]
  have e:(pairE (x::xs) (y::ys) ∘ Nat.succ)=pairE xs ys:=by funext j;simp [pairE]
  rw [e]
  simp only [ak6]
  rw [← ih]
  have e2:((x::xs).length == (y::ys).length)=(xs.length == ys.length):=by simp
  rw [e2,Bool.and_assoc]
  rfl
section
variable {K:PySem.W.Frag} {ι:List Addr} {H:Hp}
theorem ai5:∀ (n:Nat) {v:V} {d e:D},Rep K ι H v d→Rep K ι H v e→pur n d=true→pur n e=true→eqD d e=true:=by
 intro n
 induction n with
 | zero=>intro v d e r q p1 p2;cases r<;>cases q<;>first | (simp [eqD];done) | (cases p1;done) | (cases p2;done)
 | succ n ih =>
  intro v d e r q p1 p2
  cases r with
  | @tup a vs xs h rs =>
   cases q with
   | @tup _ us ys h' qs =>
    rw [h] at h';cases h'
    simp only [eqD]
    simp only [pur,List.all_eq_true] at p1 p2
    clear h
    induction rs using Reps.rec (motive_1:=fun _ _ _=>True) generalizing ys with
    | nil=>cases qs;rfl
    | cons r rs _ ih2 =>
     cases qs with
     | cons q qs =>
      simp only [ak6,Bool.and_eq_true]
      exact ⟨ih r q (p1 _ (List.mem_cons_self ..)) (p2 _ (List.mem_cons_self ..)),ih2 qs (fun x hx=>p1 x (List.mem_cons_of_mem _ hx)) (fun x hx=>p2 x (List.mem_cons_of_mem _ hx))⟩
    | _=>trivial
   | _=>cases p2
  | _=>cases q<;>first | (simp [eqD];done) | (cases p1;done) | (cases p2;done)
theorem a4t {n:Nat} {v:V} {d:D} (r:Rep K ι H v d) (p:pur n d=true):(∃ xs,d = .tup xs)∨(a2o v=true∧a2t d=true):=by
 cases r<;>first | exact .inr ⟨rfl,rfl⟩ | exact .inl ⟨_,rfl⟩ | (cases n<;>cases p)
theorem a7n {x y:V} {d e:D} (r:Rep K ι H x d) (q:Rep K ι H y e) (f:a2t d=true) (g:a2t e=true):eqV x y=eqD d e:=by
 cases r<;>cases q<;>first | rfl | (simp [eqV,eqD];done) | (cases f;done) | (cases g;done)
open SeqAt in
theorem aq5 {P:Program} {w:World} {s:Shared} (hok:HOk P w H s.heap):∀ (n:Nat) (A:Around) {x y:V} {u v:Value} {d e:D},Rep K ι H x d→Rep K ι H y e→RelV x u→RelV y v→pur n d=true→pur n e=true→A.units+n<cLine→EqAt A s u v (eqD d e):=by
 intro n
 induction n with
 | zero =>
  intro A x y u v d e r q rx ry p1 p2 hu
  rcases a4t r p1 with ⟨xs,rfl⟩ | ⟨f1,f2⟩
  ·cases p1
  ·rcases a4t q p2 with ⟨xs,rfl⟩ | ⟨g1,g2⟩
   ·cases p2
   ·rw [← a7n r q f2 g2];exact aef rx ry f1 g1
 | succ n ih =>
  intro A x y u v d e r q rx ry p1 p2 hu
  rcases a4t r p1 with ⟨xs,rfl⟩ | ⟨f1,f2⟩
  ·cases r with
   | @tup a vs _ ha rs =>
    cases rx
    obtain ⟨_,its,r1,t1⟩:=(Rd.of ha).ok hok
    rcases a4t q p2 with ⟨ys,rfl⟩ | ⟨g1,g2⟩
    ·cases q with
     | @tup b us _ hb qs =>
      cases ry
      obtain ⟨_,its2,r2,t2⟩:=(Rd.of hb).ok hok
      by_cases hab:a=b
      ·subst hab
       rw [ai5 (n+1) (.tup ha rs) (.tup hb qs) p1 p2]
       exact EqAt.same _
      ·have l1:its.toArray.size=xs.length:=by rw [List.size_toArray,← r1.length,rs.len]
       have l2:its2.toArray.size=ys.length:=by rw [List.size_toArray,← r2.length,qs.len]
       have:=RcAt.tuples (A:=A) (s:=s) (e:=pairE xs ys) t1 t2 (by omega) (fun j h1 h2=>by
        have j1:j<xs.length:=by omega
        have j2:j<ys.length:=by omega
        obtain ⟨v1,e1,q1⟩:=rs.get (List.getElem?_eq_getElem j1)
        obtain ⟨v2,e2,q2⟩:=qs.get (List.getElem?_eq_getElem j2)
        obtain ⟨u1,e3,q3⟩:=r1.get e1
        obtain ⟨u2,e4,q4⟩:=r2.get e2
        have f1:its.toArray[j]=u1:=by simpa using (List.getElem?_eq_some_iff.mp e3).2
        have f2:its2.toArray[j]=u2:=by simpa using (List.getElem?_eq_some_iff.mp e4).2
        have pe:pairE xs ys j=eqD xs[j] ys[j]:=by simp [pairE,List.getElem?_eq_getElem j1,List.getElem?_eq_getElem j2]
        rw [f1,f2,pe]
        simp only [pur,List.all_eq_true] at p1 p2
        exact ih A.in1 q1 q2 q3 q4 (p1 _ (List.getElem_mem j1)) (p2 _ (List.getElem_mem j2)) (by rw [Around.in1_units];omega))
       rw [l1,l2,a7m] at this
       exact EqAt.of_refs hab this
    ·have e0:eqD (.tup xs) e=false:=by cases e<;>first | rfl | (cases g2;done)
     rw [e0]
     cases y with
     | non=>cases ry;exact EqAt.tuple_none t1 (by omega)
     | bl b=>cases ry;exact EqAt.tuple_bool b t1 (by omega)
     | int b=>obtain ⟨t,rfl⟩:=ry;exact EqAt.tuple_int b t t1 (by omega)
     | str b=>obtain ⟨t,rfl⟩:=ry;exact EqAt.tuple_str b t t1 (by omega)
     | _=>cases g1
  ·rcases a4t q p2 with ⟨ys,rfl⟩ | ⟨g1,g2⟩
   ·cases q with
    | @tup b us _ hb qs =>
     cases ry
     obtain ⟨_,its2,r2,t2⟩:=(Rd.of hb).ok hok
     have e0:eqD d (.tup ys)=false:=by cases d<;>first | rfl | (cases f2;done)
     rw [e0]
     cases x with
     | non=>cases rx;exact EqAt.none_tuple t2 (by omega)
     | bl b=>cases rx;exact EqAt.bool_tuple b t2 (by omega)
     | int b=>obtain ⟨t,rfl⟩:=rx;exact EqAt.int_tuple b t t2 (by omega)
     | str b=>obtain ⟨t,rfl⟩:=rx;exact EqAt.str_tuple b t t2 (by omega)
     | _=>cases f1
   ·rw [← a7n r q f2 g2];exact aef rx ry f1 g1
open SeqAt in
theorem aq6 {A:Around} {s:Shared} {y x:V} {u v:Value} (ry:RelV y u) (rx:RelV x v) (fy:a2o y=true) (fx:a2o x=true):RcAt A s u v (eqV y x):=by
 cases y with
 | non =>
  cases ry
  cases x with
  | non=>cases rx;exact RcAt.none_none
  | bl b=>cases rx;exact RcAt.none_bool b
  | int b=>obtain ⟨t,rfl⟩:=rx;exact RcAt.none_int b t
  | str b=>obtain ⟨t,rfl⟩:=rx;exact RcAt.none_str b t
  | _=>cases fx
 | bl a =>
  cases ry
  cases x with
  | non=>cases rx;exact RcAt.bool_none a
  | bl b=>cases rx;exact RcAt.bool_bool a b
  | int b=>obtain ⟨t,rfl⟩:=rx;exact RcAt.bool_int a b t
  | str b=>obtain ⟨t,rfl⟩:=rx;exact RcAt.bool_str a b t
  | _=>cases fx
 | int a =>
  obtain ⟨t',rfl⟩:=ry
  cases x with
  | non=>cases rx;exact RcAt.int_none a t'
  | bl b=>cases rx;exact RcAt.int_bool a t' b
  | int b=>obtain ⟨t,rfl⟩:=rx;exact RcAt.int_int a t' b t
  | str b=>obtain ⟨t,rfl⟩:=rx;exact RcAt.int_str a t' b t
  | _=>cases fx
 | str a =>
  obtain ⟨t',rfl⟩:=ry
  cases x with
  | non=>cases rx;exact RcAt.str_none a t'
  | bl b=>cases rx;exact RcAt.str_bool a t' b
  | int b=>obtain ⟨t,rfl⟩:=rx;exact RcAt.str_int a t' b t
  | str b=>obtain ⟨t,rfl⟩:=rx;exact RcAt.str_str a t' b t
  | _=>cases fx
 | _=>cases fy
open SeqAt in
theorem ai6 {A:Around} {s:Shared} {y x:V} {u v:Value} (ry:RelV y u) (rx:RelV x v) (fy:a2o y=true) (fx:a2o x=true):RcNeAt A s u v (!eqV y x):=by
 cases y with
 | non =>
  cases ry
  cases x with
  | non=>cases rx;exact RcNeAt.none_none
  | bl b=>cases rx;exact RcNeAt.none_bool b
  | int b=>obtain ⟨t,rfl⟩:=rx;exact RcNeAt.none_int b t
  | str b=>obtain ⟨t,rfl⟩:=rx;exact RcNeAt.none_str b t
  | _=>cases fx
 | bl a =>
  cases ry
  cases x with
  | non=>cases rx;exact RcNeAt.bool_none a
  | bl b=>cases rx;exact RcNeAt.bool_bool a b
  | int b=>obtain ⟨t,rfl⟩:=rx;exact RcNeAt.bool_int a b t
  | str b=>obtain ⟨t,rfl⟩:=rx;exact RcNeAt.bool_str a b t
  | _=>cases fx
 | int a =>
  obtain ⟨t',rfl⟩:=ry
  cases x with
  | non=>cases rx;exact RcNeAt.int_none a t'
  | bl b=>cases rx;exact RcNeAt.int_bool a t' b
  | int b=>obtain ⟨t,rfl⟩:=rx;exact RcNeAt.int_int a t' b t
  | str b=>obtain ⟨t,rfl⟩:=rx;exact RcNeAt.int_str a t' b t
  | _=>cases fx
 | str a =>
  obtain ⟨t',rfl⟩:=ry
  cases x with
  | non=>cases rx;exact RcNeAt.str_none a t'
  | bl b=>cases rx;exact RcNeAt.str_bool a t' b
  | int b=>obtain ⟨t,rfl⟩:=rx;exact RcNeAt.str_int a t' b t
  | str b=>obtain ⟨t,rfl⟩:=rx;exact RcNeAt.str_str a t' b t
  | _=>cases fx
 | _=>cases fy
open SeqAt in
theorem tops {P:Program} {w:World} {s:Shared} {A:Around} (hok:HOk P w H s.heap) {x y:V} {u v:Value} {d e:D} (r:Rep K ι H x d) (q:Rep K ι H y e) (rx:RelV x u) (ry:RelV y v) (p1:pur 60 d=true) (p2:pur 60 e=true) (hu:A.units+64<cLine) :
  RcAt A s u v (eqD d e)∧RcNeAt A s u v (!eqD d e):=by
 rcases a4t r p1 with ⟨xs,rfl⟩ | ⟨f1,f2⟩
 ·cases r with
  | @tup a vs _ ha rs =>
   cases rx
   obtain ⟨_,its,r1,t1⟩:=(Rd.of ha).ok hok
   rcases a4t q p2 with ⟨ys,rfl⟩ | ⟨g1,g2⟩
   ·cases q with
    | @tup b us _ hb qs =>
     cases ry
     obtain ⟨_,its2,r2,t2⟩:=(Rd.of hb).ok hok
     have l1:its.toArray.size=xs.length:=by rw [List.size_toArray,← r1.length,rs.len]
     have l2:its2.toArray.size=ys.length:=by rw [List.size_toArray,← r2.length,qs.len]
     have step:∀ j (h1:j<its.toArray.size) (h2:j<its2.toArray.size),EqAt A.in1 s its.toArray[j] its2.toArray[j] (pairE xs ys j):=fun j h1 h2=>by
      have j1:j<xs.length:=by omega
      have j2:j<ys.length:=by omega
      obtain ⟨v1,e1,q1⟩:=rs.get (List.getElem?_eq_getElem j1)
      obtain ⟨v2,e2,q2⟩:=qs.get (List.getElem?_eq_getElem j2)
      obtain ⟨u1,e3,q3⟩:=r1.get e1
      obtain ⟨u2,e4,q4⟩:=r2.get e2
      have f1:its.toArray[j]=u1:=by simpa using (List.getElem?_eq_some_iff.mp e3).2
      have f2:its2.toArray[j]=u2:=by simpa using (List.getElem?_eq_some_iff.mp e4).2
      have pe:pairE xs ys j=eqD xs[j] ys[j]:=by simp [pairE,List.getElem?_eq_getElem j1,List.getElem?_eq_getElem j2]
      rw [f1,f2,pe]
      simp only [pur,List.all_eq_true] at p1 p2
      exact aq5 hok 59 A.in1 q1 q2 q3 q4 (p1 _ (List.getElem_mem j1)) (p2 _ (List.getElem_mem j2)) (by rw [Around.in1_units];omega)
     have c1:=RcAt.tuples (A:=A) (s:=s) (e:=pairE xs ys) t1 t2 (by omega) step
     have c2:=RcNeAt.tuples (A:=A) (s:=s) (e:=pairE xs ys) t1 t2 (by omega) step
     rw [l1,l2,a7m] at c1 c2
     exact ⟨c1,c2⟩
   ·have e0:eqD (.tup xs) e=false:=by cases e<;>first | rfl | (cases g2;done)
    rw [e0]
    cases y with
    | non=>cases ry;exact ⟨RcAt.tuple_none t1 (by omega),RcNeAt.tuple_none t1 (by omega)⟩
    | bl b=>cases ry;exact ⟨RcAt.tuple_bool b t1 (by omega),RcNeAt.tuple_bool b t1 (by omega)⟩
    | int b=>obtain ⟨t,rfl⟩:=ry;exact ⟨RcAt.tuple_int b t t1 (by omega),RcNeAt.tuple_int b t t1 (by omega)⟩
    | str b=>obtain ⟨t,rfl⟩:=ry;exact ⟨RcAt.tuple_str b t t1 (by omega),RcNeAt.tuple_str b t t1 (by omega)⟩
    | _=>cases g1
 ·rcases a4t q p2 with ⟨ys,rfl⟩ | ⟨g1,g2⟩
  ·cases q with
   | @tup b us _ hb qs =>
    cases ry
    obtain ⟨_,its2,r2,t2⟩:=(Rd.of hb).ok hok
    have e0:eqD d (.tup ys)=false:=by cases d<;>first | rfl | (cases f2;done)
    rw [e0]
    cases x with
    | non=>cases rx;exact ⟨RcAt.none_tuple t2 (by omega),RcNeAt.none_tuple t2 (by omega)⟩
    | bl b=>cases rx;exact ⟨RcAt.bool_tuple b t2 (by omega),RcNeAt.bool_tuple b t2 (by omega)⟩
    | int b=>obtain ⟨t,rfl⟩:=rx;exact ⟨RcAt.int_tuple b t t2 (by omega),RcNeAt.int_tuple b t t2 (by omega)⟩
    | str b=>obtain ⟨t,rfl⟩:=rx;exact ⟨RcAt.str_tuple b t t2 (by omega),RcNeAt.str_tuple b t t2 (by omega)⟩
    | _=>cases f1
  ·rw [← a7n r q f2 g2];exact ⟨aq6 rx ry f1 g1,ai6 rx ry f1 g1⟩
def aw7 (K:PySem.W.Frag):R2:=fun x y H Q=>∃ ι d e,Rep K ι H x d∧Rep K ι H y e∧pur 60 d=true∧pur 60 e=true∧Q (.bl (eqD d e)) H
def aw8 (K:PySem.W.Frag):R2:=fun x y H Q=>∃ ι d e,Rep K ι H x d∧Rep K ι H y e∧pur 60 d=true∧pur 60 e=true∧Q (.bl (!eqD d e)) H
theorem lw {X:Cx} (hu:X.A.units+64<cLine):OpR X (compareOp .Eq) (aw7 X.K):=by
 intro pins s σ H x y v u Q I rx ry h
 obtain ⟨ι,d,e,r,q,p1,p2,hq⟩:=h
 exact (tops (A:=X.A) I.hok r q rx ry p1 p2 hu).1 X.prog X.w X.xe _ ⟨.bl _,H,I,rfl,hq⟩
theorem a71 {X:Cx} (hu:X.A.units+64<cLine):OpR X (compareOp .NotEq) (aw8 X.K):=by
 intro pins s σ H x y v u Q I rx ry h
 obtain ⟨ι,d,e,r,q,p1,p2,hq⟩:=h
 exact (tops (A:=X.A) I.hok r q rx ry p1 p2 hu).2 X.prog X.w X.xe _ ⟨.bl _,H,I,rfl,hq⟩
def hEq (x y:D) (h:Hd):R D:=if pur 60 x=true∧pur 60 y=true then .ok (.bl (eqD x y)) h else .no
def hNe (x y:D) (h:Hd):R D:=if pur 60 x=true∧pur 60 y=true then .ok (.bl (!eqD x y)) h else .no
theorem jk:a1t K hEq (aw7 K):=by
 intro E ι H h x y dx dy Q rx ry hr o
 unfold hEq at o
 split at o
 ·rename_i hc;exact ⟨ι,dx,dy,rx,ry,hc.1,hc.2,ans o (.bl _) hr⟩
 ·exact o.elim
theorem a4a:a1t K hNe (aw8 K):=by
 intro E ι H h x y dx dy Q rx ry hr o
 unfold hNe at o
 split at o
 ·rename_i hc;exact ⟨ι,dx,dy,rx,ry,hc.1,hc.2,ans o (.bl _) hr⟩
 ·exact o.elim
end
section
variable {X:Cx} {E:XD} {K:PySem.W.Frag}
def ai7:SE:=fun _ h=>.ok (.ref h.length) (h++[.dK []])
theorem am2 {pos:Pos}:ME X E (.Dict [] [] pos) ai7:=by
 refine PE.weak ahq fun σ H Q ⟨ι,τ,h,S,Rh,o⟩=>fun p hp=>?_
 exact o (ι++[p]) _ _ (abk hp _) (.ref (by rw [List.getElem?_append_right (by rw [Rh.len];exact Nat.le_refl _),Rh.len];simp)) (Rh.add hp ⟨[],jy,rfl, .nil⟩)
def a6n:D→D→Hd→R D
 | .int i, .int j,h=>.ok (.int (i+j)) h
 | .str x, .str y,h=>if x.length+y.length≤LINE then .ok (.str (x++y)) h else .no
 | _,_,_=>.no
theorem a5k:a1t K a6n (fun x y H Q=>rI0 (fun i j=>.int (i+j)) x y H Q∨∃ i j,x = .str i∧y = .str j∧i.length+j.length≤sizeLine∧Q (.str (i++j)) H):=by
 intro E ι H h x y dx dy Q rx ry hr o
 cases rx with
 | int i =>
  cases ry with
  | int j=>exact .inl ⟨i,j,rfl,rfl,ans o (.int _) hr⟩
  | _=>exact o.elim
 | str i =>
  cases ry with
  | str j =>
   by_cases hc:i.length+j.length≤LINE
   ·simp only [a6n,if_pos hc] at o;exact .inr ⟨i,j,rfl,rfl,ll hc,ans o (.str _) hr⟩
   ·simp only [a6n,if_neg hc] at o;exact o.elim
  | _=>exact o.elim
 | _=>exact o.elim
theorem aq7:bootBuiltins "min" = some (.builtin "min"):=by first | exact PySem.boot_min | exact PyProof.Rows.boot_min
theorem aap:bootBuiltins "bool" = some (.type "bool"):=by first | exact PySem.boot_bool | exact PyProof.Rows.boot_bool
theorem n8 {e:Expr} {es:List Expr} {g:SG} {ks:SGs} (h1:MG X E e g) (h2:MGs X E es ks) (hs:(assignEach (e::es) X.env).map (·.2)=assign e X.env::(assignEach es X.env).map (·.2):=by rfl):MGs X E (e::es) (qp g ks) :=
 PGs.weak (a2y h1 h2 hs) fun vs σ H Q q=>ai0 q
end
end MI
namespace ZP
open PySem PySem.Spec PySem.Builtin PySem.Builtin.SmallTypes
section
variable {prog:Program} {w:World} {A:Around} {E:Value→Shared→Prop} {s:Shared}
theorem am3 {α:Type} {Q:α→Shared→Prop} (hh:A.handled=none) (q:∀ h' e,(∀ b o,s.heap.get? b=some o→h'.get? b=some o)→(∃ o,h'.get? e=some o∧o.cls = .type "StopIteration")→E (.ref e) { s with heap:=h' }) :
  wpAny (model prog w) A (stopIteration:Sem α) Q E s:=by
 have none_first:firstArgMember (.type "StopIteration") []=pure Value.none:=by first | rfl | (simp only [firstArgMember];rfl)
 rw [stopIteration]
 apply wpAny_bind
 rw [newExc,newTuple]
 apply wpAny_bind
 apply wpAny_newObj_type _ (by size_fits)
 rw [none_first,pure_bind]
 apply wpAny_newObj_type _ (by size_fits)
 apply wpAny_raiseNew_none hh
 exact q _ _ (fun b o z=>Heap.get?_push_of_some _ (Heap.get?_push_of_some _ z)) ⟨_,Heap.get?_push_size _ rfl,rfl⟩
theorem ai8 {it t:Addr} {i:Nat} {items:Array Value} {x:Value} {Q:Value→Shared→Prop} (hi:s.heap.IsTupleIter it t i) (ht:s.heap.IsTuple t items) (hx:items[i]? = some x)
  (q:∀ h',h'.IsTupleIter it t (i+1)→Heap.SameBut it s.heap h'→Q x { s with heap:=h' }):wpAny (model prog w) A (nextOf (.ref it)) Q E s:=by
 have ty:=hi.typeIs
 obtain ⟨o,e1,e2,e3⟩:=id hi
 obtain ⟨p,f1,f2,n,f3⟩:=ht
 rw [nextOf]
 apply wpAny_bind
 apply wpAny_callSpecial?_slot (name:=Str.ofString "__next__") ty F.slot_tuple_iterator_next
 apply wpAny_call_entry F.slot_tuple_iterator_next ty F.entry_tuple_iterator_next _ (F.args_tuple_iterator_next_1 _)
 change wpAny (model prog w) A.in1 (field (.ref it) 0>>=_) _ _ _
 apply wpAny_bind;apply wpAny_field e1 e3 (x:=.ref t) rfl
 change wpAny (model prog w) A.in1 (field (.ref it) 1>>=_) _ _ _
 apply wpAny_bind;apply wpAny_field e1 e3 (x:=.int i 0) rfl
 change wpAny (model prog w) A.in1 (seqItems? (.ref t)>>=_) _ _ _
 apply wpAny_bind;apply wpAny_seqItems f1 f3
 dsimp only
 rw [Int.toNat_natCast,hx]
 apply wpAny_bind
 obtain ⟨c,dd,dt,sl⟩:=o
 simp only at e2 e3
 subst e2 e3
 apply wpAny_setField e1 rfl (Nat.lt_succ_self 1)
 apply wpAny_pure
 exact ⟨x,rfl,wpAny_pure (q _ ⟨_,Heap.get?_update_self _ e1 rfl,rfl,rfl⟩ (Heap.SameBut.update ..))⟩
theorem am4 {it t:Addr} {i:Nat} {items:Array Value} {Q:Value→Shared→Prop} (hh:A.handled=none) (hi:s.heap.IsTupleIter it t i) (ht:s.heap.IsTuple t items) (hx:items[i]? = none)
  (q:∀ h' e,Heap.ExtBut it s.heap h'→(∃ o,h'.get? e=some o∧o.cls = .type "StopIteration")→E (.ref e) { s with heap:=h' }):wpAny (model prog w) A (nextOf (.ref it)) Q E s:=by
 have ty:=hi.typeIs
 obtain ⟨o,e1,e2,e3⟩:=id hi
 obtain ⟨p,f1,f2,n,f3⟩:=ht
 rw [nextOf]
 apply wpAny_bind
 apply wpAny_callSpecial?_slot (name:=Str.ofString "__next__") ty F.slot_tuple_iterator_next
 apply wpAny_call_entry F.slot_tuple_iterator_next ty F.entry_tuple_iterator_next _ (F.args_tuple_iterator_next_1 _)
 change wpAny (model prog w) A.in1 (field (.ref it) 0>>=_) _ _ _
 apply wpAny_bind;apply wpAny_field e1 e3 (x:=.ref t) rfl
 change wpAny (model prog w) A.in1 (field (.ref it) 1>>=_) _ _ _
 apply wpAny_bind;apply wpAny_field e1 e3 (x:=.int i 0) rfl
 change wpAny (model prog w) A.in1 (seqItems? (.ref t)>>=_) _ _ _
 apply wpAny_bind;apply wpAny_seqItems f1 f3
 dsimp only
 rw [Int.toNat_natCast,hx]
 dsimp only
 obtain ⟨c,dd,dt,sl⟩:=o
 simp only at e2 e3
 subst e2 e3
 apply wpAny_bind;apply wpAny_rule
 apply wpAny_bind;apply wpAny_setField e1 rfl (Nat.succ_pos 1)
 apply am3 (show A.in1.handled=none from hh)
 exact fun h' e k z=>q h' e (fun b o nb eb=>k b o ((Heap.SameBut.update ..).extBut b o nb eb)) z
theorem af6 {prog:Program} {w:World} {A:Around} (hh:A.handled=none) (it t:Addr) (ne:t≠it) (items:Array Value):Draws prog w A it [it,t] items.size (fun i v=>items[i]? = some v) (fun i h=>h.IsTupleIter it t i∧h.IsTuple t items) where
 live:=fun _ _ st=>let ⟨o,e,_⟩:=st.1; ⟨o,e⟩
 frame:=fun _ _ _ st k=>⟨let ⟨o,e,r⟩:=st.1; ⟨o,k it (by simp) o e,r⟩,let ⟨o,e,r⟩:=st.2; ⟨o,k t (by simp) o e,r⟩⟩
 item:=fun i s Q E hi st q=>ai8 st.1 st.2 (Array.getElem?_eq_getElem hi) fun h' a b=>q _ h' s.toks (Array.getElem?_eq_getElem hi) ⟨a,st.2.extBut b.extBut ne⟩ b
 done:=fun s Q E st q=>am4 hh st.1 st.2 (by simp) q
end
end ZP
namespace ZP
open PySem PySem.Spec PySem.Builtin PySem.Builtin.SmallTypes
structure Ap (z TI TO i1 i2:Addr) (p q:List Addr):Prop where
 m1:i1∈p
 m2:i2∈q
 z1:z ∉ p
 z2:z ∉ q
 o1:TO ∉ p
 o2:TO ∉ q
 oz:TO≠z
 x1:i1 ∉ q
 x2:i2 ∉ p
section
variable {prog:Program} {w:World} {A:Around} {E:Value→Shared→Prop} {s:Shared} {z TI TO i1 i2:Addr} {p q:List Addr} {n1 n2 k:Nat} {P1 P2:Nat→Value→Prop} {S1 S2:Nat→Heap→Prop} {a b:Value}
theorem far {D:Draws prog w A i1 p n1 P1 S1} {h h':Heap} {c:Addr} (sb:Heap.SameBut c h h') (nc:c ∉ p) (st:S1 k h):S1 k h':=D.frame _ _ _ st fun x hx o e=>sb.extBut x o (fun y=>nc (y ▸ hx)) e
theorem af7 {Q:Fin→Shared→Prop} (hz:IsZip s.heap z TI TO .none) (hi:IsPair s.heap TI (.ref i1) (.ref i2)) (ho:IsPair s.heap TO a b) (oz:TO≠z)
  (go:∀ h1,IsZip h1 z TI TO .ellipsis→Heap.SameBut z s.heap h1→wpAny (model prog w) A (nextOf (.ref i1))
   (fun x s2=>IsPair s2.heap TO a b∧∀ h3,IsPair h3 TO x b→Heap.SameBut TO s2.heap h3→wpAny (model prog w) A (nextOf (.ref i2))
    (fun y s4=>IsPair s4.heap TO x b∧∀ h5,IsPair h5 TO x y→Heap.SameBut TO s4.heap h5→IsZip h5 z TI TO .ellipsis∧∀ h8,IsZip h8 z TI TO (rawInt h5.objs.size)→IsPair h8 h5.objs.size x y→h8.objs.size=h5.objs.size+1 →
     (∀ c o,c≠z→h5.get? c=some o→h8.get? c=some o)→Q (.done (.ret (.ref h5.objs.size))) { s4 with heap:=h8 })
    (fun e s4=>wpAny (model prog w) A (setField (.ref z) 0 .none) (fun _ s5=>E e s5) E s4) { s2 with heap:=h3 })
   (fun e s2=>wpAny (model prog w) A (setField (.ref z) 0 .none) (fun _ s3=>E e s3) E s2) { s with heap:=h1 }) :
  wpAny (model prog w) A (Builtin.«zip.__next__» ⟨[.ref z],[]⟩) Q E s:=by
 change wpAny (model prog w) A (field (.ref z) 2>>=_) _ _ _
 apply wpAny_bind;apply wpAny_field hz rfl (x:=.bool false) rfl
 change wpAny (model prog w) A (field (.ref z) 3>>=_) _ _ _
 apply wpAny_bind;apply wpAny_field hz rfl (x:=.ref TI) rfl
 apply wpAny_bind;apply wpAny_seqItems hi rfl
 change wpAny (model prog w) A (ownedTupleIsFree (.ref z)>>=_) _ _ _
 apply wpAny_bind
 rw [ownedTupleIsFree]
 apply wpAny_bind;apply wpAny_field hz rfl (x:=.none) rfl
 apply wpAny_pure
 rw [if_pos rfl]
 apply wpAny_bind;apply wpAny_rule
 apply wpAny_bind;apply wpAny_field hz rfl (x:=.ref TO) rfl
 apply wpAny_bind;apply wpAny_setField_rec hz (Nat.succ_pos _)
 intro h1 z1 b1
 apply wpAny_bind
 simp only [List.zipIdx_cons,List.zipIdx_nil,List.forIn_cons,List.forIn_nil]
 apply wpAny_bind;apply wpAny_bind;apply wpAny_onRaise
 change wpAny (model prog w) A (nextOf (.ref i1)>>=_) _ _ _
 apply wpAny_bind
 apply wpAny_mono (go h1 z1 b1) _ fun _ _ r=>r
 rintro x s2 ⟨o2,g2⟩
 apply wpAny_pure
 apply wpAny_bind;apply wpAny_seqItems o2 rfl
 apply wpAny_bind;apply wpAny_updateSeq_pair o2
 intro h3 o3 b3
 apply wpAny_bind;apply wpAny_letGo;apply wpAny_pure
 apply wpAny_bind;apply wpAny_bind;apply wpAny_onRaise
 change wpAny (model prog w) A (nextOf (.ref i2)>>=_) _ _ _
 apply wpAny_bind
 apply wpAny_mono (g2 h3 o3 b3) _ fun _ _ r=>r
 rintro y s4 ⟨o4,g4⟩
 apply wpAny_pure
 apply wpAny_bind;apply wpAny_seqItems o4 rfl
 apply wpAny_bind;apply wpAny_updateSeq_pair o4
 intro h5 o5 b5
 obtain ⟨z5,g5⟩:=g4 h5 o5 b5
 apply wpAny_bind;apply wpAny_letGo;apply wpAny_pure;apply wpAny_pure
 apply wpAny_bind;apply wpAny_seqItems o5 rfl
 apply wpAny_bind;refine wpAny_newTuple ?_ (by show 2≤sizeLine;decide)
 change wpAny (model prog w) A (ownedTupleHandOut (.ref z) (.ref h5.objs.size)>>=_) _ _ _
 apply wpAny_bind
 rw [ownedTupleHandOut]
 have z6:IsZip (h5.push { cls:=.type "tuple",data:=.seq #[x,y] }) z TI TO .ellipsis:=Heap.get?_push_of_some _ z5
 have lt:z<h5.objs.size:=Heap.lt_size z5
 apply wpAny_bind;apply wpAny_setField_rec z6 (Nat.succ_pos _)
 intro h7 z7 b7
 apply wpAny_setField_rec z7 (by show 1<5;decide)
 intro h8 z8 b8
 apply wpAny_pure
 refine g5 h8 z8 (b8.extBut _ _ (Nat.ne_of_gt lt) (b7.extBut _ _ (Nat.ne_of_gt lt) (Heap.get?_push_size _ rfl))) ?_ fun c o nc e=>b8.extBut _ _ nc (b7.extBut _ _ nc (Heap.get?_push_of_some _ e))
 rw [b8.1,b7.1,Heap.size_push]
theorem ai9 {Q:Value→Shared→Prop} (D1:Draws prog w A i1 p n1 P1 S1) (D2:Draws prog w A i2 q n2 P2 S2) (ap:Ap z TI TO i1 i2 p q) (hz:IsZip s.heap z TI TO .none) (hi:IsPair s.heap TI (.ref i1) (.ref i2)) (ho:IsPair s.heap TO a b)
  (s1:S1 k s.heap) (s2:S2 k s.heap) (k1:k<n1) (k2:k<n2)
  (hQ:∀ x y h' tk,P1 k x→P2 k y→IsZip h' z TI TO (rawInt s.heap.objs.size)→IsPair h' TO x y→S1 (k+1) h'→S2 (k+1) h'→IsPair h' s.heap.objs.size x y→h'.objs.size=s.heap.objs.size+1 →
   (∀ c o,c≠z→c≠TO→c≠i1→c≠i2→s.heap.get? c=some o→h'.get? c=some o)→Q (.ref s.heap.objs.size) { s with heap:=h',toks:=tk }) :
  wpAny (model prog w) A (Builtin.«zip.__next__» ⟨[.ref z],[]⟩) (fun fin s'=>∃ v,fin = .done (.ret v)∧Q v s') E s:=by
 have ni1:i1≠z:=fun e=>ap.z1 (e ▸ ap.m1)
 have ni2:i2≠z:=fun e=>ap.z2 (e ▸ ap.m2)
 have no1:TO≠i1:=fun e=>ap.o1 (e ▸ ap.m1)
 have no2:TO≠i2:=fun e=>ap.o2 (e ▸ ap.m2)
 refine af7 hz hi ho ap.oz fun h1 z1 b1=>?_
 refine D1.item k _ _ _ k1 (far (D:=D1) b1 ap.z1 s1) fun x h2 t2 px st2 b2=>?_
 refine ⟨b2.extBut _ _ no1 (b1.extBut _ _ ap.oz ho),fun h3 o3 b3=>?_⟩
 refine D2.item k _ _ _ k2 (far (D:=D2) b3 ap.o2 (far (D:=D2) b2 ap.x1 (far (D:=D2) b1 ap.z2 s2))) fun y h4 t4 py st4 b4=>?_
 refine ⟨b4.extBut _ _ no2 o3,fun h5 o5 b5=>⟨b5.extBut _ _ ap.oz.symm (b4.extBut _ _ ni2.symm (b3.extBut _ _ ap.oz.symm (b2.extBut _ _ ni1.symm z1))),fun h8 z8 t8 l8 k8=>⟨_,rfl,?_⟩⟩⟩
 have sz:h5.objs.size=s.heap.objs.size:=by rw [b5.1,b4.1,b3.1,b2.1,b1.1]
 have g1:S1 (k+1) h8:=D1.frame _ _ _ (far (D:=D1) b5 ap.o1 (far (D:=D1) b4 ap.x2 (far (D:=D1) b3 ap.o1 st2))) fun c hc o e=>k8 c o (fun y=>ap.z1 (y ▸ hc)) e
 have g2:S2 (k+1) h8:=D2.frame _ _ _ (far (D:=D2) b5 ap.o2 st4) fun c hc o e=>k8 c o (fun y=>ap.z2 (y ▸ hc)) e
 rw [sz] at z8 t8 l8 ⊢
 exact hQ x y h8 t4 px py z8 (k8 _ _ ap.oz o5) g1 g2 t8 l8 fun c o c1 c2 c3 c4 e=>k8 c o c1 (b5.extBut _ _ c2 (b4.extBut _ _ c4 (b3.extBut _ _ c2 (b2.extBut _ _ c3 (b1.extBut _ _ c1 e)))))
theorem am5 {Q:Fin→Shared→Prop} (D1:Draws prog w A i1 p n1 P1 S1) (D2:Draws prog w A i2 q n2 P2 S2) (ap:Ap z TI TO i1 i2 p q) (hz:IsZip s.heap z TI TO .none) (hi:IsPair s.heap TI (.ref i1) (.ref i2)) (ho:IsPair s.heap TO a b)
  (s1:S1 k s.heap) (s2:S2 k s.heap) (kk:k=n1∨(k<n1∧k=n2))
  (hE:∀ h' tk e,(∀ c o,c≠z→c≠TO→c≠i1→c≠i2→s.heap.get? c=some o→h'.get? c=some o)→(∃ o,h'.get? e=some o∧o.cls = .type "StopIteration")→E (.ref e) { s with heap:=h',toks:=tk }) :
  wpAny (model prog w) A (Builtin.«zip.__next__» ⟨[.ref z],[]⟩) Q E s:=by
 have ni1:i1≠z:=fun e=>ap.z1 (e ▸ ap.m1)
 have ni2:i2≠z:=fun e=>ap.z2 (e ▸ ap.m2)
 have no1:TO≠i1:=fun e=>ap.o1 (e ▸ ap.m1)
 have stop:∀ {h:Heap} {e:Addr},(∃ o,h.get? e=some o∧o.cls = .type "StopIteration")→IsZip h z TI TO .ellipsis→e≠z:=fun {h e} ⟨o,eo,ec⟩ zz y=>by
  subst y;rw [zz] at eo;cases eo;simp at ec
 refine af7 hz hi ho ap.oz fun h1 z1 b1=>?_
 rcases kk with rfl | ⟨k1,rfl⟩
 ·refine D1.done _ _ _ (far (D:=D1) b1 ap.z1 s1) fun h2 e x2 st=>?_
  have z2:IsZip h2 z TI TO .ellipsis:=x2 _ _ ni1.symm z1
  have ne:=stop st z2
  obtain ⟨oe,f1,f2⟩:=st
  refine wpAny_setField_rec z2 (Nat.succ_pos _) fun h3 _ b3=>?_
  exact hE h3 _ e (fun c o c1 _ c3 _ y=>b3.extBut _ _ c1 (x2 _ _ c3 (b1.extBut _ _ c1 y))) ⟨oe,b3.extBut _ _ ne f1,f2⟩
 ·refine D1.item k _ _ _ k1 (far (D:=D1) b1 ap.z1 s1) fun x h2 t2 px st2 b2=>?_
  refine ⟨b2.extBut _ _ no1 (b1.extBut _ _ ap.oz ho),fun h3 o3 b3=>?_⟩
  refine D2.done _ _ _ (far (D:=D2) b3 ap.o2 (far (D:=D2) b2 ap.x1 (far (D:=D2) b1 ap.z2 s2))) fun h4 e x4 st=>?_
  have z4:IsZip h4 z TI TO .ellipsis:=x4 _ _ ni2.symm (b3.extBut _ _ ap.oz.symm (b2.extBut _ _ ni1.symm z1))
  have ne:=stop st z4
  obtain ⟨oe,f1,f2⟩:=st
  refine wpAny_setField_rec z4 (Nat.succ_pos _) fun h5 _ b5=>?_
  exact hE h5 _ e (fun c o c1 c2 c3 c4 y=>b5.extBut _ _ c1 (x4 _ _ c4 (b3.extBut _ _ c2 (b2.extBut _ _ c3 (b1.extBut _ _ c1 y))))) ⟨oe,b5.extBut _ _ ne f1,f2⟩
theorem next_item {Q:Option Value→Shared→Prop} (D1:Draws prog w A.in1 i1 p n1 P1 S1) (D2:Draws prog w A.in1 i2 q n2 P2 S2) (ap:Ap z TI TO i1 i2 p q) (hz:IsZip s.heap z TI TO .none) (hi:IsPair s.heap TI (.ref i1) (.ref i2)) (ho:IsPair s.heap TO a b)
  (s1:S1 k s.heap) (s2:S2 k s.heap) (k1:k<n1) (k2:k<n2)
  (hQ:∀ x y h' tk,P1 k x→P2 k y→IsZip h' z TI TO (rawInt s.heap.objs.size)→IsPair h' TO x y→S1 (k+1) h'→S2 (k+1) h'→IsPair h' s.heap.objs.size x y→h'.objs.size=s.heap.objs.size+1 →
   (∀ c o,c≠z→c≠TO→c≠i1→c≠i2→s.heap.get? c=some o→h'.get? c=some o)→Q (some (.ref s.heap.objs.size)) { s with heap:=h',toks:=tk }):wpAny (model prog w) A (pyNext (.ref z)) Q E s:=by
 have ty:s.TypeIs (.ref z) "zip":=⟨_,hz,rfl⟩
 rw [pyNext]
 apply wpAny_bind;apply wpAny_attempt
 apply wpAny_callSpecial?_slot (name:=Str.ofString "__next__") ty F.slot_zip_next
 apply wpAny_call_entry F.slot_zip_next ty F.entry_zip_next _ (F.args_zip_next_1 _)
 exact ai9 D1 D2 ap hz hi ho s1 s2 k1 k2 fun x y h' tk c1 c2 c3 c4 c5 c6 c7 c8 c9=>wpAny_pure (hQ x y h' tk c1 c2 c3 c4 c5 c6 c7 c8 c9)
theorem next_end {Q:Option Value→Shared→Prop} (D1:Draws prog w A.in1 i1 p n1 P1 S1) (D2:Draws prog w A.in1 i2 q n2 P2 S2) (ap:Ap z TI TO i1 i2 p q) (hz:IsZip s.heap z TI TO .none) (hi:IsPair s.heap TI (.ref i1) (.ref i2)) (ho:IsPair s.heap TO a b)
  (s1:S1 k s.heap) (s2:S2 k s.heap) (kk:k=n1∨(k<n1∧k=n2))
  (hQ:∀ h' tk,(∀ c o,c≠z→c≠TO→c≠i1→c≠i2→s.heap.get? c=some o→h'.get? c=some o)→Q none { s with heap:=h',toks:=tk }):wpAny (model prog w) A (pyNext (.ref z)) Q E s:=by
 have ty:s.TypeIs (.ref z) "zip":=⟨_,hz,rfl⟩
 rw [pyNext]
 apply wpAny_bind;apply wpAny_attempt
 apply wpAny_callSpecial?_slot (name:=Str.ofString "__next__") ty F.slot_zip_next
 apply wpAny_call_entry F.slot_zip_next ty F.entry_zip_next _ (F.args_zip_next_1 _)
 refine am5 D1 D2 ap hz hi ho s1 s2 kk fun h' tk e kp ⟨o,f1,f2⟩=>?_
 refine wpAny_bind (wpAny_isInstance (b:=true) (T := "StopIteration") ⟨o,f1,f2⟩ isSubtype_stop (wpAny_pure (hQ h' tk kp)))
end
end ZP
namespace ZP
open PySem PySem.Spec PySem.Builtin PySem.Builtin.SmallTypes L2
inductive Srk where
 | tup (a:Addr) | lst (a:Addr) | str (x:Str)
def Srk.v:Srk→V
 | .tup a=>.ref a
 | .lst a=>.ref a
 | .str x=>.str x
def its (H:Hp):Srk→Option (List V)
 | .tup a=>match H a with | some (.tup vs)=>some vs | _=>none
 | .lst a=>match H a with | some (.lst vs)=>some vs | some (.frz _ (.lst vs))=>some vs | _=>none
 | .str x=>some (xj x)
def own (it:Addr) (t:Tok):Srk→Nat→Heap→Prop
 | .tup a,i,h=>h.IsTupleIter it a i
 | .lst a,i,h=>h.IsListIter it a i
 | .str x,i,h=>h.IsStrIter it (strIterType x) x t i
def iob (t:Tok):Srk→Obj
 | .tup a=>{ cls:=.type "tuple_iterator",data:=.fields #[.ref a, .int 0 0] }
 | .lst a=>{ cls:=.type "list_iterator",data:=.fields #[.ref a, .int 0 0] }
 | .str x=>{ cls:=.type (strIterType x),data:=.fields #[.str x t, .int 0 0] }
def val (t:Tok):Srk→Value
 | .tup a=>.ref a
 | .lst a=>.ref a
 | .str x=>.str x t
def cont (h:Heap):Srk→List Value→Prop
 | .tup a,us=>h.IsTuple a us.toArray
 | .lst a,us=>h.IsList a us.toArray
 | .str x,us=>True
theorem av1 {it:Addr} {t:Tok} {k:Srk} {h:Heap} (e:h.get? it=some (iob t k)):own it t k 0 h:=by
 cases k with
 | tup a=>exact ⟨_,e,rfl,rfl⟩
 | lst a=>exact ⟨_,e,rfl,rfl⟩
 | str x=>exact ⟨_,e,rfl,rfl⟩
theorem a4b {it:Addr} {t:Tok} {k:Srk} {i:Nat} {h:Heap} (o:own it t k i h):∃ ob,h.get? it=some ob∧∀ v,ob.data≠.cell v:=by
 cases k with
 | tup a=>obtain ⟨ob,e,_,d⟩:=o;exact ⟨ob,e,fun v z=>by rw [d] at z;cases z⟩
 | lst a=>obtain ⟨ob,e,_,d⟩:=o;exact ⟨ob,e,fun v z=>by rw [d] at z;cases z⟩
 | str x=>obtain ⟨ob,e,_,d⟩:=o;exact ⟨ob,e,fun v z=>by rw [d] at z;cases z⟩
theorem a1u {it:Addr} {t:Tok} {k:Srk} {i:Nat} {h h':Heap} (o:own it t k i h) (kk:∀ ob,h.get? it=some ob→h'.get? it=some ob):own it t k i h':=by
 cases k with
 | tup a=>obtain ⟨ob,e,r⟩:=o;exact ⟨ob,kk _ e,r⟩
 | lst a=>obtain ⟨ob,e,r⟩:=o;exact ⟨ob,kk _ e,r⟩
 | str x=>obtain ⟨ob,e,r⟩:=o;exact ⟨ob,kk _ e,r⟩
section
variable {P:Program} {w:World} {H:Hp} {s:Shared}
theorem a69 {X:Cx} {pins:List (Addr × Obj)} {σ:St} (I:Inv X pins σ H s) {k:Srk} {xs:List V} (e:its H k=some xs):∃ us,cont s.heap k us∧((∀ x,k≠.str x)→Vals xs us):=by
 cases k with
 | tup a =>
  cases q:H a with
  | none=>simp [its,q] at e
  | some o =>
   cases o with
   | tup vs =>
    simp [its,q] at e;subst e
    obtain ⟨us,r,t,_⟩:=I.tuple (SqT.of q)
    exact ⟨us,t,fun _=>r⟩
   | _=>simp [its,q] at e
 | lst a =>
  cases q:H a with
  | none=>simp [its,q] at e
  | some o =>
   cases o with
   | lst vs =>
    simp [its,q] at e;subst e
    obtain ⟨us,r,t,_⟩:=I.list (SqL.of q)
    exact ⟨us,t.isList,fun _=>r⟩
   | frz ob u =>
    cases u with
    | lst vs =>
     simp [its,q] at e;subst e
     obtain ⟨us,r,t,_⟩:=I.list (.inl (.inr ⟨_,q⟩))
     exact ⟨us,t.isList,fun _=>r⟩
    | _=>simp [its,q] at e
   | _=>simp [its,q] at e
 | str x=>exact ⟨[],True.intro,fun n=>absurd rfl (n x)⟩
theorem a4c {X:Cx} {pins:List (Addr × Obj)} {σ:St} (I:Inv X pins σ H s) {k:Srk} {xs:List V} {it:Addr} {t:Tok} (e:its H k=some xs) (hn:H it=none) :
  ∃ (cs:List Addr) (P1:Nat→Value→Prop) (S1:Nat→Heap→Prop),(∀ A:Around,A.handled=none→Draws X.prog X.w A it (it::cs) xs.length P1 S1)∧(∀ i,own it t k i s.heap→S1 i s.heap)∧(∀ i h,S1 i h→own it t k i h)∧(∀ c∈cs,H c≠none) ∧
   ∀ i v,P1 i v→∃ x,xs[i]? = some x∧RelV x v:=by
 cases k with
 | tup a =>
  obtain ⟨us,c,r⟩:=a69 I e
  have r:=r (by intro x z;cases z)
  have ha:H a≠none:=fun z=>by simp [its,z] at e
  have l:us.toArray.size=xs.length:=by rw [List.size_toArray,r.length]
  refine ⟨[a],fun i v=>us.toArray[i]? = some v,fun i h=>h.IsTupleIter it a i∧h.IsTuple a us.toArray,fun A hA=>?_,fun i o=>⟨o,c⟩,fun i h z=>z.1,fun c hc=>by rw [List.mem_singleton.mp hc];exact ha,fun i v z=>?_⟩
  ·have:=af6 (prog:=X.prog) (w:=X.w) hA it a (fun y=>ha (y ▸ hn)) us.toArray
   rw [l] at this;exact this
  ·have z':us[i]? = some v:=by simpa using z
   have hi:i<xs.length:=by rw [r.length];exact (List.getElem?_eq_some_iff.mp z').1
   obtain ⟨u,e1,e2⟩:=r.get (List.getElem?_eq_getElem hi)
   rw [z'] at e1;cases e1
   exact ⟨_,List.getElem?_eq_getElem hi,e2⟩
 | lst a =>
  obtain ⟨us,c,r⟩:=a69 I e
  have r:=r (by intro x z;cases z)
  have ha:H a≠none:=fun z=>by simp [its,z] at e
  have l:us.toArray.size=xs.length:=by rw [List.size_toArray,r.length]
  refine ⟨[a],fun i v=>us.toArray[i]? = some v,fun i h=>h.IsListIter it a i∧h.IsList a us.toArray,fun A hA=>?_,fun i o=>⟨o,c⟩,fun i h z=>z.1,fun c hc=>by rw [List.mem_singleton.mp hc];exact ha,fun i v z=>?_⟩
  ·have:=Draws.list (prog:=X.prog) (w:=X.w) hA it a (fun y=>ha (y ▸ hn)) us.toArray
   rw [l] at this;exact this
  ·have z':us[i]? = some v:=by simpa using z
   have hi:i<xs.length:=by rw [r.length];exact (List.getElem?_eq_some_iff.mp z').1
   obtain ⟨u,e1,e2⟩:=r.get (List.getElem?_eq_getElem hi)
   rw [z'] at e1;cases e1
   exact ⟨_,List.getElem?_eq_getElem hi,e2⟩
 | str x =>
  cases e
  have l:(xj x).length=x.cps.size:=by simp [xj]
  refine ⟨[],fun i v=>∃ c u,x.cps[i]? = some c∧v = .str ⟨#[c]⟩ u,fun i h=>h.IsStrIter it (strIterType x) x t i,fun A hA=>?_,fun i o=>o,fun i h z=>z,fun c hc=>(by cases hc),fun i v z=>?_⟩
  ·rw [l]
   cases ha:x.cps.all (· < 128)
   ·have:=Draws.strWide (prog:=X.prog) (w:=X.w) hA it x t
    simpa [strIterType,ha] using this
   ·have:=Draws.strAscii (prog:=X.prog) (w:=X.w) hA it x t
    simpa [strIterType,ha] using this
  ·obtain ⟨c,u,e1,rfl⟩:=z
   exact ⟨.str ⟨#[c]⟩,by simp [xj,e1],⟨_,rfl⟩⟩
end
def ItZ (k1 k2:Srk):It where
 go:=fun i H=>∃ xs ys x y,its H k1=some xs∧its H k2=some ys∧xs[i]? = some x∧ys[i]? = some y
 yld:=fun i H v H'=>∃ xs ys x y p,its H k1=some xs∧its H k2=some ys∧xs[i]? = some x∧ys[i]? = some y∧H p=none∧v = .ref p∧H'=upd H p (.tup [x,y])
 stop:=fun i H=>∃ xs ys,its H k1=some xs∧its H k2=some ys∧(i=xs.length∨(i<xs.length∧i=ys.length))
def tnZ (z TI TO i1 i2:Addr) (t1 t2:Tok) (k1 k2:Srk) (i:Nat) (h:Heap):Prop :=
 IsZip h z TI TO .none∧IsPair h TI (.ref i1) (.ref i2)∧(∃ a b,IsPair h TO a b)∧own i1 t1 k1 i h∧own i2 t2 k2 i h
structure Far (z TI TO i1 i2:Addr):Prop where
 a:TI≠z
 b:TO≠z
 c:i1≠z
 d:i2≠z
 e:TI≠TO
 f:TI≠i1
 g:TI≠i2
 h:TO≠i1
 i:TO≠i2
 j:i1≠i2
theorem a7o {X:Cx} {pins:List (Addr × Obj)} {σ:St} {H:Hp} {s:Shared} {h':Heap} {t':Nat} {ch:List Addr} (I:Inv X pins σ H s) (hf:∀ b∈ch,ab8 X pins H b) (k:∀ b o,b ∉ ch→s.heap.get? b=some o→h'.get? b=some o) :
  Inv X pins σ H { s with heap:=h',toks:=t' }:=by
 have nit:∀ b u,H b=some u→b ∉ ch:=fun b u e z=>by rw [(hf b z).1] at e;cases e
 refine I.step (g':=s.gens) (d':=s.drawn) (ch:=ch) (fun b hb=>?_) (fun b o _ _ hc e _=>k b o hc e) (fun b o _ _ hc e _=>⟨o.slots,k b o hc e⟩) (fun _ _ _ _ n=>n) (fun b o hc e=>⟨o,k b o hc e⟩) (fun _ _ e=>e) (fun _ _ _ e=>e)
  (fun b ps e=>⟨#[],by rw [e];simp⟩) (fun m hm=>?_) (fun b u e=>?_) I.bare
 ·obtain ⟨_,f1,_,f3,f4,f5⟩:=hf b hb
  exact ⟨f3,f1,f4,f5⟩
 ·obtain ⟨o,es,ep,ho,r⟩:=hm
  exact ⟨o,es,ep,k _ o (fun z=>(hf _ z).2.1 rfl) ho,r⟩
 ·refine (I.hok b u e).stay (fun c v hc q=>k c v ?_ q) (fun _ q=>q) fun _ _ q=>q
  rcases hc with z | z
  ·rw [z];exact nit b u e
  ·exact nit c _ z
theorem aia {P:Program} {w:World} {K:PySem.W.Frag} {elts:List Expr} {x1:Nat} {pos:Pos} {z TI TO i1 i2:Addr} {t1 t2:Tok} {k1 k2:Srk} (f:Far z TI TO i1 i2):Turn P w K (.Tuple elts x1 pos) (ItZ k1 k2) [z,TI,TO,i1,i2] z (tnZ z TI TO i1 i2 t1 t2 k1 k2) where
 mem:=by simp
 obj:=fun i h st b hb=>by
  obtain ⟨h1,h2,⟨a,b',h3⟩,h4,h5⟩:=st
  simp only [List.mem_cons,List.not_mem_nil,or_false] at hb
  rcases hb with rfl | rfl | rfl | rfl | rfl
  ·exact ⟨_,h1,fun v z=>(by cases z)⟩
  ·exact ⟨_,h2,fun v z=>(by cases z)⟩
  ·exact ⟨_,h3,fun v z=>(by cases z)⟩
  ·exact a4b h4
  ·exact a4b h5
 keep:=fun i h h' st k=>by
  obtain ⟨h1,h2,⟨a,b',h3⟩,h4,h5⟩:=st
  exact ⟨k z (by simp) _ h1,k TI (by simp) _ h2,⟨a,b',k TO (by simp) _ h3⟩,a1u h4 fun ob e=>k i1 (by simp) ob e,a1u h5 fun ob e=>k i2 (by simp) ob e⟩
 item:=by
  intro X hP hw hK hc i pins s σ H E I hf st hg
  subst hP hw hK
  obtain ⟨xs,ys,x,y,e1,e2,g1,g2⟩:=hg
  obtain ⟨h1,h2,⟨a,b,h3⟩,h4,h5⟩:=st
  have n:∀ c∈[z,TI,TO,i1,i2],H c=none:=fun c hc=>(hf c hc).1
  obtain ⟨cs,P1,S1,D1,a1,b1,c1,d1⟩:=a4c I (t:=t1) e1 (n i1 (by simp))
  obtain ⟨ds,P2,S2,D2,a2,b2,c2,d2⟩:=a4c I (t:=t2) e2 (n i2 (by simp))
  have hd:=I.ok.hd hc
  have out1:∀ c,H c=none→c ∉ cs:=fun c e z=>c1 c z e
  have out2:∀ c,H c=none→c ∉ ds:=fun c e z=>c2 c z e
  have ap:Ap z TI TO i1 i2 (i1::cs) (i2::ds):=⟨by simp,by simp,by simp [f.c.symm,out1 z (n z (by simp))],by simp [f.d.symm,out2 z (n z (by simp))],by simp [f.h,out1 TO (n TO (by simp))],by simp [f.i,out2 TO (n TO (by simp))],f.b,by simp [f.j,out2 i1 (n i1 (by simp))],by simp [f.j.symm,out1 i2 (n i2 (by simp))]⟩
  refine next_item (D1 X.A.in1 hd) (D2 X.A.in1 hd) ap h1 h2 h3 (a1 i h4) (a2 i h5) (List.getElem?_eq_some_iff.mp g1).1 (List.getElem?_eq_some_iff.mp g2).1 fun u v h' tk pu pv z' to' s1' s2' pr sz kp=>?_
  obtain ⟨x',q1,r1⟩:=d1 i u pu
  obtain ⟨y',q2,r2⟩:=d2 i v pv
  rw [g1] at q1;cases q1
  rw [g2] at q2;cases q2
  refine ⟨_,rfl,wpAny_letOwnedTupleGo_zip z' fun h2' z2' sb=>?_⟩
  have hp:H s.heap.objs.size=none:=I.hok.fresh (Nat.le_refl _)
  have lt:∀ c∈[z,TI,TO,i1,i2],c<s.heap.objs.size:=fun c hc=>by
   simp only [List.mem_cons,List.not_mem_nil,or_false] at hc
   rcases hc with rfl | rfl | rfl | rfl | rfl
   ·exact Heap.lt_size h1
   ·exact Heap.lt_size h2
   ·exact Heap.lt_size h3
   ·obtain ⟨_,e,_⟩:=a4b h4;exact Heap.lt_size e
   ·obtain ⟨_,e,_⟩:=a4b h5;exact Heap.lt_size e
  have all:∀ c o,c ∉ [z,TI,TO,i1,i2]→s.heap.get? c=some o→h2'.get? c=some o:=fun c o nc e=>by
   simp only [List.mem_cons,List.not_mem_nil,or_false,not_or] at nc
   exact (sb.2 c nc.1).trans (kp c o nc.1 nc.2.2.1 nc.2.2.2.1 nc.2.2.2.2 e)
  have nT:∀ c∈[z,TI,TO,i1,i2],c≠s.heap.objs.size:=fun c hc=>Nat.ne_of_lt (lt c hc)
  have I0:Inv X pins σ (upd H s.heap.objs.size (.tup [x,y])) { s with heap:=s.heap.push { cls:=.type "tuple",data:=.seq #[u,v] } } :=
   I.laid (t':=s.toks) (o:=.tup [x,y]) (fun b o e=>Heap.get?_push_of_some _ e) (Nat.le_refl _) ⟨by show 2≤sizeLine;decide,[u,v], .cons r1 (.cons r2 .nil),⟨_,Heap.get?_push_size _ rfl,rfl,_,rfl⟩⟩
  have I1:Inv X pins σ (upd H s.heap.objs.size (.tup [x,y])) { s with heap:=h2',toks:=tk }:=by
   refine a7o (s:={ s with heap:=s.heap.push { cls:=.type "tuple",data:=.seq #[u,v] } }) (ch:=[z,TI,TO,i1,i2]) I0 (fun b hb=>?_) fun c o nc e=>?_
   ·obtain ⟨f0,f1⟩:=hf b hb
    exact ⟨by rw [iz (nT b hb)];exact f0,f1⟩
   ·rcases Heap.get?_push_cases e with ⟨rfl,rfl⟩ | e
    ·exact (sb.2 _ (nT z (by simp)).symm).trans pr
    ·exact all c o nc e
  refine ⟨.ref s.heap.objs.size,_,I1,rfl,⟨xs,ys,x,y,_,e1,e2,g1,g2,hp,rfl,rfl⟩,⟨z2',?_,⟨u,v,(sb.2 _ f.b).trans to'⟩,a1u (b1 _ _ s1') fun ob e=>(sb.2 _ f.c).trans e,a1u (b2 _ _ s2') fun ob e=>(sb.2 _ f.d).trans e⟩,fun b hb=>?_⟩
  ·exact (sb.2 _ f.a).trans (kp TI _ f.a f.e f.f f.g h2)
  ·rw [iz (nT b hb)];exact n b hb
 done:=by
  intro X hP hw hK hc i pins s σ H E I hf st hg
  subst hP hw hK
  obtain ⟨xs,ys,e1,e2,g⟩:=hg
  obtain ⟨h1,h2,⟨a,b,h3⟩,h4,h5⟩:=st
  have n:∀ c∈[z,TI,TO,i1,i2],H c=none:=fun c hc=>(hf c hc).1
  obtain ⟨cs,P1,S1,D1,a1,b1,c1,d1⟩:=a4c I (t:=t1) e1 (n i1 (by simp))
  obtain ⟨ds,P2,S2,D2,a2,b2,c2,d2⟩:=a4c I (t:=t2) e2 (n i2 (by simp))
  have hd:=I.ok.hd hc
  have out1:∀ c,H c=none→c ∉ cs:=fun c e z=>c1 c z e
  have out2:∀ c,H c=none→c ∉ ds:=fun c e z=>c2 c z e
  have ap:Ap z TI TO i1 i2 (i1::cs) (i2::ds):=⟨by simp,by simp,by simp [f.c.symm,out1 z (n z (by simp))],by simp [f.d.symm,out2 z (n z (by simp))],by simp [f.h,out1 TO (n TO (by simp))],by simp [f.i,out2 TO (n TO (by simp))],f.b,by simp [f.j,out2 i1 (n i1 (by simp))],by simp [f.j.symm,out1 i2 (n i2 (by simp))]⟩
  refine next_end (D1 X.A.in1 hd) (D2 X.A.in1 hd) ap h1 h2 h3 (a1 i h4) (a2 i h5) g fun h' tk kp=>⟨rfl,a7o I hf fun c o nc e=>?_⟩
  simp only [List.mem_cons,List.not_mem_nil,or_false,not_or] at nc
  exact kp c o nc.1 nc.2.2.1 nc.2.2.2.1 nc.2.2.2.2 e
 self:=fun _ _ _ _ _ st h=>wpAny_pyIter_zip st.1 h
end ZP
namespace ZP
open PySem PySem.Spec PySem.Builtin PySem.Builtin.SmallTypes L2
theorem af8 {h:Heap} {k:Srk} {us:List Value} (c:cont h k us) (o:Obj):cont (h.push o) k us:=by
 cases k with
 | tup a=>obtain ⟨ob,e,r⟩:=c;exact ⟨ob,Heap.get?_push_of_some _ e,r⟩
 | lst a=>obtain ⟨ob,e,r⟩:=c;exact ⟨ob,Heap.get?_push_of_some _ e,r⟩
 | str x=>trivial
theorem a3k {prog:Program} {w:World} {A:Around} {E:Value→Shared→Prop} {s:Shared} {k:Srk} {t:Tok} {us:List Value} {Q:Value→Shared→Prop} (c:cont s.heap k us) (q:Q (.ref s.heap.objs.size) { s with heap:=s.heap.push (iob t k) }) :
  wpAny (model prog w) A (pyIter (val t k)) Q E s:=by
 cases k with
 | tup a=>exact wpAny_pyIter_tuple c q
 | lst a=>exact wpAny_pyIter_list c q
 | str x=>exact wpAny_pyIter_strU q
def mk2 (h:Heap) (t1 t2:Tok) (k1 k2:Srk):Heap:=(h.push (iob t1 k1)).push (iob t2 k2)
def mk5 (h:Heap) (t1 t2:Tok) (k1 k2:Srk):Heap :=
 (((mk2 h t1 t2 k1 k2).push { cls:=.type "tuple",data:=.seq #[.ref h.objs.size, .ref (h.objs.size+1)] }).push { cls:=.type "tuple",data:=.seq #[.none, .none] }).push
  { cls:=.type "zip",data:=.fields #[.none, .bool false, .bool false, .ref (h.objs.size+2), .ref (h.objs.size+3)] }
theorem aib (t1 t2:Tok) (k1 k2:Srk) (us1 us2:List Value):Meets (Builtin.«zip.__new__» ⟨[.type "zip",val t1 k1,val t2 k2],[]⟩)
  (fun _ R s=>cont s.heap k1 us1∧cont s.heap k2 us2∧R (.ok (.ret (.ref (s.heap.objs.size+4)))) { s with heap:=mk5 s.heap t1 t2 k1 k2 }) :=
 .of_wp fun prog w A R s h=>by
  obtain ⟨hp,g,d,tk,os⟩:=s
  obtain ⟨c1,c2,h⟩:=h
  have sub:=sub_zip
  have c1':cont (Shared.heap ⟨hp,g,d,tk,os⟩) k1 us1:=c1
  have c2':cont (Shared.heap ⟨hp.push (iob t1 k1),g,d,tk,os⟩) k2 us2:=af8 c2 _
  wp_walk using a3k (t:=t1) c1',a3k (t:=t2) c2'
  refine ⟨_,rfl,?_⟩
  simpa [mk5,mk2,Heap.size_push,ownedTupleFields,Nat.add_assoc] using h
theorem av2 (n:Nat):Far (n+4) (n+2) (n+3) n (n+1):=by
 refine ⟨?_,?_,?_,?_,?_,?_,?_,?_,?_,?_⟩<;>(intro z;have z:(_:Nat)=_:=z;omega)
theorem axh (n b:Nat) (h:b∈[n+4,n+2,n+3,n,n+1]):n≤b:=by
 simp only [List.mem_cons,List.not_mem_nil,or_false] at h
 omega
section
variable {X:Cx} {elts:List Expr} {x1:Nat} {tpos:Pos}
def axi (ta:TA):TI:=fun σ H R=>ta σ H fun vs H1=>∃ k1 k2 xs ys,vs=[Srk.v k1,Srk.v k2]∧its H1 k1=some xs∧its H1 k2=some ys∧R (ItZ k1 k2) H1
theorem af9 {k:Srk} {u:Value} (r:RelV k.v u):∃ t,u=val t k:=by
 cases k with
 | tup a=>cases r;exact ⟨0,rfl⟩
 | lst a=>cases r;exact ⟨0,rfl⟩
 | str x=>obtain ⟨t,rfl⟩:=r;exact ⟨t,rfl⟩
theorem aq8 {e1 e2:Expr} {ta:TA} {p pos:Pos} (hg:Gl X "zip") (hm:X.mg "zip" = none) (hb:bootBuiltins "zip" = some (.type "zip")) (ha:PA X [e1,e2] ta)
  (h1:starEach [e1,e2] X.env=[(false,eval e1 X.env),(false,eval e2 X.env)]:=by rfl) (h2:starEach [e2] X.env=[(false,eval e2 X.env)]:=by rfl):PI X (.Tuple elts x1 tpos) (.Call (.Name "zip" p) [e1,e2] [] pos) (axi ta):=by
 intro pins s σ H R I h
 refine wpAny_Call_Name_kw (a4o I hg hm hb ?_ (by decide) (by decide))
 refine PyProof.Rows.callWith_type1 (thn (ha pos pins s σ H _ I h) fun us s1 ⟨vs,H1,I1,r1,q1⟩=>?_) (by rw [h1,h2]) (by rw [h2];rfl)
 obtain ⟨k1,k2,xs,ys,rfl,e1,e2,q⟩:=q1
 obtain ⟨v1,v2,rfl,rv1,rv2⟩:=vals2 r1
 obtain ⟨t1,rfl⟩:=af9 rv1
 obtain ⟨t2,rfl⟩:=af9 rv2
 obtain ⟨us1,c1,_⟩:=a69 I1 e1
 obtain ⟨us2,c2,_⟩:=a69 I1 e2
 refine callType_new F.called_zip (by decide) (F.typeCall_zip_2 _ _) (F.newCall_zip_2 _ _) (fun obj=>F.args_object_init_3 obj _ _) F.entry_zip_new (aib t1 t2 k1 k2 us1 us2) ⟨c1,c2,?_⟩
 have z2:(mk2 s1.heap t1 t2 k1 k2).objs.size=s1.heap.objs.size+2:=by simp [mk2,Heap.size_push]
 have at0:(mk5 s1.heap t1 t2 k1 k2).get? s1.heap.objs.size=some (iob t1 k1):=by
  unfold mk5 mk2
  exact Heap.get?_push_of_some _ (Heap.get?_push_of_some _ (Heap.get?_push_of_some _ (Heap.get?_push_of_some _ (Heap.get?_push_size _ (by cases k1<;>rfl)))))
 have at1:(mk5 s1.heap t1 t2 k1 k2).get? (s1.heap.objs.size+1)=some (iob t2 k2):=by
  unfold mk5 mk2
  have:=Heap.get?_push_size (o:=iob t2 k2) (s1.heap.push (iob t1 k1)) (by cases k2<;>rfl)
  rw [Heap.size_push] at this
  exact Heap.get?_push_of_some _ (Heap.get?_push_of_some _ (Heap.get?_push_of_some _ this))
 have at2:IsPair (mk5 s1.heap t1 t2 k1 k2) (s1.heap.objs.size+2) (.ref s1.heap.objs.size) (.ref (s1.heap.objs.size+1)):=by
  unfold mk5
  rw [← z2]
  exact Heap.get?_push_of_some _ (Heap.get?_push_of_some _ (Heap.get?_push_size _ rfl))
 have at3:IsPair (mk5 s1.heap t1 t2 k1 k2) (s1.heap.objs.size+3) .none .none:=by
  unfold mk5
  have:=Heap.get?_push_size (o:={ cls:=.type "tuple",data:=.seq #[.none, .none] }) ((mk2 s1.heap t1 t2 k1 k2).push { cls:=.type "tuple",data:=.seq #[.ref s1.heap.objs.size, .ref (s1.heap.objs.size+1)] }) rfl
  rw [Heap.size_push,z2] at this
  exact Heap.get?_push_of_some _ this
 have at4:IsZip (mk5 s1.heap t1 t2 k1 k2) (s1.heap.objs.size+4) (s1.heap.objs.size+2) (s1.heap.objs.size+3) .none:=by
  unfold mk5
  have:=Heap.get?_push_size (o:={ cls:=.type "zip",data:=.fields #[.none, .bool false, .bool false, .ref (s1.heap.objs.size+2), .ref (s1.heap.objs.size+3)] }) (((mk2 s1.heap t1 t2 k1 k2).push { cls:=.type "tuple",data:=.seq #[.ref s1.heap.objs.size, .ref (s1.heap.objs.size+1)] }).push { cls:=.type "tuple",data:=.seq #[.none, .none] }) rfl
  rw [Heap.size_push,Heap.size_push,z2] at this
  exact this
 have keepA:∀ b o,s1.heap.get? b=some o→(mk5 s1.heap t1 t2 k1 k2).get? b=some o:=fun b o e=>by
  unfold mk5 mk2
  exact Heap.get?_push_of_some _ (Heap.get?_push_of_some _ (Heap.get?_push_of_some _ (Heap.get?_push_of_some _ (Heap.get?_push_of_some _ e))))
 have I2:Inv X pins σ H1 { s1 with heap:=mk5 s1.heap t1 t2 k1 k2 }:=I1.kept (t':=s1.toks) keepA
 refine ⟨⟨_,at4,rfl⟩,?_⟩
 refine wpAny_pyIter_zip (s:={ s1 with heap:=mk5 s1.heap t1 t2 k1 k2 }) at4 ?_
 refine ⟨s1.heap.objs.size+4,[s1.heap.objs.size+4,s1.heap.objs.size+2,s1.heap.objs.size+3,s1.heap.objs.size,s1.heap.objs.size+1],tnZ _ _ _ _ _ t1 t2 k1 k2,ItZ k1 k2,H1,rfl,I2,aia (av2 s1.heap.objs.size),
  ⟨at4,at2,⟨_,_,at3⟩,av1 at0,av1 at1⟩,fun b hb=>?_,q⟩
 have:s1.heap.objs.size≤b:=axh _ b hb
 exact I1.fpOk this (I1.hok.fresh this)
end
end ZP
namespace MI
open PySem PySem.Spec L2 ZP
def srcOf (d:D) (h:Hd):Option (List D × (Hd→Prop)):=match d with
 | .tup xs=>some (xs,fun _=>True)
 | .rol xs=>some (xs,fun _=>True)
 | .str x=>some (vh x,fun _=>True)
 | .ref i=>(match h[i]? with | some (.lst xs)=>some (xs,fun h=>h[i]? = some (.lst xs)) | _=>none)
 | _=>none
def av3 (x y:D) (h:Hd):R Itm:=match srcOf x h,srcOf y h with
 | some (xs,c1),some (ys,c2)=>.ok ⟨(xs.zip ys).map fun p=>.tup [p.1,p.2],fun h=>c1 h∧c2 h⟩ h
 | _,_=>.no
def ao3 (f g:SE):SI:=fun τ h=>(f τ h).bind fun x h1=>(g τ h1).bind fun y h2=>av3 x y h2
theorem afa {K:PySem.W.Frag} {ι:List Addr} {H:Hp} {h:Hd} {v:V} {d:D} {xs:List D} {ck:Hd→Prop} (r:Rep K ι H v d) (hr:HRep K ι H h) (e:srcOf d h=some (xs,ck)) :
  ∃ k:Srk,v=k.v∧ck h∧∀ ι' H' h',Gr ι H ι' H'→HRep K ι' H' h'→ck h'→∃ vs,its H' k=some vs∧Reps K ι' H' vs xs:=by
 cases r with
 | @tup a vs ys ha rs =>
  cases e
  exact ⟨.tup a,rfl,True.intro,fun ι' H' h' g _ _=>⟨vs,by simp [its,g.tup _ _ ha],rs.mono g⟩⟩
 | @rol a vs ys ha rs =>
  cases e
  refine ⟨.lst a,rfl,True.intro,fun ι' H' h' g _ _=>⟨vs,?_,rs.mono g⟩⟩
  obtain ⟨o,q⟩:=ha.mono g
  simp [its,q]
 | str x =>
  cases e
  exact ⟨.str x,rfl,True.intro,fun ι' H' h' g _ _=>⟨_,rfl,a3z x⟩⟩
 | @ref a i ha =>
  obtain ⟨ob,e1,e2⟩:=hr.at ha
  cases ob with
  | lst zs =>
   simp only [srcOf,e1] at e
   cases e
   refine ⟨.lst a,rfl,e1,fun ι' H' h' g hr' c=>?_⟩
   obtain ⟨us,q1,q2⟩:=hr'.obj i a _ (g.at ha) c
   exact ⟨us,by simp [its,q1],q2⟩
  | dK _=>simp only [srcOf,e1] at e;cases e
  | dT _=>simp only [srcOf,e1] at e;cases e
 | _=>cases e
theorem aq9 {X:Cx} {E:XD} {elts:List Expr} {x1:Nat} {tpos:Pos} {e1 e2:Expr} {f g:SE} {p pos:Pos} (hg:Gl X "zip") (hm:X.mg "zip" = none) (hb:bootBuiltins "zip" = some (.type "zip")) (ha:ME X E e1 f) (hb':ME X E e2 g)
  (h1:starEach [e1,e2] X.env=[(false,eval e1 X.env),(false,eval e2 X.env)]:=by rfl) (h2:starEach [e2] X.env=[(false,eval e2 X.env)]:=by rfl) :
  MI X E (.Tuple elts x1 tpos) (.Call (.Name "zip" p) [e1,e2] [] pos) (ao3 f g):=by
 intro pins s σ H Rr I ⟨ι,τ,h,S,Rh,o⟩
 refine aq8 hg hm hb (uw ha (uw hb' a3a (by rw [h2];rfl)) (by rw [h1,h2])) h1 h2 pins s σ H Rr I ?_
 refine ⟨ι,τ,h,S,Rh,dq o fun d h1 ι1 H1 v g1 r1 hr1 o1=>?_⟩
 refine ⟨ι1,τ,h1,S.mono g1,hr1,dq o1 fun d2 h2 ι2 H2 u g2 r2 hr2 o2=>?_⟩
 unfold av3 at o2
 split at o2
 ·rename_i xs c1 ys c2 q1 q2
  obtain ⟨k1,rfl,k1c,k1f⟩:=afa (r1.mono g2) hr2 q1
  obtain ⟨k2,rfl,k2c,k2f⟩:=afa r2 hr2 q2
  obtain ⟨vs1,w1,w2⟩:=k1f ι2 H2 h2 (.refl _ _) hr2 k1c
  obtain ⟨vs2,w3,w4⟩:=k2f ι2 H2 h2 (.refl _ _) hr2 k2c
  refine ⟨k1,k2,vs1,vs2,rfl,w1,w3,o2 ι2 H2 _ (.refl _ _) ?_ hr2⟩
  intro ι3 H3 h3 g3 hr3 c
  obtain ⟨us1,a1,a2⟩:=k1f ι3 H3 h3 g3 hr3 c.1
  obtain ⟨us2,a3,a4⟩:=k2f ι3 H3 h3 g3 hr3 c.2
  refine ⟨fun i d ed=>?_,us1,us2,a1,a3,?_⟩
  ·simp only [List.getElem?_map,Option.map_eq_some_iff] at ed
   obtain ⟨⟨x,y⟩,ez,rfl⟩:=ed
   obtain ⟨ex,ey⟩:=List.getElem?_zip_eq_some.mp ez
   obtain ⟨v1,b1,b2⟩:=a2.get ex
   obtain ⟨v2,b3,b4⟩:=a4.get ey
   refine ⟨⟨us1,us2,v1,v2,a1,a3,b1,b3⟩,fun x H' yl=>?_⟩
   obtain ⟨xs',ys',x',y',p,c1,c2,c3,c4,c5,rfl,rfl⟩:=yl
   rw [a1] at c1;cases c1
   rw [a3] at c2;cases c2
   rw [b1] at c3;cases c3
   rw [b3] at c4;cases c4
   exact ⟨wy c5 _, .tup jy (.cons (b2.mono (wy c5 _)) (.cons (b4.mono (wy c5 _)) .nil)),hr3.aside c5 _⟩
  ·rw [List.length_map,List.length_zip,a2.len,a4.len]
   omega
 ·exact o2.elim
theorem aqa:bootBuiltins "zip" = some (.type "zip"):=by first | exact PySem.boot_zip | exact PyProof.Rows.boot_zip | rfl
end MI
namespace MI
open PySem PySem.Spec L2
section
variable {P:Program} {w:World} {K:PySem.W.Frag} {mg:Str→Option Value} {base:Heap}
theorem av4 {k:Nat} {f:Addr} {fd:FuncData} {ps:List Str}:FnOk P w K mg base CX0 k f fd ps (mz K ps.length fun _ _=>.no) :=
 ⟨fun vs H Q E h=>h.1,fun A outer s H args us vs Q E hr he hb hv hs=>by obtain ⟨_,ι,ds,h,_,_,o⟩:=hs;exact o.elim⟩
end
end MI
namespace MI
open PySem PySem.Spec L2
def FrzOf (L:List Addr) (H H2:Hp):Prop:=∀ a,(a ∉ L→H2 a=H a)∧(a∈L→∃ o u,H a=some u∧H2 a=some (.frz o u))
def aa5 (H:Hp) (L:List Addr):Prop:=∀ a∈L,(∃ xs,H a=some (.lst xs))∨(∃ kvs,H a=some (.dK kvs))∨∃ kvs,H a=some (.dT kvs)
def still:HO→Prop
 | .lst _=>False | .dK _=>False | .dT _=>False
 | _=>True
theorem FrzOf.still {L:List Addr} {H H2:Hp} (f:FrzOf L H H2) (ab:aa5 H L) {a:Addr} {u:HO} (e:H a=some u) (st:MI.still u):H2 a=some u:=by
 rw [(f a).1 fun z=>?_]
 ·exact e
 ·rcases ab a z with ⟨_,q⟩ | ⟨_,q⟩ | ⟨_,q⟩<;>(rw [e] at q;cases q;exact st)
theorem Inv.frz {X:Cx} {pins:List (Addr × Obj)} {σ:St} {H:Hp} {s:Shared} {L:List Addr} (I:Inv X pins σ H s) (ab:aa5 H L):∃ H2,FrzOf L H H2∧Inv X pins σ H2 s:=by
 have obj:∀ a∈L,∀ u,H a=some u→∃ o,s.heap.get? a=some o:=fun a ha u e=>by
  rcases ab a ha with ⟨_,q⟩ | ⟨_,q⟩ | ⟨_,q⟩
  ·obtain ⟨_,_,_,_,z⟩:=I.hok a _ q;exact ⟨_,z⟩
  ·obtain ⟨_,_,_,_,z⟩:=I.hok a _ q
   obtain ⟨o,_,_,z,_⟩:=z
   exact ⟨o,z⟩
  ·obtain ⟨_,_,_,_,o,_,_,z,_⟩:=I.hok a _ q;exact ⟨o,z⟩
 let H2:Hp:=fun a=>if a∈L then (match s.heap.get? a,H a with | some o,some u=>some (.frz o u) | _,w=>w) else H a
 have f:FrzOf L H H2:=fun a=>⟨fun h=>by simp [H2,h],fun h=>by
  obtain ⟨u,e⟩:∃ u,H a=some u:=by
   rcases ab a h with ⟨_,q⟩ | ⟨_,q⟩ | ⟨_,q⟩<;>exact ⟨_,q⟩
  obtain ⟨o,eo⟩:=obj a h u e
  exact ⟨o,u,e,by simp [H2,h,e,eo]⟩⟩
 refine ⟨H2,f,?_⟩
 have mv:∀ a u,ObjOk X.prog X.w H s.heap a u→ObjOk X.prog X.w H2 s.heap a u:=fun a u x=>x.stay (fun b v _ q=>q) (fun c q=>f.still ab q True.intro) fun c xs q=>f.still ab q True.intro
 have ok:HOk X.prog X.w H2 s.heap:=fun a u e=>by
  by_cases hl:a∈L
  ·obtain ⟨u0,e0⟩:∃ u,H a=some u:=by
    rcases ab a hl with ⟨_,q⟩ | ⟨_,q⟩ | ⟨_,q⟩<;>exact ⟨_,q⟩
   obtain ⟨o,eo⟩:=obj a hl u0 e0
   have e':H2 a=some (.frz o u0):=by simp [H2,hl,e0,eo]
   rw [e'] at e
   cases e
   exact ⟨eo,mv a u0 (I.hok a u0 e0)⟩
  ·rw [(f a).1 hl] at e
   exact mv a u (I.hok a u e)
 have fn:∀ b,H b=none→H2 b=none:=fun b n=>by
  rw [(f b).1 fun z=>?_]
  ·exact n
  ·rcases ab b z with ⟨_,q⟩ | ⟨_,q⟩ | ⟨_,q⟩<;>(rw [n] at q;cases q)
 have un:Un X.fs [] H H2 s.heap s.heap:=⟨fun b o q _ _ _=>q,fun b o q _ _ _=>⟨o.slots,q⟩,fun b o _ n _=>fn b n,fun b o q _=>⟨o,q⟩,fun b xs q=>f.still ab q True.intro,fun b o u q=>f.still ab q True.intro,fun b ps q=>⟨#[],by rw [f.still ab q True.intro];simp⟩⟩
 exact I.un (t':=s.toks) un ok
theorem a99 {X:Cx} {e:Expr} {t:TE} (h:PE X e t):PE X e (fun σ H Q=>t σ H fun v H1=>∃ L,aa5 H1 L∧∀ H2,FrzOf L H1 H2→Q v H2):=fun pins s σ H Q I q =>
 thn (h pins s σ H _ I q) fun u s' ⟨v,H1,I1,r,L,ab,k⟩=>let ⟨H2,f,I2⟩:=Inv.frz I1 ab; ⟨v,H2,I2,r,k H2 f⟩
def a0w {α β:Type} (f:α→Option β):List α→Option (List β)
 | []=>some []
 | x::xs=>match f x,a0w f xs with | some y,some ys=>some (y::ys) | _,_=>none
open Classical in
noncomputable def a5a (n:Nat) (h:Hd):Nat→D→Option D
 | 0,_=>none
 | k+1,d=>if clo n d then some d else match d with
  | .tup xs=>(a0w (a5a n h k) xs).map .tup
  | .rol xs=>(a0w (a5a n h k) xs).map .rol
  | .scr xs=>(a0w (a5a n h k) xs).map .scr
  | .rod ks xs=>(a0w (a5a n h k) xs).map (.rod ks)
  | .rdT ks xs=>(a0w (a5a n h k) xs).map (.rdT ks)
  | .ref i=>match h[i]? with
   | some (.lst xs)=>(a0w (a5a n h k) xs).map .rol
   | some (.dK kvs)=>(a0w (a5a n h k) (kvs.map (·.2))).map (.rod (kvs.map (·.1)))
   | some (.dT kvs)=>(a0w (a5a n h k) (kvs.map (·.2))).map (.rdT (kvs.map (·.1)))
   | none=>none
  | _=>none
open Classical in
noncomputable def aqb (n:Nat) (h:Hd) (k:Nat) (o:O):Option O:=if a3s n o then some o else match o with
 | .lst xs=>(a0w (a5a n h k) xs).map .lst
 | .dK kvs=>(a0w (a5a n h k) (kvs.map (·.2))).map fun ys=>.dK ((kvs.map (·.1)).zip ys)
 | .dT kvs=>(a0w (a5a n h k) (kvs.map (·.2))).map fun ys=>.dT ((kvs.map (·.1)).zip ys)
abbrev FU:Nat:=20
noncomputable def aaq (n:Nat):R D→R D
 | .ok d h1=>match a5a n h1 FU d,a0w (aqb n h1 FU) (h1.take n) with | some d',some g=>.ok d' g | _,_=>.no
 | _=>.no
open Classical in
noncomputable def ao4 (n:Nat):R D→R D
 | .ok (.ref i) h1=>(match h1[i]? with
   | some o=>if n≤i∧a3s n o∧∀ u∈h1.take n,a3s n u then .ok (.ref n) (h1.take n++[o]) else .no
   | none=>.no)
 | _=>.no
section
variable {K:PySem.W.Frag} {ι ι':List Addr} {H H' H2:Hp} {h1:Hd} {n:Nat} {L:List Addr}
theorem abv (f:FrzOf L H' H2) (ab:aa5 H' L) (κ:List Addr):Gw κ H' κ H2:=⟨⟨[],by simp⟩,fun a vs e=>f.still ab e True.intro,fun a o u e=>f.still ab e True.intro⟩
theorem qu {K:PySem.W.Frag} {ι κ:List Addr} {H H2:Hp} {f:D→Option D} (ih:∀ {v d d'},Rep K ι H v d→f d=some d'→Rep K κ H2 v d'):∀ {vs:List V} {ds ds':List D},Reps K ι H vs ds→a0w f ds=some ds'→Reps K κ H2 vs ds'
 | _,_,_, .nil,e=>by cases e;exact .nil
 | _,x::xs,_, .cons r rs,e=>by
  unfold a0w at e
  split at e
  ·rename_i y ys h1 h2
   cases e
   exact .cons (ih r h1) (qu ih rs h2)
  ·cases e
theorem a7p (hr:HRep K ι' H' h1) (hL:∀ (i:Nat) a,ι'[i]? = some a→n≤i→a∈L) (f:FrzOf L H' H2) (ab:aa5 H' L):∀ (k:Nat) {v:V} {d d':D},Rep K ι' H' v d→a5a n h1 k d=some d'→Rep K (ι'.take n) H2 v d':=by
 intro k
 induction k with
 | zero=>intro v d d' r e;cases e
 | succ k ih =>
  intro v d d' r e
  unfold a5a at e
  split at e
  ·rename_i c
   cases e
   exact (r.cut c).monoW (abv f ab _)
  ·rename_i c
   cases r with
   | tup h rs =>
    simp only [Option.map_eq_some_iff] at e
    obtain ⟨ys,e1,rfl⟩:=e
    exact .tup (f.still ab h True.intro) (qu (fun r e=>ih r e) rs e1)
   | rol h rs =>
    simp only [Option.map_eq_some_iff] at e
    obtain ⟨ys,e1,rfl⟩:=e
    exact .rol (h.monoW (abv f ab ι')) (qu (fun r e=>ih r e) rs e1)
   | scr h rs =>
    simp only [Option.map_eq_some_iff] at e
    obtain ⟨ys,e1,rfl⟩:=e
    exact .scr (h.monoW (abv f ab ι')) (qu (fun r e=>ih r e) rs e1)
   | rod h ek rs =>
    simp only [Option.map_eq_some_iff] at e
    obtain ⟨ys,e1,rfl⟩:=e
    exact .rod (f.still ab h True.intro) ek (qu (fun r e=>ih r e) rs e1)
   | rdT h ek rs =>
    simp only [Option.map_eq_some_iff] at e
    obtain ⟨ys,e1,rfl⟩:=e
    exact .rdT (f.still ab h True.intro) ek (qu (fun r e=>ih r e) rs e1)
   | @ref a i ha =>
    have hi:n≤i:=by
     simp only [clo] at c
     omega
    obtain ⟨o,u,e1,e2⟩:=(f a).2 (hL i a ha hi)
    obtain ⟨ob,h3,h4⟩:=hr.at ha
    simp only [h3] at e
    cases ob with
    | lst xs =>
     simp only [Option.map_eq_some_iff] at e
     obtain ⟨ys,e3,rfl⟩:=e
     obtain ⟨vs,h5,h6⟩:=h4
     rw [e1] at h5;cases h5
     exact .rol ⟨o,e2⟩ (qu (fun r e=>ih r e) h6 e3)
    | dK kvs =>
     simp only [Option.map_eq_some_iff] at e
     obtain ⟨ys,e3,rfl⟩:=e
     obtain ⟨us,h5,h6,h7⟩:=h4
     rw [e1] at h5;cases h5
     exact .rod e2 h6 (qu (fun r e=>ih r e) h7 e3)
    | dT kvs =>
     simp only [Option.map_eq_some_iff] at e
     obtain ⟨ys,e3,rfl⟩:=e
     obtain ⟨us,h5,h6,h7⟩:=h4
     rw [e1] at h5;cases h5
     exact .rdT e2 h6 (qu (fun r e=>ih r e) h7 e3)
   | non=>simp only [clo,not_true_eq_false] at c
   | exc _ _ _=>simp only [clo,not_true_eq_false] at c
   | bl b=>simp only [clo,not_true_eq_false] at c
   | int b=>simp only [clo,not_true_eq_false] at c
   | str b=>simp only [clo,not_true_eq_false] at c
   | ty b=>simp only [clo,not_true_eq_false] at c
theorem a7q {κ:Type} {H:Hp} {us:List (κ × V)} {ks:List κ} {ys:List D} (e:us.map (·.1)=ks) (r:Reps K ι H (us.map (·.2)) ys):KRep K ι H us (ks.zip ys):=by
 have l:ks.length=ys.length:=by rw [← e,List.length_map,← r.len,List.length_map]
 refine ⟨?_,?_⟩
 ·rw [List.map_fst_zip (by omega)];exact e
 ·rw [List.map_snd_zip (by omega)];exact r
theorem am6 (hr:HRep K ι' H' h1) (hL:∀ (i:Nat) a,ι'[i]? = some a→n≤i→a∈L) (f:FrzOf L H' H2) (ab:aa5 H' L) {k:Nat} {a:Addr} {o o':O} (na:a ∉ L) (r:ORep K ι' H' a o) (e:aqb n h1 k o=some o'):ORep K (ι'.take n) H2 a o':=by
 have same:H2 a=H' a:=(f a).1 na
 unfold aqb at e
 split at e
 ·rename_i c
  cases e
  exact (r.cut c).monoW (abv f ab _) same
 ·cases o with
  | lst xs =>
   simp only [Option.map_eq_some_iff] at e
   obtain ⟨ys,e1,rfl⟩:=e
   obtain ⟨vs,h3,h4⟩:=r
   exact ⟨vs,by rw [same];exact h3,qu (fun r e=>a7p hr hL f ab k r e) h4 e1⟩
  | dK kvs =>
   simp only [Option.map_eq_some_iff] at e
   obtain ⟨ys,e1,rfl⟩:=e
   obtain ⟨us,h3,h4,h5⟩:=r
   exact ⟨us,by rw [same];exact h3,a7q h4 (qu (fun r e=>a7p hr hL f ab k r e) h5 e1)⟩
  | dT kvs =>
   simp only [Option.map_eq_some_iff] at e
   obtain ⟨ys,e1,rfl⟩:=e
   obtain ⟨us,h3,h4,h5⟩:=r
   exact ⟨us,by rw [same];exact h3,a7q h4 (qu (fun r e=>a7p hr hL f ab k r e) h5 e1)⟩
theorem a1v {α β:Type} {f:α→Option β}:∀ {xs:List α} {ys:List β},a0w f xs=some ys→xs.length=ys.length∧∀ (i:Nat) y,ys[i]? = some y→∃ x,xs[i]? = some x∧f x=some y
 | [],_,e=>by cases e;exact ⟨rfl,fun i y e=>by simp at e⟩
 | x::xs,ys,e=>by
  unfold a0w at e
  split at e
  ·rename_i y ys h1 h2
   cases e
   obtain ⟨l,g⟩:=a1v h2
   refine ⟨by simp [l],fun i z e=>?_⟩
   cases i with
   | zero=>simp at e;subst e;exact ⟨x,rfl,h1⟩
   | succ i=>simpa using g i z (by simpa using e)
  ·cases e
theorem afb (hr:HRep K ι' H' h1) (M:List Addr) (hM:∀ a∈M,a∈ι'):aa5 H' M:=fun a ha=>by
 obtain ⟨i,hi⟩:=List.getElem?_of_mem (hM a ha)
 obtain ⟨o,_,q⟩:=hr.at hi
 cases o with
 | lst xs=>obtain ⟨vs,h,_⟩:=q;exact .inl ⟨_,h⟩
 | dK xs=>obtain ⟨vs,h,_⟩:=q;exact .inr (.inl ⟨_,h⟩)
 | dT xs=>obtain ⟨vs,h,_⟩:=q;exact .inr (.inr ⟨_,h⟩)
theorem a6a {α:Type} {l:List α} (nd:l.Nodup) {i j:Nat} {a:α} (h1:l[i]? = some a) (h2:l[j]? = some a):i=j:=by
 obtain ⟨l1,e1⟩:=List.getElem?_eq_some_iff.mp h1
 obtain ⟨l2,e2⟩:=List.getElem?_eq_some_iff.mp h2
 rcases Nat.lt_trichotomy i j with l | l | l
 ·exact absurd (e1.trans e2.symm) (List.pairwise_iff_getElem.mp nd i j l1 l2 l)
 ·exact l
 ·exact absurd (e2.trans e1.symm) (List.pairwise_iff_getElem.mp nd j i l2 l1 l)
theorem aqc (g:Gr ι H ι' H') (f:FrzOf L H' H2) (ab:aa5 H' L) (hL:∀ a∈L,H a=none) {m:List Addr} (hm:∀ a∈m,H a=none):Gr ι H (ι++m) H2:=by
 refine ⟨⟨m,rfl,hm⟩,fun a vs e=>f.still ab (g.tup a vs e) True.intro,fun a o u e=>f.still ab (g.frz a o u e) True.intro,fun a u e hn=>?_,fun a u e=>?_⟩
 ·rw [(f a).1 fun z=>by rw [hL a z] at e;cases e]
  exact g.oth a u e hn
 ·obtain ⟨u',e'⟩:=g.kp a u e
  rw [(f a).1 fun z=>by rw [hL a z] at e;cases e]
  exact ⟨u',e'⟩
theorem afc {d d':D} {v:V} {g':Hd} (g:Gr ι H ι' H') (rb:Rep K ι' H' v d) (hr:HRep K ι' H' h1) (e:aaq ι.length (.ok d h1) = .ok d' g') :
  ∃ L,aa5 H' L∧∀ H2,FrzOf L H' H2→Gr ι H ι H2∧Rep K ι H2 v d'∧HRep K ι H2 g':=by
 obtain ⟨m,rfl,hm⟩:=g.pre
 have tk:(ι++m).take ι.length=ι:=by simp
 have ab:aa5 H' m:=afb hr m fun a ha=>List.mem_append_right _ ha
 have hL:∀ (i:Nat) a,(ι++m)[i]? = some a→ι.length≤i→a∈m:=fun i a e hi=>by
  rw [List.getElem?_append_right hi] at e
  exact List.mem_of_getElem? e
 refine ⟨m,ab,fun H2 f=>?_⟩
 unfold aaq at e
 simp only at e
 split at e
 ·rename_i dd gg e1 e2
  cases e
  refine ⟨by simpa using aqc g f ab hm (m:=[]) (by simp),by have:=a7p hr hL f ab FU rb e1;rwa [tk] at this,?_⟩
  obtain ⟨l,gt⟩:=a1v e2
  have hl:=hr.len
  have ln:ι.length≤h1.length:=by rw [← hl];simp
  refine ⟨(List.nodup_append.mp hr.nd).1,by rw [← l,List.length_take];omega,fun i a o q1 q2=>?_⟩
  obtain ⟨x,hx,fx⟩:=gt i o q2
  have hi:i<ι.length:=(List.getElem?_eq_some_iff.mp q1).1
  rw [List.getElem?_take,if_pos hi] at hx
  have q3:(ι++m)[i]? = some a:=by rw [List.getElem?_append_left hi];exact q1
  have na:a ∉ m:=fun z=>(List.nodup_append.mp hr.nd).2.2 a (List.mem_of_getElem? q1) a z rfl
  have:=am6 hr hL f ab na (hr.obj i a x q3 hx) fx
  rwa [tk] at this
 ·cases e
theorem aic {d d':D} {v:V} {g':Hd} (g:Gr ι H ι' H') (rb:Rep K ι' H' v d) (hr:HRep K ι' H' h1) (e:ao4 ι.length (.ok d h1) = .ok d' g') :
  ∃ b,H b=none∧Gr ι H (ι++[b]) H'∧Rep K (ι++[b]) H' v d'∧HRep K (ι++[b]) H' g':=by
 obtain ⟨m,rfl,hm⟩:=g.pre
 have tk:(ι++m).take ι.length=ι:=by simp
 have up:∀ b,Gw ι H' (ι++[b]) H':=fun b=>⟨⟨[b],rfl⟩,fun _ _ h=>h,fun _ _ _ h=>h⟩
 cases rb with
 | @ref b i hb =>
  unfold ao4 at e
  simp only at e
  split at e
  ·rename_i ob ho
   split at e
   ·rename_i hc
    obtain ⟨hi,c1,c2⟩:=hc
    cases e
    have hb':=hb
    rw [List.getElem?_append_right hi] at hb'
    have bm:b∈m:=List.mem_of_getElem? hb'
    obtain ⟨nd1,nd2,nd3⟩:=List.nodup_append.mp hr.nd
    have hl:=hr.len
    have ln:ι.length≤h1.length:=by rw [← hl];simp
    have lt:(h1.take ι.length).length=ι.length:=by rw [List.length_take];omega
    refine ⟨b,hm b bm,⟨⟨[b],rfl,by simpa using hm b bm⟩,g.tup,g.frz,g.oth,g.kp⟩, .ref (by simp),?_⟩
    refine ⟨List.nodup_append.mpr ⟨nd1,by simp,fun a ha c hc z=>nd3 a ha c (by rw [List.mem_singleton.mp hc];exact bm) z⟩,by simp [lt],fun j a o q1 q2=>?_⟩
    by_cases hj:j<ι.length
    ·rw [List.getElem?_append_left hj] at q1
     rw [List.getElem?_append_left (by omega)] at q2
     have q2':=q2
     rw [List.getElem?_take,if_pos hj] at q2'
     have:=(hr.obj j a o (by rw [List.getElem?_append_left hj];exact q1) q2').cut (c2 o (List.mem_of_getElem? q2))
     rw [tk] at this
     exact this.monoW (up b) rfl
    ·have hj2:j<(ι++[b]).length:=(List.getElem?_eq_some_iff.mp q1).1
     have:j=ι.length:=by simp at hj2;omega
     subst this
     rw [List.getElem?_append_right (Nat.le_refl _)] at q1
     rw [List.getElem?_append_right (by omega),lt] at q2
     simp at q1 q2
     subst q1 q2
     have:=(hr.obj i b ob hb ho).cut c1
     rw [tk] at this
     exact this.monoW (up b) rfl
   ·cases e
  ·cases e
 | _=>cases e
end
noncomputable def sZ (f:SE):SE:=fun τ h=>aaq h.length (f τ h)
abbrev axj (Q:VK):VK:=fun v H1=>∃ L,aa5 H1 L∧∀ H2,FrzOf L H1 H2→Q v H2
theorem axk {K:PySem.W.Frag} {E:XD} {fa:SE} {σ:St} {H:Hp} {Q:VK} (q:lift K E (yt K) (sZ fa) σ H Q):lift K E (yt K) fa σ H (axj Q):=by
 obtain ⟨ι,τ,h,S,Rh,o⟩:=q
 refine ⟨ι,τ,h,S,Rh,?_⟩
 unfold sZ at o
 rw [← Rh.len] at o
 cases hf:fa τ h with
 | ok d h1 =>
  rw [hf] at o
  intro ι' H' v g r hr
  cases hz:aaq ι.length (.ok d h1) with
  | ok d' g' =>
   rw [hz] at o
   obtain ⟨L,ab,k⟩:=afc g r hr hz
   refine ⟨L,ab,fun H2 f=>?_⟩
   obtain ⟨k1,k2,k3⟩:=k H2 f
   exact o ι H2 v k1 k2 k3
  | ex c hx=>unfold aaq at hz;simp only at hz;split at hz<;>cases hz
  | no=>rw [hz] at o;exact o.elim
 | ex c h1=>rw [hf] at o;exact o.elim
 | no=>rw [hf] at o;exact o.elim
theorem a6o {X:Cx} {E:XD} {e:Expr} {fa:SE} (ha:ME X E e fa):ME X E e (sZ fa):=PE.weak (a99 ha) fun σ H Q q=>axk q
def refOf:D→Option Nat
 | .ref i=>some i
 | _=>none
def a2w (ds:List D):List Nat:=ds.filterMap refOf
def a1h:Nat→List D→List D
 | _,[]=>[]
 | k,d::ds=>match d with
  | .ref _=>.ref k::a1h (k+1) ds
  | d=>d::a1h k ds
def vm:Hd→List Nat→List O→Hd
 | h,i::is,o::os=>vm (h.set i o) is os
 | h,_,_=>h
def isRef (d:D):Prop:=∃ i,d = .ref i
open Classical in
noncomputable def ao5 (m:Bool) (F:SF) (ds:List D) (h:Hd):R D:=match a0w (fun i=>h[i]?) (a2w ds) with
 | none=>.no
 | some os=>if (a2w ds).Nodup∧(∀ d∈ds,clo 0 d∨isRef d)∧(∀ o∈os,a3s 0 o) then
   (match (if m then ao4 os.length (F (a1h 0 ds) os) else aaq os.length (F (a1h 0 ds) os)) with
   | .ok d h1=>if ∀ o∈h1,a3s 0 o then
     (if m then .ok (.ref h.length) (vm h (a2w ds) h1++h1.drop os.length)
      else if clo 0 d then .ok d (vm h (a2w ds) h1) else .no) else .no
   | _=>.no)
  else .no
noncomputable def j8 (m:Bool) (n:Nat) (F:SF):SF:=fun ds h=>if ds.length=n then ao5 m F ds h else .no
section
variable {K:PySem.W.Frag} {ι ι':List Addr} {H H' H2:Hp} {h h1:Hd} {n:Nat}
theorem ak7 (κ:List Addr):Gw [] H κ H:=⟨⟨κ,rfl⟩,fun _ _ h=>h,fun _ _ _ h=>h⟩
theorem Rep.any {v:V} {d:D} (r:Rep K ι H v d) (c:MI.clo 0 d) (κ:List Addr):Rep K κ H v d:=by
 have:=r.cut c
 rw [List.take_zero] at this
 exact this.monoW (ak7 κ)
theorem ORep.any {a:Addr} {o:O} (r:ORep K ι H a o) (c:a3s 0 o) (κ:List Addr):ORep K κ H a o:=by
 have:=r.cut c
 rw [List.take_zero] at this
 exact this.monoW (ak7 κ) rfl
theorem a9a {α:Type} (l:List α):∀ {is:List Nat},(∀ i∈is,i<l.length)→∃ ys,a0w (fun i=>l[i]?) is=some ys
 | [],_=>⟨[],rfl⟩
 | i::is,hi=>by
  obtain ⟨ys,e⟩:=a9a l (is:=is) fun j hj=>hi j (List.mem_cons_of_mem _ hj)
  have:=hi i List.mem_cons_self
  exact ⟨l[i]::ys,by unfold a0w;rw [e,List.getElem?_eq_getElem this]⟩
theorem a4d:∀ {ds:List D} {vs:List V} {pre κ:List Addr},Reps K ι H vs ds→(∀ d∈ds,clo 0 d∨isRef d)→a0w (fun i=>ι[i]?) (a2w ds)=some κ→Reps K (pre++κ) H vs (a1h pre.length ds)
 | [],_,_,_, .nil,_,_=>.nil
 | d::ds,_,pre,κ, .cons r rs,hc,e=>by
  have hc':∀ d∈ds,clo 0 d∨isRef d:=fun x hx=>hc x (List.mem_cons_of_mem _ hx)
  by_cases hd:isRef d
  ·obtain ⟨i,rfl⟩:=hd
   have e':a0w (fun i=>ι[i]?) (i::a2w ds)=some κ:=e
   unfold a0w at e'
   split at e'
   ·rename_i a κ' h1 h2
    cases e'
    cases r with
    | ref ha =>
     rw [ha] at h1;cases h1
     have:=a4d (pre:=pre++[a]) rs hc' h2
     simp only [List.append_assoc,List.singleton_append,List.length_append,List.length_singleton] at this
     refine .cons (.ref ?_) this
     rw [List.getElem?_append_right (Nat.le_refl _)]
     simp
   ·cases e'
  ·have c:=(hc d List.mem_cons_self).resolve_right hd
   have e1:a2w (d::ds)=a2w ds:=by
    unfold a2w
    cases d<;>first | rfl | exact absurd ⟨_,rfl⟩ hd
   have e2:a1h pre.length (d::ds)=d::a1h pre.length ds:=by
    cases d<;>first | rfl | exact absurd ⟨_,rfl⟩ hd
   rw [e1] at e
   rw [e2]
   exact .cons (r.any c _) (a4d rs hc' e)
theorem a04:∀ {is:List Nat} {os:List O} {h:Hd},(vm h is os).length=h.length
 | [],_,_=>by simp [vm]
 | _::_,[],_=>by simp [vm]
 | i::is,o::os,h=>by rw [vm,a04,List.length_set]
theorem a4e {i:Nat}:∀ {is:List Nat} {os:List O} {h:Hd},i ∉ is→(vm h is os)[i]? = h[i]?
 | [],_,_,_=>by simp [vm]
 | _::_,[],_,_=>by simp [vm]
 | j::is,o::os,h,n=>by
  rw [vm,a4e fun z=>n (List.mem_cons_of_mem _ z),List.getElem?_set_ne fun z=>n (by rw [z];exact List.mem_cons_self)]
theorem a9b {i:Nat} {o:O}:∀ {is:List Nat} {os:List O} {h:Hd} {j:Nat},is.Nodup→is[j]? = some i→os[j]? = some o→i<h.length→(vm h is os)[i]? = some o
 | [],_,_,_,_,e,_,_=>by simp at e
 | _::_,[],_,_,_,_,e,_=>by simp at e
 | k::is,o'::os,h,j,nd,e1,e2,hl=>by
  cases j with
  | zero =>
   simp at e1 e2
   subst e1 e2
   rw [vm,a4e (List.nodup_cons.mp nd).1,List.getElem?_set_self hl]
  | succ j =>
   rw [vm]
   exact a9b (j:=j) (List.nodup_cons.mp nd).2 (by simpa using e1) (by simpa using e2) (by simpa using hl)
theorem a9c {α:Type} {l:List α} (nl:l.Nodup) {is:List Nat} {ys:List α} (e:a0w (fun i=>l[i]?) is=some ys) (ni:is.Nodup):ys.Nodup:=by
 obtain ⟨le,g⟩:=a1v e
 refine List.pairwise_iff_getElem.mpr fun i j hi hj lt z=>?_
 obtain ⟨x,h1,h2⟩:=g i _ (List.getElem?_eq_getElem hi)
 obtain ⟨y,h3,h4⟩:=g j _ (List.getElem?_eq_getElem hj)
 rw [← z] at h4
 have:=a6a nl h2 h4
 subst this
 have:=a6a ni h1 h3
 omega
theorem abw {is:List Nat} {κ m:List Addr} {g:Hd} (hr:HRep K ι H h) (e1:a0w (fun i=>ι[i]?) is=some κ) (nd:is.Nodup) (gr:Gr κ H (κ++m) H2) (hg:HRep K (κ++m) H2 g) (cg:∀ o∈g,a3s 0 o) (hm:m.length≤1) :
  Gr ι H (ι++m) H2∧HRep K (ι++m) H2 (vm h is g++g.drop κ.length):=by
 obtain ⟨l1,g1⟩:=a1v e1
 have mn:∀ a∈m,H a=none:=by
  obtain ⟨m',e,hm'⟩:=gr.pre
  rw [List.append_cancel_left e];exact hm'
 have sub:∀ a∈κ,a∈ι:=fun a ha=>by
  obtain ⟨j,hj⟩:=List.getElem?_of_mem ha
  obtain ⟨i,_,q⟩:=g1 j a hj
  exact List.mem_of_getElem? q
 have some_of:∀ a∈ι,∃ u,H a=some u:=fun a ha=>by
  obtain ⟨i,hi⟩:=List.getElem?_of_mem ha
  obtain ⟨o,_,q⟩:=hr.at hi
  obtain ⟨u,q,_⟩:=q.some
  exact ⟨u,q⟩
 have G:Gr ι H (ι++m) H2:=⟨⟨m,rfl,mn⟩,gr.tup,gr.frz,fun a u e n=>gr.oth a u e fun z=>n (sub a z),gr.kp⟩
 have lg:=hg.len
 rw [List.length_append] at lg
 refine ⟨G,?_,?_,fun j a o q1 q2=>?_⟩
 ·refine List.nodup_append.mpr ⟨hr.nd,(List.nodup_append.mp hg.nd).2.1,fun a ha b hb z=>?_⟩
  obtain ⟨u,q⟩:=some_of a ha
  rw [z,mn b hb] at q;cases q
 ·rw [List.length_append,List.length_append,a04,List.length_drop,hr.len];omega
 ·by_cases hj:j<ι.length
  ·rw [List.getElem?_append_left hj] at q1
   rw [List.getElem?_append_left (by rw [a04,← hr.len];exact hj)] at q2
   by_cases hp:j∈is
   ·obtain ⟨k,hk⟩:=List.getElem?_of_mem hp
    have hkl:k<κ.length:=by rw [← l1];exact (List.getElem?_eq_some_iff.mp hk).1
    obtain ⟨i,h3,h4⟩:=g1 k _ (List.getElem?_eq_getElem hkl)
    rw [hk] at h3;cases h3
    rw [q1] at h4
    have hkg:k<g.length:=by omega
    have e5:=a9b (h:=h) nd hk (List.getElem?_eq_getElem hkg) (by rw [← hr.len];exact hj)
    rw [e5] at q2
    cases q2
    have ea:(κ++m)[k]? = some a:=by rw [List.getElem?_append_left hkl,List.getElem?_eq_getElem hkl];exact h4.symm
    exact (hg.obj k a _ ea (List.getElem?_eq_getElem hkg)).any (cg _ (List.getElem_mem hkg)) _
   ·rw [a4e hp] at q2
    have r:=hr.obj j a o q1 q2
    obtain ⟨u,hu,_⟩:=r.some
    have na:a ∉ κ:=fun z=>by
     obtain ⟨k,hk⟩:=List.getElem?_of_mem z
     obtain ⟨i,h3,h4⟩:=g1 k a hk
     have:=a6a hr.nd q1 h4
     subst this
     exact hp (List.mem_of_getElem? h3)
    exact r.mono G (by rw [hu];exact gr.oth a u hu na)
  ·have q1':=q1
   rw [List.getElem?_append_right (by omega)] at q1
   rw [List.getElem?_append_right (by rw [a04,← hr.len];omega),a04,← hr.len,List.getElem?_drop] at q2
   have ea:(κ++m)[κ.length+(j - ι.length)]? = some a:=by rw [List.getElem?_append_right (by omega)];simpa using q1
   exact (hg.obj _ a o ea q2).any (cg o (List.mem_of_getElem? q2)) _
theorem a7r {m:Bool} {F:SF} {vs:List V} {ds:List D} {Q:VK} (r:Reps K ι H vs ds) (hr:HRep K ι H h) (o:out K X0 (yt K) ι H (j8 m n F ds h) Q) (E:XK) :
  mz K n F vs H (fun v H1=>∃ L,aa5 H1 L∧∀ H2,FrzOf L H1 H2→Q v H2) E:=by
 unfold j8 at o
 split at o
 ·rename_i hl
  refine ⟨by rw [r.len];exact hl,?_⟩
  unfold ao5 at o
  split at o
  ·exact o.elim
  ·rename_i os hos
   split at o
   ·rename_i hc
    obtain ⟨nd,hd,hcl⟩:=hc
    obtain ⟨l0,g0⟩:=a1v hos
    obtain ⟨κ,e1⟩:=a9a ι (is:=a2w ds) fun i hi=>by
     obtain ⟨j,hj⟩:=List.getElem?_of_mem hi
     have hjl:j<os.length:=by rw [← l0];exact (List.getElem?_eq_some_iff.mp hj).1
     obtain ⟨x,h3,h4⟩:=g0 j _ (List.getElem?_eq_getElem hjl)
     rw [hj] at h3;cases h3
     rw [hr.len]
     exact (List.getElem?_eq_some_iff.mp h4).1
    obtain ⟨l1,g1⟩:=a1v e1
    have lk:κ.length=os.length:=by omega
    have R0:Reps K κ H vs (a1h 0 ds):=by simpa using a4d (pre:=[]) r hd e1
    have H0:HRep K κ H os:=by
     refine ⟨a9c hr.nd e1 nd,lk,fun j a ob q1 q2=>?_⟩
     obtain ⟨i,h3,h4⟩:=g1 j a q1
     obtain ⟨i',h5,h6⟩:=g0 j ob q2
     rw [h3] at h5;cases h5
     exact (hr.obj i a ob h4 h6).any (hcl ob (List.mem_of_getElem? q2)) _
    refine ⟨κ,a1h 0 ds,os,R0,H0,?_⟩
    cases hF:F (a1h 0 ds) os with
    | no=>rw [hF] at o;cases m<;>exact o.elim
    | ex c hx=>rw [hF] at o;cases m<;>exact o.elim
    | ok d h1 =>
     rw [hF] at o
     intro ι' H' v g rb hr1
     rw [← lk] at o
     cases m with
     | false =>
      simp only [Bool.false_eq_true,if_false] at o
      cases hz:aaq κ.length (.ok d h1) with
      | ok d' g' =>
       rw [hz] at o
       simp only at o
       obtain ⟨L,ab,k⟩:=afc g rb hr1 hz
       refine ⟨L,ab,fun H2 f=>?_⟩
       obtain ⟨k1,k2,k3⟩:=k H2 f
       split at o
       ·rename_i cg
        split at o
        ·rename_i cd
         have q:=abw (m:=[]) hr e1 nd (by simpa using k1) (by simpa using k3) cg (by simp)
         have lg:=k3.len
         have dr:g'.drop κ.length=[]:=List.drop_eq_nil_of_le (by omega)
         rw [dr,List.append_nil,List.append_nil] at q
         exact o ι H2 v q.1 (k2.any cd _) q.2
        ·exact o.elim
       ·exact o.elim
      | ex c hx=>rw [hz] at o;exact o.elim
      | no=>rw [hz] at o;exact o.elim
     | true =>
      simp only [if_true] at o
      cases hz:ao4 κ.length (.ok d h1) with
      | ok d' g' =>
       rw [hz] at o
       simp only at o
       obtain ⟨b,hb,k1,k2,k3⟩:=aic g rb hr1 hz
       refine ⟨[],fun a ha=>(by simp at ha),fun H2 f=>?_⟩
       have e2:H2=H':=by funext a;exact (f a).1 (by simp)
       subst e2
       split at o
       ·rename_i cg
        have q:=abw (m:=[b]) hr e1 nd k1 k3 cg (by simp)
        refine o (ι++[b]) H2 v q.1 ?_ q.2
        have hd':d' = .ref κ.length:=by
         unfold ao4 at hz
         split at hz
         ·rename_i i h2 hh
          injection hh with z1 z2
          split at hz
          ·split at hz
           ·injection hz with z3 z4;exact z3.symm
           ·cases hz
          ·cases hz
         ·cases hz
        subst hd'
        cases k2 with
        | ref hk =>
         rw [List.getElem?_append_right (Nat.le_refl _)] at hk
         simp at hk
         subst hk
         exact .ref (by rw [← hr.len];simp)
       ·exact o.elim
      | ex c hx=>rw [hz] at o;exact o.elim
      | no=>rw [hz] at o;exact o.elim
   ·exact o.elim
 ·exact o.elim
end
theorem bu (m:Bool) {X:Cx} {k n:Nat} {f:Addr} {fd:FuncData} {ps:List Str} {x:Str} {F:SF} {ka:SA} {e:Expr} {es:List Expr} {p pos:Pos} (G:Dn X.prog X.w X.K X.mg X.base k x ps (mz X.K n F) f fd) (hr:Room k X.A) (hg:Gl X x) (ha:MA X X0 (e::es) ka)
  (hdb:(x == ("__debug__" : Str))=false:=by decide) (he:starEach (e::es) X.env=(false,eval e X.env)::starEach es X.env:=by rfl) (hpl:(backTo pos (starEach es X.env)).any (·.1)=false:=by rfl):ME X X0 (.Call (.Name x p) (e::es) [] pos) (sA (j8 m n F) ka):=by
 refine PE.weak (a99 (aab G.ok hr hg G.m G.kp G.b .nil ale ha hdb he hpl)) fun σ H Q ⟨ι,τ,h,S,Rh,o⟩=>?_
 refine ⟨ι,τ,h,S,Rh,dq o fun ds h1 ι1 H1 vs g1 r1 hr1 o1=>?_⟩
 rw [List.append_nil]
 exact a7r r1 hr1 o1 _
theorem a9d (m:Bool) {X:Cx} {k n:Nat} {f:Addr} {fd:FuncData} {ps:List Str} {x:Str} {F:SF} {p pos:Pos} (G:Dn X.prog X.w X.K X.mg X.base k x ps (mz X.K n F) f fd) (hr:Room k X.A) (hg:Gl X x) (hdb:(x == ("__debug__" : Str))=false:=by decide) :
  ME X X0 (.Call (.Name x p) [] [] pos) (sA (j8 m n F) bz):=by
 refine PE.weak (a99 (ahl G.ok hr hg G.m G.kp G.b .nil ale hdb)) fun σ H Q ⟨ι,τ,h,S,Rh,o⟩=>?_
 exact a7r (vs:=[]) .nil Rh o E0
end MI
namespace MI
open PySem PySem.Spec L2
def ak8:SS:=fun _ _=>.no
section
variable {X:Cx} {E:XD}
theorem axl {st:Stmt}:MS X E st ak8:=fun _ _ _ _ _ _ ⟨_,_,_,_,_,o⟩=>o.elim
theorem a72 {st:List Stmt}:MSs X E st ak8:=fun _ _ _ _ _ _ ⟨_,_,_,_,_,o⟩=>o.elim
end
theorem aqd {K:PySem.W.Frag} {E:XD} {f:SE} {i:Nat} {N:Ends} {σ:St} {H:Hp} (q:a5z K E (qi i f) N σ H):lift K E (yt K) f σ H (fun v H1=>N.nx (σ.set i (some v)) H1):=by
 obtain ⟨ι,τ,h,S,Rh,o⟩:=q
 exact ⟨ι,τ,h,S,Rh,qy o fun d h1 ι1 H1 v g1 r1 hr1 o1=>o1 ι1 H1 _ (.refl _ _) ((S.mono g1).set r1 i) hr1⟩
theorem am7 {K:PySem.W.Frag} {E:XD} {fi:SI} {t:D→Option Sd} {fe:SE} {ix:List Nat} {n:Nat} {g:TG} {σ:St} {H:Hp} {Q:VK} (ht:ao2 K n g t) (q:lift K E (yt K) (wz fi t fe ix) σ H Q):ahs (lift K E (aw4 K) fi) (a02 n ix) g (lift K E (yt K) fe) σ H Q:=by
 obtain ⟨ι,τ,h,Sr,Rh,o⟩:=q
 refine ⟨ι,τ,h,Sr,Rh,dq o fun it h1 ι1 H1 J g1 r1 hr1 o1=>?_⟩
 by_cases hl:it.xs.length≤LINE
 ·rw [if_pos hl] at o1
  exact abo r1 ht (abn (Sr.mono g1) ix) hr1 hl o1
 ·rw [if_neg hl] at o1;exact o1.elim
section
variable {X:Cx} {E:XD} {elt tg iter cnd:Expr} {scope:Scope} {pos spos pos':Pos} {cl:List (Str × Addr)} {ts fr:List Str} {ix:List Nat} {fi:SI} {g:TG} {t:D→Option Sd} {fe:SE} {fc:ST} {i:Nat} {x:Str}
theorem aar (hN:X.N.Nodup) (hi':X.N[i]? = some x) (hx:Loc X.env.scope x) (hc:X.calm=true) (S:CSc X scope cl ts fr ix) (hi:MI X E tg iter fi) (hg:∀ C fp s H,PG (cxC X (ts++fr) scope cl C fp s H) tg g) (ht:ao2 X.K ts.length g t) (he:∀ C fp s H,ME (cxC X (ts++fr) scope cl C fp s H) E elt fe)
  (hs:∀ x,foldedSetIterable iter X.env x=pure x:=by intro _;rfl) (hsw:swapsWith (.ListComp elt [⟨tg,iter,[],0⟩] scope pos) (some (.Name x pos')) spos.line X.env=pure true:=by rfl) (hf:X.fn x=true∨X.env.scope.names.lookup x=some .local:=by first | exact .inl rfl | exact .inr rfl | assumption) :
  MS X E (.Assign [.Name x pos'] (.ListComp elt [⟨tg,iter,[],0⟩] scope pos) spos) (qi i (wz fi t fe ix)) :=
 PS.weak (ahw (te:=lift X.K E (yt X.K) fe) hN hi' hx hc S hi hg he hs hsw hf) fun N σ H q=>am7 ht (aqd q)
end
theorem lz {P:Program} {w:World} {K:PySem.W.Frag} {mg:Str→Option Value} {base:Heap} {x qual:Str} {st:Stmt} {f:Addr} {fd:FuncData} {N ps:List Str} {k:Nat} {b:SS} (Fu:Fun K x qual st f fd) (S:FnScope N ps (au st))
  (hb:∀ (cdv:Value) (A:Around) (outer:List Env) (s:Shared) (H:Hp) (E:XK),Room k (A.deeper (PyProof.Rows.envOfC qual (au st) s.heap.objs.size f cdv))→MSs (a00 CX0 P w K mg base N qual (au st) f cdv A outer s H E).nox X0 (g8 st) b) :
  FnOk P w K mg base CX0 (k+1) f fd ps (mz K ps.length (my b N.length)):=apu Fu S hb fun ds h _ _ _=>Rf.same rfl
end MI
namespace MI
open PySem PySem.Spec L2 HT
theorem ad8 {prog:Program} {w:World} {A:Around} {E:Value→Shared→Prop} {s:Shared} {t sl:Addr} {items:Array Value} {vl vu:Value} {lo hi:Option Int} {Q:Value→Shared→Prop} (ht:PyProof.Rows.IsTup s.heap t items) (hs:s.heap.IsSliceOf sl vl vu .none) (pl:IsPart vl lo) (pu:IsPart vu hi)
  (hw:HT.sIx items.size 0 lo=0∧HT.sIx items.size items.size hi=items.size) (h:Q (.ref t) s):wpAny (model prog w) A (getItem (.ref t) (.ref sl)) Q E s:=by
 obtain ⟨os,f1,f2,f3⟩:=id hs
 have ty:s.TypeIs (.ref sl) "slice":=⟨os,f1,f2⟩
 have tt:s.TypeIs (.ref t) "tuple":=ht.typeIs
 rw [getItem]
 try apply wpAny_holding
 first | (apply wpAny_bind;apply wpAny_pure) | skip
 apply wpAny_bind;apply wpAny_sequenceKey tt (by decide)
 apply wpAny_bind
 apply wpAny_callSpecial?_slot (name:=Str.ofString "__getitem__") tt PyProof.Rows.slot_tuple_getitem
 apply wpAny_call_entry PyProof.Rows.slot_tuple_getitem tt PyProof.Rows.entry_tuple_getitem _ (PyProof.Rows.args_tuple_getitem _ _)
 change wpAny (model prog w) A.in1 (Builtin.Tuple.tupleItemsOf (.ref t)>>=_) _ _ s
 apply wpAny_bind;apply PyProof.Rows.tupleItemsOf_ ht
 apply wpAny_bind;apply wpAny_typeOf ty
 rw [if_pos (by decide)]
 apply wpAny_bind;apply HT.a0r hs pl pu
 rw [hw.1,hw.2]
 dsimp only
 rw [if_pos (by simp)]
 apply wpAny_bind
 rw [Builtin.Tuple.tupleIsExact]
 apply wpAny_bind;apply wpAny_typeOf tt
 apply wpAny_pure
 rw [if_pos (by decide)]
 apply wpAny_bind;apply wpAny_rule
 apply wpAny_pure
 exact ⟨_,rfl,wpAny_pure h⟩
def aw9 (K:PySem.W.Frag):V→Option Int→Option Int→Hp→VK→Prop:=fun x lo hi H Q=>∃ a xs,x = .ref a∧SqT K H a xs∧whole xs.length lo hi∧Q (.ref a) H
theorem aid {X:Cx}:SlR X (aw9 X.K):=by
 intro pins s σ H x v vl vu lo hi sl Q I rx hs pl pu h
 obtain ⟨a,xs,rfl,hx,hw,q⟩:=h
 cases rx
 obtain ⟨its,r,ht,hz⟩:=I.tuple hx
 have hlen:its.toArray.size=xs.length:=by rw [List.size_toArray];exact r.length.symm
 exact ⟨"tuple",_,PyProof.Rows.slot_tuple_getitem.lookup,ht.typeIs,ad8 ht hs pl pu (by rw [hlen];exact hw) ⟨.ref a,H,I,rfl,q⟩⟩
def ad9 (d:D) (lo hi:Option Int) (h:Hd):R D:=match d with
 | .tup xs=>if whole xs.length lo hi then .ok (.tup xs) h else .ok (.tup (a6k xs lo hi)) h
 | d=>gSl d lo hi h
def a1w (f:SE) (l u:SO):SE:=fun τ h=>(f τ h).bind fun d h1=>(l τ h1).bind fun lo h2=>(u τ h2).bind fun hi h3=>ad9 d lo hi h3
theorem am8 {K:PySem.W.Frag} {E:XD} {ι:List Addr} {H:Hp} {h:Hd} {x:V} {d:D} {lo hi:Option Int} {Q:VK} (rx:Rep K ι H x d) (hr:HRep K ι H h) (o:out K E (yt K) ι H (ad9 d lo hi h) Q):(auv x lo hi H Q∨aun K x lo hi H Q∨aup K x lo hi H Q)∨aw9 K x lo hi H Q:=by
 cases rx with
 | @tup p vs xs hp r =>
  by_cases hc:whole xs.length lo hi
  ·simp only [ad9,if_pos hc] at o
   exact .inr ⟨p,vs,rfl,SqT.of hp,by rw [r.len];exact hc,ans o (.tup hp r) hr⟩
  ·simp only [ad9,if_neg hc] at o
   exact .inl (.inr (.inl ⟨p,vs,rfl,SqT.of hp,by rw [r.len];exact hc,a1c (a3h r lo hi) hr o⟩))
 | non=>exact o.elim
 | bl _=>exact o.elim
 | int _=>exact o.elim
 | ty _=>exact o.elim
 | str z=>exact .inl (abu (.str z) hr o)
 | rol a b=>exact .inl (abu (.rol a b) hr o)
 | scr a b=>exact .inl (abu (.scr a b) hr o)
 | rod a b c=>exact o.elim
 | rdT a b c=>exact o.elim
 | exc a b c=>exact o.elim
 | ref a=>exact .inl (abu (.ref a) hr o)
theorem jo {X:Cx} {E:XD} {e:Expr} {fa:SE} {lo hi:Option Expr} {l u:SO} {p2 pos:Pos} (he:ME X E e fa) (hl:MO X E lo l) (hu:MO X E hi u):ME X E (.Subscript e (.Slice lo hi none p2) pos) (a1w fa l u):=by
 refine PE.weak (ahn ((apk.or (ap6.or alc)).or aid) he hl hu) fun σ H Q ⟨ι,τ,h,S,Rh,o⟩=>?_
 refine ⟨ι,τ,h,S,Rh,dq o fun d h1 ι1 H1 v g1 r1 hr1 o1=>?_⟩
 refine ⟨ι1,τ,h1,S.mono g1,hr1,dq o1 fun lo h2 ι2 H2 lv g2 r2 hr2 o2=>?_⟩
 refine ⟨ι2,τ,h2,(S.mono g1).mono g2,hr2,dq o2 fun hi h3 ι3 H3 hv g3 r3 hr3 o3=>?_⟩
 cases r2;cases r3
 exact am8 ((r1.mono g2).mono g3) hr3 o3
end MI
namespace TPM
open PySem PySem.Spec PySem.W L2 HT MI
theorem a5b:fillsNumberSlot (.type "tuple") "mul" = pure false :=
 fillsNumberSlot_seq (id := "tuple.__mul__") (r:=some (.builtin "tuple.__rmul__")) F.slot_tuple_mul.lookup (by decide +kernel) F.slot_tuple_rmul.lookup (by decide +kernel)
theorem afd (t:Addr) (items:Array Value) (n:Nat) (dd:Option Addr) (sl:Array (Option Value)) (x:Int) (u:Tok) (h0:items.isEmpty=false) (h2:2≤x) (h3:x<2 ^ 63) (hz:items.size*x.toNat≤sizeLine) :
  Meets (Builtin.«tuple.__mul__» ⟨[.ref t, .int x u],[]⟩) (fun _ R s=>s.heap.get? t=some { cls:=.type "tuple",dict:=dd,data:=.seq items n,slots:=sl }∧R (.ok (.ret (.ref s.heap.objs.size))) { s with heap:=s.heap.push { cls:=.type "tuple",data:=.seq (List.foldl (fun x1 x2=>x1++x2) #[] (List.replicate x.toNat items)) } }) :=
 .of_wp fun prog w A R s h=>by
  obtain ⟨hp,g,d,tk,os⟩:=s;obtain ⟨hl,h⟩:=h
  have c1:¬ (decide (x < -2 ^ 63) || decide (x≥2 ^ 63))=true:=by
   rw [Bool.or_eq_true,decide_eq_true_eq,decide_eq_true_eq];omega
  have c2:¬ (items.isEmpty || x == 1)=true:=by
   rw [h0,Bool.false_or];simp;omega
  have c3:¬ (decide (x≤0) || items.isEmpty)=true:=by
   rw [h0,Bool.or_false,decide_eq_true_eq];omega
  have ex:((items.size:Nat):Int)*x=((items.size*x.toNat:Nat):Int):=by
   rw [Int.natCast_mul,Int.toNat_of_nonneg (by omega)]
  have sl':(sizeLine:Nat)≤(2 ^ 63 - 1) / 8:=by decide
  have c4:¬ (items.size:Int)*x > (2 ^ 63 - 1) / 8:=by rw [ex];omega
  have c5:¬ Builtin.Tuple.tupleTooMany ((items.size:Int)*x)=true:=by
   rw [ex]
   simp only [Builtin.Tuple.tupleTooMany,decide_eq_true_eq];omega
  wp_walk
  rw [if_neg c1]
  wp_walk
  rw [if_neg c2]
  wp_walk
  rw [if_neg c3]
  wp_walk
  rw [if_neg c4]
  wp_walk
  rw [if_neg c5]
  wp_walk
  have fs:¬ (List.foldl (fun x1 x2=>x1++x2) #[] (List.replicate x.toNat items)).size > sizeLine:=by
   have:=foldl_rep items.toList x.toNat []
   rw [List.nil_append,Array.toArray_toList] at this
   rw [show (#[]:Array Value)=([]:List Value).toArray from rfl,this,List.size_toArray,len_rep,Array.length_toList,Nat.mul_comm]
   omega
  rw [if_neg fs]
  wp_walk
  exact ⟨_,rfl,h⟩
theorem a9e (a:Int) (t:Tok) (l:Addr) (items:Array Value) (n:Nat) (dd:Option Addr) (sl:Array (Option Value)) :
  Meets (Builtin.«int.__rmul__» ⟨[.int a t, .ref l],[]⟩) (fun _ R s=>s.heap.get? l=some { cls:=.type "tuple",dict:=dd,data:=.seq items n,slots:=sl }∧R (.ok (.ret Value.notImplemented)) s):=by
 refine .of_wp fun prog w A R s h=>?_
 obtain ⟨hp,g,d,tk,os⟩:=s
 obtain ⟨hl,h⟩:=h
 wp_walk
 exact ⟨_,rfl,h⟩
theorem afe:seqRepeat? (.type "tuple")=pure (some (.builtin "tuple.__mul__")):=by
 unfold seqRepeat?
 rw [seqSlot_of (T := "tuple") (name := "__mul__") (id := "tuple.__mul__") F.slot_tuple_mul.lookup (by decide +kernel),seqSlot_of (T := "tuple") (name := "__rmul__") (id := "tuple.__rmul__") F.slot_tuple_rmul.lookup (by decide +kernel)]
 rfl
def aqe (K:PySem.W.Frag):R2:=fun x y H Q=>∃ a k xs,x = .ref a∧y = .int k∧SqT K H a xs∧xs≠[]∧2≤k∧k<2 ^ 63∧xs.length*k.toNat≤sizeLine∧∀ p,H p=none→Q (.ref p) (upd H p (.tup (List.replicate k.toNat xs).flatten))
theorem am9 {X:Cx}:OpR X (binaryOp .Mult) (aqe X.K):=by
 intro pins s σ H x y v u Q I rx ry h
 obtain ⟨a,k,xs,rfl,rfl,ha,hx,h1,h2,hz,q⟩:=h
 cases rx
 obtain ⟨t,rfl⟩:=ry
 obtain ⟨its,r1,p1,_⟩:=I.tuple ha
 obtain ⟨⟨cls,dd,data,sl⟩,ho,hc,n,hd⟩:=id p1
 simp only at hc hd
 subst hc hd
 have he:its.toArray.isEmpty=false:=by
  cases its with
  | nil=>exact (hx (r1.nil_iff.mp rfl)).elim
  | cons _ _=>rfl
 have hz2:its.toArray.size*k.toNat≤sizeLine:=by rw [List.size_toArray,← r1.length];exact hz
 have hnew:List.foldl (fun x1 x2=>x1++x2) #[] (List.replicate k.toNat its.toArray)=(List.replicate k.toNat its).flatten.toArray:=by
  have:=foldl_rep its k.toNat []
  rw [List.nil_append] at this
  exact this
 refine wpAny_binaryOp_repeat_ref (T := "tuple") (U := "int") (by decide) ⟨_,ho,rfl⟩ (fun s'=>typeIs_int s' k t) a5b F.fills_int_mul F.slot_int_rmul afe F.slot_int_index.lookup
  (call_meets F.slot_int_rmul (typeIs_int s k t) F.entry_int_rmul (F.args_int_rmul_2 _ _) (a9e k t a its.toArray n dd sl)
   ⟨ho,rfl,⟨_,ho,rfl⟩,call_meets F.slot_tuple_mul ⟨_,ho,rfl⟩ F.entry_tuple_mul (F.args_tuple_mul_2 _ _) (afd a its.toArray n dd sl k t he h1 h2 hz2) ⟨ho,?_⟩⟩)
 rw [hnew]
 refine ⟨.ref s.heap.objs.size,_,I.laid (t':=s.toks) (o:=.tup (List.replicate k.toNat xs).flatten) (fun b ob q=>Heap.get?_push_of_some _ q) (Nat.le_refl _) ?_,rfl,q _ (I.hok.fresh (Nat.le_refl _))⟩
 exact ⟨by rw [len_rep,Nat.mul_comm];exact hz,_,r1.rep k.toNat,PyProof.Rows.IsTup.new _ _⟩
end TPM
namespace MI
open PySem PySem.Spec L2 TPM
open Classical in
noncomputable def ada (x y:D) (h:Hd):R D:=match x,y with
 | .tup xs, .int k=>if (xs≠[]∧2≤k∧k<2 ^ 63)∧xs.length*k.toNat≤LINE then .ok (.tup (List.replicate k.toNat xs).flatten) h else .no
 | x,y=>apv x y h
theorem aie {K:PySem.W.Frag}:a1t K ada (fun x y H Q=>(rI CMul (fun i j=>.int (i*j)) x y H Q∨aur x y H Q)∨aqe K x y H Q):=by
 intro E ι H h x y dx dy Q rx ry hr o
 cases rx with
 | @tup a vs xs ha rs =>
  cases ry with
  | int k =>
   simp only [ada] at o
   split at o
   ·rename_i hc
    refine .inr ⟨a,k,vs,rfl,rfl,SqT.of ha,fun z=>?_,hc.1.2.1,hc.1.2.2,ll (by rw [rs.len];exact hc.2),a1c (rs.flat _) hr o⟩
    subst z
    cases rs
    exact hc.1.1 rfl
   ·exact o.elim
  | _=>exact o.elim
 | int i=>exact .inl (aex _ _ _ _ _ _ _ _ _ (.int i) ry hr o)
 | ref e=>exact .inl (aex _ _ _ _ _ _ _ _ _ (.ref e) ry hr o)
 | _=>exact o.elim
theorem ama {X:Cx} {E:XD} {a b:Expr} {fa fb:SE} {pos:Pos} (ha:ME X E a fa) (hb:ME X E b fb):ME X E (.BinOp a .Mult b pos) (s2 ada fa fb):=aak ((ajl.or apc).or am9) aie ha hb
end MI
namespace L2
open PySem PySem.Spec PyProof.Rows
theorem aif {X:Cx}:avw X (atp X.K):=by
 intro pins s σ H o i ov iv Q I ro ri h
 obtain ⟨p,xs,k,z,rfl,rfl,hq,he,q⟩:=h
 cases ro
 obtain ⟨t,rfl⟩:=ri
 obtain ⟨its,r,pl,hz⟩:=I.list hq
 obtain ⟨j,h1,h2,h3,h4,h5⟩:=a7e he
 obtain ⟨w,ew,rw'⟩:=r.get h2
 have len:=r.length
 have l63:=a4p
 have done:EP X pins σ Q w s:=⟨z,H,I,rw',q⟩
 by_cases neg:k<0
 ·have ej:(k+(its.toArray.size:Int)).toNat=j:=by
   rw [seqIndex_neg neg h4] at h1
   rw [List.size_toArray,← len]
   exact Option.some.inj h1
  exact wpAny_getItem_list_neg pl.isList neg (by rw [List.size_toArray];omega) (by omega) (by rw [ej];simpa using ew) done
 ·have ej:k.toNat=j:=by
   rw [seqIndex_of (by omega) h5] at h1
   exact Option.some.inj h1
  exact wpAny_getItem_list pl.isList (by omega) (by omega) (by rw [ej];simpa using ew) done
end L2
namespace MI
open PySem PySem.Spec L2
def aqf (x y:D) (h:Hd):R D:=match x,y with
 | .ref p, .int i=>(match h[p]? with | some (.lst xs)=>(match atI xs i with | some d=>.ok d h | none=>.no) | _=>.no)
 | _,_=>.no
theorem amb {K:PySem.W.Frag}:a1t K aqf (atp K):=by
 intro E ι H h x y dx dy Q rx ry hr o
 cases rx with
 | @ref p i hp =>
  cases ry with
  | int k =>
   simp only [aqf] at o
   split at o
   ·rename_i xs hx
    obtain ⟨vs,h3,h4⟩:=hr.lst hp hx
    split at o
    ·rename_i d he
     obtain ⟨v,h1,h2⟩:=abt h4 he
     exact ⟨p,vs,k,v,rfl,rfl,SqL.of h3,h1,ans o h2 hr⟩
    ·exact o.elim
   ·exact o.elim
  | _=>exact o.elim
 | _=>exact o.elim
def afg (g:D→D→Hd→R D) (fo fi fe:SE):SS:=fun τ h=>(fo τ h).fl fun o h1=>(fi τ h1).fl fun i h2=>(aqf o i h2).fl fun x h3=>(fe τ h3).fl fun y h4=>(g x y h4).fl fun z h5=>match put o i z h5 with | some h6=>.nx τ h6 | none=>.no
section
variable {X:Cx} {E:XD} {e o i:Expr} {fa fb fc:SE} {pos:Pos}
theorem afh {op:Operator} {r:R2} {gg:D→D→Hd→R D} {tpos:Pos} (ho:ME X E o fa) (hi:ME X E i fb) (he:ME X E e fc) (hp:OpR X (inplaceOp op) r) (hs:a1t X.K gg r)
  (ha:∀ ov iv new,augStore i ov iv new=(do holding [new,ov,iv] (setItem ov iv new);release [new,ov,iv] [];pure .next):=by intros;rfl):MS X E (.AugAssign (.Subscript o i tpos) op e pos) (afg gg fa fb fc):=by
 refine PS.weak (akz ho hi aif he hp set_list ha) fun N σ H ⟨ι,τ,h,S,Rh,oo⟩=>?_
 refine ⟨ι,τ,h,S,Rh,qy oo fun d h1 ι1 H1 v g1 r1 hr1 o1=>?_⟩
 refine ⟨ι1,τ,h1,S.mono g1,hr1,qy o1 fun d2 h2 ι2 H2 u g2 r2 hr2 o2=>?_⟩
 refine amb E ι2 H2 h2 v u d d2 _ (r1.mono g2) r2 hr2 (qy o2 fun d3 h3 ι3 H3 w g3 r3 hr3 o3=>?_)
 have S3:=((S.mono g1).mono g2).mono g3
 refine ⟨ι3,τ,h3,S3,hr3,qy o3 fun d4 h4 ι4 H4 y g4 r4 hr4 o4=>?_⟩
 refine hs E ι4 H4 h4 w y d3 d4 _ (r3.mono g4) r4 hr4 (qy o4 fun d5 h5 ι5 H5 z g5 r5 hr5 o5=>?_)
 cases hq:put d d2 d5 h5 with
 | none=>rw [hq] at o5;exact o5.elim
 | some h6 =>
  rw [hq] at o5
  exact aeu ((((r1.mono g2).mono g3).mono g4).mono g5) (((r2.mono g3).mono g4).mono g5) r5 hr5 hq fun H' g6 hr6=>o5 ι5 H' σ g6 (((S3.mono g4).mono g5).mono g6) hr6
end
end MI
namespace TPM
open PySem PySem.Spec PySem.W L2 HT MI
theorem adb (t b:Addr) (items2:Array Value) (n n2:Nat) (dd dd2:Option Addr) (sl sl2:Array (Option Value)) :
  Meets (Builtin.«tuple.__add__» ⟨[.ref t, .ref b],[]⟩) (fun _ R s=>s.heap.get? t=some { cls:=.type "tuple",dict:=dd,data:=.seq #[] n,slots:=sl }∧s.heap.get? b=some { cls:=.type "tuple",dict:=dd2,data:=.seq items2 n2,slots:=sl2 }∧R (.ok (.ret (.ref b))) s):=by
 refine .of_wp fun prog w A R s h=>?_
 obtain ⟨hp,g,d,tk,os⟩:=s
 obtain ⟨hl,hb,h⟩:=h
 wp_walk
 refine wpAny_of_eq sub_tuple_self ?_
 wp_walk
 exact ⟨_,rfl,h⟩
def aqg (K:PySem.W.Frag):R2:=fun x y H Q=>∃ a b ys,x = .ref a∧y = .ref b∧SqT K H a []∧SqT K H b ys∧Q (.ref b) H
theorem amc {X:Cx}:OpR X (binaryOp .Add) (aqg X.K):=by
 intro pins s σ H x y v u Q I rx ry h
 obtain ⟨a,b,ys,rfl,rfl,ha,hb,q⟩:=h
 cases rx
 cases ry
 obtain ⟨its,r1,p1,_⟩:=I.tuple ha
 obtain ⟨its2,r2,p2,_⟩:=I.tuple hb
 cases r1
 obtain ⟨⟨cls,dd,data,sl⟩,ho,hc,n,hd⟩:=id p1
 obtain ⟨⟨cls2,dd2,data2,sl2⟩,ho2,hc2,n2,hd2⟩:=id p2
 simp only at hc hd hc2 hd2
 subst hc hd hc2 hd2
 exact concat_meets ⟨_,ho,rfl⟩ ⟨_,ho2,rfl⟩ noFill_tuple_add seq_tuple_add F.slot_tuple_add F.entry_tuple_add (F.args_tuple_add_2 _ _) (adb a b its2.toArray n n2 dd dd2 sl sl2) ⟨ho,ho2,⟨.ref b,H,I,rfl,q⟩⟩
end TPM
namespace MI
open PySem PySem.Spec L2 TPM
end MI
namespace TPM
open PySem PySem.Spec PySem.W L2 HT MI PyProof.Rows
end TPM
namespace MI
open PySem PySem.Spec L2 TPM
end MI
namespace L2
open PySem PySem.Spec PyProof.Rows
section
variable {X:Cx}
theorem Inv.lstR {pins:List (Addr × Obj)} {σ:St} {H:Hp} {s:Shared} {l:Addr} {xs:List V} (I:Inv X pins σ H s) (hH:Rd H l (.lst xs)):xs.length≤sizeLine∧∃ (its:List Value) (n:Nat),Vals xs its∧xs.length=its.length∧s.heap.get? l=some { cls:=.type "list",data:=.seq its.toArray n }:=by
 obtain ⟨z,its,n,r,e⟩:=hH.ok I.hok
 exact ⟨z,its,n,r,r.length,e⟩
def amd:R2:=fun x y H Q=>∃ l b xs zs,x = .ref l∧y = .ref b∧Rd H l (.lst xs)∧Rd H b (.lst zs)∧xs.length+zs.length≤sizeLine∧∀ p,H p=none→Q (.ref p) (upd H p (.lst (xs++zs)))
theorem ame:OpR X (binaryOp .Add) amd:=fun pins s σ H x y v u Q I rx ry ⟨l,b,xs,zs,ex,ey,h1,h2,hz,q⟩=>by
 subst ex ey
 cases rx
 cases ry
 obtain ⟨_,as,_,va,la,ea⟩:=I.lstR h1
 obtain ⟨_,bs,_,vb,lb,eb⟩:=I.lstR h2
 have app:as.toArray++bs.toArray=(as++bs).toArray:=by simp
 refine PySem.P.add_list ea eb ?_ (by simp;omega)
 rw [app]
 exact ⟨.ref _,_,I.lnew (t':=s.toks) (va.append vb) (by simpa using hz),rfl,q _ I.fresh⟩
def aqh:V→List V→Hp→VK→Prop:=fun x vs H Q=>∃ l b xs zs,x = .ref l∧vs=[.ref b]∧H l=some (.lst xs)∧Rd H b (.lst zs)∧xs.length+zs.length≤sizeLine∧Q .non (upd H l (.lst (xs++zs)))
theorem adc:MtM X "list.extend" aqh:=fun pins s σ H x vs v us Q I rx rv ⟨l,b,xs,zs,ex,ev,h1,h2,hz,q⟩=>by
 subst ex ev
 cases rx
 obtain ⟨u,rfl,ru⟩:=rv.one
 cases ru
 obtain ⟨_,as,n,va,la,ea⟩:=I.lstM h1
 obtain ⟨_,bs,m,vb,lb,eb⟩:=I.lstR h2
 have few:as.toArray.size+bs.toArray.size≤sizeLine:=by simp;omega
 have long:¬ (!as.toArray.isEmpty && Builtin.List.listTooLong (as.toArray.size+bs.toArray.size))=true:=by rw [a5h few,Bool.and_false];exact Bool.false_ne_true
 exact call_meets F.slot_list_extend ⟨_,ea,rfl⟩ F.entry_list_extend (F.args_list_extend_2 _ _) (AutoSeq1.list_extend_list_list_0 l as.toArray n b bs.toArray m long (by simp;omega) (by omega))
  ⟨ea,eb, .non,_,I.lset (its':=as++bs) h1 ea (by simp) (va.append vb) (by simpa using hz),rfl,q⟩
def aqi:R2:=fun x y H Q=>∃ l k xs,x = .ref l∧y = .int k∧Rd H l (.lst xs) ∧ -(2 ^ 63)≤k∧k<2 ^ 63∧xs.length*k.toNat≤sizeLine∧∀ p,H p=none→Q (.ref p) (upd H p (.lst (List.replicate k.toNat xs).flatten))
theorem amf (its:List Value) (k:Nat):List.foldl (fun x1 x2=>x1++x2) #[] (List.replicate (if its.toArray.isEmpty=true then 0 else k) its.toArray)=(List.replicate k its).flatten.toArray:=by
 have g:∀ m:Nat,List.foldl (fun x1 x2=>x1++x2) #[] (List.replicate m its.toArray)=(List.replicate m its).flatten.toArray:=fun m=>by simpa using foldl_rep its m []
 cases its with
 | nil=>simp
 | cons a r=>rw [if_neg (by simp),g]
theorem amg:OpR X (binaryOp .Mult) aqi:=fun pins s σ H x y v u Q I rx ry ⟨l,k,xs,ex,ey,h1,k1,k2,hz,q⟩=>by
 subst ex ey
 cases rx
 obtain ⟨t,rfl⟩:=ry
 obtain ⟨_,as,n,va,la,ea⟩:=I.lstR h1
 have few:as.toArray.size*k.toNat≤sizeLine:=by rw [List.size_toArray,← la];exact hz
 have top:(sizeLine:Nat)≤(2 ^ 63 - 1) / 8:=by decide
 refine wpAny_binaryOp_repeat_ref (T := "list") (U := "int") (by decide) ⟨_,ea,rfl⟩ (fun s'=>typeIs_int s' k t) noFill_list_mul F.fills_int_mul F.slot_int_rmul repeat_list F.slot_int_index.lookup
  (call_meets F.slot_int_rmul (typeIs_int s k t) F.entry_int_rmul (F.args_int_rmul_2 _ _) (int___rmul___int_list k t l as.toArray n)
   ⟨ea,rfl,⟨_,ea,rfl⟩,call_meets F.slot_list_mul ⟨_,ea,rfl⟩ F.entry_list_mul (F.args_list_mul_2 _ _)
    (AutoListH.list___mul___list_int_3 l as.toArray n k t (by rw [fitsIndex_both k1 k2];exact Bool.false_ne_true) (by omega) (by rw [a5h few];exact Bool.false_ne_true)) ⟨ea,?_⟩⟩)
 rw [amf]
 exact ⟨.ref _,_,I.lnew (t':=s.toks) (va.rep k.toNat) (by rw [len_rep,Nat.mul_comm];exact hz),rfl,q _ I.fresh⟩
end
end L2
namespace MI
open PySem PySem.Spec L2 TPM
def a1i (d:D) (h:Hd):Option (List D):=match d with
 | .rol xs=>some xs
 | .ref i=>(match h[i]? with | some (.lst xs)=>some xs | _=>none)
 | _=>none
section
variable {K:PySem.W.Frag} {ι:List Addr} {H:Hp} {h:Hd}
theorem a5l {x:V} {d:D} {xs:List D} (r:Rep K ι H x d) (hr:HRep K ι H h) (e:a1i d h=some xs):∃ a vs,x = .ref a∧Rd H a (.lst vs)∧Reps K ι H vs xs:=by
 cases r with
 | @rol a vs ys hp rs=>cases e;exact ⟨a,vs,rfl, .inr hp,rs⟩
 | @ref a i hp =>
  obtain ⟨ob,e1,e2⟩:=hr.at hp
  simp only [a1i,e1] at e
  cases ob with
  | lst ys=>cases e;obtain ⟨vs,h3,h4⟩:=e2;exact ⟨a,vs,rfl, .inl h3,h4⟩
  | _=>cases e
 | _=>cases e
def jq:D→D→Hd→R D
 | .int i, .int j,h=>.ok (.int (i+j)) h
 | .str x, .str y,h=>if x.length+y.length≤LINE then .ok (.str (x++y)) h else .no
 | .tup [], .tup ys,h=>.ok (.tup ys) h
 | .tup (x::xs), .tup ys,h=>if (x::xs).length+ys.length≤LINE then .ok (.tup (x::xs++ys)) h else .no
 | x,y,h=>match a1i x h,a1i y h with
  | some xs,some ys=>if xs.length+ys.length≤LINE then .ok (.ref h.length) (h++[.lst (xs++ys)]) else .no
  | _,_=>.no
theorem amh {x y:D} {xs ys:List D} (e1:a1i x h=some xs) (e2:a1i y h=some ys):jq x y h=if xs.length+ys.length≤LINE then .ok (.ref h.length) (h++[.lst (xs++ys)]) else .no:=by
 cases x<;>first | (cases e1;done) | (cases y<;>first | (cases e2;done) | (simp only [jq,e1,e2]))
theorem aig:a1t K jq (fun x y H Q=>(rI0 (fun i j=>.int (i+j)) x y H Q∨(∃ i j,x = .str i∧y = .str j∧i.length+j.length≤sizeLine∧Q (.str (i++j)) H)∨ap7 K x y H Q∨amd x y H Q)∨aqg K x y H Q):=by
 intro E ι H h x y dx dy Q rx ry hr o
 have lists:∀ xs ys,a1i dx h=some xs→a1i dy h=some ys→amd x y H Q:=fun xs ys e1 e2=>by
  rw [amh e1 e2] at o
  obtain ⟨a,vs,rfl,h1,h2⟩:=a5l rx hr e1
  obtain ⟨b,us,rfl,h3,h4⟩:=a5l ry hr e2
  split at o
  ·rename_i hc
   exact ⟨a,b,vs,us,rfl,rfl,h1,h3,ll (by rw [h2.len,h4.len];exact hc),vo (h2.app h4) hr o⟩
  ·exact o.elim
 cases hx:a1i dx h with
 | some xs =>
  cases hy:a1i dy h with
  | some ys=>exact .inl (.inr (.inr (.inr (lists xs ys hx hy))))
  | none =>
   exfalso
   cases rx<;>first | (cases hx;done) | (cases ry<;>first | (simp only [jq,hx,hy] at o;exact o) | (simp only [jq] at o;exact o))
 | none =>
  cases rx with
  | int i =>
   cases ry with
   | int j=>exact .inl (.inl ⟨i,j,rfl,rfl,ans o (.int _) hr⟩)
   | _=>exact o.elim
  | str i =>
   cases ry with
   | str j =>
    simp only [jq] at o
    split at o
    ·rename_i hc;exact .inl (.inr (.inl ⟨i,j,rfl,rfl,ll hc,ans o (.str _) hr⟩))
    ·exact o.elim
   | _=>exact o.elim
  | @tup a vs xs ha r1 =>
   cases ry with
   | @tup b us ys hb r2 =>
    cases xs with
    | nil=>cases r1;exact .inr ⟨a,b,us,rfl,rfl,SqT.of ha,SqT.of hb,ans o (.tup hb r2) hr⟩
    | cons z xs =>
     simp only [jq] at o
     split at o
     ·rename_i hc
      refine .inl (.inr (.inr (.inl ⟨a,b,vs,us,rfl,rfl,SqT.of ha,SqT.of hb,fun z=>(by subst z;cases r1),ll (by rw [r1.len,r2.len];exact hc),fun z=>?_,fun _=>?_⟩)))
      ·subst z;cases r2
       rw [List.append_nil] at o
       exact ans o (.tup ha r1) hr
      ·exact a1c (r1.app r2) hr o
     ·exact o.elim
   | _=>cases xs<;>exact o.elim
  | rol _ _=>cases hx
  | ref _=>cases ry<;>(simp only [jq,hx] at o;exact o.elim)
  | _=>cases ry<;>exact o.elim
theorem jr {X:Cx} {E:XD} {a b:Expr} {fa fb:SE} {pos:Pos} (ha:ME X E a fa) (hb:ME X E b fb):ME X E (.BinOp a .Add b pos) (s2 jq fa fb) :=
 aak (OpR.or (aox.or (ad0.or (ala.or ame))) amc) aig ha hb
open Classical in
noncomputable def a2e:D→D→Hd→R D
 | .int i, .int j,h=>if CMul i j then .ok (.int (i*j)) h else .no
 | x, .int k,h=>match a1i x h with
  | some xs=>if (-(2 ^ 63)≤k∧k<2 ^ 63)∧xs.length*k.toNat≤LINE then .ok (.ref h.length) (h++[.lst (List.replicate k.toNat xs).flatten]) else .no
  | none=>.no
 | _,_,_=>.no
theorem aih:a1t K a2e (fun x y H Q=>rI CMul (fun i j=>.int (i*j)) x y H Q∨aqi x y H Q):=by
 intro E ι H h x y dx dy Q rx ry hr o
 cases ry with
 | int k =>
  cases hx:a1i dx h with
  | some xs =>
   obtain ⟨a,vs,rfl,h1,h2⟩:=a5l rx hr hx
   have o':out K E (yt K) ι H (if (-(2 ^ 63)≤k∧k<2 ^ 63)∧xs.length*k.toNat≤LINE then .ok (.ref h.length) (h++[.lst (List.replicate k.toNat xs).flatten]) else .no) Q:=by
    cases dx<;>first | (cases hx;done) | (simp only [a2e,hx] at o;exact o)
   split at o'
   ·rename_i hc
    exact .inr ⟨a,k,vs,rfl,rfl,h1,hc.1.1,hc.1.2,ll (by rw [h2.len];exact hc.2),vo (h2.flat _) hr o'⟩
   ·exact o'.elim
  | none =>
   cases rx with
   | int i =>
    by_cases hc:CMul i k
    ·simp only [a2e,if_pos hc] at o;exact .inl ⟨i,k,rfl,rfl,hc,ans o (.int _) hr⟩
    ·simp only [a2e,if_neg hc] at o;exact o.elim
   | _=>simp only [a2e,hx] at o;exact o.elim
 | _=>cases rx<;>exact o.elim
theorem a7s {X:Cx} {E:XD} {a b:Expr} {fa fb:SE} {pos:Pos} (ha:ME X E a fa) (hb:ME X E b fb):ME X E (.BinOp a .Mult b pos) (s2 a2e fa fb):=aak (ajl.or amg) aih ha hb
def afi:D→List D→Hd→R D
 | .ref i,[.tup ys],h=>(match h[i]? with | some (.lst xs)=>if xs.length+ys.length≤LINE then .ok .non (h.set i (.lst (xs++ys))) else .no | _=>.no)
 | .ref i,[y],h=>(match h[i]?,a1i y h with | some (.lst xs),some ys=>if xs.length+ys.length≤LINE then .ok .non (h.set i (.lst (xs++ys))) else .no | _,_=>.no)
 | _,_,_=>.no
theorem aii:atu K afi (fun x vs H Q=>aqh x vs H Q∨abj K x vs H Q):=by
 intro E ι H h x dx xs ds Q rx r hr o
 unfold afi at o
 split at o
 ·rename_i i ys
  cases rx with
  | @ref p _ hp =>
   cases r with
   | cons r1 rs =>
    cases rs
    cases r1 with
    | @tup b us zs hb rb =>
     split at o
     ·rename_i xs hx
      obtain ⟨vs,h3,h4⟩:=hr.lst hp hx
      split at o
      ·rename_i hc
       exact .inr ⟨p,b,vs,us,rfl,rfl,h3,SqT.of hb,ll (by rw [h4.len,rb.len];exact hc),a7j (h4.app rb) hr hp .non o⟩
      ·exact o.elim
     ·exact o.elim
 ·rename_i i y _
  cases rx with
  | @ref p _ hp =>
   cases r with
   | cons r1 rs =>
    cases rs
    split at o
    ·rename_i xs ys hx hy
     obtain ⟨vs,h3,h4⟩:=hr.lst hp hx
     obtain ⟨b,us,rfl,h5,h6⟩:=a5l r1 hr hy
     split at o
     ·rename_i hc
      exact .inl ⟨p,b,vs,us,rfl,rfl,h3,h5,ll (by rw [h4.len,h6.len];exact hc),a7j (h4.app h6) hr hp .non o⟩
     ·exact o.elim
    ·exact o.elim
 ·exact o.elim
end
end MI
namespace MI
open PySem PySem.Spec L2
def ah9:D→Option Key
 | .int i=>some (.inl i)
 | .str x=>some (.inr x)
 | _=>none
def ao6:D→Option (List Key)
 | .tup xs=>a0w ah9 xs
 | _=>none
def aa6 {κ:Type} [DecidableEq κ] (kvs:List (κ × D)) (k:κ):Option D:=(kvs.find? fun kv=>decide (kv.1=k)).map (·.2)
def putD {κ:Type} [DecidableEq κ] (kvs:List (κ × D)) (k:κ) (d:D):List (κ × D):=if (kvs.any fun kv=>decide (kv.1=k))=true then kvs.map fun kv=>if kv.1=k then (kv.1,d) else kv else kvs++[(k,d)]
section
variable {K:PySem.W.Frag} {ι:List Addr} {H:Hp} {h:Hd}
theorem a7t {v:V} {d:D} {k:Key} (r:Rep K ι H v d) (e:ah9 d=some k):v=kV k:=by
 cases r with
 | int i=>cases e;rfl
 | str x=>cases e;rfl
 | _=>cases e
theorem abx:∀ {vs:List V} {ds:List D} {ks:List Key},Reps K ι H vs ds→a0w ah9 ds=some ks→vs=ks.map kV
 | _,_,_, .nil,e=>by cases e;rfl
 | _,d::ds,_, .cons r rs,e=>by
  unfold a0w at e
  split at e
  ·rename_i y ys h1 h2
   cases e
   rw [a7t r h1,abx rs h2];rfl
  ·cases e
theorem afj {v:V} {d:D} {ks:List Key} (r:Rep K ι H v d) (e:ao6 d=some ks):∃ b,v = .ref b∧H b=some (.tup (ks.map kV)):=by
 cases r with
 | @tup a vs xs hp rs=>exact ⟨a,rfl,by rw [← abx rs e];exact hp⟩
 | _=>cases e
theorem a7u {κ:Type} [DecidableEq κ] (k:κ):∀ {us:List (κ × V)} {kvs:List (κ × D)},KRep K ι H us kvs→match aa6 kvs k with | some d=>∃ v,aa3 us k=some v∧Rep K ι H v d | none=>aa3 us k=none
 | [],[],_=>rfl
 | [],_::_,r=>by have:=congrArg List.length r.1;simp at this
 | _::_,[],r=>by have:=congrArg List.length r.1;simp at this
 | (a,v)::us,(b,d)::kvs,r=>by
  obtain ⟨e,rs⟩:=r
  simp only [List.map_cons,List.cons.injEq] at e
  obtain ⟨e1,e2⟩:=e
  subst e1
  cases rs with
  | cons r1 rs =>
   by_cases hk:a=k
   ·simp only [aa6,aa3,List.find?_cons,hk,decide_true,Option.map_some]
    exact ⟨v,rfl,r1⟩
   ·have ih:=a7u k (us:=us) (kvs:=kvs) ⟨e2,rs⟩
    simp only [aa6,aa3,List.find?_cons,hk,decide_false] at ih ⊢
    exact ih
theorem aby {κ:Type} [DecidableEq κ] {us:List (κ × V)} {kvs:List (κ × D)} (k:κ) {v:V} {d:D} (r:KRep K ι H us kvs) (rv:Rep K ι H v d):KRep K ι H (putK us k v) (putD kvs k d):=by
 have anyEq:∀ {us:List (κ × V)} {kvs:List (κ × D)},us.map (·.1)=kvs.map (·.1)→(us.any fun kv=>decide (kv.1=k))=(kvs.any fun kv=>decide (kv.1=k)):=fun {us kvs} e=>by
  have h1:(us.any fun kv=>decide (kv.1=k))=(us.map (·.1)).any fun a=>decide (a=k):=by rw [List.any_map];rfl
  have h2:(kvs.any fun kv=>decide (kv.1=k))=(kvs.map (·.1)).any fun a=>decide (a=k):=by rw [List.any_map];rfl
  rw [h1,h2,e]
 have rmap:∀ {us:List (κ × V)} {kvs:List (κ × D)},KRep K ι H us kvs→KRep K ι H (us.map fun kv=>if kv.1=k then (kv.1,v) else kv) (kvs.map fun kv=>if kv.1=k then (kv.1,d) else kv):=fun {us}=>by
  induction us with
  | nil=>intro kvs r;cases kvs with
   | nil=>exact ⟨rfl, .nil⟩
   | cons _ _=>have:=congrArg List.length r.1;simp at this
  | cons a us ih=>intro kvs r;cases kvs with
   | nil=>have:=congrArg List.length r.1;simp at this
   | cons b kvs =>
    obtain ⟨e,rs⟩:=r
    simp only [List.map_cons,List.cons.injEq] at e
    obtain ⟨e1,e2⟩:=e
    cases rs with
    | cons r1 rs =>
     obtain ⟨i1,i2⟩:=ih ⟨e2,rs⟩
     obtain ⟨a1,a2⟩:=a
     obtain ⟨b1,b2⟩:=b
     simp only at e1
     subst e1
     by_cases hk:a1=k
     ·simp only [List.map_cons,hk,if_true]
      exact ⟨by simp only [List.map_cons,i1], .cons rv i2⟩
     ·simp only [List.map_cons,hk,if_false]
      exact ⟨by simp only [List.map_cons,i1], .cons r1 i2⟩
 have ae:=anyEq r.1
 unfold putK putD
 rw [ae]
 split
 ·exact rmap r
 ·exact ⟨by simp [r.1],by simpa using r.2.snoc rv⟩
def av5 (x y:D) (h:Hd):Option (Option D):=match x with
 | .ref i=>(match h[i]? with
  | some (.dK kvs)=>(ah9 y).map fun k=>aa6 kvs k
  | some (.dT kvs)=>(ao6 y).map fun k=>aa6 kvs k
  | _=>none)
 | .rod ks xs=>(ah9 y).map fun k=>aa6 (ks.zip xs) k
 | .rdT ks xs=>(ao6 y).map fun k=>aa6 (ks.zip xs) k
 | _=>none
def av6 (K:PySem.W.Frag) (ι:List Addr) (H:Hp) (a:Addr) (y:V):Option D→Prop
 | some d=>∃ v,DGet H a y (some v)∧Rep K ι H v d
 | none=>DGet H a y none
theorem afk {κ:Type} {us:List (κ × V)} {ks:List κ} {xs:List D} (e:us.map (·.1)=ks) (r:Reps K ι H (us.map (·.2)) xs):KRep K ι H us (ks.zip xs):=a7q e r
theorem ami {x y:V} {dx dy:D} {r:Option D} (rx:Rep K ι H x dx) (ry:Rep K ι H y dy) (hr:HRep K ι H h) (e:av5 dx dy h=some r):∃ a,x = .ref a∧av6 K ι H a y r:=by
 have goK:∀ {a:Addr} {us:List (Key × V)} {kvs:List (Key × D)},Rd H a (.dK us)→KRep K ι H us kvs→(ah9 dy).map (fun k=>aa6 kvs k)=some r→av6 K ι H a y r:=fun {a us kvs} rd kr e=>by
  simp only [Option.map_eq_some_iff] at e
  obtain ⟨k,ek,rfl⟩:=e
  have ey:=a7t ry ek
  have q:=a7u k kr
  cases hv:aa6 kvs k with
  | none=>rw [hv] at q;exact .inl ⟨us,k,rd,ey,q.symm⟩
  | some d=>rw [hv] at q;obtain ⟨v,q1,q2⟩:=q;exact ⟨v, .inl ⟨us,k,rd,ey,q1.symm⟩,q2⟩
 have goT:∀ {a:Addr} {us:List (List Key × V)} {kvs:List (List Key × D)},Rd H a (.dT us)→KRep K ι H us kvs→(ao6 dy).map (fun k=>aa6 kvs k)=some r→av6 K ι H a y r:=fun {a us kvs} rd kr e=>by
  simp only [Option.map_eq_some_iff] at e
  obtain ⟨k,ek,rfl⟩:=e
  obtain ⟨b,ey,eb⟩:=afj ry ek
  have q:=a7u k kr
  cases hv:aa6 kvs k with
  | none=>rw [hv] at q;exact .inr ⟨us,k,b,rd,ey,eb,q.symm⟩
  | some d=>rw [hv] at q;obtain ⟨v,q1,q2⟩:=q;exact ⟨v, .inr ⟨us,k,b,rd,ey,eb,q1.symm⟩,q2⟩
 cases rx with
 | @ref a i ha =>
  obtain ⟨ob,e1,e2⟩:=hr.at ha
  simp only [av5,e1] at e
  cases ob with
  | lst _=>cases e
  | dK kvs=>obtain ⟨us,h3,h4⟩:=e2;exact ⟨a,rfl,goK (.inl h3) h4 e⟩
  | dT kvs=>obtain ⟨us,h3,h4⟩:=e2;exact ⟨a,rfl,goT (.inl h3) h4 e⟩
 | @rod a o us ks xs hp ek rs=>exact ⟨a,rfl,goK (.inr ⟨o,hp⟩) (afk ek rs) e⟩
 | @rdT a o us ks xs hp ek rs=>exact ⟨a,rfl,goT (.inr ⟨o,hp⟩) (afk ek rs) e⟩
 | _=>cases e
def atv (neg:Bool) (y x:D) (h:Hd):R D:=match av5 x y h with
 | some r=>.ok (.bl (if neg then !r.isSome else r.isSome)) h
 | none=>.no
def afl:R2:=fun y x H Q=>∃ a o,x = .ref a∧DGet H a y o∧Q (.bl (!o.isSome)) H
theorem u1 {A:Around} (hu:A.units+64<cLine):A.units+1<cLine:=by omega
theorem afm {X:Cx} (hu:X.A.units+64<cLine):OpR X (compareOp .NotIn) afl:=fun pins s σ H y x v u Q I ry rx ⟨a,o,ex,g,q⟩=>by
 subst ex
 obtain rfl:u=Value.ref a:=rx
 exact alf (u1 hu) I g ry fun s3 I3=>⟨.bl (!o.isSome),H,I3,rfl,q⟩
theorem ade:a1t K (atv true) afl:=by
 intro E ι H h y x dy dx Q ry rx hr o
 unfold atv at o
 split at o
 ·rename_i r e
  obtain ⟨a,rfl,q⟩:=ami rx ry hr e
  cases r with
  | none=>exact ⟨a,none,rfl,q,ans o (.bl _) hr⟩
  | some d=>obtain ⟨v,q,_⟩:=q;exact ⟨a,some v,rfl,q,ans o (.bl _) hr⟩
 ·exact o.elim
variable {X:Cx} {E:XD} {a b e o i:Expr} {fa fb fc:SE} {pos:Pos}
def ao7 (o k v:D) (h:Hd):Option Hd:=match o with
 | .ref i=>(match h[i]? with
  | some (.dK kvs)=>(match ah9 k with | some kk=>if kvs.length<LINE then some (h.set i (.dK (putD kvs kk v))) else none | none=>none)
  | some (.dT kvs)=>(match ao6 k with | some kk=>if kvs.length<LINE then some (h.set i (.dT (putD kvs kk v))) else none | none=>none)
  | _=>none)
 | _=>none
def adf (fe fo fi:SE):SS:=fun τ h=>(fe τ h).fl fun v h1=>(fo τ h1).fl fun o h2=>(fi τ h2).fl fun k h3=>match ao7 o k v h3 with | some h4=>.nx τ h4 | none=>.no
theorem KRep.mono {κ:Type} {ι':List Addr} {H':Hp} {us:List (κ × V)} {kvs:List (κ × D)} (g:Gr ι H ι' H') (r:KRep K ι H us kvs):KRep K ι' H' us kvs:=⟨r.1,r.2.mono g⟩
theorem aij {h':Hd} {o k v:V} {od kd vd:D} {Q:Hp→Prop} (r1:Rep K ι H o od) (r2:Rep K ι H k kd) (r3:Rep K ι H v vd) (hr:HRep K ι H h) (e:ao7 od kd vd h=some h') (q:∀ H',Gr ι H ι H'→HRep K ι H' h'→Q H') :
  ∃ a H4,o = .ref a∧DPut H a k v H4∧Q H4:=by
 cases r1 with
 | @ref a i ha =>
  obtain ⟨ob,h1,h2⟩:=hr.at ha
  simp only [ao7,h1] at e
  cases ob with
  | lst _=>cases e
  | dK kvs =>
   obtain ⟨us,h3,h4⟩:=h2
   cases hk:ah9 kd with
   | none=>simp only [hk] at e;cases e
   | some kk =>
    simp only [hk] at e
    split at e
    ·rename_i hl
     cases e
     have lu:us.length=kvs.length:=by simpa using congrArg List.length h4.1
     exact ⟨a,_,rfl, .inl ⟨us,kk,h3,a7t r2 hk,by rw [alk,lu];exact hl,rfl⟩,q _ (a2h hr ha _) (hr.put ha ⟨_,jy,(aby kk h4 r3).mono (a2h hr ha _)⟩)⟩
    ·cases e
  | dT kvs =>
   obtain ⟨us,h3,h4⟩:=h2
   cases hk:ao6 kd with
   | none=>simp only [hk] at e;cases e
   | some kk =>
    simp only [hk] at e
    split at e
    ·rename_i hl
     cases e
     have lu:us.length=kvs.length:=by simpa using congrArg List.length h4.1
     obtain ⟨b,eb,tb⟩:=afj r2 hk
     exact ⟨a,_,rfl, .inr ⟨us,kk,b,h3,eb,tb,by rw [alk,lu];exact hl,rfl⟩,q _ (a2h hr ha _) (hr.put ha ⟨_,jy,(aby kk h4 r3).mono (a2h hr ha _)⟩)⟩
    ·cases e
 | _=>cases e
theorem amj {pos':Pos} (hu:X.A.units+64<cLine) (he:ME X E e fa) (ho:ME X E o fb) (hi:ME X E i fc) (hs:swapsWith e (some (.Subscript o i pos')) pos.line X.env=pure false:=by rfl):MS X E (.Assign [.Subscript o i pos'] e pos) (adf fa fb fc):=by
 refine PS.weak (alg (u1 hu) ho hi he hs) fun N σ H ⟨ι,τ,h,S,Rh,oo⟩=>?_
 refine ⟨ι,τ,h,S,Rh,qy oo fun d h1 ι1 H1 v g1 r1 hr1 o1=>?_⟩
 refine ⟨ι1,τ,h1,S.mono g1,hr1,qy o1 fun d2 h2 ι2 H2 u g2 r2 hr2 o2=>?_⟩
 refine ⟨ι2,τ,h2,(S.mono g1).mono g2,hr2,qy o2 fun d3 h3 ι3 H3 w g3 r3 hr3 o3=>?_⟩
 cases hp:ao7 d2 d3 d h3 with
 | none=>rw [hp] at o3;exact o3.elim
 | some h4 =>
  rw [hp] at o3
  exact aij (r2.mono g3) r3 ((r1.mono g2).mono g3) hr3 hp fun H' g4 hr4=>o3 ι3 H' σ g4 ((((S.mono g1).mono g2).mono g3).mono g4) hr4
def gD1 (x y:D) (h:Hd):R D:=match ah9 x with
 | some k=>.ok (.ref h.length) (h++[.dK [(k,y)]])
 | none=>.no
theorem afn {p:Addr} {o:HO} {ob:O} (hr:HRep K ι H h) (pn:p ∉ ι) (gw:Gw ι H (ι++[p]) (upd H p o)) (q:ORep K (ι++[p]) (upd H p o) p ob):HRep K (ι++[p]) (upd H p o) (h++[ob]):=by
 refine ⟨List.nodup_append.mpr ⟨hr.nd,by simp,fun a ha b hb z=>pn (by rw [List.mem_singleton.mp hb] at z;rw [← z];exact ha)⟩,by simp [hr.len],fun j a o' q1 q2=>?_⟩
 by_cases hj:j<ι.length
 ·rw [List.getElem?_append_left hj] at q1
  rw [List.getElem?_append_left (by rw [← hr.len];exact hj)] at q2
  exact (hr.obj j a o' q1 q2).monoW gw (iz fun z=>pn (by rw [← z];exact List.mem_of_getElem? q1))
 ·have hj2:j<(ι++[p]).length:=(List.getElem?_eq_some_iff.mp q1).1
  have:j=ι.length:=by simp at hj2;omega
  subst this
  rw [List.getElem?_append_right (Nat.le_refl _)] at q1
  rw [hr.len,List.getElem?_append_right (Nat.le_refl _)] at q2
  simp at q1 q2
  subst q1 q2
  exact q
theorem av7 (ha:ME X E a fa) (hb:ME X E b fb):ME X E (.Dict [some a] [b] pos) (s2 gD1 fa fb):=by
 refine PE.weak (ali (ahr ha hb alh) rfl rfl (by simp) (by simp)) fun σ H Q ⟨ι,τ,h,S,Rh,o⟩ p hp=>?_
 have pn:p ∉ ι:=Rh.notin hp
 have g0:Gr ι H ι (upd H p (.dK [])):=wy hp _
 unfold s2 at o
 refine ⟨ι,τ,h,S.mono g0,Rh.aside hp _,?_⟩
 cases hfa:fa τ h with
 | no=>rw [hfa] at o;exact o.elim
 | ex c hx=>rw [hfa] at o;exact a3d (Rp:=yt X.K) (r:=.ex c hx) (Q:=Q) o g0
 | ok d h1 =>
  rw [hfa] at o
  intro ι1 H1 v g1 r1 hr1
  refine ⟨ι1,τ,h1,(S.mono g0).mono g1,hr1,?_⟩
  simp only [R.bind] at o
  cases hfb:fb τ h1 with
  | no=>rw [hfb] at o;exact o.elim
  | ex c hx=>rw [hfb] at o;exact a3d (Rp:=yt X.K) (r:=.ex c hx) (Q:=Q) o (g0.trans g1)
  | ok d2 h2 =>
   rw [hfb] at o
   intro ι2 H2 u g2 r2 hr2
   have g12:=g1.trans g2
   have e2:H2 p=some (.dK []):=g12.oth p _ jy pn
   simp only [gD1] at o
   cases hk:ah9 d with
   | none=>rw [hk] at o;exact o.elim
   | some k =>
    rw [hk] at o
    refine ⟨e2,[(k,u)],?_,by simp,?_⟩
    ·rw [a7t (r1.mono g2) hk];rfl
    ·obtain ⟨m,em,hm⟩:=g12.pre
     have nm:∀ c∈m,c≠p∧H c=none:=fun c hc=>by
      have q:=hm c hc
      by_cases z:c=p
      ·subst z;rw [jy] at q;cases q
      ·rw [iz z] at q;exact ⟨z,q⟩
     have pn2:p ∉ ι2:=fun z=>by
      rw [em] at z
      rcases List.mem_append.mp z with z | z
      ·exact pn z
      ·exact (nm p z).1 rfl
     have ne:∀ {c u'},H c=some u'→c≠p:=fun e=>jd e hp
     have up:∀ {c u'},H c=some u'→(upd H p (.dK [])) c=some u':=fun e=>by rw [iz (ne e)];exact e
     have gw:Gw ι2 H2 (ι2++[p]) (upd H2 p (.dK [(k,u)])):=⟨⟨[p],rfl⟩,fun c vs e=>by rw [iz (fun z=>by subst z;rw [e2] at e;cases e)];exact e,fun c o u' e=>by rw [iz (fun z=>by subst z;rw [e2] at e;cases e)];exact e⟩
     have G:Gr ι H (ι2++[p]) (upd H2 p (.dK [(k,u)])):=by
      refine ⟨⟨m++[p],by rw [em];simp,fun c hc=>?_⟩,fun c vs e=>?_,fun c o u' e=>?_,fun c u' e hn=>?_,fun c u' e=>?_⟩
      ·rcases List.mem_append.mp hc with hc | hc
       ·exact (nm c hc).2
       ·rw [List.mem_singleton.mp hc];exact hp
      ·rw [iz (ne e)];exact g12.tup _ _ (up e)
      ·rw [iz (ne e)];exact g12.frz _ _ _ (up e)
      ·rw [iz (ne e)];exact g12.oth _ _ (up e) hn
      ·obtain ⟨w,q⟩:=g12.kp _ _ (up e)
       exact ⟨w,by rw [iz (ne e)];exact q⟩
     refine o (ι2++[p]) _ (.ref p) G (.ref (by rw [List.getElem?_append_right (by rw [hr2.len];exact Nat.le_refl _),hr2.len];simp)) (afn hr2 pn2 gw ⟨_,jy,rfl, .cons (r2.monoW gw) .nil⟩)
end
end MI
namespace ZP
open PySem PySem.Spec PySem.Builtin PySem.Builtin.SmallTypes L2
def a4u (it:Addr):Obj:={ cls:=.type "enumerate",data:=.fields #[.none, .bool false, .ref it,rawInt 0, .none, .none] }
theorem afo (t:Tok) (k:Srk) (us:List Value):Meets (Builtin.«enumerate.__new__» ⟨[.type "enumerate",val t k],[]⟩)
  (fun _ R s=>cont s.heap k us∧R (.ok (.ret (.ref (s.heap.objs.size+1)))) { s with heap:=(s.heap.push (iob t k)).push (a4u s.heap.objs.size) }) :=
 .of_wp fun prog w A R s h=>by
  obtain ⟨hp,g,d,tk,os⟩:=s
  obtain ⟨c,h⟩:=h
  have sub:=sub_enumerate
  have c':cont (Shared.heap ⟨hp,g,d,tk,os⟩) k us:=c
  have fin:R (.ok (.ret (.ref (hp.push (iob t k)).objs.size))) { heap:=(hp.push (iob t k)).push (a4u hp.objs.size),gens:=g,drawn:=d,toks:=tk,os:=os }:=by simpa [Heap.size_push] using h
  wp_walk
  refine wpAny_stack_any fun st=>wpAny_pure ?_
  split
  ·rename_i cl _ _ _ _ _
   cases (cl == Value.type "enumerate")
   ·wp_walk using a3k (t:=t) c'
    exact ⟨_,rfl,fin⟩
   ·wp_walk using a3k (t:=t) c'
    exact ⟨_,rfl,fin⟩
  ·wp_walk using a3k (t:=t) c'
   exact ⟨_,rfl,fin⟩
def ItE (k:Srk):It where
 go:=fun i H=>∃ xs x,its H k=some xs∧xs[i]? = some x
 yld:=fun i H v H'=>∃ xs x p,its H k=some xs∧xs[i]? = some x∧H p=none∧v = .ref p∧H'=upd H p (.tup [.int i,x])
 stop:=fun i H=>∃ xs,its H k=some xs∧i=xs.length
def tnE (e it:Addr) (t:Tok) (k:Srk) (i:Nat) (h:Heap):Prop:=(∃ old,IsEnum h e it i old)∧own it t k i h
theorem afp {P:Program} {w:World} {K:PySem.W.Frag} {elts:List Expr} {x1:Nat} {pos:Pos} {e it:Addr} {t:Tok} {k:Srk} (ne:e≠it):Turn P w K (.Tuple elts x1 pos) (ItE k) [e,it] e (tnE e it t k) where
 mem:=by simp
 obj:=fun i h st b hb=>by
  obtain ⟨⟨old,h1⟩,h4⟩:=st
  simp only [List.mem_cons,List.not_mem_nil,or_false] at hb
  rcases hb with rfl | rfl
  ·exact ⟨_,h1,fun v z=>(by cases z)⟩
  ·exact a4b h4
 keep:=fun i h h' st kk=>by
  obtain ⟨⟨old,h1⟩,h4⟩:=st
  exact ⟨⟨old,kk e (by simp) _ h1⟩,a1u h4 fun ob q=>kk it (by simp) ob q⟩
 item:=by
  intro X hP hw hK hc i pins s σ H E I hf st hg
  subst hP hw hK
  obtain ⟨xs,x,e1,g1⟩:=hg
  obtain ⟨⟨old,h1⟩,h4⟩:=st
  have n:∀ c∈[e,it],H c=none:=fun c hc=>(hf c hc).1
  obtain ⟨cs,P1,S1,D1,a1,b1,c1,d1⟩:=a4c I (t:=t) e1 (n it (by simp))
  have hd:=I.ok.hd hc
  have ef:e ∉ it::cs:=by
   intro z
   rcases List.mem_cons.mp z with z | z
   ·exact ne z
   ·exact c1 e z (n e (by simp))
  refine wpAny_pyNext_enum_itemD (D1 X.A.in1 hd) h1 (a1 i h4) (List.getElem?_eq_some_iff.mp g1).1 ne ef fun u h' tk pu eo s1' pr sz kp=>?_
  obtain ⟨x',q1,r1⟩:=d1 i u pu
  rw [g1] at q1;cases q1
  refine ⟨_,rfl,wpAny_letOwnedTupleGo_enum eo fun h2' z2' sb=>?_⟩
  have hp:H s.heap.objs.size=none:=I.hok.fresh (Nat.le_refl _)
  have lt:∀ c∈[e,it],c<s.heap.objs.size:=fun c hc=>by
   simp only [List.mem_cons,List.not_mem_nil,or_false] at hc
   rcases hc with rfl | rfl
   ·exact Heap.lt_size h1
   ·obtain ⟨_,q,_⟩:=a4b h4;exact Heap.lt_size q
  have nT:∀ c∈[e,it],c≠s.heap.objs.size:=fun c hc=>Nat.ne_of_lt (lt c hc)
  have all:∀ c o,c ∉ [e,it]→s.heap.get? c=some o→h2'.get? c=some o:=fun c o nc q=>by
   simp only [List.mem_cons,List.not_mem_nil,or_false,not_or] at nc
   exact (sb.2 c nc.1).trans (kp c o nc.1 nc.2 q)
  have I0:Inv X pins σ (upd H s.heap.objs.size (.tup [.int i,x])) { s with heap:=s.heap.push { cls:=.type "tuple",data:=.seq #[.int i tk,u] } } :=
   I.laid (t':=s.toks) (o:=.tup [.int i,x]) (fun b o q=>Heap.get?_push_of_some _ q) (Nat.le_refl _) ⟨by show 2≤sizeLine;decide,[.int i tk,u], .cons ⟨tk,rfl⟩ (.cons r1 .nil),⟨_,Heap.get?_push_size _ rfl,rfl,_,rfl⟩⟩
  have I1:Inv X pins σ (upd H s.heap.objs.size (.tup [.int i,x])) { s with heap:=h2',toks:=tk+1 }:=by
   refine a7o (s:={ s with heap:=s.heap.push { cls:=.type "tuple",data:=.seq #[.int i tk,u] } }) (ch:=[e,it]) I0 (fun b hb=>?_) fun c o nc q=>?_
   ·obtain ⟨f0,f1⟩:=hf b hb
    exact ⟨by rw [iz (nT b hb)];exact f0,f1⟩
   ·rcases Heap.get?_push_cases q with ⟨rfl,rfl⟩ | q
    ·exact (sb.2 _ (nT e (by simp)).symm).trans pr
    ·exact all c o nc q
  refine ⟨.ref s.heap.objs.size,_,I1,rfl,⟨xs,x,_,e1,g1,hp,rfl,rfl⟩,⟨⟨u,by simpa using z2'⟩,a1u (b1 _ _ s1') fun ob q=>(sb.2 _ ne.symm).trans q⟩,fun b hb=>?_⟩
  rw [iz (nT b hb)];exact n b hb
 done:=by
  intro X hP hw hK hc i pins s σ H E I hf st hg
  subst hP hw hK
  obtain ⟨xs,e1,rfl⟩:=hg
  obtain ⟨⟨old,h1⟩,h4⟩:=st
  have n:∀ c∈[e,it],H c=none:=fun c hc=>(hf c hc).1
  obtain ⟨cs,P1,S1,D1,a1,b1,c1,d1⟩:=a4c I (t:=t) e1 (n it (by simp))
  have hd:=I.ok.hd hc
  refine wpAny_pyNext_enum_endD (D1 X.A.in1 hd) h1 (a1 _ h4) fun h' ex=>⟨rfl,a7o (t':=s.toks) I hf fun c o nc q=>?_⟩
  simp only [List.mem_cons,List.not_mem_nil,or_false,not_or] at nc
  exact ex c o nc.2 q
 self:=fun _ _ _ _ _ st h=>by
  obtain ⟨⟨old,h1⟩,_⟩:=st
  exact wpAny_pyIter_enum h1 h
section
variable {X:Cx} {elts:List Expr} {x1:Nat} {tpos:Pos}
def av8 (ta:TA):TI:=fun σ H R=>ta σ H fun vs H1=>∃ k xs,vs=[Srk.v k]∧its H1 k=some xs∧R (ItE k) H1
theorem amk {e1:Expr} {ta:TA} {p pos:Pos} (hg:Gl X "enumerate") (hm:X.mg "enumerate" = none) (ha:PA X [e1] ta)
  (h1:starEach [e1] X.env=[(false,eval e1 X.env)]:=by rfl):PI X (.Tuple elts x1 tpos) (.Call (.Name "enumerate" p) [e1] [] pos) (av8 ta):=by
 intro pins s σ H R I h
 refine wpAny_Call_Name_kw (a4o I hg hm PyProof.Rows.boot_enumerate ?_ (by decide) (by decide))
 refine PyProof.Rows.callWith_type1 (thn (ha pos pins s σ H _ I h) fun us s1 ⟨vs,H1,I1,r1,q1⟩=>?_) (by rw [h1];rfl) (by rfl)
 obtain ⟨k,xs,rfl,e1,q⟩:=q1
 obtain ⟨v1,rfl,rv1⟩:=vals1 r1
 obtain ⟨t,rfl⟩:=af9 rv1
 obtain ⟨us1,c1,_⟩:=a69 I1 e1
 refine callType_new F.called_enumerate (by decide) (F.typeCall_enumerate_1 _) (F.newCall_enumerate_1 _) (fun obj=>F.args_object_init_2 obj _) F.entry_enumerate_new (afo t k us1) ⟨c1,?_⟩
 have at0:((s1.heap.push (iob t k)).push (a4u s1.heap.objs.size)).get? s1.heap.objs.size=some (iob t k):=Heap.get?_push_of_some _ (Heap.get?_push_size _ (by cases k<;>rfl))
 have at1:IsEnum ((s1.heap.push (iob t k)).push (a4u s1.heap.objs.size)) (s1.heap.objs.size+1) s1.heap.objs.size 0 .none:=by
  have:=Heap.get?_push_size (o:=a4u s1.heap.objs.size) (s1.heap.push (iob t k)) rfl
  rw [Heap.size_push] at this
  exact this
 have keepA:∀ b o,s1.heap.get? b=some o→((s1.heap.push (iob t k)).push (a4u s1.heap.objs.size)).get? b=some o:=fun b o q=>Heap.get?_push_of_some _ (Heap.get?_push_of_some _ q)
 have I2:Inv X pins σ H1 { s1 with heap:=(s1.heap.push (iob t k)).push (a4u s1.heap.objs.size) }:=I1.kept (t':=s1.toks) keepA
 refine ⟨⟨_,at1,rfl⟩,?_⟩
 refine wpAny_pyIter_enum (s:={ s1 with heap:=(s1.heap.push (iob t k)).push (a4u s1.heap.objs.size) }) at1 ?_
 refine ⟨s1.heap.objs.size+1,[s1.heap.objs.size+1,s1.heap.objs.size],tnE _ _ t k,ItE k,H1,rfl,I2,afp (by intro z;have z:(_:Nat)=_:=z;omega),⟨⟨.none,at1⟩,av1 at0⟩,fun b hb=>?_,q⟩
 have:s1.heap.objs.size≤b:=by
  simp only [List.mem_cons,List.not_mem_nil,or_false] at hb
  rcases hb with rfl | rfl
  ·exact Nat.le_succ _
  ·exact Nat.le_refl _
 exact I1.fpOk this (I1.hok.fresh this)
end
end ZP
namespace MI
open PySem PySem.Spec L2 ZP
def aml (x:D) (h:Hd):R Itm:=match srcOf x h with
 | some (xs,c)=>.ok ⟨((List.range xs.length).zip xs).map fun p=>.tup [.int (p.1:Nat),p.2],c⟩ h
 | none=>.no
def a7v (f:SE):SI:=fun τ h=>(f τ h).bind aml
theorem afq {X:Cx} {E:XD} {elts:List Expr} {x1:Nat} {tpos:Pos} {e1:Expr} {f:SE} {p pos:Pos} (hg:Gl X "enumerate") (hm:X.mg "enumerate" = none) (ha:ME X E e1 f)
  (h1:starEach [e1] X.env=[(false,eval e1 X.env)]:=by rfl):MI X E (.Tuple elts x1 tpos) (.Call (.Name "enumerate" p) [e1] [] pos) (a7v f):=by
 intro pins s σ H Rr I ⟨ι,τ,h,S,Rh,o⟩
 refine amk hg hm (uw ha a3a (by rw [h1];rfl)) h1 pins s σ H Rr I ?_
 refine ⟨ι,τ,h,S,Rh,dq o fun d h1 ι1 H1 v g1 r1 hr1 o1=>?_⟩
 unfold aml at o1
 split at o1
 ·rename_i xs c q1
  obtain ⟨k,rfl,kc,kf⟩:=afa r1 hr1 q1
  obtain ⟨vs,w1,w2⟩:=kf ι1 H1 h1 (.refl _ _) hr1 kc
  refine ⟨k,vs,rfl,w1,o1 ι1 H1 _ (.refl _ _) ?_ hr1⟩
  intro ι3 H3 h3 g3 hr3 c3
  obtain ⟨us,a1,a2⟩:=kf ι3 H3 h3 g3 hr3 c3
  refine ⟨fun i d ed=>?_,us,a1,?_⟩
  ·simp only [List.getElem?_map,Option.map_eq_some_iff] at ed
   obtain ⟨⟨j,y⟩,ez,rfl⟩:=ed
   obtain ⟨ex,ey⟩:=List.getElem?_zip_eq_some.mp ez
   have hj:j=i:=by
    obtain ⟨_,q⟩:=List.getElem?_eq_some_iff.mp ex
    simpa using q.symm
   subst hj
   obtain ⟨v2,b3,b4⟩:=a2.get ey
   refine ⟨⟨us,v2,a1,b3⟩,fun x H' yl=>?_⟩
   obtain ⟨xs',x',p,c1,c3,c5,rfl,rfl⟩:=yl
   rw [a1] at c1;cases c1
   rw [b3] at c3;cases c3
   exact ⟨wy c5 _, .tup jy (.cons (.int _) (.cons (b4.mono (wy c5 _)) .nil)),hr3.aside c5 _⟩
  ·rw [List.length_map,List.length_zip,List.length_range,a2.len]
   omega
 ·exact o1.elim
end MI
namespace L2
open PySem PySem.Spec PyProof.Rows
section
variable {X:Cx}
def amm (lo:Int) (n:Nat):List V:=(List.range n).map fun i=>V.int (lo+(i:Nat))
theorem aik {lo:Int} {n:Nat} {acc:Array Value} (h:ItemsOf (fun i v=>∃ t,v = .int (lo+i*1) t) acc n):Vals (amm lo n) acc.toList:=by
 obtain ⟨hs,ha⟩:=h
 have key:∀ (k:Nat) (us:List Value) (a:Int),us.length=k→(∀ (j:Nat) (v:Value),us[j]? = some v→∃ t,v = .int (a+(j:Nat)) t)→Vals ((List.range k).map fun i=>V.int (a+(i:Nat))) us:=by
  intro k
  induction k with
  | zero=>intro us a hl _;cases us with | nil=>exact .nil | cons _ _=>simp at hl
  | succ k ih =>
   intro us a hl hp
   cases us with
   | nil=>simp at hl
   | cons u us =>
    rw [List.range_succ_eq_map,List.map_cons,List.map_map]
    refine .cons ?_ ?_
    ·obtain ⟨t,e⟩:=hp 0 u rfl
     exact ⟨t,e⟩
    ·have:=ih us (a+1) (by simpa using hl) fun j v e=>by
      obtain ⟨t,q⟩:=hp (j+1) v (by simpa using e)
      exact ⟨t,by rw [q];congr 1;push_cast;omega⟩
     have fe:((fun i:Nat=>V.int (a+(i:Nat))) ∘ Nat.succ)=fun i:Nat=>V.int (a+1+(i:Nat)):=by funext i;simp;omega
     rw [fe];exact this
 refine key n _ lo (by simp [hs]) fun j v e=>?_
 obtain ⟨t,q⟩:=ha j v (by simpa using e)
 exact ⟨t,by rw [q,Int.mul_one]⟩
def Bd (lo hi:Int):Prop := -(2 ^ 62)≤lo∧lo<2 ^ 62 ∧ -(2 ^ 62)≤hi∧hi<2 ^ 62
theorem a7w (hc:X.calm=true):CallR X (.type "list") (fun xs H Q=>∃ p lo hi,xs=[.ref p]∧H p=some (.rng lo hi)∧Bd lo hi∧(hi - lo).toNat≤sizeLine∧∀ l,H l=none→Q (.ref l) (upd H l (.lst (amm lo (hi - lo).toNat)))):=by
 intro pins s σ H xs us Q I r ⟨p,lo,hi,e,hp,⟨b1,b2,b3,b4⟩,hl,q⟩
 subst e
 obtain ⟨u,rfl,ru⟩:=vals1 r
 cases ru
 obtain ⟨t,u,v,ho⟩:=I.hok p _ hp
 refine call_list_range (n:=(hi - lo).toNat) (I.ok.hd hc) ho (small_one b1 b2 b3 b4) (by rw [rangeSize_one];split<;>omega) (by have:=sizeLine_eq;omega) fun h' tk acc c kp e hi'=>?_
 exact ⟨.ref s.heap.objs.size,_,I.laid (t':=tk) kp (Nat.le_refl _) (show ObjOk X.prog X.w _ h' _ (.lst (amm lo (hi - lo).toNat)) from ⟨by simpa [amm] using hl,acc.toList,c,aik hi',by simpa using e⟩),rfl,q _ (I.hok.fresh (Nat.le_refl _))⟩
def av9 (ta:TA):TE:=fun σ H Q=>ta σ H fun vs H1=>∃ i j,vs=[.int i, .int j]∧∀ p,H1 p=none→Q (.ref p) (upd H1 p (.rng i j))
theorem ail {pins:List (Addr × Obj)} {σ:St} {H:Hp} {s:Shared} {Q:VK} {lo hi:Int} {t u v:Tok} {tk:Nat} (I:Inv X pins σ H s) (q:∀ p,H p=none→Q (.ref p) (upd H p (.rng lo hi))) :
  EP X pins σ Q (.ref s.heap.objs.size) { s with heap:=s.heap.push { cls:=.type "range",data:=.fields #[.int lo t, .int hi u, .int 1 v] },toks:=tk } :=
 ⟨.ref _,_,I.laid (t':=tk) (o:=.rng lo hi) (fun b o e=>Heap.get?_push_of_some _ e) (Nat.le_refl _) ⟨t,u,v,Heap.get?_push_size _ rfl⟩,rfl,q _ (I.hok.fresh (Nat.le_refl _))⟩
theorem afr {a b:Expr} {ta:TA} {p pos:Pos} (hg:Gl X "range") (hm:X.mg "range" = none) (ha:PA X [a,b] ta) (hs:starEach [a,b] X.env=[(false,eval a X.env),(false,eval b X.env)]:=by rfl) (hs2:starEach [b] X.env=[(false,eval b X.env)]:=by rfl) :
  PE X (.Call (.Name "range" p) [a,b] [] pos) (av9 ta):=by
 intro pins s σ H Q I h
 refine Call_ (a4o I hg hm boot_range (PyProof.Rows.callWith_type1 (thn (ha pos pins s σ H _ I h) fun us s1 ⟨vs,H1,I1,r1,i,j,ev,q⟩=>?_) (by rw [hs,hs2]) (by rw [hs2];rfl)))
 subst ev
 obtain ⟨u1,u2,rfl,⟨t,rfl⟩,⟨t',rfl⟩⟩:=vals2 r1
 exact call_range_2 (ail I1 q)
end
end L2
namespace MI
open PySem PySem.Spec L2
def a9f:List D→Hd→R D
 | [.int i, .int j],h=>if (B62 i∧B62 j)∧(j - i).toNat≤LINE then .ok (.ref h.length) (h++[.lst (rng i (j - i).toNat)]) else .no
 | _,_=>.no
theorem aim {K:PySem.W.Frag} {ι:List Addr} {H:Hp} (lo:Int) (n:Nat):Reps K ι H (amm lo n) (rng lo n):=by
 unfold amm rng
 generalize List.range n=l
 induction l with
 | nil=>exact .nil
 | cons i l ih=>exact .cons (.int _) ih
section
variable {X:Cx} {E:XD} {a b:Expr} {ka:SA} {p p2 pos pos2:Pos}
theorem amn {K:PySem.W.Frag} {ι:List Addr} {H:Hp} {h:Hd} {Q:VK} {q:Addr} {lo hi:Int} (hr:HRep K ι H h) (hq:H q=none) (c:(hi - lo).toNat≤LINE) (b:Bd lo hi) (o:out K E (yt K) ι H (.ok (.ref h.length) (h++[.lst (rng lo (hi - lo).toNat)])) Q) :
  ∃ p lo' hi',[V.ref q]=[V.ref p]∧(upd H q (.rng lo hi)) p=some (.rng lo' hi')∧Bd lo' hi'∧(hi' - lo').toNat≤sizeLine∧∀ l,(upd H q (.rng lo hi)) l=none→Q (.ref l) (upd (upd H q (.rng lo hi)) l (.lst (amm lo' (hi' - lo').toNat))) :=
 ⟨q,lo,hi,rfl,jy,b,ll c,vo (E:=E) (aim lo _) (hr.aside hq _) (a3d o (wy hq _))⟩
theorem ain (hc:X.calm=true) (hg:Gl X "list") (hm:X.mg "list" = none) (hg2:Gl X "range") (hm2:X.mg "range" = none) (ha:MA X E [a,b] ka) (hs:starEach [a,b] X.env=[(false,eval a X.env),(false,eval b X.env)]:=by rfl) (hs2:starEach [b] X.env=[(false,eval b X.env)]:=by rfl)
  (he:starEach [.Call (.Name "range" p2) [a,b] [] pos2] X.env=(false,eval (.Call (.Name "range" p2) [a,b] [] pos2) X.env)::starEach [] X.env:=by rfl) (hpl:(backTo pos (starEach [] X.env)).any (·.1)=false:=by rfl) :
  ME X E (.Call (.Name "list" p) [.Call (.Name "range" p2) [a,b] [] pos2] [] pos) (sA a9f ka):=by
 refine PE.weak (a5q (a7w hc) hg hm a5x (uw (afr hg2 hm2 ha hs hs2) a3a he) (by decide) (by decide) he hpl) fun σ H Q ⟨ι,τ,h,S,Rh,o⟩=>?_
 refine ⟨ι,τ,h,S,Rh,dq o fun ds h1 ι1 H1 vs g1 r1 hr1 o1=>?_⟩
 unfold a9f at o1
 split at o1
 ·split at o1
  ·rename_i i j hb
   cases r1 with
   | cons r rs =>
    cases r
    cases rs with
    | cons r rs =>
     cases r;cases rs
     exact ⟨i,j,rfl,fun q hq=>amn hr1 hq hb.2 ⟨hb.1.1.1,hb.1.1.2,hb.1.2.1,hb.1.2.2⟩ o1⟩
  ·exact o1.elim
 ·exact o1.elim
end
end MI
namespace L2
open PySem PySem.Spec PyProof.Rows
end L2
namespace MI
open PySem PySem.Spec L2
def axm (lo:Int) (n:Nat):List D:=(List.range n).map fun i=>D.int (lo - (i:Nat))
def ava (ds:List D) (h:Hd):R Itm:=match ds with
 | [.int i, .int j, .int k]=>if k = -1∧B62 i∧B62 j then .ok ⟨axm i (i - j).toNat,fun _=>True⟩ h else .no
 | _=>.no
end MI
namespace MI
open PySem PySem.Spec L2
theorem afs:bootBuiltins "repr" = some (.builtin "repr"):=by decide +kernel
end MI
namespace MI
open PySem PySem.Spec L2
theorem d7 {α β:Type} (a:α) (h:Hd) (k:α→Hd→R β):(R.ok a h).bind k=k a h:=rfl
theorem yw {α:Type} (a:α) (h:Hd) (k:α→Hd→Fl):(R.ok a h).fl k=k a h:=rfl
def thn (r:Fl) (g:SS):Fl:=match r with | .nx τ h=>g τ h | r=>r
theorem sr (f g:SS) (τ:Sd) (h:Hd):iu f g τ h=thn (f τ h) g:=by unfold iu thn;cases f τ h<;>rfl
theorem xm (τ:Sd) (h:Hd) (g:SS):thn (.nx τ h) g=g τ h:=rfl
theorem aft (d:D) (h:Hd) (g:SS):thn (.rt d h) g = .rt d h:=rfl
def toR (r:Fl):R D:=match r with | .rt d h1=>.ok d h1 | .nx _ h1=>.ok .non h1 | .ex c h1=>.ex c h1 | _=>.no
theorem gf (b:SS) (n:Nat) (ds:List D) (h:Hd):my b n ds h=toR (b (a0u n ds) h):=by unfold my toR;cases b (a0u n ds) h<;>rfl
theorem a3l (d:D) (h:Hd):toR (.rt d h) = .ok d h:=rfl
theorem ak9 (τ:Sd) (h:Hd):toR (.nx τ h) = .ok .non h:=rfl
theorem nj {n:Nat}:∀ {xs:List D},clos n xs↔∀ x∈xs,clo n x
 | []=>by simp [clos]
 | x::xs=>by simp [clos,nj (xs:=xs)]
theorem cj {n:Nat} (i:Int):clo n (.int i):=by simp [clo]
theorem zq {n:Nat} (i:Str):clo n (.str i):=by simp [clo]
theorem a9g {n:Nat} (i:Bool):clo n (.bl i):=by simp [clo]
theorem je {n:Nat}:clos n []:=by simp [clos]
theorem d8 {n:Nat} {x:D} {xs:List D} (a:clo n x) (b:clos n xs):clos n (x::xs):=by simp only [clos];exact ⟨a,b⟩
theorem qt {n:Nat} {xs:List D} (h:clos n xs):clo n (.tup xs):=by simpa [clo] using h
theorem uy {n:Nat} {xs:List D} (h:clos n xs):clo n (.rol xs):=by simpa [clo] using h
theorem jf {α:Type} {n:Nat} {f:α→D} {l:List α} (h:∀ a∈l,clo n (f a)):clos n (l.map f):=by
 rw [nj]
 intro x hx
 obtain ⟨a,ha,rfl⟩:=List.mem_map.mp hx
 exact h a ha
mutual
theorem abz {n m:Nat} (hm:n≤m):∀ {d:D},clo n d→clo m d
 | .non,_=>by simp [clo]
 | .bl _,_=>by simp [clo]
 | .int _,_=>by simp [clo]
 | .str _,_=>by simp [clo]
 | .ty _,_=>by simp [clo]
 | .tup xs,h=>by simp only [clo] at h ⊢;exact a0e hm h
 | .rol xs,h=>by simp only [clo] at h ⊢;exact a0e hm h
 | .scr xs,h=>by simp only [clo] at h ⊢;exact a0e hm h
 | .rod _ xs,h=>by simp only [clo] at h ⊢;exact a0e hm h
 | .rdT _ xs,h=>by simp only [clo] at h ⊢;exact a0e hm h
 | .exc _,_=>by simp [clo]
 | .ref i,h=>by simp only [clo] at h ⊢;omega
theorem a0e {n m:Nat} (hm:n≤m):∀ {xs:List D},clos n xs→clos m xs
 | [],_=>by simp [clos]
 | x::xs,h=>by simp only [clos] at h ⊢;exact ⟨abz hm h.1,a0e hm h.2⟩
end
theorem a0f {n m:Nat} (hm:n≤m) {o:O} (h:a3s n o):a3s m o:=by
 cases o with
 | lst xs=>exact a0e hm h
 | dK kvs=>exact a0e hm h
 | dT kvs=>exact a0e hm h
theorem aas {α:Type} {f:α→Option α}:∀ {xs:List α},(∀ x∈xs,f x=some x)→a0w f xs=some xs
 | [],_=>rfl
 | x::xs,h=>by
  unfold a0w
  rw [h x List.mem_cons_self,aas fun y hy=>h y (List.mem_cons_of_mem _ hy)]
theorem ac0 {n k:Nat} {h:Hd} {d:D} (c:clo n d):a5a n h (k+1) d=some d:=by unfold a5a;rw [if_pos c]
theorem aio {n k:Nat} {h:Hd} {o:O} (c:a3s n o):aqb n h k o=some o:=by unfold aqb;rw [if_pos c]
theorem ac1 {n k i:Nat} {h:Hd} {xs:List D} (hi:n≤i) (e:h[i]? = some (.lst xs)) (c:clos n xs):a5a n h (k+2) (.ref i)=some (.rol xs):=by
 unfold a5a
 rw [if_neg (by simp only [clo];omega)]
 simp only [e]
 rw [aas fun x hx=>ac0 (nj.mp c x hx)]
 rfl
theorem a9h {α β:Type} {f:α→Option β} {x:α} {y:β} {xs:List α} {ys:List β} (h:f x=some y) (t:a0w f xs=some ys):a0w f (x::xs)=some (y::ys):=by unfold a0w;rw [h,t]
theorem a7x {n:Nat} {d d':D} {h1:Hd} (e:a5a n h1 FU d=some d') (c:∀ o∈h1.take n,a3s n o):aaq n (.ok d h1) = .ok d' (h1.take n):=by
 unfold aaq
 simp only [e]
 rw [aas fun o ho=>aio (c o ho)]
theorem v8 {n:Nat} {d:D} {h1:Hd} (e:clo n d) (c:∀ o∈h1.take n,a3s n o):aaq n (.ok d h1) = .ok d (h1.take n):=a7x (ac0 e) c
theorem a3m {n i:Nat} {h1:Hd} {xs:List D} (hi:n≤i) (e:h1[i]? = some (.lst xs)) (cx:clos n xs) (c:∀ o∈h1.take n,a3s n o):aaq n (.ok (.ref i) h1) = .ok (.rol xs) (h1.take n):=a7x (ac1 hi e cx) c
theorem a4f {f:SE} {τ:Sd} {h:Hd} {xs:List D} (e:f τ h = .ok (.ref h.length) (h++[.lst xs])) (cx:clos h.length xs) (c:∀ o∈h,a3s h.length o):sZ f τ h = .ok (.rol xs) h:=by
 unfold sZ
 rw [e,a3m (Nat.le_refl _) (by simp) cx (by simpa using c)]
 simp
def Pu (F:SF) (n:Nat) (ds:List D) (d:D):Prop:=∀ h,j8 false n F ds h = .ok d h
def Dr (F:SF) (n:Nat) (ds:List D) (o:O) (d:D) (o':O):Prop:=∀ p h,h[p]? = some o→j8 false n F (.ref p::ds) h = .ok d (h.set p o')
theorem a5m:∀ {ds:List D},(∀ d∈ds,clo 0 d)→a2w ds=[]∧a1h 0 ds=ds∧∀ k,a1h k ds=ds
 | [],_=>⟨rfl,rfl,fun _=>rfl⟩
 | d::ds,h=>by
  obtain ⟨a,b,c⟩:=a5m (ds:=ds) fun x hx=>h x (List.mem_cons_of_mem _ hx)
  have hd:=h d List.mem_cons_self
  have nr:refOf d=none:=by cases d<;>first | rfl | (simp only [clo] at hd;omega)
  refine ⟨?_,?_,fun k=>?_⟩
  ·simpa [a2w,nr] using a
  ·cases d<;>first | (simp only [clo] at hd;omega) | (simp only [a1h,b])
  ·cases d<;>first | (simp only [clo] at hd;omega) | (simp only [a1h,c])
theorem Pu.of {F:SF} {n:Nat} {ds:List D} {r:R D} {d:D} (hn:ds.length=n) (cd:∀ x∈ds,clo 0 x) (e:F ds []=r) (z:aaq 0 r = .ok d []) (c:clo 0 d):Pu F n ds d:=fun h=>by
 obtain ⟨p1,p2,_⟩:=a5m cd
 unfold j8
 rw [if_pos hn]
 unfold ao5
 rw [p1]
 simp only [a0w,List.length_nil,Bool.false_eq_true,if_false]
 rw [if_pos ⟨List.nodup_nil,fun x hx=>.inl (cd x hx),fun o ho=>by simp at ho⟩,p2,e,z]
 simp [c,vm]
theorem Dr.of {F:SF} {n:Nat} {ds:List D} {o o':O} {r:R D} {d:D} (hn:ds.length+1=n) (cd:∀ x∈ds,clo 0 x) (co:a3s 0 o) (e:F (.ref 0::ds) [o]=r) (z:aaq 1 r = .ok d [o']) (c:clo 0 d) (co':a3s 0 o'):Dr F n ds o d o':=fun p h hp=>by
 obtain ⟨p1,_,p3⟩:=a5m cd
 have e1:a2w (.ref p::ds)=[p]:=by
  have:a2w (.ref p::ds)=p::a2w ds:=rfl
  rw [this,p1]
 have e2:a1h 0 (.ref p::ds) = .ref 0::ds:=by
  have:a1h 0 (.ref p::ds) = .ref 0::a1h 1 ds:=rfl
  rw [this,p3]
 unfold j8
 rw [if_pos (by simpa using hn)]
 unfold ao5
 rw [e1]
 simp only [a0w,hp,List.length_singleton,Bool.false_eq_true,if_false]
 have all:∀ x∈(D.ref p::ds),clo 0 x∨isRef x:=fun x hx=>by
  rcases List.mem_cons.mp hx with rfl | hx
  ·exact .inr ⟨p,rfl⟩
  ·exact .inl (cd x hx)
 rw [if_pos ⟨by simp,all,fun u hu=>by rw [List.mem_singleton.mp hu];exact co⟩,e2,e,z]
 simp [c,co',vm]
theorem aqj {F:SF} {n i:Nat} {ds:List D} {o:O} {h1:Hd} (hn:ds.length=n) (cd:∀ x∈ds,clo 0 x) (e:F ds [] = .ok (.ref i) h1) (ho:h1[i]? = some o) (co:a3s 0 o) (h:Hd):j8 true n F ds h = .ok (.ref h.length) (h++[o]):=by
 obtain ⟨p1,p2,_⟩:=a5m cd
 unfold j8
 rw [if_pos hn]
 unfold ao5
 rw [p1]
 simp only [a0w,List.length_nil,if_true]
 rw [if_pos ⟨List.nodup_nil,fun x hx=>.inl (cd x hx),fun o ho=>by simp at ho⟩,p2,e]
 unfold ao4
 simp only [ho]
 rw [if_pos ⟨Nat.zero_le _,co,by simp⟩]
 simp [co,vm]
theorem aip (g:SG) (b:SS) (τ:Sd) (h:Hd):forL (fun _=>True) g b [] τ h = .nx τ h:=by rw [forL,if_pos True.intro]
def trn (r:Fl) (k:Sd→Hd→Fl):Fl:=match r with | .nx τ h=>k τ h | .ct τ h=>k τ h | .bk τ h=>.nx τ h | r=>r
theorem afu (g:SG) (b:SS) (x:D) (xs:List D) (τ τ1:Sd) (h h1:Hd) (e:g x τ h = .nx τ1 h1):forL (fun _=>True) g b (x::xs) τ h=trn (b τ1 h1) (forL (fun _=>True) g b xs):=by
 rw [forL,if_pos True.intro,e]
 dsimp only
 unfold trn
 cases b τ1 h1<;>rfl
theorem aqk (τ:Sd) (h:Hd) (k:Sd→Hd→Fl):trn (.nx τ h) k=k τ h:=rfl
theorem aql (d:D) (h:Hd) (k:Sd→Hd→Fl):trn (.rt d h) k = .rt d h:=rfl
theorem a7y {g:SG} {b:SS} {α:Type} (f:α→D) (I:List α→Sd→Hd→Prop) (Rt:D→Hd→Prop):∀ (xs pre:List α) (τ:Sd) (h:Hd),
  (∀ pre' x post τ h,pre++xs=pre'++x::post→I pre' τ h→∃ τ1 h1,g (f x) τ h = .nx τ1 h1∧((∃ τ2 h2,b τ1 h1 = .nx τ2 h2∧I (pre'++[x]) τ2 h2)∨∃ d h2,b τ1 h1 = .rt d h2∧Rt d h2))→I pre τ h →
  (∃ τ' h',forL (fun _=>True) g b (xs.map f) τ h = .nx τ' h'∧I (pre++xs) τ' h')∨∃ d h',forL (fun _=>True) g b (xs.map f) τ h = .rt d h'∧Rt d h'
 | [],pre,τ,h,_,i0=>.inl ⟨τ,h,aip ..,by simpa using i0⟩
 | x::xs,pre,τ,h,st,i0=>by
  obtain ⟨τ1,h1,e1,q⟩:=st pre x xs τ h rfl i0
  rw [List.map_cons,afu _ _ _ _ _ _ _ _ e1]
  rcases q with ⟨τ2,h2,e2,i2⟩ | ⟨d,h2,e2,r⟩
  ·rw [e2,aqk]
   have:=a7y f I Rt xs (pre++[x]) τ2 h2 (fun pre' y post τ h e=>st pre' y post τ h (by simpa using e)) i2
   simpa using this
  ·rw [e2,aql]
   exact .inr ⟨d,h2,rfl,r⟩
theorem a0g {g:SG} {b:SS} {α:Type} (f:α→D) (I:List α→Sd→Hd→Prop) (xs:List α) (τ:Sd) (h:Hd)
  (st:∀ pre x post τ h,xs=pre++x::post→I pre τ h→∃ τ1 h1,g (f x) τ h = .nx τ1 h1∧∃ τ2 h2,b τ1 h1 = .nx τ2 h2∧I (pre++[x]) τ2 h2) (i0:I [] τ h) :
  ∃ τ' h',forL (fun _=>True) g b (xs.map f) τ h = .nx τ' h'∧I xs τ' h':=by
 rcases a7y f I (fun _ _=>False) xs [] τ h (fun pre' x post τ h e i=>let ⟨τ1,h1,a,b⟩:=st pre' x post τ h e i; ⟨τ1,h1,a, .inl b⟩) i0 with ⟨τ',h',a,b⟩ | ⟨_,_,_,z⟩
 ·exact ⟨τ',h',a,b⟩
 ·exact z.elim
theorem a9i {f:D→Hd→R D} {α:Type} (g F:α→D) {h:Hd}:∀ {xs:List α},(∀ x∈xs,f (g x) h = .ok (F x) h)→mapR (fun _=>True) f (xs.map g) h = .ok (xs.map F) h
 | [],_=>by rw [List.map_nil,mapR,if_pos True.intro];rfl
 | x::xs,st=>by
  rw [List.map_cons,mapR,if_pos True.intro,st x List.mem_cons_self]
  show (mapR _ f (xs.map g) h).bind _=_
  rw [a9i g F fun y hy=>st y (List.mem_cons_of_mem _ hy)];rfl
theorem amo {c:ST} {f:SS} (I:Nat→Sd→Hd→Prop) (N:Sd→Hd→Prop) (Rt:D→Hd→Prop)
  (st:∀ m τ h,I m τ h→(∃ h1,c τ h = .ok false h1∧N τ h1)∨∃ h1,c τ h = .ok true h1∧((∃ τ2 h2 m',f τ h1 = .nx τ2 h2∧m'<m∧I m' τ2 h2)∨∃ d h2,f τ h1 = .rt d h2∧Rt d h2)) :
  ∀ (m n:Nat) (τ:Sd) (h:Hd),m<n→I m τ h→(∃ τ' h',sWh c f n τ h = .nx τ' h'∧N τ' h')∨∃ d h',sWh c f n τ h = .rt d h'∧Rt d h':=by
 intro m
 induction m using Nat.strongRecOn with
 | ind m ih =>
  intro n τ h hn i0
  cases n with
  | zero=>omega
  | succ n =>
   rcases st m τ h i0 with ⟨h1,e1,q⟩ | ⟨h1,e1,q⟩
   ·exact .inl ⟨τ,h1,by rw [sWh,e1];rfl,q⟩
   ·rcases q with ⟨τ2,h2,m',e2,lt,i2⟩ | ⟨d,h2,e2,r⟩
    ·have e3:sWh c f (n+1) τ h=sWh c f n τ2 h2:=by
      rw [sWh,e1,yw,if_pos rfl,e2]
     rw [e3]
     exact ih m' lt n τ2 h2 (by omega) i2
    ·refine .inr ⟨d,h2,?_,r⟩
     rw [sWh,e1,yw,if_pos rfl,e2]
end MI
namespace MI
open PySem PySem.Spec L2
mutual
def toPy:D→Option PyData
 | .non=>some .none
 | .bl b=>some (.bool b)
 | .int i=>some (.int i)
 | .str x=>some (.str x)
 | .tup xs=>(aat xs).map .tuple
 | .rol xs=>(aat xs).map .list
 | .rod [] []=>some (.dict [])
 | _=>none
def aat:List D→Option (List PyData)
 | []=>some []
 | x::xs=>match toPy x,aat xs with | some p,some ps=>some (p::ps) | _,_=>none
end
mutual
def noL:D→Bool
 | .rol _=>false
 | .tup xs=>ao8 xs
 | _=>true
def ao8:List D→Bool
 | []=>true
 | x::xs=>noL x && ao8 xs
end
section
variable {P:Program} {w:World} {K:PySem.W.Frag} {ι:List Addr} {H:Hp} {h:Heap}
mutual
theorem afv (ok:HOk P w H h):∀ {v:V} {d:D} {u:Value} {p:PyData},Rep K ι H v d→RelV v u→toPy d=some p→∃ as,Reads h u p as∧(noL d=true→sysModules ∉ as)
 | _, .non,u,p, .non,r,e=>by
  cases e
  obtain rfl:u=Value.none:=r
  exact ⟨_, .none,fun _=>by simp⟩
 | _, .bl b,u,p, .bl _,r,e=>by
  cases e
  obtain rfl:u=Value.bool b:=r
  exact ⟨_, .bool b,fun _=>by simp⟩
 | _, .int i,u,p, .int _,r,e=>by
  cases e
  obtain ⟨t,rfl⟩:=r
  exact ⟨_, .int i t,fun _=>by simp⟩
 | _, .str x,u,p, .str _,r,e=>by
  cases e
  obtain ⟨t,rfl⟩:=r
  exact ⟨_, .str x t,fun _=>by simp⟩
 | _, .tup xs,u,p, .tup (a:=a) hp rs,r,e=>by
  simp only [toPy,Option.map_eq_some_iff] at e
  obtain ⟨ps,e,rfl⟩:=e
  obtain rfl:u=Value.ref a:=r
  obtain ⟨_,its,vr,o,e1,e2,n,e3⟩:=(show ObjOk P w H h a (.tup _) from ok a _ hp)
  obtain ⟨as,q,s⟩:=a7z ok rs vr e
  exact ⟨as, .tuple e1 e2 e3 q,fun z=>s (by simpa [noL] using z)⟩
 | _, .rol xs,u,p, .rol (a:=a) hp rs,r,e=>by
  simp only [toPy,Option.map_eq_some_iff] at e
  obtain ⟨ps,e,rfl⟩:=e
  obtain rfl:u=Value.ref a:=r
  obtain ⟨o,hp⟩:=hp
  obtain ⟨_,_,its,n,vr,e1⟩:=(show ObjOk P w H h a (.frz o (.lst _)) from ok a _ hp)
  obtain ⟨as,q,s⟩:=a7z ok rs vr e
  exact ⟨a::as, .list e1 rfl rfl q,fun z=>by simp [noL] at z⟩
 | _, .rod ks xs,u,p, .rod (a:=a) hp ek rs,r,e=>by
  cases ks with
  | cons k ks=>simp [toPy] at e
  | nil =>
   cases xs with
   | cons x xs=>simp [toPy] at e
   | nil =>
    simp only [toPy,Option.some.injEq] at e
    subst e
    obtain rfl:u=Value.ref a:=r
    obtain ⟨_,_,sy,vs,kv,o,es,ep,e1,e2,e3,_,pr,_⟩:=(show ObjOk P w H h a (.frz _ (.dK _)) from ok a _ hp)
    have us0:=List.map_eq_nil_iff.mp ek
    subst us0
    cases kv
    have:es.toList=[]:=by cases hh:es.toList with | nil=>rfl | cons x y=>rw [hh] at pr;cases pr
    refine ⟨_, .dict (kvs:=[]) e1 e2.1 e3 (by rw [this];exact .nil) (by rw [this];exact .nil),fun _=>?_⟩
    intro z
    simp at z
    subst z
    simp at sy
theorem a7z (ok:HOk P w H h):∀ {vs:List V} {ds:List D} {us:List Value} {ps:List PyData},Reps K ι H vs ds→Vals vs us→aat ds=some ps→∃ as,ReadsAll h us ps as∧(ao8 ds=true→sysModules ∉ as)
 | _,[],_,_, .nil, .nil,e=>by
  cases e
  exact ⟨[], .nil,fun _=>by simp⟩
 | _,d::ds,_,ps, .cons r rs, .cons q qs,e=>by
  simp only [aat] at e
  split at e
  ·rename_i p ps' e1 e2
   cases e
   obtain ⟨as,a1,s1⟩:=afv ok r q e1
   obtain ⟨bs,a2,s2⟩:=a7z ok rs qs e2
   refine ⟨as++bs, .cons a1 a2,fun z=>?_⟩
   simp only [ao8,Bool.and_eq_true] at z
   intro m
   rcases List.mem_append.mp m with m | m
   ·exact s1 z.1 m
   ·exact s2 z.2 m
  ·cases e
end
end
def okR (d:D) (p:PyData):Prop:=(p.hasDict=true→noL d=true)∧p.showable=true∧p.depth≤60∧p.shown.length≤sizeLine
def aqm (K:PySem.W.Frag):List V→Hp→VK→Prop:=fun xs H Q=>∃ v ι d p,xs=[v]∧Rep K ι H v d∧toPy d=some p∧okR d p∧Q (.str p.shown) H
theorem a9j {X:Cx} (hg:X.A.guards=some []) (hu:X.A.units+64<cLine):CallR X (.builtin "repr") (aqm X.K):=by
 intro pins s σ H xs us Q I r ⟨v,ι,d,p,ex,rp,ep,⟨hd,hs,dp,sz⟩,q⟩
 subst ex
 obtain ⟨u,rfl,rx⟩:=vals1 r
 have big:∀ a:Addr,u = .ref a→wpAny (model X.prog X.w) X.A (call (.builtin "repr") [u]) (EP X pins σ Q) X.xe s:=fun a eu=>by
  subst eu
  obtain ⟨as,rd,sy⟩:=afv I.hok rp rx ep
  exact repr_of_reads' rd hs (fun z=>sy (hd z)) hg (by omega) (fun b o e=>e) (fun h' u tk hk=>⟨.str p.shown,H,I.kept hk,⟨u,rfl⟩,q⟩) sz
 cases rp with
 | non =>
  cases ep
  obtain rfl:u=Value.none:=rx
  exact PySem.P.repr_of_none ⟨.str _,H,I.tok _,⟨_,rfl⟩,q⟩
 | bl b =>
  cases ep
  obtain rfl:u=Value.bool b:=rx
  exact PySem.P.repr_of_bool ⟨.str _,H,I.tok _,⟨_,rfl⟩,q⟩
 | int i =>
  cases ep
  obtain ⟨t,rfl⟩:=rx
  exact PySem.P.repr_of_int (by simpa [PyData.showable] using hs) ⟨.str _,H,I.tok _,⟨_,rfl⟩,q⟩
 | str x =>
  cases ep
  obtain ⟨t,rfl⟩:=rx
  exact PySem.P.repr_of_str ⟨.str _,H,I.tok _,⟨_,rfl⟩,q⟩ sz
 | @tup a vs xs hp r=>exact big a rx
 | @rol a vs xs hp r=>exact big a rx
 | @rod a o us ks xs hp ek rs=>exact big a rx
 | ty _=>cases ep
 | scr _ _=>cases ep
 | ref _=>cases ep
 | rdT _ _ _=>cases ep
 | exc _ _ _=>cases ep
open Classical in
noncomputable def adg:List D→Hd→R D
 | [x],h=>(match toPy x with | some p=>if okR x p then .ok (.str p.shown) h else .no | none=>.no)
 | _,_=>.no
theorem ac2 {K:PySem.W.Frag}:adp K adg (aqm K):=by
 intro E ι H h xs ds Q r hr o
 unfold adg at o
 split at o
 ·split at o
  ·rename_i p ep
   split at o
   ·rename_i ok
    cases r with
    | cons r rs =>
     cases rs
     exact ⟨_,ι,_,p,rfl,r,ep,ok,ans o (.str _) hr⟩
   ·exact o.elim
  ·exact o.elim
 ·exact o.elim
theorem j4 {X:Cx}:CallR X (.builtin "isinstance") (fun xs H Q=>∃ a o us T b,xs=[.ref a, .ty T]∧H a=some (.frz o (.dK us))∧PySem.W.kitOne X.K (.type "dict") (.type T)=some b∧Q (.bl b) H):=by
 intro pins s σ H xs us Q I r h
 obtain ⟨a,o,kv,T,b,rfl,ea,e,q⟩:=h
 obtain ⟨u,w',rfl,rx,rt⟩:=vals2 r
 cases rt
 obtain rfl:u=Value.ref a:=rx
 obtain ⟨_,_,_,vs,_,p⟩:=(show ObjOk X.prog X.w H s.heap a (.frz o (.dK kv)) from I.hok a _ ea)
 obtain ⟨o',es,ep,h1,h2,_⟩:=p
 exact PySem.W.kia_one PySem.W.kitx_dict I.kIn ⟨o',h1,h2.1⟩ e (fun z=>nomatch z) fun tk=>⟨.bl b,H,I.tok tk,rfl,q⟩
def nq:List D→Hd→R D
 | [.rod ks xs, .ty T],h=>(match ah8 "dict" T with | some b=>.ok (.bl b) h | none=>.no)
 | ds,h=>ak5 ds h
theorem ph {K:PySem.W.Frag}:adp K nq (fun xs H Q=>(∃ x T t b,xs=[x, .ty T]∧TyOf K H x t∧PySem.W.kitOne K t (.type T)=some b∧Q (.bl b) H)∨∃ a o us T b,xs=[.ref a, .ty T]∧H a=some (.frz o (.dK us))∧PySem.W.kitOne K (.type "dict") (.type T)=some b∧Q (.bl b) H):=by
 intro E ι H h xs ds Q r hr o
 unfold nq at o
 split at o
 ·split at o
  ·rename_i b hb
   cases r with
   | cons r1 rs =>
    cases rs with
    | cons r2 rs2 =>
     cases rs2
     cases r2
     cases r1 with
     | rod hp ek rr=>exact .inr ⟨_,_,_,_,b,rfl,hp,af4 hb,ans o (.bl _) hr⟩
  ·exact o.elim
 ·exact .inl (alz E ι H h xs _ Q r hr o)
end MI
namespace MI
open PySem PySem.Spec L2
section
variable {env:Env} {es xs ys:List Expr} {a b:Expr} {pos:Pos}
theorem yg {c} {k}:starEach (.Constant c k pos::es) env=(false,eval (.Constant c k pos) env)::starEach es env:=rfl
theorem a6b:starEach (.List xs pos::es) env=(false,eval (.List xs pos) env)::starEach es env:=rfl
theorem a4g {k}:starEach (.Tuple xs k pos::es) env=(false,eval (.Tuple xs k pos) env)::starEach es env:=rfl
theorem amq {o}:starEach (.UnaryOp o a pos::es) env=(false,eval (.UnaryOp o a pos) env)::starEach es env:=rfl
theorem aiq {o}:starEach (.BinOp a o b pos::es) env=(false,eval (.BinOp a o b pos) env)::starEach es env:=rfl
theorem afw {ks}:starEach (.Dict ks ys pos::es) env=(false,eval (.Dict ks ys pos) env)::starEach es env:=rfl
end
section
variable {X:Cx} {E:XD} {es:List Expr} {ka:SA} {p q:Pos} {x:Str} {k:Nat}
theorem avb (h:MA X E es ka):MA X E (.List [] p::es) (ak (sZ (sA a2i bz)) ka):=aj (a6o (a0s aq)) h a6b
theorem avc {k} (h:MA X E es ka):MA X E (.Tuple [] k p::es) (ak (sA qx bz) ka):=aj (m8 aq) h a4g
theorem avd (h:MA X E es ka):MA X E (.Dict [] [] p::es) (ak (sZ ai7) ka):=aj (a6o am2) h afw
theorem ac3 {xs:List Expr} {kx:SA} (hx:MA X E xs kx) (h:MA X E es ka):MA X E (.List xs p::es) (ak (sZ (sA a2i kx)) ka):=aj (a6o (a0s hx)) h a6b
theorem a73 {k} {xs:List Expr} {kx:SA} (hx:MA X E xs kx) (h:MA X E es ka):MA X E (.Tuple xs k p::es) (ak (sA qx kx) ka):=aj (m8 hx) h a4g
theorem aqn {k} {i:Int} (h:MA X E es ka):MA X E (.List [.Constant (.int i) k q] p::es) (ak (sZ (sA a2i (ak (sC (.int i)) bz))) ka):=aj (a6o (a0s (aj bc aq yg))) h a6b
theorem afx {k l} {i:Int} (h:MA X E es ka):MA X E (.Tuple [.Constant (.int i) k q] l p::es) (ak (sA qx (ak (sC (.int i)) bz)) ka):=aj (m8 (aj bc aq yg)) h a4g
theorem adt (i:Int) {j} (h:MA X E es ka):MA X E (.Constant (.int i) j p::es) (ak (sC (.int i)) ka):=aj bc h yg
theorem amr {j} (h:MA X E es ka):MA X E (.Constant (.str x) j p::es) (ak (sC (.str x)) ka):=aj a4s h yg
theorem aqo (a b:Int) {i j} {pa pb:Pos} (h:MA X E es ka):MA X E (.BinOp (.Constant (.int a) i pa) .Pow (.Constant (.int b) j pb) p::es) (ak (s2 abq (sC (.int a)) (sC (.int b))) ka):=aj (aey bc bc) h aiq
theorem ac4 (a:Int) {i} {pa:Pos} (h:MA X E es ka):MA X E (.UnaryOp .USub (.Constant (.int a) i pa) p::es) (ak (s1 a4z (sC (.int a))) ka):=aj (a1g bc) h amq
theorem aqp {a:Bool} {j} (h:MA X E es ka):MA X E (.Constant (.bool a) j p::es) (ak (sC (.bl a)) ka):=aj a2c h yg
theorem aqq {j} (h:MA X E es ka):MA X E (.Constant .none j p::es) (ak (sC .non) ka):=aj apo h yg
end
end MI
namespace HND
open PySem PySem.Spec L2 MI
noncomputable def a4h:SS :=
 (o9 (sA a2i (ak (sZ (sA a0d (ak (sZ (a1w (sV 0) oN (oS (sC (.int 63))))) bz))) (ak (sC (.int 0)) (ak (sC (.int 0)) (ak (sC (.int 7)) (ak (sC (.int 0)) bz)))))))
noncomputable def a4i:SS :=
 (iu (sIf (sT (s2 gLt (sV 1) (sC (.int 2))))
 (o9 (sC (.int 0)))
 sNx)
 (iu (sIf (ad7 (sT (s2 hEq (s2 gIx (sV 0) (sC (.int 2))) (sC (.int 0)))) (sT (s2 gLt (s2 gIx (sV 0) (sC (.int 1))) (sA p7 (ak (s2 gIx (sV 0) (sC (.int 0))) bz)))))
 (iu (qi 2 (s2 gIx (s2 gIx (sV 0) (sC (.int 0))) (s2 gIx (sV 0) (sC (.int 1)))))
 (iu (afg a6n (sV 0) (sC (.int 1)) (sC (.int 1)))
 (iu (aam (s2 a01 (s2 jq (s2 a2e (s2 gIx (sV 0) (sC (.int 3))) (sC (.int 48271))) (sV 2)) (sC (.int 2147483647))) (sV 0) (sC (.int 3)))
 (sIf (sT (s2 gGe (sA aq0 (ak (sV 2) bz)) (s2 abq (sC (.int 10)) (sC (.int 18)))))
 (aam (sA aq0 (ak (sV 2) bz)) (sV 0) (sC (.int 2)))
 sNx))))
 sNx)
 (iu (sIf (sT (s2 gGt (s2 gIx (sV 0) (sC (.int 2))) (sC (.int 0))))
 (iu (qi 3 (s2 a01 (s2 gIx (sV 0) (sC (.int 2))) (sV 1)))
 (iu (aam (s2 abp (s2 gIx (sV 0) (sC (.int 2))) (sV 1)) (sV 0) (sC (.int 2)))
 (o9 (sV 3))))
 sNx)
 (iu (afg a6n (sV 0) (sC (.int 4)) (sC (.int 1)))
 (o9 (s2 a01 (s2 abp (s2 a01 (s2 abq (s2 jq (s2 gIx (sV 0) (sC (.int 3))) (s2 a2e (sC (.int 7368787)) (s2 gIx (sV 0) (sC (.int 4))))) (sC (.int 5))) (sC (.int 2147483647))) (sC (.int 1009))) (sV 1)))))))
noncomputable def yo:SS :=
 (iu (qi 0 (sC (.str " !\"#$&'()*+,-./0123456789:;<=>?@ABCDEFGHIJKLMNOPQRSTUVWXYZ[\\]^_`")))
 (o9 (s2 jq (sV 0) (sC (.str "abcdefghijklmnopqrstuvwxyz{|}~\n")))))
noncomputable def qd (dh:SF) (ao:SF):SS :=
 (iu (qi 4 (sA (j8 false 2 ao) (ak (sV 0) (ak (sA p7 (ak (sV 1) bz)) bz))))
 (iu (qi 2 (s2 jq (sV 2) (s2 gIx (sV 1) (sV 4))))
 (qi 1 (s2 jq (a1w (sV 1) oN (oS (sV 4))) (a1w (sV 1) (oS (s2 jq (sV 4) (sC (.int 1)))) oN)))))
noncomputable def xf (dh:SF) (ao:SF):SS :=
 (iu (qi 1 (sA (j8 false 0 dh) bz))
 (iu (qi 2 (sC (.str "")))
 (iu (abl (sRg a2s (ak (s2 jq (sC (.int 1)) (sA (j8 false 2 ao) (ak (sV 0) (ak (sC (.int 6)) bz)))) bz)) (kN 3) (qd dh ao))
 (o9 (sV 2)))))
noncomputable def a0h (ao:SF):SE :=
 (sA qx (ak (sC (.int 0)) (ak (sV 0) bz)))
noncomputable def a0i (ao:SF):SE :=
 (sA qx (ak (sV 1) (ak (sV 0) bz)))
noncomputable def xr (ao:SF):SS :=
 (iu (qi 7 (s2 a4x (s2 a4x (sA p7 (ak (sV 4) bz)) (sC (.int 1))) (sA (j8 false 2 ao) (ak (sV 0) (ak (sV 1) bz)))))
 (iu (sIf (sT (s2 hEq (sV 3) (sC (.int 0))))
 (qi 7 (sA (j8 false 2 ao) (ak (sV 0) (ak (sA p7 (ak (sV 4) bz)) bz))))
 sNx)
 (iu (aa4 (sML a3i (sV 4) (ak (sV 7) bz)) (a8f 2 (qp (kN 8) (qp (kN 9) a92))))
 (iu (aam (sV 6) (s2 gIx (sV 5) (sV 8)) (sV 9))
 (iu (a1e (sML aan (sV 5) (ak (s2 a2e (sZ (sA a2i (ak (sC (.int 0)) bz))) (sV 1)) bz)))
 (a1e (sML afi (sV 4) (ak (sZ (wz (sRg a2s (ak (sV 1) bz)) t1 (a0i ao) [6])) bz))))))))
noncomputable def xu (ao:SF):SS :=
 (aam (sA (j8 false 2 ao) (ak (sV 0) (ak (sV 2) bz))) (s2 gIx (sV 5) (sV 8)) (sV 9))
noncomputable def a1x (ao:SF):SS :=
 (iu (qi 3 (sA (j8 false 2 ao) (ak (sV 0) (ak (sC (.int 2)) bz))))
 (iu (qi 4 (wz (sRg a2s (ak (sV 1) bz)) t1 (a0h ao) []))
 (iu (qi 5 (sA a2i (ak (s2 a2e (sZ (sA a2i (ak (sC (.int 0)) bz))) (sV 1)) bz)))
 (iu (abl (sRg a6m (ak (sC (.int 1)) (ak (sV 2) bz))) (kN 6) (xr ao))
 (iu (abl (sIt (sV 4)) (a8f 2 (qp (kN 8) (qp (kN 9) a92))) (xu ao))
 (o9 (sV 5)))))))
noncomputable def wj (ao:SF):SS :=
 (iu (qi 5 (s2 a4x (sA (j8 false 2 ao) (ak (sV 0) (ak (sC (.int 7)) bz))) (sC (.int 1))))
 (iu (sIf (sT (s2 hEq (sV 2) (sC (.int 1))))
 (qi 5 (s2 abp (sV 5) (sC (.int 5))))
 sNx)
 (iu (sIf (ad7 (sT (s2 hEq (sV 2) (sC (.int 2)))) (sT (s2 gGt (sA (j8 false 2 ao) (ak (sV 0) (ak (sC (.int 3)) bz))) (sC (.int 0)))))
 (qi 5 (s1 a4z (sC (.int 1))))
 sNx)
 (a1e (sML aan (sV 3) (ak (sV 5) bz))))))
noncomputable def a0j (ao:SF):SS :=
 (iu (qi 2 (sA (j8 false 2 ao) (ak (sV 0) (ak (sC (.int 3)) bz))))
 (iu (qi 3 (sA a2i (ak (s1 a4z (sC (.int 1))) bz)))
 (iu (abl (sRg a6m (ak (sC (.int 1)) (ak (sV 1) bz))) (kN 4) (wj ao))
 (o9 (sV 3)))))
noncomputable def vp (ao:SF):ST :=
 (sT (s2 gGt (sA p7 (ak (sV 3) bz)) (sC (.int 0))))
noncomputable def u5 (ao:SF):SS :=
 (a1e (sML aan (sV 4) (ak (sML a3i (sV 3) (ak (sA (j8 false 2 ao) (ak (sV 0) (ak (sA p7 (ak (sV 3) bz)) bz))) bz)) bz)))
noncomputable def a4j (ao:SF):SE :=
 (sA qx bz)
noncomputable def a4k (ao:SF):SE :=
 (s1 a4z (sC (.int 1)))
noncomputable def a05 (ao:SF):SE :=
 (s2 gIx (sV 1) (sV 0))
noncomputable def u9 (ao:SF):SS :=
 (iu (aam (sA ym (ak (sZ (wz (sIt (sV 8)) t1 (a05 ao) [4])) bz)) (sV 5) (s2 gIx (sV 4) (sV 7)))
 (aam (s2 gIx (sV 2) (sV 7)) (sV 6) (s2 gIx (sV 4) (sV 7))))
noncomputable def wk (ao:SF):SS :=
 (iu (qi 3 (sA a9f (ak (sC (.int 1)) (ak (sA p7 (ak (sV 1) bz)) bz))))
 (iu (qi 4 (sA a2i (ak (sC (.int 0)) bz)))
 (iu (sWh (vp ao) (u5 ao) 100000)
 (iu (qi 5 (wz (sIt (sV 1)) t1 (a4j ao) []))
 (iu (qi 6 (wz (sIt (sV 1)) t1 (a4k ao) []))
 (iu (abl (a7v (sV 1)) (a8f 2 (qp (kN 7) (qp (kN 8) a92))) (u9 ao))
 (o9 (sA qx (ak (sA ym (ak (sV 5) bz)) (ak (sA ym (ak (sV 6) bz)) bz))))))))))
noncomputable def vq (qe:SF) (m9:SF) (jm:SF) (ao:SF) (ju:SF):SS :=
 (iu (qi 1 (sA (j8 false 1 ju) (ak (sV 0) bz)))
 (iu (qi 2 (s2 jq (sC (.int 1)) (sA (j8 false 2 ao) (ak (sV 0) (ak (sC (.int 6)) bz)))))
 (iu (sIf (sT (s2 hEq (sA (j8 false 2 ao) (ak (sV 0) (ak (sC (.int 4)) bz))) (sC (.int 0))))
 (qi 2 (s2 jq (sC (.int 1)) (sA (j8 false 2 ao) (ak (sV 0) (ak (sC (.int 32)) bz)))))
 sNx)
 (iu (aa4 (sA (j8 false 3 jm) (ak (sV 0) (ak (sA (j8 false 3 qe) (ak (sV 0) (ak (sA p7 (ak (sV 1) bz)) (ak (sV 2) bz)))) (ak (sA (j8 false 2 m9) (ak (sV 0) (ak (sV 2) bz))) bz)))) (a8f 2 (qp (kN 3) (qp (kN 4) a92))))
 (o9 (sA qx (ak (sV 1) (ak (sV 3) (ak (sV 4) bz)))))))))
end HND
namespace MI
open PySem PySem.Spec L2
end MI
namespace TPM
open PySem PySem.Spec PySem.W L2 HT MI PyProof.Rows
end TPM
namespace MI
open PySem PySem.Spec L2 TPM
end MI
namespace L2
open PySem PySem.Spec PySem.W PyProof.Rows
structure Air (stack:List Env) (H:Hp) (h0 B:Heap) (a C:Addr) (t:Value) (h:Heap):Prop where
 fly:Heap.FlyingW B stack a (.ref C) t h
 bk:∀ b o,h.get? b=some o→b ∉ frs stack→(H b≠none∨∃ o0,h0.get? b=some o0)→B.get? b=some o
def CXE (P:Program) (w:World):CXT:=fun outer H s E e s' =>
 ∃ a C t B H',e = .ref a∧s'.os=s.os∧AllBare s'.gens∧Un (frs outer) [] H H' s.heap s'.heap∧HOk P w H' s'.heap∧Air outer H' s.heap B a C t s'.heap∧E (.ref C) none H'
section
variable {P:Program} {w:World} {H H':Hp} {h h':Heap}
theorem HOk.is (x:HOk P w H h) {a:Addr} {o:HO} (e:H a=some o):∃ ob,h.get? a=some ob:=by
 have:=x a o e
 cases o with
 | lst xs=>obtain ⟨_,_,_,_,e⟩:=this;exact ⟨_,e⟩
 | tup xs=>obtain ⟨_,_,_,ob,e,_⟩:=this;exact ⟨_,e⟩
 | dK kvs=>obtain ⟨_,_,_,_,o,_,_,e,_⟩:=this;exact ⟨_,e⟩
 | dT kvs=>obtain ⟨_,_,_,_,o,_,_,e,_⟩:=this;exact ⟨_,e⟩
 | set S n=>obtain ⟨o,_,_,_,e,_⟩:=this;exact ⟨_,e⟩
 | ins C dx fs=>obtain ⟨_,_,_,e,_⟩:=this;exact ⟨_,e⟩
 | own y=>exact this
 | xd fs=>obtain ⟨_,⟨_,_,_,e,_⟩,_⟩:=this;exact ⟨_,e⟩
 | rng lo hi=>obtain ⟨_,_,_,e⟩:=this;exact ⟨_,e⟩
 | frz ob u=>exact ⟨_,this.1⟩
 | tbl ps=>exact ⟨_,this⟩
 | met f y=>exact ⟨_,this⟩
 | ext φ=>exact this.2.1
theorem HOk.track (x:HOk P w H h) (k:∀ b u,H b≠none→h.get? b=some u→h'.get? b=some u):HOk P w H h':=fun a o e =>
 (x a o e).stay (fun b u hb q=>k b u (by
  rcases hb with rfl | hb
  ·rw [e];simp
  ·rw [hb];simp) q) (fun _ q=>q) fun _ _ q=>q
end
section
variable {P:Program} {w:World} {K:PySem.W.Frag} {mg:Str→Option Value} {base:Heap} {N:List Str} {qual:Str} {scope:Scope} {f:Addr} {cd:Value} {A:Around} {outer:List Env} {s0:Shared} {H0:Hp} {E:XK} {pins:List (Addr × Obj)} {σ:St} {H:Hp} {s:Shared}
abbrev cxE (P:Program) (w:World) (K:PySem.W.Frag) (mg:Str→Option Value) (base:Heap) (N:List Str) (qual:Str) (scope:Scope) (f:Addr) (cd:Value) (A:Around) (outer:List Env) (s:Shared) (H:Hp) (E:XK):Cx:=a00 (CXE P w) P w K mg base N qual scope f cd A outer s H E
theorem ais {B:Heap} {a C:Addr} {t:Value} {h1 h2:Heap} (I:Inv (cxE P w K mg base N qual scope f cd A outer s0 H0 E) pins σ H { s with heap:=h1 }) (hB:∀ b o,h1.get? b=some o→b ∉ frs (envOfC qual scope s0.heap.objs.size f cd::outer)→(H b≠none∨∃ o0,s0.heap.get? b=some o0)→B.get? b=some o)
  (sl:∀ b o,h1.get? b=some o→b∈frs outer→∃ sl,h2.get? b=some { o with slots:=sl }) (fly:Heap.FlyingW B outer a (.ref C) t h2) (e:E (.ref C) none H):CXE P w outer H0 s0 E (.ref a) { s with heap:=h2 }:=by
 have lo:∀ b,b∈frs (envOfC qual scope s0.heap.objs.size f cd::outer)→b=s0.heap.objs.size∨b∈frs outer:=fun b hb=>by
  unfold frs at hb ⊢
  rw [List.filterMap_cons] at hb
  rcases List.mem_cons.mp hb with rfl | hb
  ·exact .inl rfl
  ·exact .inr hb
 have stk:∀ b,b∈frs (envOfC qual scope s0.heap.objs.size f cd::outer)→H b=none:=fun b hb=>I.stkFree b hb
 have old:∀ b o,s0.heap.get? b=some o→b ∉ frs outer→b ∉ frs (envOfC qual scope s0.heap.objs.size f cd::outer):=fun b o q n z=>by
  rcases lo b z with rfl | z
  ·exact absurd (Heap.lt_size q) (Nat.lt_irrefl _)
  ·exact n z
 have tr:∀ b u,H b≠none→h1.get? b=some u→h2.get? b=some u:=fun b u hn q=>fly.1 _ _ (hB b u q (fun z=>hn (stk b z)) (.inl hn))
 have ba:=I.base
 refine ⟨a,C,t,B,H,rfl,I.os,I.bare,⟨?_,?_,ba.free,?_,ba.tups,ba.frzs,ba.tbls⟩,I.hok.track tr,⟨fly,?_⟩,e⟩
 ·intro b o q n hf hx
  exact fly.1 _ _ (hB b o (ba.keep b o q n hf hx) (old b o q hf) (.inr ⟨o,q⟩))
 ·intro b o q n hf hx
  obtain ⟨s1,q1⟩:=ba.slot b o q n hf hx
  obtain ⟨s2,q2⟩:=sl b _ q1 hf
  exact ⟨s2,q2⟩
 ·intro b o q hx
  obtain ⟨o1,q1⟩:=ba.there b o q hx
  by_cases hf:b∈frs outer
  ·obtain ⟨s2,q2⟩:=sl b _ q1 hf
   exact ⟨_,q2⟩
  ·exact ⟨_,fly.1 _ _ (hB b o1 q1 (old b o q hf) (.inr ⟨o,q⟩))⟩
 ·intro b o q nf c
  have hh:b ∉ frs (envOfC qual scope s0.heap.objs.size f cd::outer):=fun z=>by
   rcases c with c | ⟨o0,c⟩
   ·exact c (stk b z)
   ·exact old b o0 c nf z
  obtain ⟨o1,q1⟩:∃ o1,h1.get? b=some o1:=by
   rcases c with c | ⟨o0,c⟩
   ·cases e1:H b with
    | none=>exact absurd e1 c
    | some u=>exact I.hok.is e1
   ·exact ba.there b o0 c (by intro z;cases z)
  have q2:=hB b o1 q1 hh c
  have q3:=fly.1 _ _ q2
  rw [q3] at q
  cases q
  exact q2
theorem a6c {X:Cx} {pins:List (Addr × Obj)} {σ:St} {H:Hp} {s:Shared} (I:Inv X pins σ H s) {b:Addr} {o:Obj} (hb:b∈frs X.stack) (q:s.heap.get? b=some o):∀ vs,o.data≠.fields vs:=by
 obtain ⟨_,o1,q1,d⟩:=I.stack.mem hb
 rw [q] at q1
 cases q1
 exact d
theorem ave {h':Heap} {a C:Addr} {args:List Value} (I:Inv (cxE P w K mg base N qual scope f cd A outer s0 H0 E) pins σ H s) (mk:Heap.MadeExcOf s.heap h' a (.ref C) args) (e:E (.ref C) none H):(cxE P w K mg base N qual scope f cd A outer s0 H0 E).xe (.ref a) { s with heap:=h' }:=by
 have hin:∀ b,b∈frs outer→b∈frs (envOfC qual scope s0.heap.objs.size f cd::outer):=fun b hb=>by
  unfold frs at hb ⊢
  rw [List.filterMap_cons]
  exact List.mem_cons_of_mem _ hb
 have st:=I.stack
 refine wpAny_leaves_madeW (base:=hideAll s.heap (frs (envOfC qual scope s0.heap.objs.size f cd::outer))) (h:=s.heap) I.ok.frames (L:=s0.heap.objs.size) rfl (fun b o q=>of_hideAll _ q) (funFrames_hide st fun env he b hb=>List.mem_filterMap.mpr ⟨env,he,hb⟩) mk fun h2 t fl tu bt up=>?_
 exact ais (h1:=s.heap) I (fun b o q nf _=>hideAll_get _ q nf) (fun b o q hb=>up b o (mk.keeps b o q) (a6c I (hin b hb) q)) fl e
end
structure XCls (K:PySem.W.Frag) (C:Addr):Prop where
 obj:∃ (nm q:Str) (N:Addr) (bs bm:List Value) (hdct:Bool) (sn:List Str) (sub:List Value) (ab:Bool) (col:Option Bool) (dd:Option Addr) (k0 k1 k2 k3 k5:Option Value),
  K.lookup C=some (excClassObj nm q C N bs bm hdct sn sub ab col dd k0 k1 k2 k3 k5 "ValueError.__new__")∧nsOkIn K N=true∧nsIn K N "__init__" = some none∧tailIn K [.type "ValueError", .type "Exception", .type "BaseException", .type "object"] bm=true
def aqr (t:TA) (Ex:Hp→Prop):TS:=fun _ σ H=>t σ H fun vs H1=>vs.length≤sizeLine∧Ex H1
section
variable {X:Cx} {C:Addr} {x:Str} {np cpos pos:Pos} {e:Expr} {es:List Expr} {t:TA} {Ex:Hp→Prop}
theorem ait (hC:XCls X.K C) (hg:Gl X x) (hm:X.mg x=some (.ref C)) (hc:X.calm=true) (ha:PA X (e::es) t)
  (lk:∀ (pins:List (Addr × Obj)) (σ:St) (H:Hp) (s:Shared) (h':Heap) (a:Addr) (args:List Value),Inv X pins σ H s→Heap.MadeExcOf s.heap h' a (.ref C) args→Ex H→X.xe (.ref a) { s with heap:=h' })
  (hdb:(x == ("__debug__" : Str))=false:=by decide) (he:starEach (e::es) X.env=(false,eval e X.env)::starEach es X.env:=by rfl) (hpl:(backTo cpos (starEach es X.env)).any (·.1)=false:=by rfl) :
  PS X (.Raise (some (.Call (.Name x np) (e::es) [] cpos)) none pos) (aqr t Ex):=by
 intro pins s σ H D I h
 obtain ⟨nm,q,N,bs,bm,hdct,sn,sub,ab,col,dd,k0,k1,k2,k3,k5,lo,ok,ni,ti⟩:=hC.obj
 refine wpAny_Raise_call_subT (C:=C) (nm:=nm) (q:=q) (N:=N) (bs:=bs) (bm:=bm) (hdct:=hdct) (sn:=sn) (sub:=sub) (ab:=ab) (col:=col) (dd:=dd) (k0:=k0) (k1:=k1) (k2:=k2) (k3:=k3) (k5:=k5)
  PySem.F.excBase_ValueError (mN:=X.base.nsMap N) ((tail_of_in I.kIn ti).hasType PySem.F.excBase_ValueError.hasBase) (I.ok.hd hc) (by rw [he];show (false || (backTo cpos (starEach es X.env)).any (·.1))=false;rw [hpl];rfl) (nsMap_none_of_in I.ok.mod.kin ok ni) (a3t I hg hm ⟨rfl,?_⟩ hdb)
 have h2:=ha cpos pins s σ H _ I h
 rw [he] at h2 ⊢
 refine Calls.evalArgs_plain (thn h2 fun us s1 ⟨vs,H1,I1,r,z,ex⟩=>?_)
 exact ⟨rfl,by rw [← r.length];exact z,I1.kIn _ _ lo, .keeps (.of_isNs (isNs_of_in I1.ok.mod.kin ok)) I1.bk,tail_of_in I1.kIn ti,fun h' a mk=>lk pins σ H1 s1 h' a us I1 mk ex⟩
end
end L2
namespace L2
open PySem PySem.Spec PySem.W PyProof.Rows Builtin Builtin.ObjectAttr Builtin.Getset_descriptor
section
variable {prog:Program} {w:World} {A:Around} {E:Value→Shared→Prop} {s:Shared} {K:Frag} {x D:Addr} {ox:Obj} {odo:Option Obj}
structure XKit (K:Frag) (D:Addr):Prop where
 ga:findIn K (.ref D) "__getattribute__" = some (some (.builtin "BaseException.__getattribute__"))
 gn:findIn K (.ref D) "__getattr__" = some none
 cl:(clsIn K D).isSome=true
 ca:findIn K (.ref D) "__class__" = some (some (.builtin "object.__class__"))
 sp:specialIn K (.builtin "object.__class__") "__get__" = some (some (.builtin "getset_descriptor.__get__"))
 tk:takesIn K (.builtin "object.__class__")=some true
 ob:mroIn K D (.type "object")=some true
 be:subIn K (.ref D) (.type "BaseException")=some true
 kc:kitCls K (.ref D) (.ref D)=some true
abbrev ExAt (x D:Addr) (h:Heap):Prop:=∃ o,h.get? x=some o∧o.cls = .ref D
theorem ExAt.ty {M:Model} {h:Heap} (I:ExAt x D h):Looks M h (typeOf (.ref x)) (.ref D):=by
 obtain ⟨o,q,c⟩:=I
 exact c ▸ (Looks.ld q).andThen .now
theorem ams {R:Result→Shared→Prop} {tp:Value} (Z:XKit K D) (X:K.In s.heap) (I:ExAt x D s.heap) (h:R (.ok (.ret (.ref D))) s):codeAny (model prog w) A (.call (.builtin "getset_descriptor.__get__") ⟨[.builtin "object.__class__", .ref x,tp],[]⟩) R s:=by
 obtain ⟨hh,g,d,t,os⟩:=s
 have T0:=ExAt.ty (M:=model prog w) I
 have T1:=looks_mroIn (M:=model prog w) X Z.ob
 refine codeAny_call_builtin KF.slot_gs.plain KF.entry_gs (KF.slot_gs.check _ _ _ _ _ _ _ _ KF.type_class (KF.args_gs _ _ _) ?_);unfold Builtin.«getset_descriptor.__get__» descrGet;rw [dga_obj]
 refine wpAny_bind (wpAny_pure ?_);unfold descrGetter descrCheckInstance descrNameAndClass isInstance;simp only [KF.owner_class]
 repeat lk
 refine ⟨Code.quiet_builtin _ (by decide +kernel),codeAny_builtin KF.entry_class ?_⟩;unfold Builtin.«object.__class__» shownTypeOf
 repeat lk
 exact h
theorem aiu {M:Model} {h:Heap} (Z:XKit K D) (X:K.In h):Looks M h (Builtin.ObjectAttr.find (.ref x) (.ref D) "__class__") (.bind (.builtin "getset_descriptor.__get__") (.builtin "object.__class__")):=by
 refine (looks_findIn X Z.ca).andThen (Looks.andThen (a:=some (.builtin "getset_descriptor.__get__")) (looks_specialIn X Z.sp) (Looks.andThen (a:=some (.builtin "getset_descriptor.__get__", .builtin "object.__class__")) ?_ (Looks.tag .now)))
 exact (looks_takesIn X Z.tk).andThen .now
theorem afy {Q:Option Value→Shared→Prop} (Z:XKit K D) (X:K.In s.heap) (I:ExAt x D s.heap) (h:Q (some (.ref D)) { s with toks:=s.toks+1 }):wpAny (model prog w) A (getAttr? (.ref x) "__class__") Q E s:=by
 obtain ⟨hh,g,d,t,os⟩:=s
 have T0:=ExAt.ty (M:=model prog w) I
 have T1:=looks_findIn (M:=model prog w) X Z.ga
 have T2:=looks_findIn (M:=model prog w) X Z.gn
 have T3:=aiu (M:=model prog w) (x:=x) Z X
 have T4:Looks (model prog w) hh (isInstance (.ref x) (.type "BaseException")) true:=T0.andThen (looks_subIn X Z.be)
 have f3:=PySem.F.attrBase_ValueError.ga.bind (.ref x)
 have nb:(Value.builtin "BaseException.__getattribute__" == Value.builtin "object.__getattribute__")=false:=by decide +kernel
 have nh:(onTheHeap (Value.ref D) && Value.builtin "BaseException.__getattribute__" == Value.builtin "object.__getattribute__")=false:=by rw [nb];rfl
 unfold getAttr? getAttrBy? getAttrBy;refine wpAny_bind (wpAny_mkText (wpAny_bind (wpAny_attempt (wpAny_holding (wpAny_bind (T0.at (wpAny_bind (T1.at ?_))))))));dsimp only
 rw [nh,if_neg Bool.false_ne_true]
 unfold getAttrByItsOwn
 show wpAny _ _ (typeLookup (.ref D) "__getattr__">>=fun before=>_) _ _ _
 refine wpAny_bind (T2.at (wpAny_bind (wpAny_attempt (wpAny_holding ?_))))
 show wpAny _ _ (boundAndCalled _ _ _) _ _ _
 unfold boundAndCalled
 rw [f3]
 refine wpAny_bind (wpAny_pure (wpAny_call (codeAny_call_builtin PySem.F.attrBase_ValueError.ga.plain PySem.F.entry_bexc_ga ?_)))
 have k1:builtinKind "BaseException.__getattribute__" = some .slot:=by decide +kernel
 have k2:splitId "BaseException.__getattribute__" = some ("BaseException", "__getattribute__"):=by decide +kernel
 have k3:=PySem.F.args_bexc_ga (.ref x) (.str "__class__" t)
 simp only [checkBuiltinCall,k1,k2]
 show wpAny _ _ (isInstance (.ref x) (.type "BaseException")>>=fun b=>_) _ _ _
 refine wpAny_bind (T4.at ?_)
 rw [if_neg (by decide)]
 refine wpAny_mono (Q:=fun _ s'=>s'=⟨hh,g,d,t+1,os⟩) (E:=fun _ _=>False) ?_ (fun u s' e=>?_) (fun _ _ z=>z.elim)
 ·repeat (any_goals (first | assumption | rfl | wp_step))
 ·subst e
  unfold Builtin.«object.__getattribute__»
  repeat (first | with_reducible refine T0.at ?_ | with_reducible refine T3.at ?_ | wp_step)
  exact ams (s:=⟨hh,g,d,t+1,os⟩) Z X I (wpAny_pure (handed_on rfl (wpAny_pure h)))
theorem XKit.at (Z:XKit K D):∃ c o cd sl,K.lookup D=some ⟨c,o, .cls cd,sl⟩:=by
 have:=Z.cl
 unfold clsIn at this
 split at this
 ·exact ⟨_,_,_,_, ‹_›⟩
 ·cases this
theorem XKit.no (Z:XKit K D) {h:Heap} {tp:Addr} {dd:Option Addr} {its:List Value} {n:Nat} {sl:Array (Option Value)} (X:K.In h) (q:h.get? tp=some ⟨.type "tuple",dd, .seq its.toArray n,sl⟩):(Value.ref D == .ref tp)=false :=
 beq_eq_false_iff_ne.mpr fun e=>by
  obtain ⟨_,_,_,_,lo⟩:=Z.at
  rw [Value.ref.inj e] at lo
  have:=X _ _ lo
  rw [q] at this
  cases this
theorem ac6 (Z:XKit K D):KitX K (.ref x) (.ref D) (ExAt x D) :=
 ⟨fun _ _ _ I=>ExAt.ty I,fun _ _ X _=>(kit_cls X Z.kc).2.1,fun _ _ _ _ _ _ X q=>Z.no X q,fun X I q=>afy Z X I q⟩
end
end L2
namespace L2
open PySem PySem.Spec PySem.W PyProof.Rows
section
variable {X:Cx} {pins:List (Addr × Obj)} {σ:St} {H H1 H':Hp} {s s1 s':Shared}
theorem a80 {M:Model} {A:Around} {E:Value→Shared→Prop} {i:Nat} {n:Str} {pos:Pos} {Q:Unit→Shared→Prop} (I:Inv X pins σ H s) (hN:X.N.Nodup) (hi:X.N[i]? = some n) (hk:X.env.scope.names.lookup n=some .local)
  (h:∀ s',Inv X pins (σ.set i none) H s'→Q () s'):wpAny M A (do bindName X.env n .none;unbindBehindTheSuite X.env n pos) Q E s:=by
 obtain ⟨m,hn,hl⟩:=id I.loc
 have hcls:(X.env.scope.kind == .class || (X.env.scope.kind == .module && X.env.locals != X.env.globals))=false:=by rw [I.ok.kind];rfl
 have cne:=I.cne
 obtain ⟨oL,_,_,hoL,_⟩:=id hn
 refine wpAny_nameGoes_keeps hk hn hcls fun h' v hn' hs=>h _ ?_
 have far:∀ b o,X.s₀.heap.get? b=some o→b≠X.env.locals:=fun b o e=>Nat.ne_of_lt (Nat.lt_of_lt_of_le (Heap.lt_size e) I.ok.above)
 refine ⟨I.ok,I.os,I.bare,⟨fun b o e n hb hx=>(hs.2 b (far b o e)).trans (I.base.keep b o e n hb hx),fun b o e n hb hx=>?_,I.base.free,fun b o e hx=>?_,I.base.tups,I.base.frzs,I.base.tbls⟩,⟨_,hn',fun j y v' e1 e2 e3=>?_⟩,fun y c e=>?_,I.free,I.freeC,fun p hp=>?_,I.hok.track fun b u hb q=>?_,by simpa using I.len⟩
 ·obtain ⟨sl,q⟩:=I.base.slot b o e n hb hx
  exact ⟨sl,(hs.2 b (far b o e)).trans q⟩
 ·obtain ⟨o1,q⟩:=I.base.there b o e hx
  exact ⟨o1,(hs.2 b (far b o e)).trans q⟩
 ·have ji:j≠i:=fun z=>by
   subst z
   rw [List.getElem?_set] at e2
   simp at e2
  rw [List.getElem?_set_ne (Ne.symm ji)] at e2
  obtain ⟨u',r',q⟩:=hl j y v' e1 e2 e3
  refine ⟨u',r',?_⟩
  rcases q with ⟨k,e⟩ | ⟨k,c,e,z⟩
  ·refine .inl ⟨k,?_⟩
   have:y≠n:=fun e=>ji (a7c hN e1 (e ▸ hi))
   simp [this,e]
  ·exact .inr ⟨k,c,e,z.sameBut hs (cne y c e)⟩
 ·obtain ⟨w',z⟩:=I.cell y c e
  exact ⟨w',z.sameBut hs (cne y c e)⟩
 ·obtain ⟨e,n,ne,nf,d⟩:=I.pin p hp
  exact ⟨(hs.2 p.1 ne).trans e,n,ne,nf,d⟩
 ·refine (hs.2 b fun z=>?_).trans q
  subst z
  exact hb I.free
theorem aka {B h5:Heap} {a C:Addr} {t:Value} (I1:Inv X pins σ H1 s1) (os:s'.os=s1.os) (bare:AllBare s'.gens) (un:Un (frs X.stack) [] H1 H' s1.heap s'.heap) (hok:HOk X.prog X.w H' s'.heap) (air:Air X.stack H' s1.heap B a C t s'.heap)
  (st:B.StaysIn h5) (up:s'.heap.UpToSlots h5) (tk:Nat):Inv X pins σ H' { s' with heap:=h5,toks:=tk }:=by
 have I2:Inv X pins σ H' s':=I1.call' os un hok bare (by intro b z;cases z)
 refine I1.call' (s':={ s' with heap:=h5,toks:=tk }) os ⟨fun b o q n hf hx=>?_,fun b o q n hf hx=>?_,un.free,fun b o q hx=>?_,un.tups,un.frzs,un.tbls⟩ (hok.track fun b u hn q=>?_) bare (by intro b z;cases z)
 ·exact st _ _ (air.bk b o (un.keep b o q n hf hx) hf (.inr ⟨o,q⟩))
 ·obtain ⟨s2,q2⟩:=un.slot b o q n hf hx
  obtain ⟨s3,q3⟩:=up b _ q2 (a6c I2 hf q2)
  exact ⟨s3,q3⟩
 ·obtain ⟨o1,q1⟩:=un.there b o q hx
  by_cases hf:b∈frs X.stack
  ·obtain ⟨s3,q3⟩:=up b _ q1 (a6c I2 hf q1)
   exact ⟨_,q3⟩
  ·exact ⟨_,st _ _ (air.bk b o1 q1 hf (.inr ⟨o,q⟩))⟩
 ·exact st _ _ (air.bk b u q (fun z=>hn (I2.stkFree b z)) (.inl hn))
abbrev Cx.inEx (X:Cx) (a:Addr):Cx:={ X with A:=X.A.mark (some (.ref a)),calm:=false,xe:=fun _ _=>False }
theorem Cx.Ok.inEx (ok:X.Ok) (a:Addr):(X.inEx a).Ok:=⟨ok.mod,ok.kind,ok.glob,ok.blt,ok.above,ok.inj,ok.has,ok.cab,fun z=>(Bool.noConfusion (show false=true from z)),ok.frames,ok.stk,ok.exf,ok.bs,ok.bsz,ok.noex,ok.exfs,ok.funs,ok.frf⟩
theorem Inv.inEx (I:Inv X pins σ H s) (a:Addr):Inv (X.inEx a) pins σ H s:=⟨I.ok.inEx a,I.os,I.bare,I.base,I.loc,I.cell,I.free,I.freeC,I.pin,I.hok,I.len⟩
theorem Inv.outEx {a:Addr} (ok:X.Ok) (I:Inv (X.inEx a) pins σ H s):Inv X pins σ H s:=⟨ok,I.os,I.bare,I.base,I.loc,I.cell,I.free,I.freeC,I.pin,I.hok,I.len⟩
def exO (a:Addr):HO:=.ext fun h=>∃ o,h.get? a=some o
theorem Inv.exc {a:Addr} {oe:Obj} (I:Inv X pins σ H s) (I1:Inv X pins σ H1 s1) (he:s.heap.get? a=some oe) (ha:H a=none) (na:s1.heap.get? a=none):Inv X pins σ (upd H a (.frz oe (exO a))) s:=by
 have old:∀ b o,s1.heap.get? b=some o→b≠a:=fun b o q z=>by subst z;rw [na] at q;cases q
 have sm:∀ b o,s1.heap.get? b=some o→upd H a (.frz oe (exO a)) b=H b:=fun b o q=>iz (old b o q)
 have kp:∀ b u,H b=some u→upd H a (.frz oe (exO a)) b=some u:=fun b u q=>by
  rw [iz]
  ·exact q
  ·intro z;subst z;rw [ha] at q;cases q
 have ba:=I.base
 refine ⟨I.ok,I.os,I.bare,⟨ba.keep,ba.slot,fun b o q n hx=>?_,ba.there,fun b xs q=>kp _ _ (ba.tups b xs q),fun b o u q=>kp _ _ (ba.frzs b o u q),fun b ps q=>?_⟩,I.loc,I.cell,?_,fun y c e=>?_,fun p hp=>?_,fun b u q=>?_,I.len⟩
 ·obtain ⟨o1,q1⟩:=I1.base.there b o q hx
  rw [sm b o1 q1]
  exact ba.free b o q n hx
 ·obtain ⟨more,q1⟩:=ba.tbls b ps q
  exact ⟨more,kp _ _ q1⟩
 ·obtain ⟨_,⟨o,_,_,q,_⟩,_⟩:=I1.loc
  rw [sm _ _ q]
  exact I.free
 ·obtain ⟨v,o,q,_⟩:=I1.cell y c e
  rw [sm _ _ q]
  exact I.freeC y c e
 ·obtain ⟨e,n,ne,nf,d⟩:=I.pin p hp
  exact ⟨e,by rw [sm _ _ (I1.pin p hp).1];exact n,ne,nf,d⟩
 ·by_cases hb:b=a
  ·subst hb
   rw [jy] at q
   cases q
   exact ⟨he,⟨oe,he⟩,⟨oe,he⟩,fun h1 h2 ⟨o,q⟩ k=>⟨o,k o q⟩⟩
  ·rw [iz hb] at q
   exact (I.hok b u q).stay (fun _ _ _ z=>z) (fun c z=>kp _ _ z) fun c xs z=>kp _ _ z
end
def XP (X:Cx) (pins:List (Addr × Obj)) (σ:St) (E:XK) (e:Value) (s':Shared):Prop:=∃ s1 H1,Inv X pins σ H1 s1∧CXE X.prog X.w X.stack H1 s1 E e s'
structure Hnd (X:Cx) (R:Addr) (x n:Str) (i:Nat):Prop where
 hg:Gl X x
 hm:X.mg x=some (.ref R)
 nd:X.N.Nodup
 hi:X.N[i]? = some n
 lo:X.env.scope.names.lookup n=some .local
 st:X.stack=X.env::X.outer∧X.env.frame=some X.env.locals
 db:(x == ("__debug__" : Str))=false
section
variable {X:Cx} {pins:List (Addr × Obj)} {σ:St} {s s':Shared}
def avf (D:Ends) (i:Nat):Ends:={ nx:=fun σ H=>D.nx (σ.set i none) H,rt:=D.rt,bk:=fun σ H=>D.bk (σ.set i none) H,ct:=fun σ H=>D.ct (σ.set i none) H }
theorem aiv {R:Addr} {x n:Str} {i:Nat} {np pos:Pos} {b0:Stmt} {suite:List Stmt} {ts:TS} {D:Ends} {E:XK} {e:Value} (N:Hnd X R x n i) (hs:∀ a,PSs (X.inEx a) (b0::suite) ts)
  (mt:∀ C H,E (.ref C) none H→exmOne X.K (.ref C) (.ref R)=some true∧∀ a oe,oe.cls = .ref C→H a=none→ts (avf D i) (σ.set i (some (.ref a))) (upd H a (.frz oe (exO a))))
  (h:XP X pins σ E e s') :
  wpAny (model X.prog X.w) X.A (noteFrame e X.env) (fun _ s2=>wpAny (model X.prog X.w) X.A (setFlight e none) (fun _ s3=>wpAny (model X.prog X.w) X.A (handleBy e X.env [.ExceptHandler (some (.Name x np)) (some n) (b0::suite) pos]) (SP X pins D) X.xe s3) X.xe s2) X.xe s':=by
 obtain ⟨s1,H1,I1,a,C,t,B,H',rfl,os,bare,un,hok,air,e⟩:=h
 obtain ⟨mt1,mt2⟩:=mt C H' e
 have ok:=I1.ok
 have fr:X.A.frames=some (X.env::X.outer):=by rw [← N.st.1];exact ok.frames
 have fl:=air.fly
 rw [N.st.1] at fl
 have na:s1.heap.get? a=none:=by
  cases q:s1.heap.get? a with
  | none=>rfl
  | some o =>
   obtain ⟨oe,vs,he,_,hd,_⟩:=fl.first
   have I2:Inv X pins σ H' s':=I1.call' os un hok bare (by intro b z;cases z)
   have nf:a ∉ frs X.stack:=fun z=>a6c I2 z he _ hd
   have:=air.bk a oe he nf (.inr ⟨o,q⟩)
   rw [fl.2.1] at this
   cases this
 have ha:H' a=none:=by
  cases q:H' a with
  | none=>rfl
  | some u =>
   obtain ⟨oe,vs,he,_,hd,_⟩:=fl.first
   have I2:Inv X pins σ H' s':=I1.call' os un hok bare (by intro b z;cases z)
   have nf:a ∉ frs X.stack:=fun z=>a6c I2 z he _ hd
   have:=air.bk a oe he nf (.inl (by rw [q];simp))
   rw [fl.2.1] at this
   cases this
 refine wpAny_looks_onW fr N.st.2 fl fun h4 held4 up4=>?_
 refine wpAny_landsW held4 fun h5 fl5 up5=>?_
 have I5:=aka I1 os bare un hok air fl5.1 (up4.trans up5) s'.toks
 obtain ⟨ob,hob,hobc⟩:=fl5.there
 have I5m:=I5.inEx a
 refine wpAny_handleBy_cons (codeAny_handlers_test (a3t I5m N.hg N.hm ?_ N.db)) (by intro q;cases q)
 have LT:Looks (model X.prog X.w) h5 (typeOf (.ref a)) (.ref C):=hobc ▸ (Looks.ld hob).andThen .now
 refine (exm_one I5.kIn LT mt1).here ?_
 refine codeAny_handlers_suite_as ?_
 refine lands_againW fl5 fun h6 fl6 up6=>?_
 have I6:=aka I1 os bare un hok air fl6.1 ((up4.trans up5).trans up6) s'.toks
 obtain ⟨oe,vs,he,hec,hed,_⟩:=fl6.first
 have I7:=(I6.exc I1 he ha na).inEx a
 refine a5f (X:=X.inEx a) I7 N.nd N.hi (.inl N.lo) (v:=.ref a) rfl (fun s8 I8=>?_) (.inr N.lo)
 refine wpAny_mono (hs a pins s8 _ _ (avf D i) I8 (mt2 a oe hec ha)) (fun f s9 q=>?_) fun _ _ z=>z.elim
 show wpAny (model X.prog X.w) X.A (do bindName X.env n .none;unbindBehindTheSuite X.env n pos) (fun _ s3=>SP X pins D f s3) X.xe s9
 cases f with
 | next =>
  obtain ⟨σ',H9,I9,q⟩:=q
  exact a80 (I9.outEx ok) N.nd N.hi N.lo fun s10 I10=>⟨_,H9,I10,q⟩
 | brk =>
  obtain ⟨σ',H9,I9,q⟩:=q
  exact a80 (I9.outEx ok) N.nd N.hi N.lo fun s10 I10=>⟨_,H9,I10,q⟩
 | cont =>
  obtain ⟨σ',H9,I9,q⟩:=q
  exact a80 (I9.outEx ok) N.nd N.hi N.lo fun s10 I10=>⟨_,H9,I10,q⟩
 | ret u =>
  obtain ⟨v,σ',H9,I9,r,q⟩:=q
  exact a80 (I9.outEx ok) N.nd N.hi N.lo fun s10 I10=>⟨v,_,H9,I10,r,q⟩
def PEx (X:Cx) (e:Expr) (t:St→Hp→VK→XK→Prop):Prop :=
 ∀ (pins:List (Addr × Obj)) (s:Shared) (σ:St) (H:Hp) (Q:VK) (E:XK),Inv X pins σ H s→t σ H Q E→wpAny (model X.prog X.w) X.A (eval e X.env) (EP X pins σ Q) (XP X pins σ E) s
def PSx (X:Cx) (st:List Stmt) (t:Ends→XK→St→Hp→Prop):Prop :=
 ∀ (pins:List (Addr × Obj)) (s:Shared) (σ:St) (H:Hp) (D:Ends) (E:XK),Inv X pins σ H s→t D E σ H→wpAny (model X.prog X.w) X.A (execs st X.env) (SP X pins D) (XP X pins σ E) s
variable {e:Expr} {es:List Expr} {pos:Pos}
theorem afz {st:Stmt} {D:Ends} {W:Value→Shared→Prop} (h:wpAny (model X.prog X.w) X.A (exec st X.env) (SP X pins D) W s):wpAny (model X.prog X.w) X.A (execs [st] X.env) (SP X pins D) W s:=by
 refine wpAny_execs_cons (thn h fun f s1 q=>?_)
 cases f with
 | next=>exact wpAny_execs_nil q
 | ret v=>exact q
 | brk=>exact q
 | cont=>exact q
theorem aiw {t:St→Hp→VK→XK→Prop} (he:PEx X e t) (hs:swapsWith e none pos.line X.env=pure false:=by rfl):PSx X [.Expr e pos] (fun D E σ H=>t σ H (fun _ H1=>D.nx σ H1) E):=by
 intro pins s σ H D E I h
 exact afz (wpAny_Expr_any (thn (he pins s σ H _ E I h) fun v s1 ⟨x,H1,I1,r1,q1⟩=>⟨σ,H1,I1,q1⟩) I.quiet hs)
theorem aqs {R:Addr} {x n:Str} {i:Nat} {np hp pos:Pos} {body:List Stmt} {b0:Stmt} {suite:List Stmt} {t:Ends→XK→St→Hp→Prop} {ts:TS} (N:Hnd X R x n i) (hb:PSx X body t) (hs:∀ a,PSs (X.inEx a) (b0::suite) ts) :
  PS X (.Try body [.ExceptHandler (some (.Name x np)) (some n) (b0::suite) hp] [] [] pos) (fun D σ H=>t D (fun cls d H'=>∃ C,cls = .ref C∧exmOne X.K (.ref C) (.ref R)=some true∧∀ a oe,oe.cls = .ref C→H' a=none→ts (avf D i) (σ.set i (some (.ref a))) (upd H' a (.frz oe (exO a)))) σ H):=by
 intro pins s σ H D I h
 refine wpAny_Try_except (wpAny_mono (hb pins s σ H D _ I h) (fun f s1 q=>?_) fun e s1 q=>aiv N hs (fun C H' z=>?_) q)
 ·cases f with
  | next=>exact wpAny_execs_nil q
  | ret v=>exact q
  | brk=>exact q
  | cont=>exact q
 ·obtain ⟨C',z,m1,m2⟩:=z
  cases z
  exact ⟨m1,m2⟩
theorem aix {k:Nat} {f:Addr} {fd:FuncData} {ps:List Str} {sp:Sp} {x:Str} {p:Pos} {t:TA} (F:FnOk X.prog X.w X.K X.mg X.base (CXE X.prog X.w) k f fd ps sp) (hr:Room k X.A) (hg:Gl X x) (hm:X.mg x=some (.ref f)) (hk:PySem.W.keepIn X.K (.ref f)=true) (hb:Binds X.K fd ps [])
  (ha:PA X.nox (e::es) t) (hdb:(x == ("__debug__" : Str))=false:=by decide) (he:starEach (e::es) X.env=(false,eval e X.env)::starEach es X.env:=by rfl) (hpl:(backTo pos (starEach es X.env)).any (·.1)=false:=by rfl) :
  PEx X (.Call (.Name x p) (e::es) [] pos) (fun σ H Q E=>t σ H fun vs H1=>sp vs H1 Q E):=by
 intro pins s σ H Q E I h
 refine wpAny_Call_Name_kw (a3t I hg hm ?_ hdb)
 refine PySem.W.callWith_K (h₀:=X.base) I.ok.mod.kin hk (wpAny_mono (ha pos pins s σ H _ (I.wish _) h) (fun us s1 ⟨vs,H1,I1,r,q⟩=>⟨I1.unwish.kIn,?_⟩) fun _ _ z=>z.elim) he hpl
 have I1:=I1.unwish
 have hl:us.length=ps.length:=by rw [← r.length];exact F.len _ _ _ _ q
 have bd:=hb s1 us I1.kIn (by rw [List.append_nil];exact hl)
 rw [List.append_nil] at bd
 refine wpAny_call (codeAny_mono (F.run X.A X.stack s1 H1 ⟨us,[]⟩ us vs Q E hr I1.env0 bd r q) fun r s' hq=>?_)
 cases r with
 | error e=>exact ⟨s1,H1,I1,hq⟩
 | ok fl =>
  cases fl with
  | ret u=>exact I1.after hq
  | next=>exact False.elim hq
  | brk=>exact False.elim hq
  | cont=>exact False.elim hq
end
end L2
namespace MI
open PySem PySem.Spec L2
def akb (mg:Str→Option Value) (E:XK):XD:=fun c _ H' _=>∃ C,mg c=some (.ref C)∧E (.ref C) none H'
def spX (K:PySem.W.Frag) (mg:Str→Option Value) (n:Nat) (F:SF):Sp:=fun vs H Q E=>vs.length=n∧∃ ι ds h,Reps K ι H vs ds∧HRep K ι H h∧out K (akb mg E) (yt K) ι H (F ds h) Q
structure DnX (P:Program) (w:World) (K:PySem.W.Frag) (mg:Str→Option Value) (base:Heap) (k:Nat) (x:Str) (ps:List Str) (sp:Sp) (f:Addr) (fd:FuncData):Prop where
 ok:FnOk P w K mg base (CXE P w) k f fd ps sp
 m:mg x=some (.ref f)
 kp:PySem.W.keepIn K (.ref f)=true
 b:Binds K fd ps []
theorem amt {P:Program} {w:World} {K:PySem.W.Frag} {mg:Str→Option Value} {base:Heap} {x qual:Str} {st:Stmt} {f:Addr} {fd:FuncData} {N ps:List Str} {k:Nat} {b:SS} (Fu:Fun K x qual st f fd) (S:FnScope N ps (au st))
  (hb:∀ (cdv:Value) (A:Around) (outer:List Env) (s:Shared) (H:Hp) (E:XK),Room k (A.deeper (PyProof.Rows.envOfC qual (au st) s.heap.objs.size f cdv))→MSs (cxE P w K mg base N qual (au st) f cdv A outer s H E) (akb mg E) (g8 st) b) :
  FnOk P w K mg base (CXE P w) (k+1) f fd ps (spX K mg ps.length (my b N.length)):=by
 obtain ⟨oc,od,kV,doc,pm,an,cdv,ct,osl,rfl,lk,hcd⟩:=Fu.ex
 refine ap5 lk hcd S (fun vs H Q E h=>h.1) fun A outer s H vs Q E hr h=>⟨_,hb cdv A outer s H E hr,?_⟩
 obtain ⟨hl,ι,ds,h,r,hr',o⟩:=h
 refine ⟨ι,a0u N.length ds,h,a70 r,hr',?_⟩
 unfold my at o
 cases hbd:b (a0u N.length ds) h with
 | rt d h1=>rw [hbd] at o;exact o
 | nx τ h1=>rw [hbd] at o;exact fun ι' H' σ' g1 S1 hr1=>o ι' H' .non g1 .non hr1
 | ex c h1=>rw [hbd] at o;exact o
 | bk τ h1=>rw [hbd] at o;exact o.elim
 | ct τ h1=>rw [hbd] at o;exact o.elim
 | no=>rw [hbd] at o;exact o.elim
section
variable {K:PySem.W.Frag} {ι:List Addr} {H:Hp} {h:Hd} {n:Nat}
noncomputable def a5c (n:Nat) (F:SF):SF:=fun ds h=>open Classical in if ∀ d∈ds,clo 0 d then (match F ds [] with | .ex c _=>if ds.length=n then .ex c h else .no | _=>j8 false n F ds h) else .no
theorem noex {m:Bool} {F:SF} {ds:List D} {c:Str} {h1:Hd}:j8 m n F ds h≠.ex c h1:=by
 unfold j8
 split
 ·unfold ao5
  intro e
  repeat (first | (split at e) | cases e)
 ·intro e;cases e
theorem ac8 {E E':XD} {r:R D} {Q:VK} (ne:∀ c h1,r≠.ex c h1) (o:out K E (yt K) ι H r Q):out K E' (yt K) ι H r Q:=by
 cases r with
 | ok a h=>exact o
 | ex c h=>exact absurd rfl (ne c h)
 | no=>exact o
theorem HRep.stays {H':Hp} (hr:HRep K ι H h) (k:∀ a u,H a=some u→H' a=some u):Gr ι H ι H'∧HRep K ι H' h:=by
 have G:Gr ι H ι H':=⟨⟨[],by simp,by simp⟩,fun a vs q=>k _ _ q,fun a o u q=>k _ _ q,fun a u q _=>k _ _ q,fun a u q=>⟨u,k _ _ q⟩⟩
 refine ⟨G,hr.nd,hr.len,fun i a o e1 e2=>?_⟩
 have r:=hr.obj i a o e1 e2
 obtain ⟨u,hu,_⟩:=r.some
 exact r.mono G (by rw [hu];exact k a u hu)
theorem a9k:∀ {ds:List D},(∀ d∈ds,clo 0 d)→clos 0 ds
 | [],_=>by simp [clos]
 | d::ds,h=>by simp only [clos];exact ⟨h d List.mem_cons_self,a9k fun x hx=>h x (List.mem_cons_of_mem _ hx)⟩
theorem aca {mg:Str→Option Value} {F:SF} {vs:List V} {ds:List D} {Q:VK} {E:XK} {E2:XD} (r:Reps K ι H vs ds) (hr:HRep K ι H h) (o:out K E2 (yt K) ι H (a5c n F ds h) Q) (hE:∀ c H' ,Gr ι H ι H'→HRep K ι H' h→E2 c ι H' h→akb mg E c ι H' h) :
  spX K mg n F vs H (fun v H1=>∃ L,aa5 H1 L∧∀ H2,FrzOf L H1 H2→Q v H2) E:=by
 unfold a5c at o
 split at o
 ·rename_i hc
  have ok:out K E2 (yt K) ι H (j8 false n F ds h) Q→spX K mg n F vs H (fun v H1=>∃ L,aa5 H1 L∧∀ H2,FrzOf L H1 H2→Q v H2) E:=fun o=>by
   obtain ⟨l,ι0,ds0,h0,r0,hr0,o0⟩:=a7r r hr (ac8 (E':=X0) (fun c h1=>noex) o) E
   refine ⟨l,ι0,ds0,h0,r0,hr0,?_⟩
   cases e:F ds0 h0 with
   | ok a h1=>rw [e] at o0;exact o0
   | ex c h1=>rw [e] at o0;exact fun ι' H' g hr=>(o0 ι' H' g hr).elim
   | no=>rw [e] at o0;exact o0
  split at o
  ·rename_i c hx e
   split at o
   ·rename_i hl
    have R0:Reps K [] H vs ds:=by
     have:=r.cut (a9k hc)
     rwa [List.take_zero] at this
    refine ⟨by rw [r.len];exact hl,[],ds,[],R0,⟨List.nodup_nil,rfl,fun i a o e1=>by simp at e1⟩,?_⟩
    rw [e]
    intro ι' H' g _
    obtain ⟨G,hr'⟩:=hr.stays fun a u q=>g.oth a u q (by simp)
    exact hE c H' G hr' (o ι H' G hr')
   ·exact o.elim
  ·exact ok o
 ·exact o.elim
end
theorem aiy (m:Bool) {X:Cx} {E:XD} {k n:Nat} {f:Addr} {fd:FuncData} {ps:List Str} {x:Str} {F:SF} {ka:SA} {e:Expr} {es:List Expr} {p pos:Pos} (G:Dn X.prog X.w X.K X.mg X.base k x ps (mz X.K n F) f fd) (hr:Room k X.A) (hg:Gl X x) (ha:MA X E (e::es) ka)
  (hdb:(x == ("__debug__" : Str))=false:=by decide) (he:starEach (e::es) X.env=(false,eval e X.env)::starEach es X.env:=by rfl) (hpl:(backTo pos (starEach es X.env)).any (·.1)=false:=by rfl):ME X E (.Call (.Name x p) (e::es) [] pos) (sA (j8 m n F) ka):=by
 refine PE.weak (a99 (aab G.ok hr hg G.m G.kp G.b .nil ale ha hdb he hpl)) fun σ H Q ⟨ι,τ,h,S,Rh,o⟩=>?_
 refine ⟨ι,τ,h,S,Rh,dq o fun ds h1 ι1 H1 vs g1 r1 hr1 o1=>?_⟩
 rw [List.append_nil]
 exact a7r r1 hr1 (ac8 (fun c h1=>noex) o1) _
theorem ag0 {X:Cx} {k n:Nat} {f:Addr} {fd:FuncData} {ps:List Str} {x:Str} {F:SF} {ka:SA} {e:Expr} {es:List Expr} {p pos:Pos} (G:DnX X.prog X.w X.K X.mg X.base k x ps (spX X.K X.mg n F) f fd) (hr:Room k X.A) (hg:Gl X x) (ha:MA X X0 (e::es) ka)
  (hdb:(x == ("__debug__" : Str))=false:=by decide) (he:starEach (e::es) X.env=(false,eval e X.env)::starEach es X.env:=by rfl) (hpl:(backTo pos (starEach es X.env)).any (·.1)=false:=by rfl):ME X X0 (.Call (.Name x p) (e::es) [] pos) (sA (a5c n F) ka):=by
 have ps0:a8j (CXE X.prog X.w) X E0:=by
  rintro pins σ H s e s' I ⟨a,C,t,B,H',rfl,os,bare,un,hok,air,z⟩
  exact z.elim
 refine PE.weak (a99 (aab G.ok hr hg G.m G.kp G.b .nil ps0 ha hdb he hpl)) fun σ H Q ⟨ι,τ,h,S,Rh,o⟩=>?_
 refine ⟨ι,τ,h,S,Rh,dq o fun ds h1 ι1 H1 vs g1 r1 hr1 o1=>?_⟩
 rw [List.append_nil]
 exact aca r1 hr1 o1 fun c H' _ _ z=>z.elim
section
variable {P:Program} {w:World} {K:PySem.W.Frag} {mg:Str→Option Value} {base:Heap} {N:List Str} {qual:Str} {scope:Scope} {fa:Addr} {cd:Value} {A:Around} {outer:List Env} {s0:Shared} {H0:Hp} {E:XK}
def acb (c:Str) (ka:SA):SS:=fun τ h=>(ka τ h).fl fun ds h1=>if ds.length≤LINE then .ex c h1 else .no
theorem aiz {C:Addr} {x:Str} {ka:SA} {e:Expr} {es:List Expr} {np cpos pos:Pos} (hC:XCls K C) (hg:Gl (cxE P w K mg base N qual scope fa cd A outer s0 H0 E) x) (hm:mg x=some (.ref C)) (ha:MA (cxE P w K mg base N qual scope fa cd A outer s0 H0 E) (akb mg E) (e::es) ka)
  (hdb:(x == ("__debug__" : Str))=false:=by decide) (he:starEach (e::es) (cxE P w K mg base N qual scope fa cd A outer s0 H0 E).env=(false,eval e (cxE P w K mg base N qual scope fa cd A outer s0 H0 E).env)::starEach es (cxE P w K mg base N qual scope fa cd A outer s0 H0 E).env:=by rfl) (hpl:(backTo cpos (starEach es (cxE P w K mg base N qual scope fa cd A outer s0 H0 E).env)).any (·.1)=false:=by rfl) :
  MS (cxE P w K mg base N qual scope fa cd A outer s0 H0 E) (akb mg E) (.Raise (some (.Call (.Name x np) (e::es) [] cpos)) none pos) (acb x ka):=by
 refine PS.weak (ait (X:=cxE P w K mg base N qual scope fa cd A outer s0 H0 E) (Ex:=fun H=>E (.ref C) none H) hC hg hm rfl ha (fun pins σ H s h' a args I mk z=>ave I mk z) hdb he hpl) fun D σ H ⟨ι,τ,h,S,Rh,o⟩=>?_
 refine ⟨ι,τ,h,S,Rh,qy o fun ds h1 ι1 H1 vs g1 r1 hr1 o1=>?_⟩
 split at o1
 ·rename_i hl
  obtain ⟨C',e1,z⟩:=o1 ι1 H1 (.refl _ _) hr1
  rw [hm] at e1
  cases e1
  exact ⟨by rw [r1.len];exact aai hl,z⟩
 ·exact o1.elim
end
def noX {α:Type}:R α→R α
 | .ex _ _=>.no
 | r=>r
def qA {α:Type} (ka:Sd→Hd→R α):Sd→Hd→R α:=fun τ h=>noX (ka τ h)
abbrev MEx (X:Cx) (e:Expr) (f:SE):Prop:=PEx X e fun σ H Q E=>lift X.K (akb X.mg E) (yt X.K) f σ H Q
abbrev MSx (X:Cx) (st:List Stmt) (f:SS):Prop:=PSx X st fun D E σ H=>a5z X.K (akb X.mg E) f D σ H
section
variable {X:Cx}
theorem amu {e:Expr} {t:St→Hp→VK→XK→Prop} (h:PEx X e t):PEx X e (fun σ H Q E=>t σ H (fun v H1=>∃ L,aa5 H1 L∧∀ H2,FrzOf L H1 H2→Q v H2) E):=fun pins s σ H Q E I q =>
 L2.thn (h pins s σ H _ E I q) fun u s' ⟨v,H1,I1,r,L,ab,k⟩=>let ⟨H2,f,I2⟩:=Inv.frz I1 ab; ⟨v,H2,I2,r,k H2 f⟩
theorem amv {k n:Nat} {f:Addr} {fd:FuncData} {ps:List Str} {x:Str} {F:SF} {ka:SA} {e:Expr} {es:List Expr} {p pos:Pos} (G:DnX X.prog X.w X.K X.mg X.base k x ps (spX X.K X.mg n F) f fd) (hr:Room k X.A) (hg:Gl X x) (ha:MA X.nox X0 (e::es) ka)
  (hdb:(x == ("__debug__" : Str))=false:=by decide) (he:starEach (e::es) X.env=(false,eval e X.env)::starEach es X.env:=by rfl) (hpl:(backTo pos (starEach es X.env)).any (·.1)=false:=by rfl):MEx X (.Call (.Name x p) (e::es) [] pos) (sA (a5c n F) (qA ka)):=by
 intro pins s σ H Q E I ⟨ι,τ,h,S,Rh,o⟩
 refine amu (aix G.ok hr hg G.m G.kp G.b ha hdb he hpl) pins s σ H Q E I ⟨ι,τ,h,S,Rh,?_⟩
 have o2:=dq o (P:=fun vs H1=>spX X.K X.mg n F vs H1 (fun v H1=>∃ L,aa5 H1 L∧∀ H2,FrzOf L H1 H2→Q v H2) E) fun ds h1 ι1 H1 vs g1 r1 hr1 o1=>aca r1 hr1 o1 fun c H' _ _ z=>z
 unfold qA at o2
 cases e1:ka τ h with
 | ok a h1=>rw [e1] at o2;exact o2
 | ex c h1=>rw [e1] at o2;exact o2.elim
 | no=>rw [e1] at o2;exact o2
theorem amw {e:Expr} {f:SE} {pos:Pos} (he:MEx X e f) (hs:swapsWith e none pos.line X.env=pure false:=by rfl):MSx X [.Expr e pos] (a1e f):=fun pins s σ H D E I ⟨ι,τ,h,S,Rh,o⟩ =>
 aiw he hs pins s σ H D E I ⟨ι,τ,h,S,Rh,qy o fun d h1 ι1 H1 v g1 r1 hr1 o1=>o1 ι1 H1 _ (.refl _ _) (S.mono g1) hr1⟩
def aqt (i:Nat) (cs:Str→Bool) (fb fs:SS):SS:=fun τ h=>match fb τ h with
 | .ex c h1=>if cs c=true then (match fs (τ.set i (some (.exc c))) h1 with
   | .nx τ' h'=>.nx (τ'.set i none) h' | .rt d h'=>.rt d h' | .bk τ' h'=>.bk (τ'.set i none) h' | .ct τ' h'=>.ct (τ'.set i none) h' | _=>.no) else .no
 | r=>r
theorem SRep.off {K:PySem.W.Frag} {ι:List Addr} {H:Hp} {σ:St} {τ:Sd} (S:SRep K ι H σ τ) (i:Nat):SRep K ι H (σ.set i none) (τ.set i none):=by
 refine ⟨by simp [S.len],fun j d e=>?_⟩
 by_cases hj:i=j
 ·subst hj
  rw [List.getElem?_set] at e
  simp at e
 ·rw [List.getElem?_set_ne hj] at e ⊢
  exact S.val j d e
theorem aqu {R:Addr} {x n:Str} {i:Nat} {np hp pos:Pos} {body:List Stmt} {b0:Stmt} {suite:List Stmt} {cs:Str→Bool} {fb fs:SS} (N:Hnd X R x n i)
  (hcs:∀ c,cs c=true→∃ C,X.mg c=some (.ref C)∧PySem.W.nsIn X.K mainGlobals c=some (some (.ref C))∧PySem.W.exmOne X.K (.ref C) (.ref R)=some true)
  (hb:MSx X body fb) (hs:∀ a,MSs (X.inEx a) X0 (b0::suite) fs):MS X X0 (.Try body [.ExceptHandler (some (.Name x np)) (some n) (b0::suite) hp] [] [] pos) (aqt i cs fb fs):=by
 refine PS.weak (aqs (ts:=a5z X.K X0 fs) N hb hs) fun D σ H ⟨ι,τ,h,S,Rh,o⟩=>⟨ι,τ,h,S,Rh,?_⟩
 unfold aqt at o
 cases e:fb τ h with
 | nx τ' h'=>rw [e] at o;exact o
 | rt d h'=>rw [e] at o;exact o
 | bk τ' h'=>rw [e] at o;exact o
 | ct τ' h'=>rw [e] at o;exact o
 | no=>rw [e] at o;exact o
 | ex c h1 =>
  rw [e] at o
  dsimp only at o
  split at o
  ·rename_i hc
   obtain ⟨C,m,ns,ex⟩:=hcs c hc
   intro ι' H' g hr
   refine ⟨C,m,C,rfl,ex,fun a oe hoe ha=>?_⟩
   have G:=g.trans (wy (ι:=ι') ha (.frz oe (L2.exO a)))
   refine ⟨ι',τ.set i (some (.exc c)),h1,(S.mono G).set (.exc (o:=oe) (C:=C) jy hoe ns) i,hr.aside ha _,?_⟩
   have o1:=ul o G
   cases e2:fs (τ.set i (some (.exc c))) h1 with
   | nx τ' h'=>rw [e2] at o1;exact fun ι2 H2 σ' g2 S2 hr2=>o1 ι2 H2 _ g2 (S2.off i) hr2
   | bk τ' h'=>rw [e2] at o1;exact fun ι2 H2 σ' g2 S2 hr2=>o1 ι2 H2 _ g2 (S2.off i) hr2
   | ct τ' h'=>rw [e2] at o1;exact fun ι2 H2 σ' g2 S2 hr2=>o1 ι2 H2 _ g2 (S2.off i) hr2
   | rt d h'=>rw [e2] at o1;exact o1
   | ex c' h'=>rw [e2] at o1;exact o1.elim
   | no=>rw [e2] at o1;exact o1.elim
  ·exact o.elim
end
end MI
namespace MI
open PySem PySem.Spec L2
section
variable {X:Cx}
def vc (v:V) (cv:Value):Prop:=(∃ C,v = .ref C∧cv = .ref C)∨∃ T,v = .ty T∧cv = .type T
theorem vc.eq {v:V} {cv u:Value} (h:vc v cv) (r:RelV v u):u=cv:=by
 rcases h with ⟨C,rfl,rfl⟩ | ⟨T,rfl,rfl⟩
 ·exact r
 ·cases r;rfl
theorem aqv {pins:List (Addr × Obj)} {σ:St} {H:Hp} {s:Shared} {a C:Addr} {o:Obj} (I:L2.Inv X pins σ H s) (e:H a=some (.frz o (exO a))) (c:o.cls = .ref C):ExAt a C s.heap:=⟨o,(show ObjOk X.prog X.w H s.heap a (.frz o (exO a)) from I.hok a _ e).1,c⟩
theorem aj0:CallR X (.builtin "isinstance") (fun xs H Q=>∃ a o C v cv b,xs=[.ref a,v]∧vc v cv∧H a=some (.frz o (exO a))∧o.cls = .ref C∧XKit X.K C∧PySem.W.kitOne X.K (.ref C) cv=some b∧Q (.bl b) H):=by
 intro pins s σ H xs us Q I r h
 obtain ⟨a,o,C,v,cv,b,rfl,hv,ea,hc,Z,e,q⟩:=h
 obtain ⟨u,w',rfl,rx,rt⟩:=vals2 r
 obtain rfl:u=Value.ref a:=rx
 obtain rfl:=hv.eq rt
 exact PySem.W.kia_one (ac6 Z) I.kIn (aqv I ea hc) e (fun z=>nomatch z) fun tk=>⟨.bl b,H,I.tok tk,rfl,q⟩
theorem a9l:∀ {cs:List Addr} {us:List Value},Vals (cs.map V.ref) us→us=cs.map Value.ref
 | [],_,r=>by cases r;rfl
 | c::cs,us,r=>by
  cases r with
  | cons r rs =>
   rw [List.map_cons,← a9l rs]
   congr 1
theorem ag1:CallR X (.builtin "isinstance") (fun xs H Q=>∃ a o C tp,∃ cs:List Addr,∃ b,xs=[.ref a, .ref tp]∧H tp=some (.tup (cs.map V.ref))∧H a=some (.frz o (exO a))∧o.cls = .ref C∧XKit X.K C∧PySem.W.kitAny X.K (.ref C) (cs.map Value.ref)=some b∧Q (.bl b) H):=by
 intro pins s σ H xs us Q I r h
 obtain ⟨a,o,C,tp,cs,b,rfl,et,ea,hc,Z,e,q⟩:=h
 obtain ⟨u,w',rfl,rx,rt⟩:=vals2 r
 obtain rfl:u=Value.ref a:=rx
 obtain rfl:w'=Value.ref tp:=rt
 obtain ⟨_,its,vr,o',h1,h2,h3⟩:=(show ObjOk X.prog X.w H s.heap tp (.tup (cs.map V.ref)) from I.hok tp _ et)
 obtain rfl:=a9l vr
 obtain ⟨n,h3⟩:=h3
 have htp:s.heap.get? tp=some ⟨.type "tuple",o'.dict, .seq (cs.map Value.ref).toArray n,o'.slots⟩:=by
  rw [h1]
  obtain ⟨c,dd,dt,sl⟩:=o'
  simp only at h2 h3
  rw [h2,h3]
 exact PySem.W.kia_tup (ac6 Z) I.kIn (aqv I ea hc) htp e (fun z=>nomatch z) fun tk=>⟨.bl b,H,I.tok tk,rfl,q⟩
def aj1 (i:Nat) (f:Str→Option Bool):SE:=fun τ h=>match τ[i]? with
 | some (some (.exc c))=>(match f c with | some b=>.ok (.bl b) h | none=>.no)
 | _=>.no
variable {E:XD}
theorem akc {K:PySem.W.Frag} {ι:List Addr} {H:Hp} {σ:St} {τ:Sd} {h:Hd} {i:Nat} {f:Str→Option Bool} {Q:VK} (S:SRep K ι H σ τ) (o:out K E (yt K) ι H (aj1 i f τ h) Q) :
  ∃ a ob C c b,σ[i]? = some (some (.ref a))∧H a=some (.frz ob (exO a))∧ob.cls = .ref C∧PySem.W.nsIn K mainGlobals c=some (some (.ref C))∧f c=some b∧out K E (yt K) ι H (.ok (.bl b) h) Q:=by
 unfold aj1 at o
 split at o
 ·rename_i c e
  obtain ⟨v,e1,r⟩:=S.val i _ e
  cases r with
  | exc q hc hn =>
   split at o
   ·rename_i b hb
    exact ⟨_,_,_,c,b,e1,q,hc,hn,hb,o⟩
   ·exact o.elim
 ·exact o.elim
theorem akd {i:Nat} {f:Str→Option Bool} {n x:Str} {v:V} {cv:Value} {p0 pn px pos:Pos} (hg:Gl X "isinstance") (hm:X.mg "isinstance" = none) (hb:bootBuiltins "isinstance" = some (.builtin "isinstance")) (hN:X.N[i]? = some n) (hv:Vis X.env.scope n) (hc:PE X (.Name x px) (tC v)) (hvc:vc v cv)
  (hf:∀ c b C,f c=some b→PySem.W.nsIn X.K mainGlobals c=some (some (.ref C))→XKit X.K C∧PySem.W.kitOne X.K (.ref C) cv=some b)
  (hd:(n == ("__debug__" : Str))=false:=by decide) (hcd:(n == ("__classdict__" : Str))=false:=by decide):ME X E (.Call (.Name "isinstance" p0) [.Name n pn, .Name x px] [] pos) (aj1 i f):=by
 refine PE.weak (a5g aj0 hg hm hb (uw (adx hN hv hd hcd) (uw hc a3a))) fun σ H Q ⟨ι,τ,h,S,Rh,o⟩=>?_
 obtain ⟨a,ob,C,c,b,e1,q,oc,ns,fb,o1⟩:=akc S o
 obtain ⟨Z,ki⟩:=hf c b C fb ns
 exact ⟨_,e1,a,ob,C,v,cv,b,rfl,hvc,q,oc,Z,ki,o1 ι H _ (.refl _ _) (.bl b) Rh⟩
theorem amx {i:Nat} {f:Str→Option Bool} {n:Str} {cs:List Addr} {es:List Expr} {t:TA} {k:Nat} {p0 pn px pos:Pos} (hg:Gl X "isinstance") (hm:X.mg "isinstance" = none) (hb:bootBuiltins "isinstance" = some (.builtin "isinstance")) (hN:X.N[i]? = some n) (hv:Vis X.env.scope n) (hc:PA X es t) (ht:∀ σ H (Q:List V→Hp→Prop),Q (cs.map V.ref) H→t σ H Q) (hl:cs.length≤sizeLine)
  (hf:∀ c b C,f c=some b→PySem.W.nsIn X.K mainGlobals c=some (some (.ref C))→XKit X.K C∧PySem.W.kitAny X.K (.ref C) (cs.map Value.ref)=some b)
  (hd:(n == ("__debug__" : Str))=false:=by decide) (hcd:(n == ("__classdict__" : Str))=false:=by decide):ME X E (.Call (.Name "isinstance" p0) [.Name n pn, .Tuple es k px] [] pos) (aj1 i f):=by
 refine PE.weak (a5g ag1 hg hm hb (uw (adx hN hv hd hcd) (uw (ajm hc) a3a))) fun σ H Q ⟨ι,τ,h,S,Rh,o⟩=>?_
 obtain ⟨a,ob,C,c,b,e1,q,oc,ns,fb,o1⟩:=akc S o
 obtain ⟨Z,ki⟩:=hf c b C fb ns
 refine ⟨_,e1,ht _ _ _ ⟨by rw [List.length_map];exact hl,fun p hp=>?_⟩⟩
 have G:=wy (ι:=ι) hp (.tup (cs.map V.ref))
 exact ⟨a,ob,C,p,cs,b,rfl,jy,G.frz _ _ _ q,oc,Z,ki,o1 ι _ _ G (.bl b) (Rh.aside hp _)⟩
end
end MI
namespace K20
open PySem PySem.Spec L2 MI
def a1j:Str→Option Bool:=fun c=>if c = "NoTable" then some true else none
def a6d:Str→Option Bool:=fun c=>if c = "NoTable" then some true else none
def kh:Str→Option Bool:=fun c=>if c = "NoTable" then some false else none
def a0k:Str→Bool:=fun c=>decide (c = "NoTable")
noncomputable def a0l:SS :=
 (o9 (yu (sA nq (ak (sV 0) (ak (sC (.ty "int")) bz))) (aal (sA nq (ak (sV 0) (ak (sC (.ty "bool")) bz))))))
noncomputable def ut (v4:SF):SS :=
 (o9 (yu (sA (j8 false 1 v4) (ak (sV 0) bz)) (sCh gLe gLe (sV 1) (sV 0) (sV 2))))
noncomputable def a5n:SS :=
 (o9 (yu (sA nq (ak (sV 0) (ak (sC (.ty "tuple")) bz))) (sCh gLe gLe (sV 1) (sA p7 (ak (sV 0) bz)) (sV 2))))
noncomputable def a3n:SS :=
 (iu (sIf (sOr (a0z (zb (sA nq (ak (sV 0) (ak (sC (.ty "str")) bz))))) (sT (s2 hNe (sA p7 (ak (sV 0) bz)) (sC (.int 1)))))
 ak8
 sNx)
 (iu (sIf (sT (s2 hEq (sV 0) (sC (.str "\n"))))
 (o9 (sC (.bl true)))
 sNx)
 (o9 (yu (sCh gLe gLe (sC (.str " ")) (sV 0) (sC (.str "~"))) (s2 hNe (sA aq2 (ak (sV 0) bz)) (sC (.int 37)))))))
noncomputable def xn (ur:SF):SE :=
 (sA (j8 false 1 ur) (ak (sV 0) bz))
noncomputable def uc (ur:SF):SS :=
 (iu (sIf (sOr (a0z (zb (sA nq (ak (sV 0) (ak (sC (.ty "str")) bz))))) (a0z (sT (sCh gLe gLe (sC (.int 1)) (sA p7 (ak (sV 0) bz)) (sC (.int 6))))))
 (o9 (sC (.bl false)))
 sNx)
 (o9 (yu (s2 hEq (s1 a2v (sV 0)) (sA p7 (ak (sV 0) bz))) (sA adq (ak (sZ (wz (sIt (sV 0)) t1 (xn ur) [])) bz)))))
noncomputable def a0m (jw:SF):SS :=
 (o9 (sA (j8 false 1 jw) (ak (sV 0) bz)))
noncomputable def a3o (mj:SF) (jn:SF) (zy:SF) (iw:SF) (mq:SF):SE :=
 (sA (j8 false 3 zy) (ak (sV 0) (ak (sA p7 (ak (sV 1) bz)) (ak (sA p7 (ak (sV 2) bz)) bz))))
noncomputable def ud (mj:SF) (jn:SF) (zy:SF) (iw:SF) (mq:SF):SS :=
 (iu (sIf (a0z (zb (sA (j8 false 3 iw) (ak (sV 0) (ak (sC (.int 3)) (ak (sC (.int 3)) bz))))))
 (o9 (sC (.bl false)))
 sNx)
 (iu (aa4 (sV 0) (a8f 3 (qp (kN 1) (qp (kN 2) (qp (kN 3) a92)))))
 (iu (sIf (sOr (a0z (zb (sA (j8 false 1 mq) (ak (sV 1) bz)))) (a0z (zb (sA (j8 false 3 iw) (ak (sV 2) (ak (sC (.int 1)) (ak (sC (.int 32)) bz)))))))
 (o9 (sC (.bl false)))
 sNx)
 (iu (sIf (a0z (zb (sA adq (ak (sZ (wz (sIt (sV 2)) t1 (a3o mj jn zy iw mq) [1,2])) bz))))
 (o9 (sC (.bl false)))
 sNx)
 (o9 (yu (sA (j8 false 2 mj) (ak (sV 3) (ak (sA p7 (ak (sV 2) bz)) bz))) (sA (j8 false 1 jn) (ak (sV 2) bz))))))))
noncomputable def adh (dg:SF) (iw:SF):SE :=
 (sA (j8 false 3 dg) (ak (sV 0) (ak (sC (.int 0)) (ak (s2 a4x (sV 1) (sC (.int 1))) bz))))
noncomputable def a81 (dg:SF) (iw:SF):SS :=
 (o9 (yu (sA (j8 false 3 iw) (ak (sV 0) (ak (sV 1) (ak (sV 1) bz)))) (sA adq (ak (sZ (wz (sIt (sV 0)) t1 (adh dg iw) [2])) bz))))
noncomputable def a2j (dg:SF) (iw:SF):SE :=
 (sA (j8 false 3 dg) (ak (sV 0) (ak (s1 a4z (sC (.int 1))) (ak (sC (.int 5)) bz))))
noncomputable def a0n (dg:SF) (iw:SF):SS :=
 (iu (sIf (a0z (zb (sA (j8 false 3 iw) (ak (sV 0) (ak (sV 1) (ak (sV 1) bz))))))
 (o9 (sC (.bl false)))
 sNx)
 (o9 (yu (sA adq (ak (sZ (wz (sIt (sV 0)) t1 (a2j dg iw) [])) bz)) (s2 hEq (s2 gIx (sV 0) (sC (.int 0))) (s1 a4z (sC (.int 1)))))))
noncomputable def v9 (ou:SF):SS :=
 (o9 (s2 hEq (sA p7 (ak (sA (j8 false 1 ou) (ak (sV 0) bz)) bz)) (sA p7 (ak (sV 0) bz))))
noncomputable def vy:SS :=
 (sIf (sT (s2 (atv true) (sV 5) (sV 2)))
 (iu (adf (sC (.bl true)) (sV 2) (sV 5))
 (a1e (sML aan (sV 1) (ak (sV 5) bz))))
 sNx)
noncomputable def a06:ST :=
 (sT (s2 gLt (sV 3) (sA p7 (ak (sV 1) bz))))
noncomputable def vz:SS :=
 (iu (qi 4 (s2 gIx (sV 0) (s2 gIx (sV 1) (sV 3))))
 (iu (abl (sIt (sV 4)) (kN 5) vy)
 (ajx 3 a6n (sC (.int 1)))))
noncomputable def wu:SS :=
 (iu (qi 1 (sA a2i (ak (sC (.int 0)) bz)))
 (iu (qi 2 (s2 gD1 (sC (.int 0)) (sC (.bl true))))
 (iu (qi 3 (sC (.int 0)))
 (iu (sWh a06 vz 100000)
 (o9 (sV 1))))))
noncomputable def ww (jx:SF):SS :=
 (iu (sIf (a0z (zb (sA (j8 false 1 jx) (ak (sV 0) bz))))
 (acb "NoTable" (ak (sC (.str "no table")) bz))
 sNx)
 (o9 (sV 0)))
noncomputable def yo:SS :=
 (iu (qi 0 (sC (.str " !\"#$&'()*+,-./0123456789:;<=>?@ABCDEFGHIJKLMNOPQRSTUVWXYZ[\\]^_`")))
 (o9 (s2 jq (sV 0) (sC (.str "abcdefghijklmnopqrstuvwxyz{|}~\n")))))
noncomputable def qd (dh:SF) (ao:SF):SS :=
 (iu (qi 4 (sA (j8 false 2 ao) (ak (sV 0) (ak (sA p7 (ak (sV 1) bz)) bz))))
 (iu (qi 2 (s2 jq (sV 2) (s2 gIx (sV 1) (sV 4))))
 (qi 1 (s2 jq (a1w (sV 1) oN (oS (sV 4))) (a1w (sV 1) (oS (s2 jq (sV 4) (sC (.int 1)))) oN)))))
noncomputable def xf (dh:SF) (ao:SF):SS :=
 (iu (qi 1 (sA (j8 false 0 dh) bz))
 (iu (qi 2 (sC (.str "")))
 (iu (abl (sRg a2s (ak (s2 jq (sC (.int 1)) (sA (j8 false 2 ao) (ak (sV 0) (ak (sC (.int 6)) bz)))) bz)) (kN 3) (qd dh ao))
 (o9 (sV 2)))))
noncomputable def vq (qe:SF) (m9:SF) (jm:SF) (ao:SF) (ju:SF):SS :=
 (iu (qi 1 (sA (j8 false 1 ju) (ak (sV 0) bz)))
 (iu (qi 2 (s2 jq (sC (.int 1)) (sA (j8 false 2 ao) (ak (sV 0) (ak (sC (.int 6)) bz)))))
 (iu (sIf (sT (s2 hEq (sA (j8 false 2 ao) (ak (sV 0) (ak (sC (.int 4)) bz))) (sC (.int 0))))
 (qi 2 (s2 jq (sC (.int 1)) (sA (j8 false 2 ao) (ak (sV 0) (ak (sC (.int 32)) bz)))))
 sNx)
 (iu (aa4 (sA (j8 false 3 jm) (ak (sV 0) (ak (sA (j8 false 3 qe) (ak (sV 0) (ak (sA p7 (ak (sV 1) bz)) (ak (sV 2) bz)))) (ak (sA (j8 false 2 m9) (ak (sV 0) (ak (sV 2) bz))) bz)))) (a8f 2 (qp (kN 3) (qp (kN 4) a92))))
 (o9 (sA qx (ak (sV 1) (ak (sV 3) (ak (sV 4) bz)))))))))
noncomputable def zf:SS :=
 (o9 (yu (sA nq (ak (sV 0) (ak (sC (.ty "int")) bz))) (yu (aal (sA nq (ak (sV 0) (ak (sC (.ty "bool")) bz)))) (sCh gLe gLe (sV 1) (sV 0) (sV 2)))))
noncomputable def a6e (dz:SF):SE :=
 (sA (j8 false 3 dz) (ak (sV 0) (ak (sV 1) (ak (sV 2) bz))))
noncomputable def zg (dz:SF):SS :=
 (iu (sIf (sOr (a0z (zb (sA nq (ak (sV 0) (ak (sC (.ty "tuple")) bz))))) (sT (s2 hNe (sA p7 (ak (sV 0) bz)) (sV 1))))
 (o9 (sC (.bl false)))
 sNx)
 (o9 (sA adq (ak (sZ (wz (sIt (sV 0)) t1 (a6e dz) [2,3])) bz))))
noncomputable def qw (dh:SF):SE :=
 (yu (s2 (gIn false) (sV 1) (sA (j8 false 0 dh) bz)) (s2 (gIn true) (sV 1) (a1w (sV 2) oN (oS (sV 0)))))
noncomputable def vf (dh:SF):SS :=
 (iu (sIf (sOr (a0z (zb (sA nq (ak (sV 0) (ak (sC (.ty "str")) bz))))) (a0z (sT (sCh gLe gLe (sC (.int 1)) (sA p7 (ak (sV 0) bz)) (sC (.int 6))))))
 (o9 (sC (.bl false)))
 sNx)
 (o9 (sA adq (ak (sZ (wz (a7v (sV 0)) (tN 2) (qw dh) [0])) bz))))
noncomputable def a1k:SS :=
 (sIf (sT (s2 (gIn true) (sV 3) (sV 1)))
 (a1e (sML aan (sV 1) (ak (sV 3) bz)))
 sNx)
noncomputable def a4v:ST :=
 (sT (s2 gLt (sV 2) (sA p7 (ak (sV 1) bz))))
noncomputable def a1l:SS :=
 (iu (abl (sIt (s2 gIx (sV 0) (s2 gIx (sV 1) (sV 2)))) (kN 3) a1k)
 (ajx 2 a6n (sC (.int 1))))
noncomputable def a3p:SS :=
 (iu (qi 1 (sA a2i (ak (sC (.int 0)) bz)))
 (iu (qi 2 (sC (.int 0)))
 (iu (sWh a4v a1l 100000)
 (o9 (sA p7 (ak (sV 1) bz))))))
noncomputable def zj (j5:SF) (ie:SF) (qg:SF):SS :=
 (sIf (a0z (zb (sA (j8 false 4 j5) (ak (sV 2) (ak (sA p7 (ak (s2 gIx (sV 0) (sC (.int 0))) bz)) (ak (sC (.int 0)) (ak (s2 a4x (sA p7 (ak (sV 1) bz)) (sC (.int 1))) bz)))))))
 (o9 (sC (.bl false)))
 sNx)
noncomputable def uq (j5:SF) (ie:SF) (qg:SF):SS :=
 (iu (sIf (sOr (a0z (zb (sA nq (ak (sV 0) (ak (sC (.ty "tuple")) bz))))) (sOr (sT (s2 hNe (sA p7 (ak (sV 0) bz)) (sC (.int 3)))) (a0z (zb (sA (j8 false 1 ie) (ak (s2 gIx (sV 0) (sC (.int 0))) bz))))))
 (o9 (sC (.bl false)))
 sNx)
 (iu (qi 1 (s2 gIx (sV 0) (sC (.int 1))))
 (iu (sIf (sOr (a0z (zb (sA nq (ak (sV 1) (ak (sC (.ty "tuple")) bz))))) (a0z (sT (sCh gLe gLe (sC (.int 1)) (sA p7 (ak (sV 1) bz)) (sC (.int 32))))))
 (o9 (sC (.bl false)))
 sNx)
 (iu (abl (sIt (sV 1)) (kN 2) (zj j5 ie qg))
 (iu (sIf (sOr (a0z (zb (sA (j8 false 4 j5) (ak (s2 gIx (sV 0) (sC (.int 2))) (ak (sA p7 (ak (sV 1) bz)) (ak (s1 a4z (sC (.int 1))) (ak (sC (.int 5)) bz))))))) (sT (s2 hNe (s2 gIx (s2 gIx (sV 0) (sC (.int 2))) (sC (.int 0))) (s1 a4z (sC (.int 1))))))
 (o9 (sC (.bl false)))
 sNx)
 (o9 (s2 hEq (sA (j8 false 1 qg) (ak (sV 1) bz)) (sA p7 (ak (sV 1) bz)))))))))
noncomputable def yp:SS :=
 (iu (qi 1 (sZ (sA a2i (ak (s1 a4z (sC (.int 1))) (ak (sC (.int 6)) (ak (sC (.int 32)) (ak (s2 abq (sC (.int 10)) (sC (.int 30))) (ak (sC (.bl true)) (ak (sC (.bl false)) (ak (sC .non) (ak (sC (.str "")) (ak (sC (.str "aa")) (ak (sC (.str "a\tb")) (ak (sA qx bz) (ak (sA qx (ak (sC (.int 0)) bz)) (ak (sZ (sA a2i bz)) (ak (sZ (sA a2i (ak (sC (.int 0)) (ak (sC (.int 0)) bz)))) (ak (sZ ai7) (ak (sC (.str "abcdefg")) (ak (s1 a4z (sC (.int 2))) (ak (sC (.int 0)) (ak (sC (.int 5)) (ak (sA qx (ak (sC (.str "a")) (ak (sA qx (ak (sA qx (ak (sC (.int 0)) bz)) bz)) (ak (sA qx (ak (s1 a4z (sC (.int 1))) bz)) bz)))) (ak (sZ (sA a2i (ak (sC (.str "a")) (ak (sZ (sA a2i (ak (sZ (sA a2i (ak (sC (.int 0)) bz))) bz))) (ak (sZ (sA a2i (ak (s1 a4z (sC (.int 1))) bz))) bz))))) (ak (sA qx (ak (sC (.str "a")) (ak (sA qx (ak (sA qx (ak (sC (.int 0)) bz)) bz)) bz))) (ak (sA qx (ak (sC (.int 0)) (ak (sC (.int 1)) (ak (sC (.int 2)) (ak (sC (.int 3)) (ak (sC (.int 4)) (ak (sC (.int 5)) bz))))))) bz))))))))))))))))))))))))))
 (o9 (s2 gIx (sV 1) (s2 a01 (sV 0) (sA p7 (ak (sV 1) bz))))))
noncomputable def a1y:SS :=
 (o9 (s2 jq (s2 jq (a1w (sV 0) oN (oS (sV 1))) (sA qx (ak (sV 2) bz))) (a1w (sV 0) (oS (s2 jq (sV 1) (sC (.int 1)))) oN)))
noncomputable def uv (fu:SF) (d9:SF):SS :=
 (iu (aa4 (sV 0) (a8f 3 (qp (kN 4) (qp (kN 5) (qp (kN 6) a92)))))
 (iu (qi 7 (s2 a01 (sV 2) (sA p7 (ak (sV 5) bz))))
 (iu (qi 8 (s2 a01 (s2 abp (sV 2) (sC (.int 32))) (sA p7 (ak (sV 4) bz))))
 (iu (sIf (sT (s2 hEq (sV 1) (sC (.int 0))))
 (o9 (sA qx (ak (sV 4) (ak (sA (j8 false 3 d9) (ak (sV 5) (ak (sV 7) (ak (sA (j8 false 1 fu) (ak (sV 3) bz)) bz)))) (ak (sV 6) bz)))))
 sNx)
 (iu (sIf (sT (s2 hEq (sV 1) (sC (.int 1))))
 (o9 (sA qx (ak (sV 4) (ak (sA (j8 false 3 d9) (ak (sV 5) (ak (sV 7) (ak (sZ (sA a0d (ak (s2 gIx (sV 5) (sV 7)) bz))) bz)))) (ak (sV 6) bz)))))
 sNx)
 (iu (sIf (sT (s2 hEq (sV 1) (sC (.int 2))))
 (o9 (sA qx (ak (sV 4) (ak (sA (j8 false 3 d9) (ak (sV 5) (ak (sV 7) (ak (sA (j8 false 3 d9) (ak (s2 gIx (sV 5) (sV 7)) (ak (sV 8) (ak (sA (j8 false 1 fu) (ak (sV 3) bz)) bz)))) bz)))) (ak (sV 6) bz)))))
 sNx)
 (iu (sIf (sT (s2 hEq (sV 1) (sC (.int 3))))
 (o9 (sA qx (ak (sV 4) (ak (sA (j8 false 3 d9) (ak (sV 5) (ak (sV 7) (ak (sA (j8 false 3 d9) (ak (s2 gIx (sV 5) (sV 7)) (ak (sV 8) (ak (s2 a4x (sA p7 (ak (sV 5) bz)) (s2 a01 (sV 3) (sC (.int 2)))) bz)))) bz)))) (ak (sV 6) bz)))))
 sNx)
 (iu (sIf (sT (s2 hEq (sV 1) (sC (.int 4))))
 (o9 (sA qx (ak (sV 4) (ak (sA (j8 false 3 d9) (ak (sV 5) (ak (sV 7) (ak (s2 jq (s2 gIx (sV 5) (sV 7)) (sA qx (ak (s2 a01 (sV 3) (sA p7 (ak (sV 5) bz))) bz))) bz)))) (ak (sV 6) bz)))))
 sNx)
 (iu (sIf (sT (s2 hEq (sV 1) (sC (.int 5))))
 (o9 (sA qx (ak (sV 4) (ak (sA (j8 false 3 d9) (ak (sV 5) (ak (sV 7) (ak (s2 jq (a1w (s2 gIx (sV 5) (sV 7)) oN (oS (sV 8))) (a1w (s2 gIx (sV 5) (sV 7)) (oS (s2 jq (sV 8) (sC (.int 1)))) oN)) bz)))) (ak (sV 6) bz)))))
 sNx)
 (o9 (sA qx (ak (sV 4) (ak (sA (j8 false 3 d9) (ak (sV 5) (ak (sV 7) (ak (sA (j8 false 3 d9) (ak (s2 gIx (sV 5) (sV 7)) (ak (sV 8) (ak (s2 a01 (sV 3) (sA p7 (ak (sV 5) bz))) bz)))) bz)))) (ak (sV 6) bz))))))))))))))
noncomputable def ue (fu:SF) (d9:SF):SS :=
 (iu (aa4 (sV 0) (a8f 3 (qp (kN 4) (qp (kN 5) (qp (kN 6) a92)))))
 (iu (qi 7 (s2 a01 (sV 2) (sA p7 (ak (sV 5) bz))))
 (iu (sIf (sT (s2 hEq (sV 1) (sC (.int 0))))
 (o9 (sA qx (ak (sV 4) (ak (sV 5) (ak (sA (j8 false 3 d9) (ak (sV 6) (ak (sV 7) (ak (sA (j8 false 1 fu) (ak (sV 3) bz)) bz)))) bz)))))
 sNx)
 (iu (sIf (sT (s2 hEq (sV 1) (sC (.int 1))))
 (o9 (sA qx (ak (sV 4) (ak (sV 5) (ak (s2 jq (s2 jq (a1w (sV 6) oN (oS (sV 7))) (sA qx (ak (s2 a01 (sV 3) (sC (.int 6))) bz))) (a1w (sV 6) (oS (sV 7)) oN)) bz)))))
 sNx)
 (iu (sIf (sT (s2 hEq (sV 1) (sC (.int 2))))
 (o9 (sA qx (ak (sV 4) (ak (sV 5) (ak (s2 jq (a1w (sV 6) oN (oS (sV 7))) (a1w (sV 6) (oS (s2 jq (sV 7) (sC (.int 1)))) oN)) bz)))))
 sNx)
 (iu (sIf (sT (s2 hEq (sV 1) (sC (.int 3))))
 (o9 (sA qx (ak (sV 4) (ak (s2 jq (sV 5) (sA qx (ak (s2 gIx (sV 5) (sV 7)) bz))) (ak (s2 jq (sV 6) (sA qx (ak (s2 a4x (s2 a01 (sV 3) (sC (.int 7))) (sC (.int 1))) bz))) bz)))))
 sNx)
 (iu (sIf (sT (s2 hEq (sV 1) (sC (.int 4))))
 (o9 (sA qx (ak (sV 4) (ak (s2 jq (a1w (sV 5) oN (oS (sV 7))) (a1w (sV 5) (oS (s2 jq (sV 7) (sC (.int 1)))) oN)) (ak (s2 jq (a1w (sV 6) oN (oS (sV 7))) (a1w (sV 6) (oS (s2 jq (sV 7) (sC (.int 1)))) oN)) bz)))))
 sNx)
 (iu (sIf (sT (s2 hEq (sV 1) (sC (.int 5))))
 (o9 (sA qx (ak (sV 4) (ak (sV 5) (ak (sA (j8 false 3 d9) (ak (sV 6) (ak (sC (.int 0)) (ak (s2 a4x (s2 a01 (sV 3) (sC (.int 7))) (sC (.int 1))) bz)))) bz)))))
 sNx)
 (iu (sIf (sT (s2 hEq (sV 1) (sC (.int 6))))
 (iu (qi 8 (s2 a01 (sV 7) (sA p7 (ak (sV 4) bz))))
 (iu (qi 9 (s2 gIx (sV 4) (s2 a01 (sV 2) (sA p7 (ak (sV 4) bz)))))
 (o9 (sA qx (ak (s2 jq (s2 jq (a1w (sV 4) oN (oS (sV 8))) (sV 9)) (a1w (sV 4) (oS (sV 8)) oN)) (ak (sV 5) (ak (sV 6) bz)))))))
 sNx)
 (o9 (sA qx (ak (a1w (sV 4) (oS (sC (.int 1))) oN) (ak (sV 5) (ak (sV 6) bz))))))))))))))
noncomputable def a1m (iy:SF) (jb:SF) (fu:SF) (d9:SF):SE :=
 (sA qx (ak (sA af3 (ak (s2 jq (sV 0) (sC (.int 1))) (ak (s2 a4x (sV 1) (sC (.int 1))) bz))) bz))
noncomputable def zm (iy:SF) (jb:SF) (fu:SF) (d9:SF):SS :=
 (iu (sIf (sT (s2 hEq (sV 1) (sC (.int 0))))
 (o9 (sV 0))
 sNx)
 (iu (sIf (sT (s2 hEq (sV 1) (sC (.int 1))))
 (o9 (sA (j8 false 1 fu) (ak (sV 3) bz)))
 sNx)
 (iu (sIf (sT (s2 hEq (sV 1) (sC (.int 2))))
 (o9 (sA a0d (ak (sV 0) bz)))
 sNx)
 (iu (sIf (sT (s2 hEq (sV 1) (sC (.int 3))))
 (o9 (sA (j8 false 3 d9) (ak (sV 0) (ak (s2 a01 (sV 2) (sC (.int 3))) (ak (sA (j8 false 1 fu) (ak (sV 3) bz)) bz)))))
 sNx)
 (iu (sIf (sT (s2 hEq (sV 1) (sC (.int 4))))
 (o9 (sA (j8 false 3 d9) (ak (sV 0) (ak (s2 a01 (sV 2) (sC (.int 3))) (ak (sZ (sA a0d (ak (s2 gIx (sV 0) (s2 a01 (sV 2) (sC (.int 3)))) bz))) bz)))))
 sNx)
 (iu (sIf (sT (s2 hEq (sV 1) (sC (.int 5))))
 (iu (qi 4 (s2 jq (sC (.int 32)) (s2 a01 (sV 3) (sC (.int 2)))))
 (iu (qi 5 (sA ym (ak (sZ (wz (sRg a2s (ak (sV 4) bz)) t1 (a1m iy jb fu d9) [4])) bz)))
 (o9 (sA qx (ak (a1w (s2 gIx (sV 0) (sC (.int 0))) oN (oS (sC (.int 1)))) (ak (sV 5) (ak (s2 jq (sA qx (ak (s1 a4z (sC (.int 1))) bz)) (s2 ada (sA qx (ak (s2 a01 (sV 3) (sC (.int 6))) bz)) (s2 a4x (sV 4) (sC (.int 1))))) bz)))))))
 sNx)
 (iu (sIf (sT (s2 gLt (sV 1) (sC (.int 13))))
 (o9 (sA (j8 false 4 jb) (ak (sV 0) (ak (s2 a4x (sV 1) (sC (.int 6))) (ak (sV 2) (ak (sV 3) bz))))))
 sNx)
 (o9 (sA (j8 false 4 iy) (ak (sV 0) (ak (s2 a4x (sV 1) (sC (.int 13))) (ak (sV 2) (ak (sV 3) bz)))))))))))))
noncomputable def xx (fj:SF):SS :=
 (iu (qi 1 (sC (.bl false)))
 (iu (aqt 2 a0k
 (a1e (sA (a5c 1 fj) (qA (ak (sV 0) bz))))
 (iu (qi 1 (yu (aj1 2 a6d) (aj1 2 a1j)))
 (sIf (zb (aj1 2 kh))
 ak8
 sNx)))
 (o9 (sV 1))))
noncomputable def zu (dw:SF) (dz:SF):SE :=
 (sA (j8 false 2 dw) (ak (sV 0) (ak (sV 1) bz)))
noncomputable def uz (dw:SF) (dz:SF):SS :=
 (iu (sIf (ad7 (zb (sA nq (ak (sV 0) (ak (sC (.ty "tuple")) bz)))) (zb (sA nq (ak (sV 1) (ak (sC (.ty "tuple")) bz)))))
 (o9 (yu (s2 hEq (sA p7 (ak (sV 0) bz)) (sA p7 (ak (sV 1) bz))) (sA adq (ak (sZ (wz (ao3 (sV 0) (sV 1)) (tN 2) (zu dw dz) [])) bz))))
 sNx)
 (iu (sIf (ad7 (zb (sA nq (ak (sV 0) (ak (sC (.ty "str")) bz)))) (zb (sA nq (ak (sV 1) (ak (sC (.ty "str")) bz)))))
 (o9 (s2 hEq (sV 0) (sV 1)))
 sNx)
 (o9 (yu (sA (j8 false 3 dz) (ak (sV 0) (ak (s1 a4z (sC (.int 1))) (ak (sC (.int 32)) bz)))) (yu (sA (j8 false 3 dz) (ak (sV 1) (ak (s1 a4z (sC (.int 1))) (ak (sC (.int 32)) bz)))) (s2 hEq (sV 0) (sV 1)))))))
noncomputable def zx (dw:SF) (rn:SF) (jz:SF) (jx:SF) (fj:SF):SS :=
 (iu (qi 4 (sA (j8 false 1 jx) (ak (sV 0) bz)))
 (iu (sIf (sOr (a0z (zb (sA nq (ak (sV 4) (ak (sC (.ty "bool")) bz))))) (sT (s2 hNe (sV 4) (sV 1))))
 ak8
 sNx)
 (iu (sIf (ad7 (zb (sV 1)) (a0z (zb (sA (j8 false 2 dw) (ak (sA (a5c 1 fj) (ak (sV 0) bz)) (ak (sV 0) bz))))))
 ak8
 sNx)
 (sIf (ad7 (a0z (zb (sV 1))) (a0z (zb (sA (j8 false 1 jz) (ak (sV 0) bz)))))
 ak8
 sNx))))
noncomputable def a0o (dw:SF) (rn:SF) (jz:SF) (jx:SF) (fj:SF):SS :=
 (iu (qi 1 (sA (j8 false 1 rn) (ak (sV 0) bz)))
 (iu (qi 2 (sA adg (ak (sV 0) bz)))
 (iu (abl (sRg a2s (ak (sC (.int 2)) bz)) (kN 3) (zx dw rn jz jx fj))
 (o9 (s2 hEq (sA adg (ak (sV 0) bz)) (sV 2))))))
noncomputable def aj2 (p6:SF) (v5:SF) (rz:SF) (oh:SF) (ao:SF):SS :=
 (iu (qi 1 (sA (j8 true 1 v5) (ak (sV 0) bz)))
 (iu (qi 2 (sA (j8 false 2 ao) (ak (sV 1) (ak (sC (.int 21)) bz))))
 (iu (qi 3 (sA (j8 false 2 ao) (ak (sV 1) (ak (sC (.int 1009)) bz))))
 (iu (qi 4 (sA (j8 false 2 ao) (ak (sV 1) (ak (sC (.int 1013)) bz))))
 (iu (qi 5 (sA (j8 false 1 oh) (ak (sV 1) bz)))
 (iu (qi 6 (sA (j8 false 4 rz) (ak (sV 5) (ak (sV 2) (ak (sV 3) (ak (sV 4) bz))))))
 (iu (sIf (a0z (zb (sA (j8 false 1 p6) (ak (sV 6) bz))))
 ak8
 sNx)
 (o9 (sA (j8 false 1 p6) (ak (sV 5) bz))))))))))
end K20
namespace K20
open PySem PySem.Spec L2 MI
def top (i:Nat):Stmt:=PySem.Challenge.pw_nearreach_k20_tables_of_anything.main.body.getD i (.Pass ⟨0,0,0,0⟩)
structure Nm (mg:Str→Option Value):Prop where
 ValueError:mg "ValueError" = none
 abs:mg "abs" = none
 all:mg "all" = none
 bool:mg "bool" = none
 enumerate:mg "enumerate" = none
 int:mg "int" = none
 isinstance:mg "isinstance" = none
 len:mg "len" = none
 list:mg "list" = none
 min:mg "min" = none
 ord:mg "ord" = none
 range:mg "range" = none
 repr:mg "repr" = none
 set:mg "set" = none
 str:mg "str" = none
 tuple:mg "tuple" = none
 zip:mg "zip" = none
structure Cn (mg:Str→Option Value):Prop where
 LAST_KIND:∃ t,mg "LAST_KIND" = some (.int 5 t)
 MOST_ROOMS:∃ t,mg "MOST_ROOMS" = some (.int 32 t)
structure Xn (K:PySem.W.Frag) (mg:Str→Option Value) (y_NoTable y_ReachError y_Closed y_NoBook y_NoModes y_NoText:Addr):Prop where
 g_NoTable:mg "NoTable" = some (.ref y_NoTable)
 g_ReachError:mg "ReachError" = some (.ref y_ReachError)
 g_Closed:mg "Closed" = some (.ref y_Closed)
 g_NoBook:mg "NoBook" = some (.ref y_NoBook)
 g_NoModes:mg "NoModes" = some (.ref y_NoModes)
 g_NoText:mg "NoText" = some (.ref y_NoText)
 n_NoTable:PySem.W.nsIn K mainGlobals "NoTable" = some (some (.ref y_NoTable))
 c_NoTable:XCls K y_NoTable
 k_NoTable:XKit K y_NoTable
 e_NoTable_ReachError:PySem.W.exmOne K (.ref y_NoTable) (.ref y_ReachError)=some true
 i_NoTable_ValueError:PySem.W.kitOne K (.ref y_NoTable) (.type "ValueError")=some true
 i_NoTable_NoTable:PySem.W.kitOne K (.ref y_NoTable) (.ref y_NoTable)=some true
 i_NoTable_Closed_NoBook_NoModes_NoText:PySem.W.kitAny K (.ref y_NoTable) [.ref y_Closed, .ref y_NoBook, .ref y_NoModes, .ref y_NoText]=some false
section
variable {K:PySem.W.Frag} {mg:Str→Option Value} {y_NoTable y_ReachError y_Closed y_NoBook y_NoModes y_NoText:Addr}
theorem a6p (Z:Xn K mg y_NoTable y_ReachError y_Closed y_NoBook y_NoModes y_NoText):∀ c,a0k c=true→∃ C,mg c=some (.ref C)∧PySem.W.nsIn K mainGlobals c=some (some (.ref C))∧PySem.W.exmOne K (.ref C) (.ref y_ReachError)=some true:=by
 intro c h
 simp only [a0k,Bool.or_eq_true,decide_eq_true_eq] at h
 subst h
 ·exact ⟨_,Z.g_NoTable,Z.n_NoTable,Z.e_NoTable_ReachError⟩
theorem a82 (Z:Xn K mg y_NoTable y_ReachError y_Closed y_NoBook y_NoModes y_NoText):∀ c b C,a1j c=some b→PySem.W.nsIn K mainGlobals c=some (some (.ref C))→XKit K C∧PySem.W.kitOne K (.ref C) (.type "ValueError")=some b:=by
 intro c b C h q
 unfold a1j at h
 by_cases e_NoTable:c = "NoTable"
 ·subst e_NoTable;rw [if_pos rfl] at h;cases h;cases Z.n_NoTable.symm.trans q;exact ⟨Z.k_NoTable,Z.i_NoTable_ValueError⟩
 rw [if_neg e_NoTable] at h
 cases h
theorem adi (Z:Xn K mg y_NoTable y_ReachError y_Closed y_NoBook y_NoModes y_NoText):∀ c b C,a6d c=some b→PySem.W.nsIn K mainGlobals c=some (some (.ref C))→XKit K C∧PySem.W.kitOne K (.ref C) (.ref y_NoTable)=some b:=by
 intro c b C h q
 unfold a6d at h
 by_cases e_NoTable:c = "NoTable"
 ·subst e_NoTable;rw [if_pos rfl] at h;cases h;cases Z.n_NoTable.symm.trans q;exact ⟨Z.k_NoTable,Z.i_NoTable_NoTable⟩
 rw [if_neg e_NoTable] at h
 cases h
theorem w6 (Z:Xn K mg y_NoTable y_ReachError y_Closed y_NoBook y_NoModes y_NoText):∀ c b C,kh c=some b→PySem.W.nsIn K mainGlobals c=some (some (.ref C))→XKit K C∧PySem.W.kitAny K (.ref C) ([y_Closed,y_NoBook,y_NoModes,y_NoText].map Value.ref)=some b:=by
 intro c b C h q
 unfold kh at h
 by_cases e_NoTable:c = "NoTable"
 ·subst e_NoTable;rw [if_pos rfl] at h;cases h;cases Z.n_NoTable.symm.trans q;exact ⟨Z.k_NoTable,Z.i_NoTable_Closed_NoBook_NoModes_NoText⟩
 rw [if_neg e_NoTable] at h
 cases h
end
section
variable {P:Program} {w:World} {K:PySem.W.Frag} {mg:Str→Option Value} {base:Heap} {f:Addr}
theorem awa:FnScope ["thing"] ["thing"] (au (top 8)):=⟨rfl,rfl,rfl,by decide +kernel,rfl,by decide +kernel,by decide +kernel⟩
theorem m_0 {k:Nat} (M:Nm mg) (cdv:Value) (A:Around) (outer:List Env) (s:Shared) (H:Hp) (E:XK) (hr:Room k (A.deeper (PyProof.Rows.envOfC "is_number" (au (top 8)) s.heap.objs.size f cdv))):MSs (a00 CX0 P w K mg base ["thing"] "is_number" (au (top 8)) f cdv A outer s H E).nox X0 (g8 (top 8)) (a0l) :=
 have SC:=awa
 (bh (di (yj (jg (L2.CallR.or jj j4) ph rfl M.isinstance du (aj (bf 0) (aj (a2d rfl M.int aju) aq))) (a03 (ajw (jg (L2.CallR.or jj j4) ph rfl M.isinstance du (aj (bf 0) (aj (a2d rfl M.bool aap) aq))))))))
theorem awb:FnScope ["thing", "low", "high"] ["thing", "low", "high"] (au (top 9)):=⟨rfl,rfl,rfl,by decide +kernel,rfl,by decide +kernel,by decide +kernel⟩
theorem m_1 {k:Nat} {a_0:Addr} {d_0:FuncData} {k_0:Nat} {F_0:SF} (D_0:Dn P w K mg base k_0 "is_number" ["thing"] (mz K 1 F_0) a_0 d_0) (h_0:k_0≤k) (cdv:Value) (A:Around) (outer:List Env) (s:Shared) (H:Hp) (E:XK) (hr:Room k (A.deeper (PyProof.Rows.envOfC "is_number_from" (au (top 9)) s.heap.objs.size f cdv))):MSs (a00 CX0 P w K mg base ["thing", "low", "high"] "is_number_from" (au (top 9)) f cdv A outer s H E).nox X0 (g8 (top 9)) (ut F_0) :=
 have SC:=awb
 (bh (di (yj (bu false D_0 (hr.mono h_0) rfl (aj (bf 0) aq)) (a03 (a5i (a2z.or n6) (a2z.or n6) zc zc (bf 1) (bf 0) (bf 2))))))
theorem awc:FnScope ["thing", "low", "high"] ["thing", "low", "high"] (au (top 10)):=⟨rfl,rfl,rfl,by decide +kernel,rfl,by decide +kernel,by decide +kernel⟩
theorem m_2 {k:Nat} (M:Nm mg) (cdv:Value) (A:Around) (outer:List Env) (s:Shared) (H:Hp) (E:XK) (hr:Room k (A.deeper (PyProof.Rows.envOfC "is_row" (au (top 10)) s.heap.objs.size f cdv))):MSs (a00 CX0 P w K mg base ["thing", "low", "high"] "is_row" (au (top 10)) f cdv A outer s H E).nox X0 (g8 (top 10)) (a5n) :=
 have SC:=awc
 (bh (di (yj (jg (L2.CallR.or jj j4) ph rfl M.isinstance du (aj (bf 0) (aj (a2d rfl M.tuple wg) aq))) (a03 (a5i (a2z.or n6) (a2z.or n6) zc zc (bf 1) (jg (L2.CallR.or bw bx) ik rfl M.len jt (aj (bf 0) aq)) (bf 2))))))
theorem awd:FnScope ["thing"] ["thing"] (au (top 11)):=⟨rfl,rfl,rfl,by decide +kernel,rfl,by decide +kernel,by decide +kernel⟩
theorem m_3 {k:Nat} (M:Nm mg) (cdv:Value) (A:Around) (outer:List Env) (s:Shared) (H:Hp) (E:XK) (hr:Room k (A.deeper (PyProof.Rows.envOfC "is_sign" (au (top 11)) s.heap.objs.size f cdv))):MSs (a00 CX0 P w K mg base ["thing"] "is_sign" (au (top 11)) f cdv A outer s H E).nox X0 (g8 (top 11)) (a3n) :=
 have SC:=awd
 (az (lq (PW.pt (a6l (qz (qj (jg (L2.CallR.or jj j4) ph rfl M.isinstance du (aj (bf 0) (aj (a2d rfl M.str a90) aq))))) (a3e (gq (a71 hr.u) a4a (jg (L2.CallR.or bw bx) ik rfl M.len jt (aj (bf 0) aq)) bc (j6 _)))))
 a72
 dj)
 (az (lq (gq (lw hr.u) jk (bf 0) a4s (j6 _))
 (bh (di a2c))
 dj)
 (bh (di (yj (a5i (a2z.or n6) (a2z.or n6) zc zc a4s (bf 0) a4s) (a03 (yh (a71 hr.u) a4a (jg ahk aly rfl M.ord apm (aj (bf 0) aq)) bc (j6 _))))))))
theorem awe:FnScope ["thing"] ["thing"] (au (top 12)):=⟨rfl,rfl,rfl,by decide +kernel,rfl,by decide +kernel,by decide +kernel⟩
theorem m_4 {k:Nat} (M:Nm mg) {a_3:Addr} {d_3:FuncData} {k_3:Nat} {F_3:SF} (D_3:Dn P w K mg base k_3 "is_sign" ["thing"] (mz K 1 F_3) a_3 d_3) (h_3:k_3≤k) (cdv:Value) (A:Around) (outer:List Env) (s:Shared) (H:Hp) (E:XK) (hr:Room k (A.deeper (PyProof.Rows.envOfC "is_unlike_signs" (au (top 12)) s.heap.objs.size f cdv))):MSs (a00 CX0 P w K mg base ["thing"] "is_unlike_signs" (au (top 12)) f cdv A outer s H E).nox X0 (g8 (top 12)) (uc F_3) :=
 have SC:=awe
 (az (lq (PW.pt (a6l (qz (qj (jg (L2.CallR.or jj j4) ph rfl M.isinstance du (aj (bf 0) (aj (a2d rfl M.str a90) aq))))) (a3e (qz (a7i (a2z.or n6) (a2z.or n6) zc zc bc (jg (L2.CallR.or bw bx) ik rfl M.len jt (aj (bf 0) aq)) bc)))))
 (bh (di a2c))
 dj)
 (bh (di (yj (yh (lw hr.u) jk (af5 rfl rfl M.len rfl M.set (bf 0)) (jg (L2.CallR.or bw bx) ik rfl M.len jt (aj (bf 0) aq)) (j6 _)) (a03 (jg (ux rfl) a2u rfl M.all a5w (aj (a6o (zp rfl (CSc.noFree (ts:=["sign"]) rfl (by decide +kernel) (by decide +kernel) (by decide +kernel)) (a0t (bf 0)) (fun _ _ _ _=>(ug (i:=0) (show (["sign"]:List Str).Nodup by decide +kernel) rfl (Or.inl rfl) (.inr rfl))) a1f (fun _ _ _ _=>(bu false D_3 (hr.mono h_3) rfl (aj (bf 0) aq))))) aq)))))))
theorem awf:FnScope ["thing"] ["thing"] (au (top 14)):=⟨rfl,rfl,rfl,by decide +kernel,rfl,by decide +kernel,by decide +kernel⟩
theorem m_5 {k:Nat} {a_4:Addr} {d_4:FuncData} {k_4:Nat} {F_4:SF} (D_4:Dn P w K mg base k_4 "is_unlike_signs" ["thing"] (mz K 1 F_4) a_4 d_4) (h_4:k_4≤k) (cdv:Value) (A:Around) (outer:List Env) (s:Shared) (H:Hp) (E:XK) (hr:Room k (A.deeper (PyProof.Rows.envOfC "is_tongue" (au (top 14)) s.heap.objs.size f cdv))):MSs (a00 CX0 P w K mg base ["thing"] "is_tongue" (au (top 14)) f cdv A outer s H E).nox X0 (g8 (top 14)) (a0m F_4) :=
 have SC:=awf
 (bh (di (bu false D_4 (hr.mono h_4) rfl (aj (bf 0) aq))))
theorem awg:FnScope ["thing", "tongue", "goes", "kinds"] ["thing"] (au (top 18)):=⟨rfl,rfl,rfl,by decide +kernel,rfl,by decide +kernel,by decide +kernel⟩
theorem m_6 {k:Nat} (M:Nm mg) (C:Cn mg) {a_8:Addr} {d_8:FuncData} {k_8:Nat} {F_8:SF} (D_8:Dn P w K mg base k_8 "are_kinds" ["thing", "rooms"] (mz K 2 F_8) a_8 d_8) (h_8:k_8≤k) {a_9:Addr} {d_9:FuncData} {k_9:Nat} {F_9:SF} (D_9:Dn P w K mg base k_9 "is_all_led_to" ["goes"] (mz K 1 F_9) a_9 d_9) (h_9:k_9≤k) {a_7:Addr} {d_7:FuncData} {k_7:Nat} {F_7:SF} (D_7:Dn P w K mg base k_7 "is_go" ["thing", "signs", "rooms"] (mz K 3 F_7) a_7 d_7) (h_7:k_7≤k) {a_2:Addr} {d_2:FuncData} {k_2:Nat} {F_2:SF} (D_2:Dn P w K mg base k_2 "is_row" ["thing", "low", "high"] (mz K 3 F_2) a_2 d_2) (h_2:k_2≤k) {a_5:Addr} {d_5:FuncData} {k_5:Nat} {F_5:SF} (D_5:Dn P w K mg base k_5 "is_tongue" ["thing"] (mz K 1 F_5) a_5 d_5) (h_5:k_5≤k) (cdv:Value) (A:Around) (outer:List Env) (s:Shared) (H:Hp) (E:XK) (hr:Room k (A.deeper (PyProof.Rows.envOfC "is_table" (au (top 18)) s.heap.objs.size f cdv))):MSs (a00 CX0 P w K mg base ["thing", "tongue", "goes", "kinds"] "is_table" (au (top 18)) f cdv A outer s H E).nox X0 (g8 (top 18)) (ud F_8 F_9 F_7 F_2 F_5) :=
 have SC:=awg
 (az (lq (qz (qj (bu false D_2 (hr.mono h_2) rfl (aj (bf 0) (aj bc (aj bc aq))))))
 (bh (di a2c))
 dj)
 (az (a93 (bf 0) (a66 rfl (n8 (m5 (i:=1) SC.nd rfl (Or.inr rfl)) (n8 (m5 (i:=2) SC.nd rfl (Or.inr rfl)) (n8 (m5 (i:=3) SC.nd rfl (Or.inl rfl)) a2r)))))
 (az (lq (PW.pt (a6l (qz (qj (bu false D_5 (hr.mono h_5) rfl (aj (bf 1) aq)))) (a3e (qz (qj (bu false D_2 (hr.mono h_2) rfl (aj (bf 2) (aj bc (aj (aes rfl C.MOST_ROOMS.choose_spec) aq)))))))))
 (bh (di a2c))
 dj)
 (az (lq (qz (qj (jg (ux rfl) a2u rfl M.all a5w (aj (a6o (zp rfl (CSc.of (ts:=["row"]) (fr:=["tongue", "goes"]) (ix:=[1,2]) rfl rfl rfl rfl (by intro p hp;simp only [List.mem_cons,List.not_mem_nil,or_false] at hp;rcases hp with rfl | rfl<;>rfl) rfl rfl rfl rfl) (a0t (bf 2)) (fun _ _ _ _=>(ug (i:=0) (show (["row", "tongue", "goes"]:List Str).Nodup by decide +kernel) rfl (Or.inl rfl) (.inr rfl))) a1f (fun _ _ _ _=>(bu false D_7 (hr.mono h_7) rfl (aj (bf 0) (aj (jg (L2.CallR.or bw bx) ik rfl M.len jt (aj (bf 1) aq)) (aj (jg (L2.CallR.or bw bx) ik rfl M.len jt (aj (bf 2) aq)) aq))))))) aq))))
 (bh (di a2c))
 dj)
 (bh (di (yj (bu false D_8 (hr.mono h_8) rfl (aj (bf 3) (aj (jg (L2.CallR.or bw bx) ik rfl M.len jt (aj (bf 2) aq)) aq))) (a03 (bu false D_9 (hr.mono h_9) rfl (aj (bf 2) aq))))))))))
theorem awh:FnScope ["thing", "signs", "rooms"] ["thing", "signs", "rooms"] (au (top 19)):=⟨rfl,rfl,rfl,by decide +kernel,rfl,by decide +kernel,by decide +kernel⟩
theorem m_7 {k:Nat} (M:Nm mg) {a_1:Addr} {d_1:FuncData} {k_1:Nat} {F_1:SF} (D_1:Dn P w K mg base k_1 "is_number_from" ["thing", "low", "high"] (mz K 3 F_1) a_1 d_1) (h_1:k_1≤k) {a_2:Addr} {d_2:FuncData} {k_2:Nat} {F_2:SF} (D_2:Dn P w K mg base k_2 "is_row" ["thing", "low", "high"] (mz K 3 F_2) a_2 d_2) (h_2:k_2≤k) (cdv:Value) (A:Around) (outer:List Env) (s:Shared) (H:Hp) (E:XK) (hr:Room k (A.deeper (PyProof.Rows.envOfC "is_go" (au (top 19)) s.heap.objs.size f cdv))):MSs (a00 CX0 P w K mg base ["thing", "signs", "rooms"] "is_go" (au (top 19)) f cdv A outer s H E).nox X0 (g8 (top 19)) (a81 F_1 F_2) :=
 have SC:=awh
 (bh (di (yj (bu false D_2 (hr.mono h_2) rfl (aj (bf 0) (aj (bf 1) (aj (bf 1) aq)))) (a03 (jg (ux rfl) a2u rfl M.all a5w (aj (a6o (zp rfl (CSc.of (ts:=["room"]) (fr:=["rooms"]) (ix:=[2]) rfl rfl rfl rfl (by intro p hp;cases List.mem_singleton.mp hp;rfl) rfl rfl rfl rfl) (a0t (bf 0)) (fun _ _ _ _=>(ug (i:=0) (show (["room", "rooms"]:List Str).Nodup by decide +kernel) rfl (Or.inl rfl) (.inr rfl))) a1f (fun _ _ _ _=>(bu false D_1 (hr.mono h_1) rfl (aj (bf 0) (aj bc (aj (a0v (bf 1) bc) aq))))))) aq))))))
theorem awi:FnScope ["thing", "rooms"] ["thing", "rooms"] (au (top 20)):=⟨rfl,rfl,rfl,by decide +kernel,rfl,by decide +kernel,by decide +kernel⟩
theorem m_8 {k:Nat} (M:Nm mg) (C:Cn mg) {a_1:Addr} {d_1:FuncData} {k_1:Nat} {F_1:SF} (D_1:Dn P w K mg base k_1 "is_number_from" ["thing", "low", "high"] (mz K 3 F_1) a_1 d_1) (h_1:k_1≤k) {a_2:Addr} {d_2:FuncData} {k_2:Nat} {F_2:SF} (D_2:Dn P w K mg base k_2 "is_row" ["thing", "low", "high"] (mz K 3 F_2) a_2 d_2) (h_2:k_2≤k) (cdv:Value) (A:Around) (outer:List Env) (s:Shared) (H:Hp) (E:XK) (hr:Room k (A.deeper (PyProof.Rows.envOfC "are_kinds" (au (top 20)) s.heap.objs.size f cdv))):MSs (a00 CX0 P w K mg base ["thing", "rooms"] "are_kinds" (au (top 20)) f cdv A outer s H E).nox X0 (g8 (top 20)) (a0n F_1 F_2) :=
 have SC:=awi
 (az (lq (qz (qj (bu false D_2 (hr.mono h_2) rfl (aj (bf 0) (aj (bf 1) (aj (bf 1) aq))))))
 (bh (di a2c))
 dj)
 (bh (di (yj (jg (ux rfl) a2u rfl M.all a5w (aj (a6o (zp rfl (CSc.noFree (ts:=["kind"]) rfl (by decide +kernel) (by decide +kernel) (by decide +kernel)) (a0t (bf 0)) (fun _ _ _ _=>(ug (i:=0) (show (["kind"]:List Str).Nodup by decide +kernel) rfl (Or.inl rfl) (.inr rfl))) a1f (fun _ _ _ _=>(bu false D_1 (hr.mono h_1) rfl (aj (bf 0) (aj (a1g bc) (aj (aes rfl C.LAST_KIND.choose_spec) aq))))))) aq)) (a03 (yh (lw hr.u) jk (gj (bf 0) bc (fun _ _=>rfl)) (a1g bc) (j6 _)))))))
theorem awj:FnScope ["goes"] ["goes"] (au (top 21)):=⟨rfl,rfl,rfl,by decide +kernel,rfl,by decide +kernel,by decide +kernel⟩
theorem m_9 {k:Nat} (M:Nm mg) {a_10:Addr} {d_10:FuncData} {k_10:Nat} {F_10:SF} (D_10:Dn P w K mg base k_10 "rooms_led_to" ["goes"] (mz K 1 F_10) a_10 d_10) (h_10:k_10≤k) (cdv:Value) (A:Around) (outer:List Env) (s:Shared) (H:Hp) (E:XK) (hr:Room k (A.deeper (PyProof.Rows.envOfC "is_all_led_to" (au (top 21)) s.heap.objs.size f cdv))):MSs (a00 CX0 P w K mg base ["goes"] "is_all_led_to" (au (top 21)) f cdv A outer s H E).nox X0 (g8 (top 21)) (v9 F_10) :=
 have SC:=awj
 (bh (di (yh (lw hr.u) jk (jg (L2.CallR.or bw bx) ik rfl M.len jt (aj (bu false D_10 (hr.mono h_10) rfl (aj (bf 0) aq)) aq)) (jg (L2.CallR.or bw bx) ik rfl M.len jt (aj (bf 0) aq)) (j6 _))))
theorem aqw:FnScope ["goes", "found", "seen", "looked", "row", "room"] ["goes"] (au (top 22)):=⟨rfl,rfl,rfl,by decide +kernel,rfl,by decide +kernel,by decide +kernel⟩
theorem axn {k:Nat} (M:Nm mg) (cdv:Value) (A:Around) (outer:List Env) (s:Shared) (H:Hp) (E:XK) (hr:Room k (A.deeper (PyProof.Rows.envOfC "rooms_led_to" (au (top 22)) s.heap.objs.size f cdv))):MSs (a00 CX0 P w K mg base ["goes", "found", "seen", "looked", "row", "room"] "rooms_led_to" (au (top 22)) f cdv A outer s H E).nox X0 (g8 (top 22)) (wu) :=
 have SC:=aqw
 (az (j7 (i:=1) SC.nd rfl (Or.inl rfl) (a0s (aj bc aq)))
 (az (j7 (i:=2) SC.nd rfl (Or.inl rfl) (av7 bc a2c))
 (az (j7 (i:=3) SC.nd rfl (Or.inl rfl) bc)
 (az (a7k 100000 PassesOwn.never (gq (ae5.or a1a) a95 (bf 3) (jg (L2.CallR.or bw bx) ik rfl M.len jt (aj (bf 1) aq)) (j6 _)) (az (j7 (i:=4) SC.nd rfl (Or.inl rfl) (gj (bf 0) (gj (bf 1) (bf 3) (fun _ _=>rfl)) (fun _ _=>rfl)))
 (az (a3f PassesOwn.never rfl (a0t (bf 4)) (m5 (i:=5) SC.nd rfl (Or.inl rfl)) (bh (lq (gq (afm hr.u) ade (bf 5) (bf 2) (by with_unfolding_all rfl))
 (az (amj hr.u a2c (bf 2) (bf 5))
 (bh (a3y (a97 PySem.F.slot_list_append PySem.F.type_list_append a1b a68 (bf 1) (aj (bf 5) aq)))))
 dj)))
 (bh (ajy (i:=3) SC.nd rfl (Or.inl rfl) (a7d.or a0b) a5k bc)))))
 (bh (di (bf 1)))))))
theorem aqx:FnScope ["thing"] ["thing"] (au (top 23)):=⟨rfl,rfl,rfl,by decide +kernel,rfl,by decide +kernel,by decide +kernel⟩
theorem axo {k:Nat} {y_NoTable y_ReachError y_Closed y_NoBook y_NoModes y_NoText:Addr} (Z:Xn K mg y_NoTable y_ReachError y_Closed y_NoBook y_NoModes y_NoText) {a_6:Addr} {d_6:FuncData} {k_6:Nat} {F_6:SF} (D_6:Dn P w K mg base k_6 "is_table" ["thing"] (mz K 1 F_6) a_6 d_6) (h_6:k_6≤k) (cdv:Value) (A:Around) (outer:List Env) (s:Shared) (H:Hp) (E:XK) (hr:Room k (A.deeper (PyProof.Rows.envOfC "looked_table" (au (top 23)) s.heap.objs.size f cdv))):MSs (cxE P w K mg base ["thing"] "looked_table" (au (top 23)) f cdv A outer s H E) (akb mg E) (g8 (top 23)) (ww F_6) :=
 have SC:=aqx
 (az (lq (qz (qj (aiy false D_6 (hr.mono h_6) rfl (aj (bf 0) aq))))
 (bh (aiz Z.c_NoTable rfl Z.g_NoTable (aj a4s aq)))
 dj)
 (bh (di (bf 0))))
theorem aqy:FnScope ["_law_script"] ["_law_script"] (au (top 25)):=⟨rfl,rfl,rfl,by decide +kernel,rfl,by decide +kernel,by decide +kernel⟩
theorem axp {k:Nat} (M:Nm mg) (cdv:Value) (A:Around) (outer:List Env) (s:Shared) (H:Hp) (E:XK) (hr:Room k (A.deeper (PyProof.Rows.envOfC "_law_hand" (au (top 25)) s.heap.objs.size f cdv))):MSs (a00 CX0 P w K mg base ["_law_script"] "_law_hand" (au (top 25)) f cdv A outer s H E).nox X0 (g8 (top 25)) (HND.a4h) :=
 have SC:=aqy
 (bh (di (a0s (aj (a6o (a1d (L2.CallR.or yx (a0c rfl)) a5j rfl M.list a5x (aj (a6o (jo (bf 0) pq (qb bc))) aq))) (aj bc (aj bc (aj bc (aj bc aq))))))))
theorem aqz:FnScope ["_law_hand_here", "_law_many", "_law_cell", "_law_told"] ["_law_hand_here", "_law_many"] (au (top 26)):=⟨rfl,rfl,rfl,by decide +kernel,rfl,by decide +kernel,by decide +kernel⟩
theorem axq {k:Nat} (M:Nm mg) (cdv:Value) (A:Around) (outer:List Env) (s:Shared) (H:Hp) (E:XK) (hr:Room k (A.deeper (PyProof.Rows.envOfC "_law_take" (au (top 26)) s.heap.objs.size f cdv))):MSs (a00 CX0 P w K mg base ["_law_hand_here", "_law_many", "_law_cell", "_law_told"] "_law_take" (au (top 26)) f cdv A outer s H E).nox X0 (g8 (top 26)) (HND.a4i) :=
 have SC:=aqz
 (az (lq (gq (ae5.or a1a) a95 (bf 1) bc (j6 _))
 (bh (di bc))
 dj)
 (az (lq (PW.pt (a6z (gq (lw hr.u) jk (gj (bf 0) bc (fun _ _=>rfl)) bc (j6 _)) (a3x (gq (ae5.or a1a) a95 (gj (bf 0) bc (fun _ _=>rfl)) (jg (L2.CallR.or bw bx) ik rfl M.len jt (aj (gj (bf 0) bc (fun _ _=>rfl)) aq)) (j6 _)))))
 (az (j7 (i:=2) SC.nd rfl (Or.inl rfl) (gj (gj (bf 0) bc (fun _ _=>rfl)) (gj (bf 0) bc (fun _ _=>rfl)) (fun _ _=>rfl)))
 (az (afh (bf 0) bc bc (a7d.or a0b) a5k)
 (az (a65 (uo (jr (a7s (gj (bf 0) bc (fun _ _=>rfl)) bc) (bf 2)) bc) (bf 0) bc)
 (bh (lq (gq auj apw (jg abb af2 rfl M.abs ajt (aj (bf 2) aq)) (aey bc bc) (j6 _))
 (bh (a65 (jg abb af2 rfl M.abs ajt (aj (bf 2) aq)) (bf 0) bc))
 dj)))))
 dj)
 (az (lq (gq al1 aez (gj (bf 0) bc (fun _ _=>rfl)) bc (j6 _))
 (az (j7 (i:=3) SC.nd rfl (Or.inl rfl) (uo (gj (bf 0) bc (fun _ _=>rfl)) (bf 1)))
 (az (a65 (abr (gj (bf 0) bc (fun _ _=>rfl)) (bf 1)) (bf 0) bc)
 (bh (di (bf 3)))))
 dj)
 (az (afh (bf 0) bc bc (a7d.or a0b) a5k)
 (bh (di (uo (abr (uo (aey (jr (gj (bf 0) bc (fun _ _=>rfl)) (a7s bc (gj (bf 0) bc (fun _ _=>rfl)))) bc) bc) bc) (bf 1))))))))
theorem ar0:FnScope ["_law_some"] [] (au (top 27)):=⟨rfl,rfl,rfl,by decide +kernel,rfl,by decide +kernel,by decide +kernel⟩
theorem axr {k:Nat} (cdv:Value) (A:Around) (outer:List Env) (s:Shared) (H:Hp) (E:XK) (hr:Room k (A.deeper (PyProof.Rows.envOfC "_law_signs" (au (top 27)) s.heap.objs.size f cdv))):MSs (a00 CX0 P w K mg base ["_law_some"] "_law_signs" (au (top 27)) f cdv A outer s H E).nox X0 (g8 (top 27)) (yo) :=
 have SC:=ar0
 (az (j7 (i:=0) SC.nd rfl (Or.inl rfl) a4s)
 (bh (di (jr (bf 0) a4s))))
theorem ar5:FnScope ["_law_hand_here", "_law_rest", "_law_tongue_here", "_law_turn", "_law_at"] ["_law_hand_here"] (au (top 28)):=⟨rfl,rfl,rfl,by decide +kernel,rfl,by decide +kernel,by decide +kernel⟩
theorem axs {k:Nat} (M:Nm mg) {a_14:Addr} {d_14:FuncData} {k_14:Nat} {F_14:SF} (D_14:Dn P w K mg base k_14 "_law_signs" [] (mz K 0 F_14) a_14 d_14) (h_14:k_14≤k) {a_13:Addr} {d_13:FuncData} {k_13:Nat} {F_13:SF} (D_13:Dn P w K mg base k_13 "_law_take" ["_law_hand_here", "_law_many"] (mz K 2 F_13) a_13 d_13) (h_13:k_13≤k) (cdv:Value) (A:Around) (outer:List Env) (s:Shared) (H:Hp) (E:XK) (hr:Room k (A.deeper (PyProof.Rows.envOfC "_law_tongue" (au (top 28)) s.heap.objs.size f cdv))):MSs (a00 CX0 P w K mg base ["_law_hand_here", "_law_rest", "_law_tongue_here", "_law_turn", "_law_at"] "_law_tongue" (au (top 28)) f cdv A outer s H E).nox X0 (g8 (top 28)) (xf F_14 F_13) :=
 have SC:=ar5
 (az (j7 (i:=1) SC.nd rfl (Or.inl rfl) (a9d false D_14 (hr.mono h_14) rfl))
 (az (j7 (i:=2) SC.nd rfl (Or.inl rfl) a4s)
 (az (a3f PassesOwn.never rfl (a67 rfl M.range (aj (jr bc (bu false D_13 (hr.mono h_13) rfl (aj (bf 0) (aj bc aq)))) aq)) (m5 (i:=3) SC.nd rfl (Or.inl rfl)) (az (j7 (i:=4) SC.nd rfl (Or.inl rfl) (bu false D_13 (hr.mono h_13) rfl (aj (bf 0) (aj (jg (L2.CallR.or bw bx) ik rfl M.len jt (aj (bf 1) aq)) aq))))
 (az (j7 (i:=2) SC.nd rfl (Or.inl rfl) (jr (bf 2) (gj (bf 1) (bf 4) (fun _ _=>rfl))))
 (bh (j7 (i:=1) SC.nd rfl (Or.inl rfl) (jr (jo (bf 1) pq (qb (bf 4))) (jo (bf 1) (qb (jr (bf 4) bc)) pq)))))))
 (bh (di (bf 2))))))
theorem ar6:FnScope ["_law_hand_here", "_law_size", "_law_rooms", "_law_manner", "_law_free", "_law_goes_here", "_law_room", "_law_pick", "_law_one", "_law_at"] ["_law_hand_here", "_law_size", "_law_rooms"] (au (top 29)):=⟨rfl,rfl,rfl,by decide +kernel,rfl,by decide +kernel,by decide +kernel⟩
theorem axt {k:Nat} (M:Nm mg) {a_13:Addr} {d_13:FuncData} {k_13:Nat} {F_13:SF} (D_13:Dn P w K mg base k_13 "_law_take" ["_law_hand_here", "_law_many"] (mz K 2 F_13) a_13 d_13) (h_13:k_13≤k) (cdv:Value) (A:Around) (outer:List Env) (s:Shared) (H:Hp) (E:XK) (hr:Room k (A.deeper (PyProof.Rows.envOfC "_law_goes" (au (top 29)) s.heap.objs.size f cdv))):MSs (a00 CX0 P w K mg base ["_law_hand_here", "_law_size", "_law_rooms", "_law_manner", "_law_free", "_law_goes_here", "_law_room", "_law_pick", "_law_one", "_law_at"] "_law_goes" (au (top 29)) f cdv A outer s H E).nox X0 (g8 (top 29)) (HND.a1x F_13) :=
 have SC:=ar6
 (az (j7 (i:=3) SC.nd rfl (Or.inl rfl) (bu false D_13 (hr.mono h_13) rfl (aj (bf 0) (aj bc aq))))
 (az (aar (i:=4) SC.nd rfl (Or.inl rfl) rfl (CSc.noFree (ts:=["_law_at"]) rfl (by decide +kernel) (by decide +kernel) (by decide +kernel)) (a67 rfl M.range (aj (bf 1) aq)) (fun _ _ _ _=>(ug (i:=0) (show (["_law_at"]:List Str).Nodup by decide +kernel) rfl (Or.inl rfl) (.inr rfl))) a1f (fun _ _ _ _=>(m8 (aj bc (aj (bf 0) aq)))))
 (az (j7 (i:=5) SC.nd rfl (Or.inl rfl) (a0s (aj (a7s (a6o (a0s (aj bc aq))) (bf 1)) aq)))
 (az (a3f PassesOwn.never rfl (aew rfl M.range (aj bc (aj (bf 2) aq))) (m5 (i:=6) SC.nd rfl (Or.inr rfl)) (az (j7 (i:=7) SC.nd rfl (Or.inl rfl) (a0v (a0v (jg (L2.CallR.or bw bx) ik rfl M.len jt (aj (bf 4) aq)) bc) (bu false D_13 (hr.mono h_13) rfl (aj (bf 0) (aj (bf 1) aq)))))
 (az (lq (gq (lw hr.u) jk (bf 3) bc (j6 _))
 (bh (j7 (i:=7) SC.nd rfl (Or.inl rfl) (bu false D_13 (hr.mono h_13) rfl (aj (bf 0) (aj (jg (L2.CallR.or bw bx) ik rfl M.len jt (aj (bf 4) aq)) aq)))))
 dj)
 (az (a93 (a97 PySem.F.slot_list_pop PySem.F.type_list_pop abf a98 (bf 4) (aj (bf 7) aq)) (a66 rfl (n8 (m5 (i:=8) SC.nd rfl (Or.inl rfl)) (n8 (m5 (i:=9) SC.nd rfl (Or.inl rfl)) a2r))))
 (az (a65 (bf 6) (gj (bf 5) (bf 8) (fun _ _=>rfl)) (bf 9))
 (az (a3y (a97 PySem.F.slot_list_append PySem.F.type_list_append a1b a68 (bf 5) (aj (a7s (a6o (a0s (aj bc aq))) (bf 1)) aq)))
 (bh (a3y (a97 PySem.F.slot_list_extend PySem.F.type_list_extend (MtR.or adc ad6) aii (bf 4) (aj (a6o (zp rfl (CSc.of (ts:=["_law_k"]) (fr:=["_law_room"]) (ix:=[6]) rfl rfl rfl rfl (by intro p hp;cases List.mem_singleton.mp hp;rfl) rfl rfl rfl rfl) (a67 rfl M.range (aj (bf 1) aq)) (fun _ _ _ _=>(ug (i:=0) (show (["_law_k", "_law_room"]:List Str).Nodup by decide +kernel) rfl (Or.inl rfl) (.inr rfl))) a1f (fun _ _ _ _=>(m8 (aj (bf 1) (aj (bf 0) aq)))))) aq))))))))))
 (az (a3f PassesOwn.never rfl (a0t (bf 4)) (a66 rfl (n8 (m5 (i:=8) SC.nd rfl (Or.inl rfl)) (n8 (m5 (i:=9) SC.nd rfl (Or.inl rfl)) a2r))) (bh (a65 (bu false D_13 (hr.mono h_13) rfl (aj (bf 0) (aj (bf 2) aq))) (gj (bf 5) (bf 8) (fun _ _=>rfl)) (bf 9))))
 (bh (di (bf 5))))))))
theorem ar7:FnScope ["_law_hand_here", "_law_rooms", "_law_manner", "_law_kinds_here", "_law_room", "_law_kind"] ["_law_hand_here", "_law_rooms"] (au (top 30)):=⟨rfl,rfl,rfl,by decide +kernel,rfl,by decide +kernel,by decide +kernel⟩
theorem axu {k:Nat} (M:Nm mg) {a_13:Addr} {d_13:FuncData} {k_13:Nat} {F_13:SF} (D_13:Dn P w K mg base k_13 "_law_take" ["_law_hand_here", "_law_many"] (mz K 2 F_13) a_13 d_13) (h_13:k_13≤k) (cdv:Value) (A:Around) (outer:List Env) (s:Shared) (H:Hp) (E:XK) (hr:Room k (A.deeper (PyProof.Rows.envOfC "_law_kinds" (au (top 30)) s.heap.objs.size f cdv))):MSs (a00 CX0 P w K mg base ["_law_hand_here", "_law_rooms", "_law_manner", "_law_kinds_here", "_law_room", "_law_kind"] "_law_kinds" (au (top 30)) f cdv A outer s H E).nox X0 (g8 (top 30)) (HND.a0j F_13) :=
 have SC:=ar7
 (az (j7 (i:=2) SC.nd rfl (Or.inl rfl) (bu false D_13 (hr.mono h_13) rfl (aj (bf 0) (aj bc aq))))
 (az (j7 (i:=3) SC.nd rfl (Or.inl rfl) (a0s (aj (a1g bc) aq)))
 (az (a3f PassesOwn.never rfl (aew rfl M.range (aj bc (aj (bf 1) aq))) (m5 (i:=4) SC.nd rfl (Or.inl rfl)) (az (j7 (i:=5) SC.nd rfl (Or.inl rfl) (a0v (bu false D_13 (hr.mono h_13) rfl (aj (bf 0) (aj bc aq))) bc))
 (az (lq (gq (lw hr.u) jk (bf 2) bc (j6 _))
 (bh (j7 (i:=5) SC.nd rfl (Or.inl rfl) (abr (bf 5) bc)))
 dj)
 (az (lq (PW.pt (a6z (gq (lw hr.u) jk (bf 2) bc (j6 _)) (a3x (gq al1 aez (bu false D_13 (hr.mono h_13) rfl (aj (bf 0) (aj bc aq))) bc (j6 _)))))
 (bh (j7 (i:=5) SC.nd rfl (Or.inl rfl) (a1g bc)))
 dj)
 (bh (a3y (a97 PySem.F.slot_list_append PySem.F.type_list_append a1b a68 (bf 3) (aj (bf 5) aq))))))))
 (bh (di (bf 3))))))
theorem ar8:FnScope ["_law_hand_here", "_law_goes_here", "_law_kinds_here", "_law_rest", "_law_places", "_law_rows", "_law_told", "_law_room", "_law_row"] ["_law_hand_here", "_law_goes_here", "_law_kinds_here"] (au (top 31)):=⟨rfl,rfl,rfl,by decide +kernel,rfl,by decide +kernel,by decide +kernel⟩
theorem axv {k:Nat} (M:Nm mg) {a_13:Addr} {d_13:FuncData} {k_13:Nat} {F_13:SF} (D_13:Dn P w K mg base k_13 "_law_take" ["_law_hand_here", "_law_many"] (mz K 2 F_13) a_13 d_13) (h_13:k_13≤k) (cdv:Value) (A:Around) (outer:List Env) (s:Shared) (H:Hp) (E:XK) (hr:Room k (A.deeper (PyProof.Rows.envOfC "_law_shuffled" (au (top 31)) s.heap.objs.size f cdv))):MSs (a00 CX0 P w K mg base ["_law_hand_here", "_law_goes_here", "_law_kinds_here", "_law_rest", "_law_places", "_law_rows", "_law_told", "_law_room", "_law_row"] "_law_shuffled" (au (top 31)) f cdv A outer s H E).nox X0 (g8 (top 31)) (HND.wk F_13) :=
 have SC:=ar8
 (az (j7 (i:=3) SC.nd rfl (Or.inl rfl) (ain rfl rfl M.list rfl M.range (aj bc (aj (jg (L2.CallR.or bw bx) ik rfl M.len jt (aj (bf 1) aq)) aq))))
 (az (j7 (i:=4) SC.nd rfl (Or.inr rfl) (a0s (aj bc aq)))
 (az (a7k 100000 PassesOwn.never (gq al1 aez (jg (L2.CallR.or bw bx) ik rfl M.len jt (aj (bf 3) aq)) bc (j6 _)) (bh (a3y (a97 PySem.F.slot_list_append PySem.F.type_list_append a1b a68 (bf 4) (aj (a97 PySem.F.slot_list_pop PySem.F.type_list_pop abf a98 (bf 3) (aj (bu false D_13 (hr.mono h_13) rfl (aj (bf 0) (aj (jg (L2.CallR.or bw bx) ik rfl M.len jt (aj (bf 3) aq)) aq))) aq)) aq)))))
 (az (aar (i:=5) SC.nd rfl (Or.inl rfl) rfl (CSc.noFree (ts:=["_law_room"]) rfl (by decide +kernel) (by decide +kernel) (by decide +kernel)) (a0t (bf 1)) (fun _ _ _ _=>(ug (i:=0) (show (["_law_room"]:List Str).Nodup by decide +kernel) rfl (Or.inl rfl) (.inr rfl))) a1f (fun _ _ _ _=>(m8 aq)))
 (az (aar (i:=6) SC.nd rfl (Or.inl rfl) rfl (CSc.noFree (ts:=["_law_room"]) rfl (by decide +kernel) (by decide +kernel) (by decide +kernel)) (a0t (bf 1)) (fun _ _ _ _=>(ug (i:=0) (show (["_law_room"]:List Str).Nodup by decide +kernel) rfl (Or.inl rfl) (.inr rfl))) a1f (fun _ _ _ _=>(a1g bc)))
 (az (a3f PassesOwn.never rfl (afq rfl M.enumerate (bf 1)) (a66 rfl (n8 (m5 (i:=7) SC.nd rfl (Or.inl rfl)) (n8 (m5 (i:=8) SC.nd rfl (Or.inl rfl)) a2r))) (az (a65 (a1d (L2.CallR.or xq (yz rfl)) a3j rfl M.tuple wg (aj (a6o (zp rfl (CSc.of (ts:=["_law_to"]) (fr:=["_law_places"]) (ix:=[4]) rfl rfl rfl rfl (by intro p hp;cases List.mem_singleton.mp hp;rfl) rfl rfl rfl rfl) (a0t (bf 8)) (fun _ _ _ _=>(ug (i:=0) (show (["_law_to", "_law_places"]:List Str).Nodup by decide +kernel) rfl (Or.inl rfl) (.inr rfl))) a1f (fun _ _ _ _=>(gj (bf 1) (bf 0) (fun _ _=>rfl))))) aq)) (bf 5) (gj (bf 4) (bf 7) (fun _ _=>rfl)))
 (bh (a65 (gj (bf 2) (bf 7) (fun _ _=>rfl)) (bf 6) (gj (bf 4) (bf 7) (fun _ _=>rfl))))))
 (bh (di (m8 (aj (a1d (L2.CallR.or xq (yz rfl)) a3j rfl M.tuple wg (aj (bf 5) aq)) (aj (a1d (L2.CallR.or xq (yz rfl)) a3j rfl M.tuple wg (aj (bf 6) aq)) aq)))))))))))
theorem ar9:FnScope ["_law_hand_here", "_law_tongue_here", "_law_rooms", "_law_goes_here", "_law_kinds_here"] ["_law_hand_here"] (au (top 32)):=⟨rfl,rfl,rfl,by decide +kernel,rfl,by decide +kernel,by decide +kernel⟩
theorem axw {k:Nat} (M:Nm mg) {a_16:Addr} {d_16:FuncData} {k_16:Nat} {F_16:SF} (D_16:Dn P w K mg base k_16 "_law_goes" ["_law_hand_here", "_law_size", "_law_rooms"] (mz K 3 F_16) a_16 d_16) (h_16:k_16≤k) {a_17:Addr} {d_17:FuncData} {k_17:Nat} {F_17:SF} (D_17:Dn P w K mg base k_17 "_law_kinds" ["_law_hand_here", "_law_rooms"] (mz K 2 F_17) a_17 d_17) (h_17:k_17≤k) {a_18:Addr} {d_18:FuncData} {k_18:Nat} {F_18:SF} (D_18:Dn P w K mg base k_18 "_law_shuffled" ["_law_hand_here", "_law_goes_here", "_law_kinds_here"] (mz K 3 F_18) a_18 d_18) (h_18:k_18≤k) {a_13:Addr} {d_13:FuncData} {k_13:Nat} {F_13:SF} (D_13:Dn P w K mg base k_13 "_law_take" ["_law_hand_here", "_law_many"] (mz K 2 F_13) a_13 d_13) (h_13:k_13≤k) {a_15:Addr} {d_15:FuncData} {k_15:Nat} {F_15:SF} (D_15:Dn P w K mg base k_15 "_law_tongue" ["_law_hand_here"] (mz K 1 F_15) a_15 d_15) (h_15:k_15≤k) (cdv:Value) (A:Around) (outer:List Env) (s:Shared) (H:Hp) (E:XK) (hr:Room k (A.deeper (PyProof.Rows.envOfC "_law_table" (au (top 32)) s.heap.objs.size f cdv))):MSs (a00 CX0 P w K mg base ["_law_hand_here", "_law_tongue_here", "_law_rooms", "_law_goes_here", "_law_kinds_here"] "_law_table" (au (top 32)) f cdv A outer s H E).nox X0 (g8 (top 32)) (vq F_16 F_17 F_18 F_13 F_15) :=
 have SC:=ar9
 (az (j7 (i:=1) SC.nd rfl (Or.inl rfl) (bu false D_15 (hr.mono h_15) rfl (aj (bf 0) aq)))
 (az (j7 (i:=2) SC.nd rfl (Or.inl rfl) (jr bc (bu false D_13 (hr.mono h_13) rfl (aj (bf 0) (aj bc aq)))))
 (az (lq (gq (lw hr.u) jk (bu false D_13 (hr.mono h_13) rfl (aj (bf 0) (aj bc aq))) bc (j6 _))
 (bh (j7 (i:=2) SC.nd rfl (Or.inl rfl) (jr bc (bu false D_13 (hr.mono h_13) rfl (aj (bf 0) (aj bc aq))))))
 dj)
 (az (a93 (bu false D_18 (hr.mono h_18) rfl (aj (bf 0) (aj (bu false D_16 (hr.mono h_16) rfl (aj (bf 0) (aj (jg (L2.CallR.or bw bx) ik rfl M.len jt (aj (bf 1) aq)) (aj (bf 2) aq)))) (aj (bu false D_17 (hr.mono h_17) rfl (aj (bf 0) (aj (bf 2) aq))) aq)))) (a66 rfl (n8 (m5 (i:=3) SC.nd rfl (Or.inl rfl)) (n8 (m5 (i:=4) SC.nd rfl (Or.inl rfl)) a2r))))
 (bh (di (m8 (aj (bf 1) (aj (bf 3) (aj (bf 4) aq))))))))))
theorem ara:FnScope ["_law_thing_here", "_law_low", "_law_high"] ["_law_thing_here", "_law_low", "_law_high"] (au (top 33)):=⟨rfl,rfl,rfl,by decide +kernel,rfl,by decide +kernel,by decide +kernel⟩
theorem axx {k:Nat} (M:Nm mg) (cdv:Value) (A:Around) (outer:List Env) (s:Shared) (H:Hp) (E:XK) (hr:Room k (A.deeper (PyProof.Rows.envOfC "_law_number" (au (top 33)) s.heap.objs.size f cdv))):MSs (a00 CX0 P w K mg base ["_law_thing_here", "_law_low", "_law_high"] "_law_number" (au (top 33)) f cdv A outer s H E).nox X0 (g8 (top 33)) (zf) :=
 have SC:=ara
 (bh (di (yj (jg (L2.CallR.or jj j4) ph rfl M.isinstance du (aj (bf 0) (aj (a2d rfl M.int aju) aq))) (yj (ajw (jg (L2.CallR.or jj j4) ph rfl M.isinstance du (aj (bf 0) (aj (a2d rfl M.bool aap) aq)))) (a03 (a5i (a2z.or n6) (a2z.or n6) zc zc (bf 1) (bf 0) (bf 2)))))))
theorem arb:FnScope ["_law_thing_here", "_law_size", "_law_low", "_law_high"] ["_law_thing_here", "_law_size", "_law_low", "_law_high"] (au (top 34)):=⟨rfl,rfl,rfl,by decide +kernel,rfl,by decide +kernel,by decide +kernel⟩
theorem axy {k:Nat} (M:Nm mg) {a_20:Addr} {d_20:FuncData} {k_20:Nat} {F_20:SF} (D_20:Dn P w K mg base k_20 "_law_number" ["_law_thing_here", "_law_low", "_law_high"] (mz K 3 F_20) a_20 d_20) (h_20:k_20≤k) (cdv:Value) (A:Around) (outer:List Env) (s:Shared) (H:Hp) (E:XK) (hr:Room k (A.deeper (PyProof.Rows.envOfC "_law_is_row" (au (top 34)) s.heap.objs.size f cdv))):MSs (a00 CX0 P w K mg base ["_law_thing_here", "_law_size", "_law_low", "_law_high"] "_law_is_row" (au (top 34)) f cdv A outer s H E).nox X0 (g8 (top 34)) (zg F_20) :=
 have SC:=arb
 (az (lq (PW.pt (a6l (qz (qj (jg (L2.CallR.or jj j4) ph rfl M.isinstance du (aj (bf 0) (aj (a2d rfl M.tuple wg) aq))))) (a3e (gq (a71 hr.u) a4a (jg (L2.CallR.or bw bx) ik rfl M.len jt (aj (bf 0) aq)) (bf 1) (j6 _)))))
 (bh (di a2c))
 dj)
 (bh (di (jg (ux rfl) a2u rfl M.all a5w (aj (a6o (zp rfl (CSc.of (ts:=["_law_one"]) (fr:=["_law_low", "_law_high"]) (ix:=[2,3]) rfl rfl rfl rfl (by intro p hp;simp only [List.mem_cons,List.not_mem_nil,or_false] at hp;rcases hp with rfl | rfl<;>rfl) rfl rfl rfl rfl) (a0t (bf 0)) (fun _ _ _ _=>(ug (i:=0) (show (["_law_one", "_law_low", "_law_high"]:List Str).Nodup by decide +kernel) rfl (Or.inl rfl) (.inr rfl))) a1f (fun _ _ _ _=>(bu false D_20 (hr.mono h_20) rfl (aj (bf 0) (aj (bf 1) (aj (bf 2) aq))))))) aq)))))
theorem arc:FnScope ["_law_thing_here"] ["_law_thing_here"] (au (top 35)):=⟨rfl,rfl,rfl,by decide +kernel,rfl,by decide +kernel,by decide +kernel⟩
theorem axz {k:Nat} (M:Nm mg) {a_14:Addr} {d_14:FuncData} {k_14:Nat} {F_14:SF} (D_14:Dn P w K mg base k_14 "_law_signs" [] (mz K 0 F_14) a_14 d_14) (h_14:k_14≤k) (cdv:Value) (A:Around) (outer:List Env) (s:Shared) (H:Hp) (E:XK) (hr:Room k (A.deeper (PyProof.Rows.envOfC "_law_is_tongue" (au (top 35)) s.heap.objs.size f cdv))):MSs (a00 CX0 P w K mg base ["_law_thing_here"] "_law_is_tongue" (au (top 35)) f cdv A outer s H E).nox X0 (g8 (top 35)) (vf F_14) :=
 have SC:=arc
 (az (lq (PW.pt (a6l (qz (qj (jg (L2.CallR.or jj j4) ph rfl M.isinstance du (aj (bf 0) (aj (a2d rfl M.str a90) aq))))) (a3e (qz (a7i (a2z.or n6) (a2z.or n6) zc zc bc (jg (L2.CallR.or bw bx) ik rfl M.len jt (aj (bf 0) aq)) bc)))))
 (bh (di a2c))
 dj)
 (bh (di (jg (ux rfl) a2u rfl M.all a5w (aj (a6o (zp rfl (CSc.of (ts:=["_law_at", "_law_sign"]) (fr:=["_law_thing_here"]) (ix:=[0]) rfl rfl rfl rfl (by intro p hp;cases List.mem_singleton.mp hp;rfl) rfl rfl rfl rfl) (afq rfl M.enumerate (bf 0)) (fun _ _ _ _=>adz rfl (a2y (ug (i:=0) (show (["_law_at", "_law_sign", "_law_thing_here"]:List Str).Nodup by decide +kernel) rfl (Or.inl rfl) (.inr rfl)) (a2y (ug (i:=1) (show (["_law_at", "_law_sign", "_law_thing_here"]:List Str).Nodup by decide +kernel) rfl (Or.inl rfl) (.inr rfl)) aaa))) ak1 (fun _ _ _ _=>(yj (yh (alm.or aeg) alx (bf 1) (a9d false D_14 (hr.mono h_14) rfl) (by with_unfolding_all rfl)) (a03 (yh (a6y.or a4q) af1 (bf 1) (jo (bf 2) pq (qb (bf 0))) (by with_unfolding_all rfl))))))) aq)))))
theorem ard:FnScope ["_law_goes_here", "_law_met_here", "_law_at", "_law_to"] ["_law_goes_here"] (au (top 36)):=⟨rfl,rfl,rfl,by decide +kernel,rfl,by decide +kernel,by decide +kernel⟩
theorem ay0 {k:Nat} (M:Nm mg) (cdv:Value) (A:Around) (outer:List Env) (s:Shared) (H:Hp) (E:XK) (hr:Room k (A.deeper (PyProof.Rows.envOfC "_law_met" (au (top 36)) s.heap.objs.size f cdv))):MSs (a00 CX0 P w K mg base ["_law_goes_here", "_law_met_here", "_law_at", "_law_to"] "_law_met" (au (top 36)) f cdv A outer s H E).nox X0 (g8 (top 36)) (a3p) :=
 have SC:=ard
 (az (j7 (i:=1) SC.nd rfl (Or.inl rfl) (a0s (aj bc aq)))
 (az (j7 (i:=2) SC.nd rfl (Or.inl rfl) bc)
 (az (a7k 100000 PassesOwn.never (gq (ae5.or a1a) a95 (bf 2) (jg (L2.CallR.or bw bx) ik rfl M.len jt (aj (bf 1) aq)) (j6 _)) (az (a3f PassesOwn.never rfl (a0t (gj (bf 0) (gj (bf 1) (bf 2) (fun _ _=>rfl)) (fun _ _=>rfl))) (m5 (i:=3) SC.nd rfl (Or.inl rfl)) (bh (lq (gq (a6y.or a4q) af1 (bf 3) (bf 1) (by with_unfolding_all rfl))
 (bh (a3y (a97 PySem.F.slot_list_append PySem.F.type_list_append a1b a68 (bf 1) (aj (bf 3) aq))))
 dj)))
 (bh (ajy (i:=2) SC.nd rfl (Or.inl rfl) (a7d.or a0b) a5k bc))))
 (bh (di (jg (L2.CallR.or bw bx) ik rfl M.len jt (aj (bf 1) aq)))))))
theorem arf:FnScope ["_law_thing_here", "_law_goes_here", "_law_row"] ["_law_thing_here"] (au (top 37)):=⟨rfl,rfl,rfl,by decide +kernel,rfl,by decide +kernel,by decide +kernel⟩
theorem ay1 {k:Nat} (M:Nm mg) {a_21:Addr} {d_21:FuncData} {k_21:Nat} {F_21:SF} (D_21:Dn P w K mg base k_21 "_law_is_row" ["_law_thing_here", "_law_size", "_law_low", "_law_high"] (mz K 4 F_21) a_21 d_21) (h_21:k_21≤k) {a_22:Addr} {d_22:FuncData} {k_22:Nat} {F_22:SF} (D_22:Dn P w K mg base k_22 "_law_is_tongue" ["_law_thing_here"] (mz K 1 F_22) a_22 d_22) (h_22:k_22≤k) {a_23:Addr} {d_23:FuncData} {k_23:Nat} {F_23:SF} (D_23:Dn P w K mg base k_23 "_law_met" ["_law_goes_here"] (mz K 1 F_23) a_23 d_23) (h_23:k_23≤k) (cdv:Value) (A:Around) (outer:List Env) (s:Shared) (H:Hp) (E:XK) (hr:Room k (A.deeper (PyProof.Rows.envOfC "_law_due" (au (top 37)) s.heap.objs.size f cdv))):MSs (a00 CX0 P w K mg base ["_law_thing_here", "_law_goes_here", "_law_row"] "_law_due" (au (top 37)) f cdv A outer s H E).nox X0 (g8 (top 37)) (uq F_21 F_22 F_23) :=
 have SC:=arf
 (az (lq (PW.pt (a6l (qz (qj (jg (L2.CallR.or jj j4) ph rfl M.isinstance du (aj (bf 0) (aj (a2d rfl M.tuple wg) aq))))) (a6l (gq (a71 hr.u) a4a (jg (L2.CallR.or bw bx) ik rfl M.len jt (aj (bf 0) aq)) bc (j6 _)) (a3e (qz (qj (bu false D_22 (hr.mono h_22) rfl (aj (gj (bf 0) bc (fun _ _=>rfl)) aq))))))))
 (bh (di a2c))
 dj)
 (az (j7 (i:=1) SC.nd rfl (Or.inl rfl) (gj (bf 0) bc (fun _ _=>rfl)))
 (az (lq (PW.pt (a6l (qz (qj (jg (L2.CallR.or jj j4) ph rfl M.isinstance du (aj (bf 1) (aj (a2d rfl M.tuple wg) aq))))) (a3e (qz (a7i (a2z.or n6) (a2z.or n6) zc zc bc (jg (L2.CallR.or bw bx) ik rfl M.len jt (aj (bf 1) aq)) bc)))))
 (bh (di a2c))
 dj)
 (az (a3f PassesOwn.never rfl (a0t (bf 1)) (m5 (i:=2) SC.nd rfl (Or.inl rfl)) (bh (lq (qz (qj (bu false D_21 (hr.mono h_21) rfl (aj (bf 2) (aj (jg (L2.CallR.or bw bx) ik rfl M.len jt (aj (gj (bf 0) bc (fun _ _=>rfl)) aq)) (aj bc (aj (a0v (jg (L2.CallR.or bw bx) ik rfl M.len jt (aj (bf 1) aq)) bc) aq)))))))
 (bh (di a2c))
 dj)))
 (az (lq (PW.pt (a6l (qz (qj (bu false D_21 (hr.mono h_21) rfl (aj (gj (bf 0) bc (fun _ _=>rfl)) (aj (jg (L2.CallR.or bw bx) ik rfl M.len jt (aj (bf 1) aq)) (aj (a1g bc) (aj bc aq))))))) (a3e (gq (a71 hr.u) a4a (gj (gj (bf 0) bc (fun _ _=>rfl)) bc (fun _ _=>rfl)) (a1g bc) (j6 _)))))
 (bh (di a2c))
 dj)
 (bh (di (yh (lw hr.u) jk (bu false D_23 (hr.mono h_23) rfl (aj (bf 1) aq)) (jg (L2.CallR.or bw bx) ik rfl M.len jt (aj (bf 1) aq)) (j6 _)))))))))
theorem arh:FnScope ["_law_which", "_law_some"] ["_law_which"] (au (top 38)):=⟨rfl,rfl,rfl,by decide +kernel,rfl,by decide +kernel,by decide +kernel⟩
theorem ay2 {k:Nat} (M:Nm mg) (cdv:Value) (A:Around) (outer:List Env) (s:Shared) (H:Hp) (E:XK) (hr:Room k (A.deeper (PyProof.Rows.envOfC "_law_thing" (au (top 38)) s.heap.objs.size f cdv))):MSs (a00 CX0 P w K mg base ["_law_which", "_law_some"] "_law_thing" (au (top 38)) f cdv A outer s H E).nox X0 (g8 (top 38)) (yp):=by
 have SC:=arh
 unfold yp
 refine az (j7 (i:=1) SC.nd rfl (Or.inl rfl) (a6o (a0s ?_))) ?_
 rotate_left
 ·exact
  (bh (di (gj (bf 1) (uo (bf 0) (jg (L2.CallR.or bw bx) ik rfl M.len jt (aj (bf 1) aq))) (fun _ _=>rfl))))
 refine ac4 1 ?_
 refine adt 6 ?_
 refine adt 32 ?_
 refine aqo 10 30 ?_
 refine aqp ?_
 refine aqp ?_
 refine aqq ?_
 refine amr ?_
 refine amr ?_
 refine amr ?_
 refine avc ?_
 refine afx ?_
 refine avb ?_
 refine ac3 (adt 0 (adt 0 aq)) ?_
 refine avd ?_
 refine amr ?_
 refine ac4 2 ?_
 refine adt 0 ?_
 refine adt 5 ?_
 refine a73 (amr (a73 (afx aq) (a73 (ac4 1 aq) aq))) ?_
 refine ac3 (amr (ac3 (aqn aq) (ac3 (ac4 1 aq) aq))) ?_
 refine a73 (amr (a73 (afx aq) aq)) ?_
 refine a73 (adt 0 (adt 1 (adt 2 (adt 3 (adt 4 (adt 5 aq)))))) ?_
 exact aq
theorem ari:FnScope ["_law_row", "_law_at", "_law_thing_here"] ["_law_row", "_law_at", "_law_thing_here"] (au (top 39)):=⟨rfl,rfl,rfl,by decide +kernel,rfl,by decide +kernel,by decide +kernel⟩
theorem ay3 {k:Nat} (cdv:Value) (A:Around) (outer:List Env) (s:Shared) (H:Hp) (E:XK) (hr:Room k (A.deeper (PyProof.Rows.envOfC "_law_with" (au (top 39)) s.heap.objs.size f cdv))):MSs (a00 CX0 P w K mg base ["_law_row", "_law_at", "_law_thing_here"] "_law_with" (au (top 39)) f cdv A outer s H E).nox X0 (g8 (top 39)) (a1y) :=
 have SC:=ari
 (bh (di (jr (jr (jo (bf 0) pq (qb (bf 1))) (m8 (aj (bf 2) aq))) (jo (bf 0) (qb (jr (bf 1) bc)) pq))))
theorem arj:FnScope ["_law_table_here", "_law_which", "_law_where", "_law_what", "_law_tongue_here", "_law_goes_here", "_law_kinds_here", "_law_room", "_law_at"] ["_law_table_here", "_law_which", "_law_where", "_law_what"] (au (top 40)):=⟨rfl,rfl,rfl,by decide +kernel,rfl,by decide +kernel,by decide +kernel⟩
theorem ay4 {k:Nat} (M:Nm mg) {a_25:Addr} {d_25:FuncData} {k_25:Nat} {F_25:SF} (D_25:Dn P w K mg base k_25 "_law_thing" ["_law_which"] (mz K 1 F_25) a_25 d_25) (h_25:k_25≤k) {a_26:Addr} {d_26:FuncData} {k_26:Nat} {F_26:SF} (D_26:Dn P w K mg base k_26 "_law_with" ["_law_row", "_law_at", "_law_thing_here"] (mz K 3 F_26) a_26 d_26) (h_26:k_26≤k) (cdv:Value) (A:Around) (outer:List Env) (s:Shared) (H:Hp) (E:XK) (hr:Room k (A.deeper (PyProof.Rows.envOfC "_law_spoilt_row" (au (top 40)) s.heap.objs.size f cdv))):MSs (a00 CX0 P w K mg base ["_law_table_here", "_law_which", "_law_where", "_law_what", "_law_tongue_here", "_law_goes_here", "_law_kinds_here", "_law_room", "_law_at"] "_law_spoilt_row" (au (top 40)) f cdv A outer s H E).nox X0 (g8 (top 40)) (uv F_25 F_26) :=
 have SC:=arj
 (az (a93 (bf 0) (a66 rfl (n8 (m5 (i:=4) SC.nd rfl (Or.inl rfl)) (n8 (m5 (i:=5) SC.nd rfl (Or.inl rfl)) (n8 (m5 (i:=6) SC.nd rfl (Or.inl rfl)) a2r)))))
 (az (j7 (i:=7) SC.nd rfl (Or.inl rfl) (uo (bf 2) (jg (L2.CallR.or bw bx) ik rfl M.len jt (aj (bf 5) aq))))
 (az (j7 (i:=8) SC.nd rfl (Or.inl rfl) (uo (abr (bf 2) bc) (jg (L2.CallR.or bw bx) ik rfl M.len jt (aj (bf 4) aq))))
 (az (lq (gq (lw hr.u) jk (bf 1) bc (j6 _))
 (bh (di (m8 (aj (bf 4) (aj (bu false D_26 (hr.mono h_26) rfl (aj (bf 5) (aj (bf 7) (aj (bu false D_25 (hr.mono h_25) rfl (aj (bf 3) aq)) aq)))) (aj (bf 6) aq))))))
 dj)
 (az (lq (gq (lw hr.u) jk (bf 1) bc (j6 _))
 (bh (di (m8 (aj (bf 4) (aj (bu false D_26 (hr.mono h_26) rfl (aj (bf 5) (aj (bf 7) (aj (a6o (a1d (L2.CallR.or yx (a0c rfl)) a5j rfl M.list a5x (aj (gj (bf 5) (bf 7) (fun _ _=>rfl)) aq))) aq)))) (aj (bf 6) aq))))))
 dj)
 (az (lq (gq (lw hr.u) jk (bf 1) bc (j6 _))
 (bh (di (m8 (aj (bf 4) (aj (bu false D_26 (hr.mono h_26) rfl (aj (bf 5) (aj (bf 7) (aj (bu false D_26 (hr.mono h_26) rfl (aj (gj (bf 5) (bf 7) (fun _ _=>rfl)) (aj (bf 8) (aj (bu false D_25 (hr.mono h_25) rfl (aj (bf 3) aq)) aq)))) aq)))) (aj (bf 6) aq))))))
 dj)
 (az (lq (gq (lw hr.u) jk (bf 1) bc (j6 _))
 (bh (di (m8 (aj (bf 4) (aj (bu false D_26 (hr.mono h_26) rfl (aj (bf 5) (aj (bf 7) (aj (bu false D_26 (hr.mono h_26) rfl (aj (gj (bf 5) (bf 7) (fun _ _=>rfl)) (aj (bf 8) (aj (a0v (jg (L2.CallR.or bw bx) ik rfl M.len jt (aj (bf 5) aq)) (uo (bf 3) bc)) aq)))) aq)))) (aj (bf 6) aq))))))
 dj)
 (az (lq (gq (lw hr.u) jk (bf 1) bc (j6 _))
 (bh (di (m8 (aj (bf 4) (aj (bu false D_26 (hr.mono h_26) rfl (aj (bf 5) (aj (bf 7) (aj (jr (gj (bf 5) (bf 7) (fun _ _=>rfl)) (m8 (aj (uo (bf 3) (jg (L2.CallR.or bw bx) ik rfl M.len jt (aj (bf 5) aq))) aq))) aq)))) (aj (bf 6) aq))))))
 dj)
 (az (lq (gq (lw hr.u) jk (bf 1) bc (j6 _))
 (bh (di (m8 (aj (bf 4) (aj (bu false D_26 (hr.mono h_26) rfl (aj (bf 5) (aj (bf 7) (aj (jr (jo (gj (bf 5) (bf 7) (fun _ _=>rfl)) pq (qb (bf 8))) (jo (gj (bf 5) (bf 7) (fun _ _=>rfl)) (qb (jr (bf 8) bc)) pq)) aq)))) (aj (bf 6) aq))))))
 dj)
 (bh (di (m8 (aj (bf 4) (aj (bu false D_26 (hr.mono h_26) rfl (aj (bf 5) (aj (bf 7) (aj (bu false D_26 (hr.mono h_26) rfl (aj (gj (bf 5) (bf 7) (fun _ _=>rfl)) (aj (bf 8) (aj (uo (bf 3) (jg (L2.CallR.or bw bx) ik rfl M.len jt (aj (bf 5) aq))) aq)))) aq)))) (aj (bf 6) aq)))))))))))))))
theorem ark:FnScope ["_law_table_here", "_law_which", "_law_where", "_law_what", "_law_tongue_here", "_law_goes_here", "_law_kinds_here", "_law_room", "_law_at", "_law_twice"] ["_law_table_here", "_law_which", "_law_where", "_law_what"] (au (top 41)):=⟨rfl,rfl,rfl,by decide +kernel,rfl,by decide +kernel,by decide +kernel⟩
theorem ay5 {k:Nat} (M:Nm mg) {a_25:Addr} {d_25:FuncData} {k_25:Nat} {F_25:SF} (D_25:Dn P w K mg base k_25 "_law_thing" ["_law_which"] (mz K 1 F_25) a_25 d_25) (h_25:k_25≤k) {a_26:Addr} {d_26:FuncData} {k_26:Nat} {F_26:SF} (D_26:Dn P w K mg base k_26 "_law_with" ["_law_row", "_law_at", "_law_thing_here"] (mz K 3 F_26) a_26 d_26) (h_26:k_26≤k) (cdv:Value) (A:Around) (outer:List Env) (s:Shared) (H:Hp) (E:XK) (hr:Room k (A.deeper (PyProof.Rows.envOfC "_law_spoilt_part" (au (top 41)) s.heap.objs.size f cdv))):MSs (a00 CX0 P w K mg base ["_law_table_here", "_law_which", "_law_where", "_law_what", "_law_tongue_here", "_law_goes_here", "_law_kinds_here", "_law_room", "_law_at", "_law_twice"] "_law_spoilt_part" (au (top 41)) f cdv A outer s H E).nox X0 (g8 (top 41)) (ue F_25 F_26) :=
 have SC:=ark
 (az (a93 (bf 0) (a66 rfl (n8 (m5 (i:=4) SC.nd rfl (Or.inl rfl)) (n8 (m5 (i:=5) SC.nd rfl (Or.inl rfl)) (n8 (m5 (i:=6) SC.nd rfl (Or.inl rfl)) a2r)))))
 (az (j7 (i:=7) SC.nd rfl (Or.inl rfl) (uo (bf 2) (jg (L2.CallR.or bw bx) ik rfl M.len jt (aj (bf 5) aq))))
 (az (lq (gq (lw hr.u) jk (bf 1) bc (j6 _))
 (bh (di (m8 (aj (bf 4) (aj (bf 5) (aj (bu false D_26 (hr.mono h_26) rfl (aj (bf 6) (aj (bf 7) (aj (bu false D_25 (hr.mono h_25) rfl (aj (bf 3) aq)) aq)))) aq))))))
 dj)
 (az (lq (gq (lw hr.u) jk (bf 1) bc (j6 _))
 (bh (di (m8 (aj (bf 4) (aj (bf 5) (aj (jr (jr (jo (bf 6) pq (qb (bf 7))) (m8 (aj (uo (bf 3) bc) aq))) (jo (bf 6) (qb (bf 7)) pq)) aq))))))
 dj)
 (az (lq (gq (lw hr.u) jk (bf 1) bc (j6 _))
 (bh (di (m8 (aj (bf 4) (aj (bf 5) (aj (jr (jo (bf 6) pq (qb (bf 7))) (jo (bf 6) (qb (jr (bf 7) bc)) pq)) aq))))))
 dj)
 (az (lq (gq (lw hr.u) jk (bf 1) bc (j6 _))
 (bh (di (m8 (aj (bf 4) (aj (jr (bf 5) (m8 (aj (gj (bf 5) (bf 7) (fun _ _=>rfl)) aq))) (aj (jr (bf 6) (m8 (aj (a0v (uo (bf 3) bc) bc) aq))) aq))))))
 dj)
 (az (lq (gq (lw hr.u) jk (bf 1) bc (j6 _))
 (bh (di (m8 (aj (bf 4) (aj (jr (jo (bf 5) pq (qb (bf 7))) (jo (bf 5) (qb (jr (bf 7) bc)) pq)) (aj (jr (jo (bf 6) pq (qb (bf 7))) (jo (bf 6) (qb (jr (bf 7) bc)) pq)) aq))))))
 dj)
 (az (lq (gq (lw hr.u) jk (bf 1) bc (j6 _))
 (bh (di (m8 (aj (bf 4) (aj (bf 5) (aj (bu false D_26 (hr.mono h_26) rfl (aj (bf 6) (aj bc (aj (a0v (uo (bf 3) bc) bc) aq)))) aq))))))
 dj)
 (az (lq (gq (lw hr.u) jk (bf 1) bc (j6 _))
 (az (j7 (i:=8) SC.nd rfl (Or.inl rfl) (uo (bf 7) (jg (L2.CallR.or bw bx) ik rfl M.len jt (aj (bf 4) aq))))
 (az (j7 (i:=9) SC.nd rfl (Or.inl rfl) (gj (bf 4) (uo (bf 2) (jg (L2.CallR.or bw bx) ik rfl M.len jt (aj (bf 4) aq))) (fun _ _=>rfl)))
 (bh (di (m8 (aj (jr (jr (jo (bf 4) pq (qb (bf 8))) (bf 9)) (jo (bf 4) (qb (bf 8)) pq)) (aj (bf 5) (aj (bf 6) aq))))))))
 dj)
 (bh (di (m8 (aj (jo (bf 4) (qb bc) pq) (aj (bf 5) (aj (bf 6) aq)))))))))))))))
theorem arl:FnScope ["_law_table_here", "_law_which", "_law_where", "_law_what", "_law_rooms", "_law_goes_here"] ["_law_table_here", "_law_which", "_law_where", "_law_what"] (au (top 42)):=⟨rfl,rfl,rfl,by decide +kernel,rfl,by decide +kernel,by decide +kernel⟩
theorem ay6 {k:Nat} (M:Nm mg) {a_28:Addr} {d_28:FuncData} {k_28:Nat} {F_28:SF} (D_28:Dn P w K mg base k_28 "_law_spoilt_part" ["_law_table_here", "_law_which", "_law_where", "_law_what"] (mz K 4 F_28) a_28 d_28) (h_28:k_28≤k) {a_27:Addr} {d_27:FuncData} {k_27:Nat} {F_27:SF} (D_27:Dn P w K mg base k_27 "_law_spoilt_row" ["_law_table_here", "_law_which", "_law_where", "_law_what"] (mz K 4 F_27) a_27 d_27) (h_27:k_27≤k) {a_25:Addr} {d_25:FuncData} {k_25:Nat} {F_25:SF} (D_25:Dn P w K mg base k_25 "_law_thing" ["_law_which"] (mz K 1 F_25) a_25 d_25) (h_25:k_25≤k) {a_26:Addr} {d_26:FuncData} {k_26:Nat} {F_26:SF} (D_26:Dn P w K mg base k_26 "_law_with" ["_law_row", "_law_at", "_law_thing_here"] (mz K 3 F_26) a_26 d_26) (h_26:k_26≤k) (cdv:Value) (A:Around) (outer:List Env) (s:Shared) (H:Hp) (E:XK) (hr:Room k (A.deeper (PyProof.Rows.envOfC "_law_spoilt" (au (top 42)) s.heap.objs.size f cdv))):MSs (a00 CX0 P w K mg base ["_law_table_here", "_law_which", "_law_where", "_law_what", "_law_rooms", "_law_goes_here"] "_law_spoilt" (au (top 42)) f cdv A outer s H E).nox X0 (g8 (top 42)) (zm F_28 F_27 F_25 F_26) :=
 have SC:=arl
 (az (lq (gq (lw hr.u) jk (bf 1) bc (j6 _))
 (bh (di (bf 0)))
 dj)
 (az (lq (gq (lw hr.u) jk (bf 1) bc (j6 _))
 (bh (di (bu false D_25 (hr.mono h_25) rfl (aj (bf 3) aq))))
 dj)
 (az (lq (gq (lw hr.u) jk (bf 1) bc (j6 _))
 (bh (di (a1d (L2.CallR.or yx (a0c rfl)) a5j rfl M.list a5x (aj (bf 0) aq))))
 dj)
 (az (lq (gq (lw hr.u) jk (bf 1) bc (j6 _))
 (bh (di (bu false D_26 (hr.mono h_26) rfl (aj (bf 0) (aj (uo (bf 2) bc) (aj (bu false D_25 (hr.mono h_25) rfl (aj (bf 3) aq)) aq))))))
 dj)
 (az (lq (gq (lw hr.u) jk (bf 1) bc (j6 _))
 (bh (di (bu false D_26 (hr.mono h_26) rfl (aj (bf 0) (aj (uo (bf 2) bc) (aj (a6o (a1d (L2.CallR.or yx (a0c rfl)) a5j rfl M.list a5x (aj (gj (bf 0) (uo (bf 2) bc) (fun _ _=>rfl)) aq))) aq))))))
 dj)
 (az (lq (gq (lw hr.u) jk (bf 1) bc (j6 _))
 (az (j7 (i:=4) SC.nd rfl (Or.inr rfl) (jr bc (uo (bf 3) bc)))
 (az (j7 (i:=5) SC.nd rfl (Or.inl rfl) (a1d (L2.CallR.or xq (yz rfl)) a3j rfl M.tuple wg (aj (a6o (zp rfl (CSc.of (ts:=["_law_room"]) (fr:=["_law_rooms"]) (ix:=[4]) rfl rfl rfl rfl (by intro p hp;cases List.mem_singleton.mp hp;rfl) rfl rfl rfl rfl) (a67 rfl M.range (aj (bf 4) aq)) (fun _ _ _ _=>(ug (i:=0) (show (["_law_room", "_law_rooms"]:List Str).Nodup by decide +kernel) rfl (Or.inl rfl) (.inr rfl))) a1f (fun _ _ _ _=>(m8 (aj (jg (ae8 rfl) ai2 rfl M.min aq7 (aj (jr (bf 0) bc) (aj (a0v (bf 1) bc) aq))) aq))))) aq)))
 (bh (di (m8 (aj (jo (gj (bf 0) bc (fun _ _=>rfl)) pq (qb bc)) (aj (bf 5) (aj (jr (m8 (aj (a1g bc) aq)) (ama (m8 (aj (uo (bf 3) bc) aq)) (a0v (bf 4) bc))) aq))))))))
 dj)
 (az (lq (gq (ae5.or a1a) a95 (bf 1) bc (j6 _))
 (bh (di (bu false D_27 (hr.mono h_27) rfl (aj (bf 0) (aj (a0v (bf 1) bc) (aj (bf 2) (aj (bf 3) aq)))))))
 dj)
 (bh (di (bu false D_28 (hr.mono h_28) rfl (aj (bf 0) (aj (a0v (bf 1) bc) (aj (bf 2) (aj (bf 3) aq))))))))))))))
theorem arn:FnScope ["_law_thing_here", "_law_told", "e"] ["_law_thing_here"] (au (top 43)):=⟨rfl,rfl,rfl,by decide +kernel,rfl,by decide +kernel,by decide +kernel⟩
theorem ay7 {k:Nat} (M:Nm mg) {y_NoTable y_ReachError y_Closed y_NoBook y_NoModes y_NoText:Addr} (Z:Xn K mg y_NoTable y_ReachError y_Closed y_NoBook y_NoModes y_NoText) {a_11:Addr} {d_11:FuncData} {k_11:Nat} {F_11:SF} (D_11:DnX P w K mg base k_11 "looked_table" ["thing"] (spX K mg 1 F_11) a_11 d_11) (h_11:k_11≤k) (cdv:Value) (A:Around) (outer:List Env) (s:Shared) (H:Hp) (E:XK) (hr:Room k (A.deeper (PyProof.Rows.envOfC "_law_refused" (au (top 43)) s.heap.objs.size f cdv))):MSs (a00 CX0 P w K mg base ["_law_thing_here", "_law_told", "e"] "_law_refused" (au (top 43)) f cdv A outer s H E).nox X0 (g8 (top 43)) (xx F_11) :=
 have SC:=arn
 (az (j7 (i:=1) SC.nd rfl (Or.inl rfl) a2c)
 (az (aqu (i:=2) ⟨rfl,Z.g_ReachError,SC.nd,rfl,rfl,⟨rfl,rfl⟩,by decide⟩ (a6p Z)
 (amw (amv D_11 (hr.mono h_11) rfl (aj (bf 0) aq)))
 (fun a=>(az (j7 (i:=1) SC.nd rfl (Or.inl rfl) (yj (akd (i:=2) rfl M.isinstance du rfl (Or.inl rfl) (a3u (v:=.ref y_NoTable) rfl Z.g_NoTable rfl) (.inl ⟨_,rfl,rfl⟩) (adi Z)) (a03 (akd (i:=2) rfl M.isinstance du rfl (Or.inl rfl) (ady (v:=.ty "ValueError") rfl M.ValueError PyProof.Rows.Boot.«ValueError» rfl) (.inr ⟨_,rfl,rfl⟩) (a82 Z)))))
 (bh (lq (qj (amx (i:=2) (cs:=[y_Closed,y_NoBook,y_NoModes,y_NoText]) rfl M.isinstance du rfl (Or.inl rfl) (uw (a3u (v:=.ref y_Closed) rfl Z.g_Closed rfl) (uw (a3u (v:=.ref y_NoBook) rfl Z.g_NoBook rfl) (uw (a3u (v:=.ref y_NoModes) rfl Z.g_NoModes rfl) (uw (a3u (v:=.ref y_NoText) rfl Z.g_NoText rfl) a3a)))) (fun _ _ _ q=>q) (aai (by simp)) (w6 Z)))
 a72
 dj)))))
 (bh (di (bf 1)))))
theorem aro:FnScope ["_law_one", "_law_other"] ["_law_one", "_law_other"] (au (top 44)):=⟨rfl,rfl,rfl,by decide +kernel,rfl,by decide +kernel,by decide +kernel⟩
theorem ay8 {k:Nat} (M:Nm mg) {a_31:Addr} {atk:FuncData} {k_31:Nat} {F_31:SF} (D_31:Dn P w K mg base k_31 "_law_alike" ["_law_one", "_law_other"] (mz K 2 F_31) a_31 atk) (h_31:k_31≤k) {a_20:Addr} {d_20:FuncData} {k_20:Nat} {F_20:SF} (D_20:Dn P w K mg base k_20 "_law_number" ["_law_thing_here", "_law_low", "_law_high"] (mz K 3 F_20) a_20 d_20) (h_20:k_20≤k) (cdv:Value) (A:Around) (outer:List Env) (s:Shared) (H:Hp) (E:XK) (hr:Room k (A.deeper (PyProof.Rows.envOfC "_law_alike" (au (top 44)) s.heap.objs.size f cdv))):MSs (a00 CX0 P w K mg base ["_law_one", "_law_other"] "_law_alike" (au (top 44)) f cdv A outer s H E).nox X0 (g8 (top 44)) (uz F_31 F_20) :=
 have SC:=aro
 (az (lq (PW.pt (a6z (qj (jg (L2.CallR.or jj j4) ph rfl M.isinstance du (aj (bf 0) (aj (a2d rfl M.tuple wg) aq)))) (a3x (qj (jg (L2.CallR.or jj j4) ph rfl M.isinstance du (aj (bf 1) (aj (a2d rfl M.tuple wg) aq)))))))
 (bh (di (yj (yh (lw hr.u) jk (jg (L2.CallR.or bw bx) ik rfl M.len jt (aj (bf 0) aq)) (jg (L2.CallR.or bw bx) ik rfl M.len jt (aj (bf 1) aq)) (j6 _)) (a03 (jg (ux rfl) a2u rfl M.all a5w (aj (a6o (zp rfl (CSc.noFree (ts:=["_law_a", "_law_b"]) rfl (by decide +kernel) (by decide +kernel) (by decide +kernel)) (aq9 rfl M.zip aqa (bf 0) (bf 1)) (fun _ _ _ _=>adz rfl (a2y (ug (i:=0) (show (["_law_a", "_law_b"]:List Str).Nodup by decide +kernel) rfl (Or.inl rfl) (.inr rfl)) (a2y (ug (i:=1) (show (["_law_a", "_law_b"]:List Str).Nodup by decide +kernel) rfl (Or.inl rfl) (.inr rfl)) aaa))) ak1 (fun _ _ _ _=>(bu false D_31 (hr.mono h_31) rfl (aj (bf 0) (aj (bf 1) aq)))))) aq))))))
 dj)
 (az (lq (PW.pt (a6z (qj (jg (L2.CallR.or jj j4) ph rfl M.isinstance du (aj (bf 0) (aj (a2d rfl M.str a90) aq)))) (a3x (qj (jg (L2.CallR.or jj j4) ph rfl M.isinstance du (aj (bf 1) (aj (a2d rfl M.str a90) aq)))))))
 (bh (di (yh (lw hr.u) jk (bf 0) (bf 1) (j6 _))))
 dj)
 (bh (di (yj (bu false D_20 (hr.mono h_20) rfl (aj (bf 0) (aj (a1g bc) (aj bc aq)))) (yj (bu false D_20 (hr.mono h_20) rfl (aj (bf 1) (aj (a1g bc) (aj bc aq)))) (a03 (yh (lw hr.u) jk (bf 0) (bf 1) (j6 _)))))))))
theorem arp:FnScope ["_law_thing_here", "_law_due_here", "_law_shown", "_law_turn", "_law_found"] ["_law_thing_here"] (au (top 45)):=⟨rfl,rfl,rfl,by decide +kernel,rfl,by decide +kernel,by decide +kernel⟩
theorem ay9 {k:Nat} (M:Nm mg) {a_31:Addr} {atk:FuncData} {k_31:Nat} {F_31:SF} (D_31:Dn P w K mg base k_31 "_law_alike" ["_law_one", "_law_other"] (mz K 2 F_31) a_31 atk) (h_31:k_31≤k) {a_24:Addr} {d_24:FuncData} {k_24:Nat} {F_24:SF} (D_24:Dn P w K mg base k_24 "_law_due" ["_law_thing_here"] (mz K 1 F_24) a_24 d_24) (h_24:k_24≤k) {a_30:Addr} {d_30:FuncData} {k_30:Nat} {F_30:SF} (D_30:Dn P w K mg base k_30 "_law_refused" ["_law_thing_here"] (mz K 1 F_30) a_30 d_30) (h_30:k_30≤k) {a_6:Addr} {d_6:FuncData} {k_6:Nat} {F_6:SF} (D_6:Dn P w K mg base k_6 "is_table" ["thing"] (mz K 1 F_6) a_6 d_6) (h_6:k_6≤k) {a_11:Addr} {d_11:FuncData} {k_11:Nat} {F_11:SF} (D_11:DnX P w K mg base k_11 "looked_table" ["thing"] (spX K mg 1 F_11) a_11 d_11) (h_11:k_11≤k) (cdv:Value) (A:Around) (outer:List Env) (s:Shared) (H:Hp) (E:XK) (hr:Room k (A.deeper (PyProof.Rows.envOfC "_law_asked" (au (top 45)) s.heap.objs.size f cdv))):MSs (a00 CX0 P w K mg base ["_law_thing_here", "_law_due_here", "_law_shown", "_law_turn", "_law_found"] "_law_asked" (au (top 45)) f cdv A outer s H E).nox X0 (g8 (top 45)) (a0o F_31 F_24 F_30 F_6 F_11) :=
 have SC:=arp
 (az (j7 (i:=1) SC.nd rfl (Or.inl rfl) (bu false D_24 (hr.mono h_24) rfl (aj (bf 0) aq)))
 (az (j7 (i:=2) SC.nd rfl (Or.inl rfl) (jg (a9j hr.gd hr.u) ac2 rfl M.repr afs (aj (bf 0) aq)))
 (az (a3f PassesOwn.never rfl (a67 rfl M.range (aj bc aq)) (m5 (i:=3) SC.nd rfl (Or.inl rfl)) (az (j7 (i:=4) SC.nd rfl (Or.inl rfl) (bu false D_6 (hr.mono h_6) rfl (aj (bf 0) aq)))
 (az (lq (PW.pt (a6l (qz (qj (jg (L2.CallR.or jj j4) ph rfl M.isinstance du (aj (bf 4) (aj (a2d rfl M.bool aap) aq))))) (a3e (gq (a71 hr.u) a4a (bf 4) (bf 1) (j6 _)))))
 a72
 dj)
 (az (lq (PW.pt (a6z (qj (bf 1)) (a3x (qz (qj (bu false D_31 (hr.mono h_31) rfl (aj (ag0 D_11 (hr.mono h_11) rfl (aj (bf 0) aq)) (aj (bf 0) aq))))))))
 a72
 dj)
 (bh (lq (PW.pt (a6z (qz (qj (bf 1))) (a3x (qz (qj (bu false D_30 (hr.mono h_30) rfl (aj (bf 0) aq)))))))
 a72
 dj))))))
 (bh (di (yh (lw hr.u) jk (jg (a9j hr.gd hr.u) ac2 rfl M.repr afs (aj (bf 0) aq)) (bf 2) (j6 _)))))))
theorem arq:FnScope ["_law_script", "_law_hand_here", "_law_which", "_law_where", "_law_what", "_law_table_here", "_law_thing_here"] ["_law_script"] (au (top 46)):=⟨rfl,rfl,rfl,by decide +kernel,rfl,by decide +kernel,by decide +kernel⟩
theorem aya {k:Nat} {a_32:Addr} {d_32:FuncData} {k_32:Nat} {F_32:SF} (D_32:Dn P w K mg base k_32 "_law_asked" ["_law_thing_here"] (mz K 1 F_32) a_32 d_32) (h_32:k_32≤k) {a_12:Addr} {d_12:FuncData} {k_12:Nat} {F_12:SF} (D_12:Dn P w K mg base k_12 "_law_hand" ["_law_script"] (mz K 1 F_12) a_12 d_12) (h_12:k_12≤k) {a_29:Addr} {d_29:FuncData} {k_29:Nat} {F_29:SF} (D_29:Dn P w K mg base k_29 "_law_spoilt" ["_law_table_here", "_law_which", "_law_where", "_law_what"] (mz K 4 F_29) a_29 d_29) (h_29:k_29≤k) {a_19:Addr} {d_19:FuncData} {k_19:Nat} {F_19:SF} (D_19:Dn P w K mg base k_19 "_law_table" ["_law_hand_here"] (mz K 1 F_19) a_19 d_19) (h_19:k_19≤k) {a_13:Addr} {d_13:FuncData} {k_13:Nat} {F_13:SF} (D_13:Dn P w K mg base k_13 "_law_take" ["_law_hand_here", "_law_many"] (mz K 2 F_13) a_13 d_13) (h_13:k_13≤k) (cdv:Value) (A:Around) (outer:List Env) (s:Shared) (H:Hp) (E:XK) (hr:Room k (A.deeper (PyProof.Rows.envOfC "law" (au (top 46)) s.heap.objs.size f cdv))):MSs (a00 CX0 P w K mg base ["_law_script", "_law_hand_here", "_law_which", "_law_where", "_law_what", "_law_table_here", "_law_thing_here"] "law" (au (top 46)) f cdv A outer s H E).nox X0 (g8 (top 46)) (aj2 F_32 F_12 F_29 F_19 F_13) :=
 have SC:=arq
 (az (j7 (i:=1) SC.nd rfl (Or.inl rfl) (bu true D_12 (hr.mono h_12) rfl (aj (bf 0) aq)))
 (az (j7 (i:=2) SC.nd rfl (Or.inl rfl) (bu false D_13 (hr.mono h_13) rfl (aj (bf 1) (aj bc aq))))
 (az (j7 (i:=3) SC.nd rfl (Or.inl rfl) (bu false D_13 (hr.mono h_13) rfl (aj (bf 1) (aj bc aq))))
 (az (j7 (i:=4) SC.nd rfl (Or.inl rfl) (bu false D_13 (hr.mono h_13) rfl (aj (bf 1) (aj bc aq))))
 (az (j7 (i:=5) SC.nd rfl (Or.inl rfl) (bu false D_19 (hr.mono h_19) rfl (aj (bf 1) aq)))
 (az (j7 (i:=6) SC.nd rfl (Or.inl rfl) (bu false D_29 (hr.mono h_29) rfl (aj (bf 5) (aj (bf 2) (aj (bf 3) (aj (bf 4) aq))))))
 (az (lq (qz (qj (bu false D_32 (hr.mono h_32) rfl (aj (bf 6) aq))))
 a72
 dj)
 (bh (di (bu false D_32 (hr.mono h_32) rfl (aj (bf 5) aq)))))))))))
end
end K20
namespace AT
open L2
theorem ars {α:Type} (x0:α) (xs:List α):atI (x0::xs) 0=some x0:=v7 (j:=0) rfl
theorem art {α:Type} (x0 x1:α) (xs:List α):atI (x0::x1::xs) 1=some x1:=v7 (j:=1) rfl
theorem aru {α:Type} (x0 x1 x2:α) (xs:List α):atI (x0::x1::x2::xs) 2=some x2:=v7 (j:=2) rfl
theorem arv {α:Type} (x0 x1 x2 x3:α) (xs:List α):atI (x0::x1::x2::x3::xs) 3=some x3:=v7 (j:=3) rfl
theorem arw {α:Type} (x0 x1 x2 x3 x4:α) (xs:List α):atI (x0::x1::x2::x3::x4::xs) 4=some x4:=v7 (j:=4) rfl
theorem arx {α:Type} (x0 x1 x2 x3 x4 x5:α) (xs:List α):atI (x0::x1::x2::x3::x4::x5::xs) 5=some x5:=v7 (j:=5) rfl
theorem arz {α:Type} (x0 x1 x2 x3 x4 x5 x6:α) (xs:List α):atI (x0::x1::x2::x3::x4::x5::x6::xs) 6=some x6:=v7 (j:=6) rfl
theorem as3 {α:Type} (x0 x1 x2 x3 x4 x5 x6 x7:α) (xs:List α):atI (x0::x1::x2::x3::x4::x5::x6::x7::xs) 7=some x7:=v7 (j:=7) rfl
theorem x10:ixN 1 0=some 0:=rfl
theorem x20:ixN 2 0=some 0:=rfl
theorem x21:ixN 2 1=some 1:=rfl
theorem x30:ixN 3 0=some 0:=rfl
theorem x31:ixN 3 1=some 1:=rfl
theorem x32:ixN 3 2=some 2:=rfl
theorem x40:ixN 4 0=some 0:=rfl
theorem x41:ixN 4 1=some 1:=rfl
theorem x42:ixN 4 2=some 2:=rfl
theorem x43:ixN 4 3=some 3:=rfl
theorem x50:ixN 5 0=some 0:=rfl
theorem x51:ixN 5 1=some 1:=rfl
theorem x52:ixN 5 2=some 2:=rfl
theorem x53:ixN 5 3=some 3:=rfl
theorem x54:ixN 5 4=some 4:=rfl
theorem x60:ixN 6 0=some 0:=rfl
theorem x61:ixN 6 1=some 1:=rfl
theorem x62:ixN 6 2=some 2:=rfl
theorem x63:ixN 6 3=some 3:=rfl
theorem x64:ixN 6 4=some 4:=rfl
theorem x65:ixN 6 5=some 5:=rfl
theorem x70:ixN 7 0=some 0:=rfl
theorem x71:ixN 7 1=some 1:=rfl
theorem x72:ixN 7 2=some 2:=rfl
theorem x73:ixN 7 3=some 3:=rfl
theorem x74:ixN 7 4=some 4:=rfl
theorem x75:ixN 7 5=some 5:=rfl
theorem x76:ixN 7 6=some 6:=rfl
def ake (x:Int):Int:=if x<0 then -x else x
theorem as4 (x:Int) (h:MI.Hd):MI.aq0 [.int x] h = .ok (.int (ake x)) h:=rfl
theorem p18 (h:MI.Hd):MI.abq (.int 10) (.int 18) h = .ok (.int 1000000000000000000) h:=by rw [MI.abq,if_pos (by decide)];rfl
theorem as5 {i j:Int} {h:MI.Hd} (c:0≤j∧j≤1000000∧i.natAbs<2 ^ 64):MI.abq (.int i) (.int j) h = .ok (.int (i ^ j.toNat)) h:=by rw [MI.abq,if_pos c]
end AT
namespace MI
open PySem PySem.Spec L2
abbrev S (l:List Nat):Str:=⟨l.toArray⟩
theorem a1n (l:List Nat):(S l).cps.toList=l:=by simp
theorem a83 (l:List Nat):(S l).length=l.length:=by simp [Str.length]
theorem adk (x:Str):S x.cps.toList=x:=by cases x;simp
theorem avh (a b:List Nat):S a++S b=S (a++b):=by rw [← adk (S a++S b),auy]
theorem avi {a b:List Nat} (h:S a=S b):a=b:=by
 have:=congrArg (fun x:Str=>x.cps.toList) h
 simpa using this
theorem avj (a b:List Nat):(S a == S b)=decide (a=b):=by
 by_cases h:a=b
 ·subst h;simp
 ·have:¬ S a=S b:=fun z=>h (avi z)
  simp [h]
section
variable {h:Hd} {a b l:List Nat} {i:Nat} {c:Nat}
theorem awk (hl:l.length≤LINE) (e:l[i]? = some c):gIx (.str (S l)) (.int (i:Nat)) h = .ok (.str (S [c])) h:=by
 unfold gIx
 simp only [a83,if_pos hl,a1n,v7 e]
theorem ag2 (hl:a.length+b.length≤LINE):jq (.str (S a)) (.str (S b)) h = .ok (.str (S (a++b))) h:=by
 unfold jq
 simp only [a83,if_pos hl,avh]
theorem a9m (hl:l.length≤LINE):p7 [.str (S l)] h = .ok (.int l.length) h:=by
 unfold p7
 simp only [a83,if_pos hl]
theorem atw (k:Nat) (hl:l.length≤LINE):ad9 (.str (S l)) none (some (k:Int)) h = .ok (.str (S (l.take k))) h:=by
 show gSl (.str (S l)) none (some (k:Int)) h=_
 unfold gSl
 simp only [a83,if_pos hl,a1n,aaj]
theorem ag3 (k:Nat) (hl:l.length≤LINE):ad9 (.str (S l)) (some (k:Int)) none h = .ok (.str (S (l.drop k))) h:=by
 show gSl (.str (S l)) (some (k:Int)) none h=_
 unfold gSl
 simp only [a83,if_pos hl,a1n,a91]
end
section
variable {h:Hd} {i j:Int} {xs ys:List D}
theorem a8o:gIx (.tup xs) (.int i) h=(match atI xs i with | some d=>.ok d h | none=>.no):=rfl
theorem ag4:gIx (.rol xs) (.int i) h=(match atI xs i with | some d=>.ok d h | none=>.no):=rfl
theorem acd {k:Nat}:gIx (.ref k) (.int i) h=(match a0a (.ref k) h with | some xs=>(match atI xs i with | some d=>.ok d h | none=>.no) | none=>.no):=rfl
theorem aau:p7 [.tup xs] h = .ok (.int xs.length) h:=rfl
theorem a6f:p7 [.rol xs] h = .ok (.int xs.length) h:=rfl
theorem a84 {k:Nat}:p7 [.ref k] h=(match a0a (.ref k) h with | some xs=>.ok (.int xs.length) h | none=>.no):=rfl
theorem a2k:jq (.int i) (.int j) h = .ok (.int (i+j)) h:=rfl
theorem ag5:a6n (.int i) (.int j) h = .ok (.int (i+j)) h:=rfl
open Classical in
theorem akf:a2e (.int i) (.int j) h=if CMul i j then .ok (.int (i*j)) h else .no:=by unfold a2e;rfl
theorem gh (b:Bool):tru (.bl b) h = .ok b h:=rfl
theorem ag6:tru (.int i) h = .ok (i != 0) h:=rfl
theorem ag7:tru (.rol xs) h = .ok (!xs.isEmpty) h:=rfl
theorem ag8:tru (.tup xs) h = .ok (!xs.isEmpty) h:=rfl
theorem ag9:tru .non h = .ok false h:=rfl
theorem a6q:hEq (.int i) (.int j) h = .ok (.bl (i == j)) h:=rfl
theorem aga:hNe (.int i) (.int j) h = .ok (.bl (!(i == j))) h:=rfl
theorem amy (a b:Str):hEq (.str a) (.str b) h = .ok (.bl (a == b)) h:=rfl
theorem as6 (a b:Bool):hEq (.bl a) (.bl b) h = .ok (.bl (a == b)) h:=rfl
theorem amz (a b:Bool):hNe (.bl a) (.bl b) h = .ok (.bl (!(a == b))) h:=rfl
theorem akg (x:D):gIs x .non h = .ok (.bl (a96 x)) h:=by cases x<;>rfl
theorem a9n (x:D):ak3 x .non h = .ok (.bl (!a96 x)) h:=by cases x<;>rfl
theorem as7 (a b:Bool):gIs (.bl a) (.bl b) h = .ok (.bl (a == b)) h:=rfl
theorem ace (a b:Bool):ak3 (.bl a) (.bl b) h = .ok (.bl (a != b)) h:=rfl
theorem awl:a96 (.int i)=false:=rfl
theorem awm (x:Str):a96 (.str x)=false:=rfl
theorem awn:a96 .non=true:=rfl
theorem awo:a96 (.tup xs)=false:=rfl
end
end MI
namespace MI
open PySem PySem.Spec L2
theorem agb {R:PyData→Prop}:∀ {ws:List D},(∀ d∈ws,∃ q,toPy d=some q∧R q)→∃ qs,aat ws=some qs∧qs.length=ws.length∧∀ q∈qs,R q
 | [],_=>⟨[],rfl,rfl,by simp⟩
 | d::ws,h=>by
  obtain ⟨q,e,r⟩:=h d List.mem_cons_self
  obtain ⟨qs,es,l,rs⟩:=agb fun x hx=>h x (List.mem_cons_of_mem _ hx)
  refine ⟨q::qs,by simp only [aat,e,es],by simp [l],fun x hx=>?_⟩
  rcases List.mem_cons.mp hx with rfl | hx
  ·exact r
  ·exact rs x hx
theorem acf:∀ {ws:List D},(∀ d∈ws,noL d=true)→ao8 ws=true
 | [],_=>rfl
 | d::ws,h=>by
  show (noL d && ao8 ws)=true
  rw [h d List.mem_cons_self,acf fun x hx=>h x (List.mem_cons_of_mem _ hx)]
  rfl
theorem a85:∀ {qs:List PyData},(∀ q∈qs,q.showable=true)→PyData.showableAll qs=true
 | [],_=>rfl
 | d::ws,h=>by
  show (PyData.showable d && PyData.showableAll ws)=true
  rw [h d List.mem_cons_self,a85 fun x hx=>h x (List.mem_cons_of_mem _ hx)]
  rfl
theorem a86:∀ {qs:List PyData},(∀ q∈qs,q.hasDict=false)→PyData.hasDictAll qs=false
 | [],_=>rfl
 | d::ws,h=>by
  show (PyData.hasDict d || PyData.hasDictAll ws)=false
  rw [h d List.mem_cons_self,a86 fun x hx=>h x (List.mem_cons_of_mem _ hx)]
  rfl
theorem a6g {k:Nat}:∀ {qs:List PyData},(∀ q∈qs,q.depth≤k)→PyData.depthAll qs≤k
 | [],_=>Nat.zero_le _
 | d::ws,h=>by
  have h1:=h d List.mem_cons_self
  have h2:=a6g (k:=k) (qs:=ws) fun x hx=>h x (List.mem_cons_of_mem _ hx)
  simp only [PyData.depthAll]
  omega
theorem a87 {k:Nat}:∀ {qs:List PyData},(∀ q∈qs,q.shown.length≤k)→piled (PyData.shownAll qs)≤qs.length*(k+2)
 | [],_=>Nat.zero_le _
 | d::ws,h=>by
  have h1:=h d List.mem_cons_self
  have h2:=a87 (k:=k) (qs:=ws) fun x hx=>h x (List.mem_cons_of_mem _ hx)
  have e:piled (PyData.shownAll (d::ws))=d.shown.length+2+piled (PyData.shownAll ws):=by
   simp [PyData.shownAll,piled]
  rw [e,List.length_cons,Nat.add_mul,Nat.one_mul]
  omega
theorem agc (ts:List Str):(Str.join ", " ts).length≤piled ts:=by
 cases ts with
 | nil=>exact Nat.zero_le _
 | cons t ts=>have:=join_length_add (t::ts) (by simp);omega
theorem a9o (ts:List Str):(tupleText ts).length≤piled ts+3:=by
 have:=agc ts
 unfold tupleText
 rw [Str.length_append,Str.length_append]
 have e1:("(" : Str).length=1:=rfl
 have e2:(Str.ofString (if ts.length == 1 then ",)" else ")")).length≤2:=by split<;>decide
 omega
theorem aav (ts:List Str):(listText ts).length≤piled ts+2:=by
 have:=agc ts
 rw [listText_eq_join,Str.length_append,Str.length_append]
 have e1:("[" : Str).length=1:=rfl
 have e2:("]" : Str).length=1:=rfl
 omega
end MI
namespace MI
open PySem PySem.Spec L2
theorem avk (n:Nat):rng 0 n=(List.range n).map fun i:Nat=>D.int (i:Nat):=by
 unfold rng
 exact List.map_congr_left fun i _=>by rw [Int.zero_add]
theorem avl (a:Int) (n:Nat):rng a n=(List.range n).map fun i:Nat=>D.int (a+(i:Nat)):=rfl
theorem aaw {n:Nat} (h:n≤LINE):B62 (n:Int):=by
 have:n≤16777216:=h
 unfold B62;omega
theorem as8 {n:Int} (h : -16777216≤n) (h':n≤16777216):B62 n:=by unfold B62;omega
theorem as9 {n:Nat} (h:Hd) (z:n≤LINE):a2s [.int (n:Nat)] h = .ok ⟨(List.range n).map fun i:Nat=>D.int (i:Nat),fun _=>True⟩ h:=by
 unfold a2s
 simp only [aaw z,if_true,Int.toNat_natCast,avk]
theorem asa {a n:Nat} (h:Hd) (za:a≤LINE) (z:n≤LINE):a6m [.int (a:Nat), .int (n:Nat)] h = .ok ⟨(List.range (n - a)).map fun i:Nat=>D.int ((a+i:Nat)),fun _=>True⟩ h:=by
 unfold a6m
 simp only [aaw z,aaw za,and_self,if_true,avl]
 rw [show ((n:Int) - (a:Int)).toNat=n - a by omega]
 congr 2
theorem avm {f:SE} {τ:Sd} {h:Hd} {d:D} (e:f τ h = .ok d h):ak f bz τ h = .ok [d] h:=by unfold ak bz;rw [e];rfl
theorem asb {f g:SE} {τ:Sd} {h:Hd} {c d:D} (e:f τ h = .ok c h) (e':g τ h = .ok d h):ak f (ak g bz) τ h = .ok [c,d] h:=by unfold ak;rw [e,d7,e',d7];rfl
theorem a88 {f:SE} {τ:Sd} {h:Hd} {n:Nat} (e:f τ h = .ok (.int (n:Nat)) h) (z:n≤LINE):sRg a2s (ak f bz) τ h = .ok ⟨(List.range n).map fun i:Nat=>D.int (i:Nat),fun _=>True⟩ h:=by
 unfold sRg
 rw [avm e,d7]
 exact as9 h z
theorem agd {f g:SE} {τ:Sd} {h:Hd} {a n:Nat} (e':g τ h = .ok (.int (a:Nat)) h) (e:f τ h = .ok (.int (n:Nat)) h) (za:a≤LINE) (z:n≤LINE):sRg a6m (ak g (ak f bz)) τ h = .ok ⟨(List.range (n - a)).map fun i:Nat=>D.int ((a+i:Nat)),fun _=>True⟩ h:=by
 unfold sRg
 rw [asb e' e,d7]
 exact asa h za z
theorem bj {i:Nat} {τ:Sd} {h:Hd} {d:D} (e:τ[i]? = some (some d)):sV i τ h = .ok d h:=by unfold sV;rw [e]
theorem vg {fi:SI} {t:D→Option Sd} {fe:SE} {ix:List Nat} {τ:Sd} {h:Hd} {α:Type} (g F:α→D) (xs:List α) (e:fi τ h = .ok ⟨xs.map g,fun _=>True⟩ h) (z:xs.length≤LINE)
  (st:∀ x∈xs,a94 t fe (frs' ix τ) (g x) h = .ok (F x) h):wz fi t fe ix τ h = .ok (.ref h.length) (h++[.lst (xs.map F)]):=by
 unfold wz
 rw [e,d7]
 dsimp only
 rw [if_pos (by rw [List.length_map];exact z),a9i g F st]
 rfl
theorem a0p (fe:SE) (r:Sd) (x:D) (h:Hd):a94 t1 fe r x h=fe (some x::r) h:=rfl
theorem acg (i:Nat) (ix:List Nat) (τ:Sd):frs' (i::ix) τ=(τ[i]?).join::frs' ix τ:=rfl
theorem aax (τ:Sd):frs' [] τ=[]:=rfl
end MI
namespace MI
open PySem PySem.Spec L2
section
variable {f k f1 f2 f3:SE} {c c1 c2:ST} {g p q:SS} {τ τ1:Sd} {h h1 h2 h3 h4:Hd} {a b d v:D} {i:Nat} {t u:Bool}
theorem gm (d:D) (τ:Sd) (h:Hd):sC d τ h = .ok d h:=rfl
theorem ayb {G:List D→Hd→R D} (e3:G [] h = .ok v h1):sA G bz τ h = .ok v h1:=e3
theorem o8 {G:List D→Hd→R D} (e1:f τ h = .ok a h1) (e3:G [a] h1 = .ok v h2):sA G (ak f bz) τ h = .ok v h2:=by
 have:ak f bz τ h = .ok [a] h1:=by unfold ak;rw [e1];rfl
 unfold sA
 rw [this,d7,e3]
theorem a07 {G:List D→Hd→R D} (e1:f τ h = .ok a h1) (e2:k τ h1 = .ok b h2) (e3:G [a,b] h2 = .ok v h3):sA G (ak f (ak k bz)) τ h = .ok v h3:=by
 have:ak f (ak k bz) τ h = .ok [a,b] h2:=by unfold ak;rw [e1,d7,e2];rfl
 unfold sA
 rw [this,d7,e3]
theorem a74 {G:List D→Hd→R D} (e0:f1 τ h = .ok d h1) (e1:f τ h1 = .ok a h2) (e2:k τ h2 = .ok b h3) (e3:G [d,a,b] h3 = .ok v h4):sA G (ak f1 (ak f (ak k bz))) τ h = .ok v h4:=by
 have:ak f1 (ak f (ak k bz)) τ h = .ok [d,a,b] h3:=by unfold ak;rw [e0,d7,e1,d7,e2];rfl
 unfold sA
 rw [this,d7,e3]
theorem p8 (e:f τ h = .ok d h1):iu (qi i f) g τ h=g (τ.set i (some d)) h1:=by
 rw [sr]
 unfold qi
 rw [e]
 rfl
theorem avn (e:f τ h = .ok d h1):qi i f τ h = .nx (τ.set i (some d)) h1:=by
 unfold qi
 rw [e]
 rfl
theorem a4l (e:p τ h = .nx τ1 h1):iu p g τ h=g τ1 h1:=by rw [sr,e];rfl
theorem yc (e:p τ h = .rt d h1):iu p g τ h = .rt d h1:=by rw [sr,e];rfl
theorem ifT (e:c τ h = .ok true h1):sIf c p q τ h=p τ h1:=by unfold sIf;rw [e];rfl
theorem ifF (e:c τ h = .ok false h1):sIf c p q τ h=q τ h1:=by unfold sIf;rw [e];rfl
theorem ifN (e:c τ h = .ok false h1):iu (sIf c p sNx) g τ h=g τ h1:=by rw [sr,ifF e];rfl
theorem tof (e:f τ h = .ok (.bl t) h1):sT f τ h = .ok t h1:=by unfold sT;rw [e];rfl
theorem kj (e:f τ h = .ok d h1) (e':tru d h1 = .ok t h2):zb f τ h = .ok t h2:=by unfold zb;rw [e,d7,e']
theorem ao9 (e:c1 τ h = .ok true h1) (e':c2 τ h1 = .ok t h2):ad7 c1 c2 τ h = .ok t h2:=by unfold ad7;rw [e,d7,if_pos rfl,e']
theorem an0 (e:c1 τ h = .ok false h1):ad7 c1 c2 τ h = .ok false h1:=by unfold ad7;rw [e,d7,if_neg (by simp)]
theorem orT (e:c1 τ h = .ok true h1):sOr c1 c2 τ h = .ok true h1:=by unfold sOr;rw [e,d7,if_pos rfl]
theorem orF (e:c1 τ h = .ok false h1) (e':c2 τ h1 = .ok t h2):sOr c1 c2 τ h = .ok t h2:=by unfold sOr;rw [e,d7,if_neg (by simp),e']
theorem asd (e:c τ h = .ok t h1):a0z c τ h = .ok (!t) h1:=by unfold a0z;rw [e];rfl
theorem a2l (e:c τ h = .ok true h1):a0z c τ h = .ok false h1:=asd e
theorem a89 (e:c τ h = .ok false h1):a0z c τ h = .ok true h1:=asd e
theorem jh (e:f τ h = .ok d h1):o9 f τ h = .rt d h1:=by unfold o9;rw [e];rfl
theorem a1o (e:f τ h = .ok (.bl true) h1) (e':k τ h1 = .ok d h2):yu f k τ h = .ok d h2:=by unfold yu;rw [e,d7];exact e'
theorem a75 {G:D→List D→Hd→R D} {A:SA} {ds:List D} (e1:f τ h = .ok d h1) (l:isL d h1=true) (e2:A τ h1 = .ok ds h2) (e3:G d ds h2 = .ok v h3):a1e (sML G f A) τ h = .nx τ h3:=by
 unfold a1e sML
 rw [e1,d7,if_pos l,e2,d7,e3]
 rfl
theorem ase {G:D→List D→Hd→R D} {A:SA} {ds:List D} (e1:f τ h = .ok d h1) (l:isL d h1=true) (e2:A τ h1 = .ok ds h2) (e3:G d ds h2 = .ok v h3):sML G f A τ h = .ok v h3:=by
 unfold sML
 rw [e1,d7,if_pos l,e2,d7,e3]
theorem arg1 (e:f τ h = .ok d h1):ak f bz τ h = .ok [d] h1:=by unfold ak bz;rw [e];rfl
theorem jl {G:D→D→Hd→R D} (e1:f τ h = .ok a h1) (e2:k τ h1 = .ok b h2) (e3:G a b h2 = .ok v h3):s2 G f k τ h = .ok v h3:=by
 unfold s2
 rw [e1,d7,e2,d7,e3]
theorem age {G:D→Hd→R D} (e1:f τ h = .ok a h1) (e3:G a h1 = .ok v h2):s1 G f τ h = .ok v h2:=by
 unfold s1
 rw [e1,d7,e3]
theorem asf {G:D→D→Hd→R D} (ht:τ[i]? = some (some a)) (e:f τ h = .ok b h1) (e2:G a b h1 = .ok d h2):ajx i G f τ h = .nx (τ.set i (some d)) h2:=by
 unfold ajx
 rw [ht]
 dsimp only
 rw [e,yw,e2]
 rfl
theorem aj3 {G:SG} (e:f τ h = .ok d h1) (e2:G d τ h1 = .nx τ1 h2):aa4 f G τ h = .nx τ1 h2:=by
 unfold aa4
 rw [e,yw,e2]
theorem ash (e1:f1 τ h = .ok v h1) (e2:f2 τ h1 = .ok a h2) (e3:f3 τ h2 = .ok b h3) (e4:put a b v h3=some h4):aam f1 f2 f3 τ h = .nx τ h4:=by
 unfold aam
 rw [e1,yw,e2,yw,e3,yw,e4]
theorem asi (e1:f1 τ h = .ok v h1) (e2:f2 τ h1 = .ok a h2) (e3:f3 τ h2 = .ok b h3) (e4:ao7 a b v h3=some h4):adf f1 f2 f3 τ h = .nx τ h4:=by
 unfold adf
 rw [e1,yw,e2,yw,e3,yw,e4]
theorem a9p {fi:SI} {G:SG} {b:SS} {xs:List D} {ck:Hd→Prop} (e:fi τ h = .ok ⟨xs,ck⟩ h1):iu (abl fi G b) g τ h=thn (forL ck G b xs τ h1) g:=by
 rw [sr]
 unfold abl
 rw [e]
 rfl
theorem agf {xs:List D} {ck:Hd→Prop} (e:f τ h = .ok d h1) (e2:ao1 d h1 = .ok ⟨xs,ck⟩ h1):sIt f τ h = .ok ⟨xs,ck⟩ h1:=by
 unfold sIt
 rw [e,d7,e2]
theorem ach {xs:List D} (e:h[i]? = some (.lst xs)) (z:xs.length<LINE):aan (.ref i) [a] h = .ok .non (h.set i (.lst (xs++[a]))):=by
 unfold aan
 simp only [e,if_pos z]
theorem asj {xs:List D} {j:Nat} (e:h[i]? = some (.lst xs)) (hj:j<xs.length):put (.ref i) (.int (j:Nat)) v h=some (h.set i (.lst (xs.set j v))):=by
 have:ixN xs.length (j:Int)=some j:=by unfold ixN;rw [if_pos (by omega),if_pos (by omega)];simp
 unfold put
 simp only [e,this]
theorem ana {xs:List D} {j:Nat} {y:D} (e:h[i]? = some (.lst xs)) (hj:xs[j]? = some y) (z:xs.length≤LINE):a3i (.ref i) [.int (j:Nat)] h = .ok y (h.set i (.lst (xs.eraseIdx j))):=by
 have lt:j<xs.length:=(List.getElem?_eq_some_iff.mp hj).1
 have:ixN xs.length (j:Int)=some j:=by unfold ixN;rw [if_pos (by omega),if_pos (by omega)];simp
 unfold a3i
 simp only [e,this,hj,if_pos z]
theorem aci {xs:List D} {j:Nat} {y:D} (e:h[i]? = some (.lst xs)) (hj:xs[j]? = some y):gIx (.ref i) (.int (j:Nat)) h = .ok y h:=by
 rw [acd]
 unfold a0a
 simp only [e,v7 hj]
theorem awp {xs:List D} {j:Nat} {y:D} (hj:xs[j]? = some y):gIx (.rol xs) (.int (j:Nat)) h = .ok y h:=by
 rw [ag4]
 simp only [v7 hj]
theorem adl {xs:List D} {j:Nat} {y:D} (hj:xs[j]? = some y):gIx (.tup xs) (.int (j:Nat)) h = .ok y h:=by
 rw [a8o]
 simp only [v7 hj]
theorem a4m {xs:List D} (e:h[i]? = some (.lst xs)):p7 [.ref i] h = .ok (.int (xs.length:Nat)) h:=by
 rw [a84]
 unfold a0a
 simp only [e]
theorem agg {xs:List D} (e:h[i]? = some (.lst xs)):ym [.ref i] h = .ok (.tup xs) h:=by
 unfold ym a0a
 simp only [e]
theorem div_ii {x y:Int} (c:0<y∧y<1073741824):abp (.int x) (.int y) h = .ok (.int (x / y)) h:=by unfold abp;exact if_pos c
theorem agh {x y:Int} (c:0<y):a01 (.int x) (.int y) h = .ok (.int (x % y)) h:=by unfold a01;exact if_pos c
theorem awq {x y:Int} (c:y<x):gGt (.int x) (.int y) h = .ok (.bl true) h:=by unfold gGt;simp only [c,decide_true]
theorem awr {x y:Int} (c:¬ y<x):gGt (.int x) (.int y) h = .ok (.bl false) h:=by unfold gGt;simp only [c,decide_false]
theorem avo {x y:Int} (c:x<y):gLt (.int x) (.int y) h = .ok (.bl true) h:=by unfold gLt;simp only [c,decide_true]
theorem avp {x y:Int} (c:¬ x<y):gLt (.int x) (.int y) h = .ok (.bl false) h:=by unfold gLt;simp only [c,decide_false]
theorem aay {x y:Int} (c:x=y):hEq (.int x) (.int y) h = .ok (.bl true) h:=by rw [a6q,c,beq_self_eq_true]
theorem aaz {x y:Int} (c:¬ x=y):hEq (.int x) (.int y) h = .ok (.bl false) h:=by rw [a6q,beq_eq_false_iff_ne.mpr c]
theorem aj4 {x y:Int} (c:x=y):hNe (.int x) (.int y) h = .ok (.bl false) h:=by rw [aga,c,beq_self_eq_true];rfl
theorem anb {x y:Int} (c:¬ x=y):hNe (.int x) (.int y) h = .ok (.bl true) h:=by rw [aga,beq_eq_false_iff_ne.mpr c];rfl
theorem a6r (x:Int):a4z (.int x) h = .ok (.int (-x)) h:=rfl
theorem a08 (x y:Int):MI.a4x (.int x) (.int y) h = .ok (.int (x - y)) h:=rfl
theorem jc {n:Nat} (h:n≤1000000):n≤LINE:=by show n≤16777216;omega
theorem a9q {n:Nat} (h:n≤1000000):n<LINE:=by show n<16777216;omega
theorem ayc:MI.qx [a,b] h = .ok (.tup [a,b]) h:=by unfold MI.qx;rw [if_pos (jc (by simp))]
theorem aws:MI.qx [a,b,v] h = .ok (.tup [a,b,v]) h:=by unfold MI.qx;rw [if_pos (jc (by simp))]
end
end MI
namespace HND
open PySem PySem.Spec L2 MI AT
local macro_rules | `(tactic| walk_at "ev") => `(tactic| simp only [sr,xm,aft,a3l,ak9,qi,ajx,afg,sIf,o9,a1e,aam,put,adf,aa4,a8f,qp,a92,kN,sV,sC,s2,s1,sA,ak,bz,sNx,sT,asB,zb,gh,ag6,ag7,ag8,ag9,ad7,sOr,a0z,yu,aw2,aal,sCh,aw3,d7,yw,MI.a8o,MI.ag4,MI.acd,aqf,a0a,gLt,gGt,gGe,gLe,a6q,aga,as6,amz,akg,a9n,as7,ace,awl,awm,awn,awo,a2k,MI.a4x,a01,abp,akf,AT.as4,AT.p18,aau,a6f,a84,aw5,ag5,a4z,af3,aq1,MI.qx,MI.a2i,sML,isL,aan,oN,oS,a1w,a1i,sIt,ao1,sRg,List.length_map,List.length_cons,List.length_nil,List.length_append,List.getElem?_cons_zero,List.getElem?_cons_succ,List.set_cons_zero,List.set_cons_succ,List.nil_append,List.cons_append,AT.ars,AT.art,AT.aru,AT.arv,AT.arw,AT.arx,AT.arz,AT.as3,AT.x10,AT.x20,AT.x21,AT.x30,AT.x31,AT.x32,AT.x40,AT.x41,AT.x42,AT.x43,AT.x50,AT.x51,AT.x52,AT.x53,AT.x54,AT.x60,AT.x61,AT.x62,AT.x63,AT.x64,AT.x65,AT.x70,AT.x71,AT.x72,AT.x73,AT.x74,AT.x75,AT.x76,decide_true,decide_false,reduceIte,Bool.true_and,Bool.and_self,Bool.not_true,Bool.not_false,and_self,true_and,and_true,beq_self_eq_true,Nat.reduceAdd,Nat.reduceLeDiff,Nat.reduceLT,Nat.reducePow,Int.reduceLT,Int.reduceLE,Int.reduceNeg,Int.reduceEq,Int.reduceBEq,Bool.false_eq_true,Bool.true_eq_false,ite_true,ite_false,if_true,if_false, *])
structure Hand (o:O) (N:Nat):Prop where
 ex:∃ (cells:List Int) (a l s c:Int),o = .lst [.rol (cells.map D.int), .int a, .int l, .int s, .int c]∧0≤a∧0≤l∧0≤s∧s<2147483647∧0≤c∧c≤N∧cells.length≤63
theorem Hand.clo {o:O} {N:Nat} (P:Hand o N):a3s 0 o:=by
 obtain ⟨cells,a,l,s,c,rfl,_⟩:=P.ex
 exact d8 (uy (jf fun x _=>cj x)) (d8 (cj _) (d8 (cj _) (d8 (cj _) (d8 (cj _) je))))
theorem Hand.up {o:O} {N M:Nat} (P:Hand o N) (h:N≤M):Hand o M:=by
 obtain ⟨cells,a,l,s,c,e,h1,h2,h3,h4,h5,h6,h7⟩:=P.ex
 exact ⟨cells,a,l,s,c,e,h1,h2,h3,h4,h5,by omega,h7⟩
noncomputable def ao:SF:=my a4i 4
theorem agi {o:O} {N:Nat} {m:Int} (P:Hand o N) (hN:N≤1000000000) (m0:0<m) (m1:m<1073741824):∃ r o',ao [.ref 0, .int m] [o] = .ok (.int r) [o']∧0≤r∧r<m∧Hand o' (N+1):=by
 obtain ⟨cells,a,l,s,c,rfl,a0,l0,s0,s1,c0,c1,c63⟩:=P.ex
 unfold ao
 rw [gf]
 unfold a4i a0u
 simp only [List.map_cons,List.map_nil,List.length_cons,List.length_nil,Nat.reduceSub,Nat.reduceAdd,List.replicate,List.cons_append,List.nil_append]
 by_cases h2:m<2
 ·refine ⟨0,_,?_,by omega,by omega,⟨cells,a,l,s,c,rfl,a0,l0,s0,s1,c0,by omega,c63⟩⟩
  walk_at "ev"
 ·have k2:decide (m<2)=false:=decide_eq_false h2
  have k3:(0<m∧m<1073741824)=True:=by simp [m0,m1]
  have k3':(0<m)=True:=by simp [m0]
  have draw:∀ s':Int,0≤s'→s'<2147483647→∃ r,0≤r∧r<m∧(s'+7368787*(c+1)) ^ (5:Int).toNat % 2147483647 / 1009 % m=r∧CMul 7368787 (c+1)∧∀ h,abq (.int (s'+7368787*(c+1))) (.int 5) h = .ok (.int ((s'+7368787*(c+1)) ^ (5:Int).toNat)) h:=fun s' h0 h1 =>
   ⟨_,Int.emod_nonneg _ (by omega),Int.emod_lt_of_pos _ m0,rfl, .inl ⟨by decide,by decide⟩,fun h=>as5 ⟨by decide,by decide,by omega⟩⟩
  by_cases hA:l=0∧a<(cells.length:Int)
  ·obtain ⟨rfl,ha⟩:=hA
   obtain ⟨j,rfl⟩:=Int.eq_ofNat_of_zero_le a0
   have hj:j<cells.length:=by omega
   have hat:atI (cells.map D.int) (j:Int)=some (.int cells[j]):=v7 (by simp [hj])
   have ka:decide ((j:Int)<(cells.length:Int))=true:=decide_eq_true ha
   have cm:CMul s 48271:=.inr ⟨by decide,by decide⟩
   have s2:0≤(s*48271+cells[j]) % 2147483647:=Int.emod_nonneg _ (by decide)
   have s3:(s*48271+cells[j]) % 2147483647<2147483647:=Int.emod_lt_of_pos _ (by decide)
   generalize hs':(s*48271+cells[j]) % 2147483647=s' at s2 s3
   generalize hx:cells[j]=x at *
   by_cases hB:(1000000000000000000:Int)≤ake x
   ·have kb:decide ((1000000000000000000:Int)≤ake x)=true:=decide_eq_true hB
    have pos:0<ake x:=by omega
    have kc:decide (0<ake x)=true:=decide_eq_true pos
    refine ⟨ake x % m,_,?_,Int.emod_nonneg _ (by omega),Int.emod_lt_of_pos _ m0,⟨cells,(j:Int)+1,ake x / m,s',c,rfl,by omega,Int.ediv_nonneg (by omega) (by omega),s2,s3,c0,by omega,c63⟩⟩
    walk_at "ev"
   ·have kb:decide ((1000000000000000000:Int)≤ake x)=false:=decide_eq_false hB
    obtain ⟨r,r0,r1,er,d1,d2⟩:=draw s' s2 s3
    refine ⟨r,_,?_,r0,r1,⟨cells,(j:Int)+1,0,s',c+1,rfl,by omega,by omega,s2,s3,by omega,by omega,c63⟩⟩
    walk_at "ev"
  ·by_cases hC:0<l
   ·have kc:decide (0<l)=true:=decide_eq_true hC
    have kd:(l == 0)=false:=by simp;omega
    refine ⟨l % m,_,?_,Int.emod_nonneg _ (by omega),Int.emod_lt_of_pos _ m0,⟨cells,a,l / m,s,c,rfl,a0,Int.ediv_nonneg (by omega) (by omega),s0,s1,c0,by omega,c63⟩⟩
    walk_at "ev"
   ·have:l=0:=by omega
    subst this
    have ka:decide (a<(cells.length:Int))=false:=decide_eq_false fun z=>hA ⟨rfl,z⟩
    obtain ⟨r,r0,r1,er,d1,d2⟩:=draw s s0 s1
    refine ⟨r,_,?_,r0,r1,⟨cells,a,0,s,c+1,rfl,a0,by omega,s0,s1,by omega,by omega,c63⟩⟩
    walk_at "ev"
theorem uh {o:O} {N:Nat} {m:Int} (P:Hand o N) (hN:N≤1000000000) (m0:0<m) (m1:m<1073741824):∃ r o',Dr ao 2 [.int m] o (.int r) o'∧0≤r∧r<m∧Hand o' (N+1):=by
 obtain ⟨r,o',e,r0,r1,P'⟩:=agi P hN m0 m1
 refine ⟨r,o',Dr.of rfl (by simp [cj]) P.clo e (v8 (cj _) ?_) (cj _) P'.clo,r0,r1,P'⟩
 intro u hu
 simp at hu
 subst hu
 exact a0f (by omega) P'.clo
end HND
namespace HND
open PySem PySem.Spec L2 MI AT
local macro_rules | `(tactic| walk_at "ev") => `(tactic| simp only [sr,xm,aft,a3l,ak9,qi,ajx,afg,sIf,o9,a1e,aam,put,adf,aa4,a8f,qp,a92,kN,sV,sC,s2,s1,sA,ak,bz,sNx,sT,asB,zb,gh,ag6,ag7,ag8,ag9,ad7,sOr,a0z,yu,aw2,aal,sCh,aw3,d7,yw,MI.a8o,MI.ag4,MI.acd,aqf,a0a,gLt,gGt,gGe,gLe,a6q,aga,as6,amz,akg,a9n,as7,ace,awl,awm,awn,awo,a2k,MI.a4x,a01,abp,akf,AT.as4,AT.p18,aau,a6f,a84,aw5,ag5,a4z,af3,aq1,MI.qx,MI.a2i,sML,isL,aan,oN,oS,a1w,a1i,sIt,ao1,sRg,abl,a2s,a6m,ava,a7v,aml,ao3,av3,srcOf,  List.length_map,List.length_cons,List.length_nil,List.length_append,List.getElem?_cons_zero,List.getElem?_cons_succ,List.set_cons_zero,List.set_cons_succ,List.nil_append,List.cons_append,AT.ars,AT.art,AT.aru,AT.arv,AT.arw,AT.arx,AT.arz,AT.as3,AT.x10,AT.x20,AT.x21,AT.x30,AT.x31,AT.x32,AT.x40,AT.x41,AT.x42,AT.x43,AT.x50,AT.x51,AT.x52,AT.x53,AT.x54,AT.x60,AT.x61,AT.x62,AT.x63,AT.x64,AT.x65,AT.x70,AT.x71,AT.x72,AT.x73,AT.x74,AT.x75,AT.x76,decide_true,decide_false,reduceIte,Bool.true_and,Bool.and_self,Bool.not_true,Bool.not_false,and_self,true_and,and_true,beq_self_eq_true,Nat.reduceAdd,Nat.reduceLeDiff,Nat.reduceLT,Nat.reducePow,Int.reduceLT,Int.reduceLE,Int.reduceNeg,Int.reduceEq,Int.reduceBEq,Bool.false_eq_true,Bool.true_eq_false,ite_true,ite_false,if_true,if_false, *])
noncomputable def v5:SF:=my a4h 1
theorem anc (ns:List Int) (h:Hd):∃ o,Hand o 0∧j8 true 1 v5 [.scr (ns.map D.int)] h = .ok (.ref h.length) (h++[o]):=by
 have cl:clos 0 ((ns.take 63).map D.int):=jf fun x _=>cj x
 have z1:sZ (a1w (sV 0) oN (oS (sC (.int 63)))) [some (.scr (ns.map D.int))] [] = .ok (.rol ((ns.take 63).map D.int)) []:=by
  refine a4f (by
   show gSl (.scr (ns.map D.int)) none (some ((63:Nat):Int)) []=_
   unfold gSl
   simp only [aaj,List.map_take]) cl (by simp)
 have z2:sZ (sA a0d (ak (sZ (a1w (sV 0) oN (oS (sC (.int 63))))) bz)) [some (.scr (ns.map D.int))] [] = .ok (.rol ((ns.take 63).map D.int)) []:=by
  refine a4f (by
   simp only [sA,ak,bz,z1,d7]
   rfl) cl (by simp)
 have e:v5 [.scr (ns.map D.int)] [] = .ok (.ref 0) [.lst [.rol ((ns.take 63).map D.int), .int 0, .int 0, .int 7, .int 0]]:=by
  unfold v5
  rw [gf]
  unfold a4h a0u
  simp only [List.map_cons,List.map_nil,List.length_cons,List.length_nil,Nat.reduceSub,Nat.reduceAdd,List.replicate,List.append_nil]
  simp only [o9,sA,ak,bz,sC,d7,yw] at z2 ⊢
  simp only [z2,d7]
  rfl
 have P:Hand (.lst [.rol ((ns.take 63).map D.int), .int 0, .int 0, .int 7, .int 0]) 0:=⟨ns.take 63,0,0,7,0,rfl,by decide,by decide,by decide,by decide,by decide,by decide,by simp;omega⟩
 exact ⟨_,P,aqj rfl (by simpa [clo] using (jf fun x _=>cj x:clos 0 (ns.map D.int))) e rfl P.clo h⟩
def atx:Str := " !\"#$&'()*+,-./0123456789:;<=>?@ABCDEFGHIJKLMNOPQRSTUVWXYZ[\\]^_`"
def aty:Str := "abcdefghijklmnopqrstuvwxyz{|}~\n"
def sig:List Nat:=atx.cps.toList++aty.cps.toList
theorem ane:sig.length=95:=by decide +kernel
theorem asl:sig.Nodup:=by decide +kernel
noncomputable def dh:SF:=my yo 1
theorem lits {h:Hd}:jq (.str atx) (.str aty) h = .ok (.str (S sig)) h:=by
 rw [← adk atx,← adk aty,ag2 (by decide +kernel)]
 rfl
theorem a5o:Pu dh 0 [] (.str (S sig)):=by
 refine Pu.of rfl (by simp) (r:=.ok (.str (S sig)) []) ?_ (by rw [v8 (zq _) (by simp)];rfl) (zq _)
 unfold dh
 rw [gf]
 unfold yo
 have e:=@lits []
 unfold atx aty at e
 show toR (iu (qi 0 _) _ [none] [])=_
 simp only [sr,qi,sC,yw,xm,o9,s2,sV,List.set_cons_zero,List.getElem?_cons_zero,d7,e,a3l]
structure Tongue (l:List Nat):Prop where
 lo:1≤l.length
 hi:l.length≤6
 nd:l.Nodup
 sub:∀ c∈l,c∈sig
noncomputable def ju:SF:=my (xf dh ao) 5
theorem a9r (a r:List Nat) (i:Nat) (c:Nat) (e:r[i]? = some c):List.Perm (a++r) ((a++[c])++(r.take i++r.drop (i+1))):=by
 obtain ⟨hi,e⟩:=List.getElem?_eq_some_iff.mp e
 have:r=r.take i++c::r.drop (i+1):=by rw [← e];simp
 rw [List.append_assoc]
 refine List.Perm.append_left a ?_
 rw [List.singleton_append]
 conv=>lhs;rw [this]
 exact List.perm_middle
theorem agj {o:O} {N:Nat} (P:Hand o N) (hN:N≤999999000):∃ l o',Tongue l∧Dr ju 1 [] o (.str (S l)) o'∧Hand o' (N+7):=by
 obtain ⟨r0,o1,e1,r0a,r0b,P1⟩:=uh (m:=6) P (by omega) (by decide) (by decide)
 have lo:=a0g (g:=kN 3) (b:=qd dh ao) (fun i:Nat=>D.int (0+(i:Nat)))
  (fun pre τ h=>∃ (rest told:List Nat) (u:O) (t3 t4:Option D),τ=[some (.ref 0),some (.str (S rest)),some (.str (S told)),t3,t4]∧h=[u]∧Hand u (N+1+pre.length)∧told.length=pre.length∧(told++rest).length=95∧(told++rest).Nodup∧∀ c∈told++rest,c∈sig)
  (List.range (1+r0).toNat) [some (.ref 0),some (.str (S sig)),some (.str (S [])),none,none] [o1] ?_
  ⟨sig,[],o1,none,none,rfl,rfl,P1,rfl,by simp [ane],by simpa using asl,by simp⟩
 ·obtain ⟨τ',h',e2,rest,told,u,t3,t4,rfl,rfl,P2,l1,l2,nd,sb⟩:=lo
  rw [List.length_range] at P2 l1
  have T:Tongue told:=⟨by omega,by omega,(List.nodup_append.mp nd).1,fun c hc=>sb c (List.mem_append_left _ hc)⟩
  refine ⟨told,u,T,Dr.of rfl (by simp) P.clo (r:=.ok (.str (S told)) [u]) ?_ (v8 (zq _) (by simpa using a0f (by omega) P2.clo)) (zq _) P2.clo,P2.up (by omega)⟩
  unfold ju
  rw [gf]
  unfold xf a0u
  simp only [List.map_cons,List.map_nil,List.length_cons,List.length_nil,Nat.reduceSub,Nat.reduceAdd,List.replicate,List.cons_append,List.nil_append]
  have c1:=a5o [o]
  have c2:=e1 0 [o] rfl
  have em:("" : Str)=S []:=rfl
  have bd:B62 (1+r0):=by unfold B62;omega
  have e2:forL (fun _=>True) (kN 3) (qd dh ao) (rng 0 (1+r0).toNat) [some (D.ref 0),some (D.str (S sig)),some (D.str (S [])),none,none] [o1]=_:=e2
  walk_at "ev"
 ·rintro pre i post τ h all ⟨rest,told,u,t3,t4,rfl,rfl,P2,l1,l2,nd,sb⟩
  have hlen:pre.length<(1+r0).toNat:=by
   have:=congrArg List.length all
   simp at this;omega
  rw [List.length_append] at l2
  obtain ⟨r,u',e2,ra,rb,P3⟩:=uh (m:=(rest.length:Nat)) P2 (by omega) (by omega) (by omega)
  obtain ⟨j,rfl⟩:=Int.eq_ofNat_of_zero_le ra
  have hj:j<rest.length:=by omega
  have gx:rest[j]? = some rest[j]:=List.getElem?_eq_getElem hj
  have pp:=a9r told rest j rest[j] gx
  refine ⟨_,_,rfl,_,_,?_,rest.take j++rest.drop (j+1),told++[rest[j]],u',some (.int (0+(i:Nat))),some (.int (j:Nat)),rfl,rfl,by simpa [Nat.add_assoc] using P3,by simp [l1],?_,pp.nodup_iff.mp nd,fun c hc=>sb c (pp.mem_iff.mpr hc)⟩
  ·unfold qd
   have L:∀ n:Nat,n≤95→n≤LINE:=fun n hn=>by show n≤16777216;omega
   have c2:=e2 0 [u] rfl
   have x1:∀ h,gIx (.str (S rest)) (.int (j:Nat)) h = .ok (.str (S [rest[j]])) h:=fun h=>awk (L _ (by omega)) gx
   have x2:∀ h,p7 [.str (S rest)] h = .ok (.int rest.length) h:=fun h=>a9m (L _ (by omega))
   have x3:∀ h,jq (.str (S told)) (.str (S [rest[j]])) h = .ok (.str (S (told++[rest[j]]))) h:=fun h=>ag2 (L _ (by simp;omega))
   have x4:∀ h,ad9 (.str (S rest)) none (some (j:Int)) h = .ok (.str (S (rest.take j))) h:=fun h=>atw j (L _ (by omega))
   have x5:∀ h,ad9 (.str (S rest)) (some ((j:Int)+1)) none h = .ok (.str (S (rest.drop (j+1)))) h:=fun h=>ag3 (j+1) (L _ (by omega))
   have x6:∀ h,jq (.str (S (rest.take j))) (.str (S (rest.drop (j+1)))) h = .ok (.str (S (rest.take j++rest.drop (j+1)))) h:=fun h=>ag2 (L _ (by simp;omega))
   clear all hlen
   walk_at "ev"
  ·rw [← pp.length_eq];simpa using l2
end HND
namespace HND
open PySem PySem.Spec L2 MI AT
theorem acj {ck:Hd→Prop} {g:SG} {b:SS} {α:Type} (f:α→D) (I:List α→Sd→Hd→Prop) (c:∀ pre τ h,I pre τ h→ck h):∀ (xs pre:List α) (τ:Sd) (h:Hd),
  (∀ pre' x post τ h,pre++xs=pre'++x::post→I pre' τ h→∃ τ1 h1,g (f x) τ h = .nx τ1 h1∧∃ τ2 h2,b τ1 h1 = .nx τ2 h2∧I (pre'++[x]) τ2 h2)→I pre τ h→∃ τ' h',forL ck g b (xs.map f) τ h = .nx τ' h'∧I (pre++xs) τ' h'
 | [],pre,τ,h,_,i0=>⟨τ,h,by rw [List.map_nil,forL,if_pos (c _ _ _ i0)],by simpa using i0⟩
 | x::xs,pre,τ,h,st,i0=>by
  obtain ⟨τ1,h1,e1,τ2,h2,e2,i2⟩:=st pre x xs τ h rfl i0
  obtain ⟨τ',h',e3,i3⟩:=acj f I c xs (pre++[x]) τ2 h2 (fun pre' y post τ h e=>st pre' y post τ h (by simpa using e)) i2
  refine ⟨τ',h',?_,by simpa using i3⟩
  rw [List.map_cons,forL,if_pos (c _ _ _ i0),e1]
  dsimp only
  rw [e2]
  exact e3
abbrev a2f (p:Nat × Nat):D:=.tup [.int (p.1:Nat), .int (p.2:Nat)]
abbrev aha (r:List Int):O:=.lst (r.map D.int)
def a5d (k:Nat):List D:=.ref 2::(List.range k).map fun j=>.ref (4+j)
def HP (u:O) (free:List (Nat × Nat)) (r0:List Int) (rows:List (List Int)):Hd:=u::.lst (free.map a2f)::aha r0::.lst (a5d rows.length)::rows.map aha
def adr (j:Nat):Nat:=if j=0 then 2 else 3+j
theorem anf {k j:Nat} (h:j≤k):(a5d k)[j]? = some (.ref (adr j)):=by
 unfold a5d adr
 cases j with
 | zero=>rfl
 | succ j =>
  rw [List.getElem?_cons_succ,List.getElem?_map,List.getElem?_range (by omega),if_neg (by omega)]
  simp;omega
theorem aj5 (k:Nat):(a5d k).length=k+1:=by simp [a5d]
def ack (r0:List Int) (rows:List (List Int)) (a b:Nat) (v:Int):List Int × List (List Int):=if a=0 then (r0.set b v,rows) else (r0,rows.set (a - 1) ((rows.getD (a - 1) []).set b v))
theorem ab0 {n k:Nat} (h:k<n):ixN n (k:Int)=some k:=by unfold ixN;rw [if_pos (by omega),if_pos (by omega)];simp
theorem akh {u:O} {free:List (Nat × Nat)} {r0:List Int} {rows:List (List Int)} {a b s:Nat} {v:Int} (ha:a≤rows.length) (hb:b<s) (l0:r0.length=s) (l1:∀ r∈rows,r.length=s) :
  put (.ref (adr a)) (.int (b:Nat)) (.int v) (HP u free r0 rows)=some (HP u free (ack r0 rows a b v).1 (ack r0 rows a b v).2):=by
 unfold HP adr ack
 by_cases h0:a=0
 ·subst h0
  simp only [if_true,put,List.getElem?_cons_succ,List.getElem?_cons_zero,List.length_map,l0,ab0 hb,List.set_cons_succ,List.set_cons_zero,List.map_set,aha]
 ·obtain ⟨j,rfl⟩:∃ j,a=j+1:=⟨a - 1,by omega⟩
  have hj:j<rows.length:=by omega
  have lr:=l1 rows[j] (List.getElem_mem hj)
  simp only [if_neg h0,put,show 3+(j+1)=j+1+1+1+1 by omega,List.getElem?_cons_succ,List.getElem?_map,List.getElem?_eq_getElem hj,Option.map_some,List.length_map,lr,ab0 hb,List.set_cons_succ,Nat.add_sub_cancel,List.length_set,List.map_set,List.getD_eq_getElem?_getD,Option.getD_some,aha]
theorem agk {r0:List Int} {rows:List (List Int)} {a b s:Nat} {v n:Int} (ha:a≤rows.length) (v0:0≤v) (v1:v<n) (h0:r0.length=s∧∀ x∈r0,0≤x∧x<n) (h1:∀ r∈rows,r.length=s∧∀ x∈r,0≤x∧x<n) :
  ((ack r0 rows a b v).1.length=s∧∀ x∈(ack r0 rows a b v).1,0≤x∧x<n)∧(ack r0 rows a b v).2.length=rows.length∧∀ r∈(ack r0 rows a b v).2,r.length=s∧∀ x∈r,0≤x∧x<n:=by
 have ins:∀ {r:List Int} {k:Nat},(∀ x∈r,0≤x∧x<n)→∀ x∈r.set k v,0≤x∧x<n:=fun hr x hx=>by
  rcases List.mem_or_eq_of_mem_set hx with hx | rfl
  ·exact hr x hx
  ·exact ⟨v0,v1⟩
 unfold ack
 by_cases z:a=0
 ·rw [if_pos z]
  exact ⟨⟨by simp [h0.1],ins h0.2⟩,rfl,h1⟩
 ·rw [if_neg z]
  refine ⟨h0,by simp,fun r hr=>?_⟩
  rcases List.mem_or_eq_of_mem_set hr with hr | rfl
  ·exact h1 r hr
  ·have hj:a - 1<rows.length:=by omega
   have:=h1 rows[a - 1] (List.getElem_mem hj)
   rw [List.getD_eq_getElem?_getD,List.getElem?_eq_getElem hj,Option.getD_some]
   exact ⟨by simp [this.1],ins this.2⟩
theorem ang {u:O} {free:List (Nat × Nat)} {r0:List Int} {rows:List (List Int)}:a0a (.ref 3) (HP u free r0 rows)=some (a5d rows.length):=rfl
theorem anh {u:O} {free:List (Nat × Nat)} {r0:List Int} {rows:List (List Int)}:a0a (.ref 1) (HP u free r0 rows)=some (free.map a2f):=rfl
theorem aki {u:O} {free:List (Nat × Nat)} {r0:List Int} {rows:List (List Int)} {a:Nat} (ha:a≤rows.length):gIx (.ref 3) (.int (a:Nat)) (HP u free r0 rows) = .ok (.ref (adr a)) (HP u free r0 rows):=by
 rw [acd,ang]
 simp only [v7 (anf ha)]
noncomputable def qe:SF:=my (a1x ao) 10
theorem aj6 {u:O} {free:List (Nat × Nat)} {r0:List Int} {rows:List (List Int)}:a5a 1 (HP u free r0 rows) FU (.ref 3)=some (.rol ((r0::rows).map fun r=>.rol (r.map D.int))):=by
 have one:∀ (i:Nat) (r:List Int),1≤i→(HP u free r0 rows)[i]? = some (aha r)→a5a 1 (HP u free r0 rows) 19 (.ref i)=some (.rol (r.map D.int)):=fun i r hi e=>ac1 hi e (jf fun x _=>cj x)
 have all:a0w (a5a 1 (HP u free r0 rows) 19) (a5d rows.length)=some ((r0::rows).map fun r=>.rol (r.map D.int)):=by
  unfold a5d
  rw [List.map_cons]
  refine a9h (one 2 r0 (by omega) rfl) ?_
  have go:∀ (k:Nat) (rs:List (List Int)),(∀ j r,rs[j]? = some r→rows[k+j]? = some r)→a0w (a5a 1 (HP u free r0 rows) 19) ((List.range' k rs.length).map fun j=>D.ref (4+j))=some (rs.map fun r=>.rol (r.map D.int)):=by
   intro k rs
   induction rs generalizing k with
   | nil=>intro _;rfl
   | cons r rs ih =>
    intro hk
    rw [List.length_cons,List.range'_succ,List.map_cons,List.map_cons]
    refine a9h (one (4+k) r (by omega) ?_) (ih (k+1) fun j r' e=>?_)
    ·have:=hk 0 r rfl
     unfold HP
     rw [show 4+k=k+1+1+1+1 by omega]
     simp only [List.getElem?_cons_succ,List.getElem?_map]
     rw [show k+0=k by omega] at this
     rw [this];rfl
    ·have:=hk (j+1) r' (by simpa using e)
     rw [show k+1+j=k+(j+1) by omega];exact this
  have:=go 0 rows (fun j r e=>by simpa using e)
  rw [← List.range_eq_range'] at this
  exact this
 unfold FU a5a
 rw [if_neg (by simp only [clo];omega)]
 have e3:(HP u free r0 rows)[3]? = some (.lst (a5d rows.length)):=rfl
 simp only [e3,all,Option.map_some]
end HND
namespace HND
open PySem PySem.Spec L2 MI AT
theorem a9s {k i:Nat} {pre post:List Nat} (h:List.range k=pre++i::post):i=pre.length∧i<k:=by
 have h1:=congrArg (fun l=>l[pre.length]?) h
 have h2:=congrArg List.length h
 simp at h1 h2
 have:pre.length<k:=by omega
 rw [List.getElem?_range this] at h1
 simp at h1
 omega
abbrev a2g (s n:Nat) (r:List Int):Prop:=r.length=s∧∀ x∈r,0≤x∧x<(n:Int)
theorem akj {u:O} {free:List (Nat × Nat)} {r0:List Int} {rows:List (List Int)}:(HP u free r0 rows).length=4+rows.length:=by simp [HP];omega
theorem akk {u:O} {free:List (Nat × Nat)} {r0:List Int} {rows:List (List Int)} (c:a3s 0 u):∀ o∈HP u free r0 rows,a3s (HP u free r0 rows).length o:=by
 intro o ho
 rw [akj]
 have rw1:∀ r:List Int,a3s (4+rows.length) (aha r):=fun r=>jf fun x _=>cj x
 rcases List.mem_cons.mp ho with rfl | ho
 ·exact a0f (by omega) c
 rcases List.mem_cons.mp ho with rfl | ho
 ·exact jf fun x _=>qt (d8 (cj _) (d8 (cj _) je))
 rcases List.mem_cons.mp ho with rfl | ho
 ·exact rw1 _
 rcases List.mem_cons.mp ho with rfl | ho
 ·show clos _ (a5d rows.length)
  refine d8 (by simp only [clo];omega) ?_
  rw [nj]
  intro x hx
  obtain ⟨j,hj,rfl⟩:=List.mem_map.mp hx
  rw [List.mem_range] at hj
  simp only [clo];omega
 ·obtain ⟨r,_,rfl⟩:=List.mem_map.mp ho
  exact rw1 r
theorem a6h {α β:Type} (f:α→β):∀ (l:List α) (k:Nat),(l.eraseIdx k).map f=(l.map f).eraseIdx k
 | [],_=>rfl
 | _::_,0=>rfl
 | x::l,k+1=>by simp [List.eraseIdx,a6h f l k]
theorem aj7 {u:O} {free:List (Nat × Nat)} {r0:List Int} {rows:List (List Int)} {k:Nat} {p:Nat × Nat} (e:free[k]? = some p) (z:free.length≤LINE):a3i (.ref 1) [.int (k:Nat)] (HP u free r0 rows) = .ok (a2f p) (HP u (free.eraseIdx k) r0 rows):=by
 have hk:k<free.length:=(List.getElem?_eq_some_iff.mp e).1
 have e1:(HP u free r0 rows)[1]? = some (.lst (free.map a2f)):=rfl
 unfold a3i
 simp only [e1,List.length_map,ab0 hk,List.getElem?_map,e,Option.map_some,if_pos z,← a6h]
 rfl
theorem aj8 {u:O} {free more:List (Nat × Nat)} {r0:List Int} {rows:List (List Int)} (z:free.length+more.length≤LINE):afi (.ref 1) [.rol (more.map a2f)] (HP u free r0 rows) = .ok .non (HP u (free++more) r0 rows):=by
 have e1:(HP u free r0 rows)[1]? = some (.lst (free.map a2f)):=rfl
 unfold afi
 simp only [e1,a1i,List.length_map,if_pos z,← List.map_append]
 rfl
theorem ani {u:O} {free:List (Nat × Nat)} {r0 r:List Int} {rows:List (List Int)} (z:rows.length+1<LINE):aan (.ref 3) [.ref (HP u free r0 rows).length] (HP u free r0 rows++[aha r]) = .ok .non (HP u free r0 (rows++[r])):=by
 have e1:(HP u free r0 rows++[aha r])[3]? = some (.lst (a5d rows.length)):=rfl
 unfold aan
 simp only [e1,aj5,if_pos z]
 rw [akj]
 unfold HP
 simp [a5d,List.range_succ]
theorem mul_zero {s:Nat} {h:Hd} (z:s≤LINE):a2e (.rol [.int 0]) (.int (s:Nat)) h = .ok (.ref h.length) (h++[aha (List.replicate s 0)]):=by
 unfold a2e
 have z':s≤16777216:=z
 simp only [a1i,List.length_cons,List.length_nil,Int.toNat_natCast]
 rw [if_pos ⟨⟨by omega,by omega⟩,by show _≤16777216;omega⟩]
 congr 3
 simp [aha]
theorem agl {u:O} {free:List (Nat × Nat)} {r0:List Int} {rows:List (List Int)} {s room:Nat} {τ:Sd} (c:a3s 0 u) (z:s≤LINE) (z6:s≤6) (t1':τ[1]? = some (some (.int (s:Nat)))) (t6:τ[6]? = some (some (.int (room:Nat)))) :
  sZ (wz (sRg a2s (ak (sV 1) bz)) t1 (a0i ao) [6]) τ (HP u free r0 rows) = .ok (.rol (((List.range s).map fun j=>(room,j)).map a2f)) (HP u free r0 rows):=by
 refine a4f ?_ (jf fun x _=>qt (d8 (cj _) (d8 (cj _) je))) (akk c)
 rw [List.map_map]
 refine vg (fun i:Nat=>D.int (i:Nat)) (fun j:Nat=>a2f (room,j)) (List.range s) ?_ (by rw [List.length_range];exact z) fun x _=>?_
 ·exact a88 (bj t1') z
 ·rw [a0p,acg,aax,t6]
  unfold a0i
  simp only [Option.join_some,sA,ak,bz,sV,List.getElem?_cons_zero,List.getElem?_cons_succ,d7,MI.qx,List.length_cons,List.length_nil,Nat.reduceAdd,if_pos (show (2:Nat)≤LINE by decide)]
end HND
namespace HND
open PySem PySem.Spec L2 MI AT
theorem awt {u:O} {free:List (Nat × Nat)} {r0:List Int} {rows:List (List Int)}:isL (.ref 1) (HP u free r0 rows)=true:=rfl
theorem ayd {u:O} {free:List (Nat × Nat)} {r0:List Int} {rows:List (List Int)}:isL (.ref 3) (HP u free r0 rows)=true:=rfl
theorem awu {u:O} {free:List (Nat × Nat)} {r0:List Int} {rows:List (List Int)}:p7 [.ref 1] (HP u free r0 rows) = .ok (.int (free.length:Nat)) (HP u free r0 rows):=by
 rw [a84,anh]
 simp only [List.length_map]
theorem agm {o:O} {N s n i:Nat} {m:Int} {free:List (Nat × Nat)} {r0:List Int} {rows:List (List Int)} {t6 t7 t8 t9:Option D} (P:Hand o N) (hN:N≤999999000) (s1:1≤s) (s6:s≤6) (n32:n≤32) (hi:1+i<n) (lr:rows.length=i) (f1:s≤free.length) (f2:free.length≤1000) (ff:∀ p∈free,p.1≤i∧p.2<s) (q0:a2g s n r0) (q1:∀ r∈rows,a2g s n r) :
  ∃ (u:O) (free':List (Nat × Nat)) (r0':List Int) (rows':List (List Int)) (z7 z8 z9:Option D),xr ao [some (.ref 0),some (.int (s:Nat)),some (.int (n:Nat)),some (.int m),some (.ref 1),some (.ref 3),some (.int ((1+i:Nat))),t7,t8,t9] (HP o free r0 rows) = .nx [some (.ref 0),some (.int (s:Nat)),some (.int (n:Nat)),some (.int m),some (.ref 1),some (.ref 3),some (.int ((1+i:Nat))),z7,z8,z9] (HP u free' r0' rows')
   ∧ Hand u (N+2)∧rows'.length=i+1∧s≤free'.length∧free'.length≤free.length+s∧(∀ p∈free',p.1≤i+1∧p.2<s)∧a2g s n r0'∧∀ r∈rows',a2g s n r:=by
 obtain ⟨x,o1,e1,x0,x1,P1⟩:=uh (m:=(s:Nat)) P (by omega) (by omega) (by omega)
 obtain ⟨y,o2,e2,y0,y1,P2⟩:=uh (m:=(free.length:Nat)) P1 (by omega) (by omega) (by omega)
 obtain ⟨k,u,hk,Pu,ek⟩:∃ (k:Nat) (u:O),k<free.length∧Hand u (N+2)∧∀ τ:Sd,∀ τ':Sd,τ=[some (.ref 0),some (.int (s:Nat)),some (.int (n:Nat)),some (.int m),some (.ref 1),some (.ref 3),some (.int ((1+i:Nat))),t7,t8,t9]→τ'=[some (.ref 0),some (.int (s:Nat)),some (.int (n:Nat)),some (.int m),some (.ref 1),some (.ref 3),some (.int ((1+i:Nat))),some (.int (k:Nat)),t8,t9]→∀ g:SS,
   (iu (qi 7 (s2 a4x (s2 a4x (sA p7 (ak (sV 4) bz)) (sC (.int 1))) (sA (j8 false 2 ao) (ak (sV 0) (ak (sV 1) bz)))))
 (iu (sIf (sT (s2 hEq (sV 3) (sC (.int 0))))
 (qi 7 (sA (j8 false 2 ao) (ak (sV 0) (ak (sA p7 (ak (sV 4) bz)) bz))))
 sNx) g)) τ (HP o free r0 rows)=g τ' (HP u free r0 rows):=by
  have c1:j8 false 2 ao [.ref 0, .int (s:Nat)] (HP o free r0 rows) = .ok (.int x) (HP o1 free r0 rows):=e1 0 _ rfl
  have c2:j8 false 2 ao [.ref 0, .int (free.length:Nat)] (HP o1 free r0 rows) = .ok (.int y) (HP o2 free r0 rows):=e2 0 _ rfl
  have l1:=@awu o free r0 rows
  have l2:=@awu o1 free r0 rows
  by_cases hm:m=0
  ·obtain ⟨k,rfl⟩:=Int.eq_ofNat_of_zero_le y0
   refine ⟨k,o2,by omega,P2,fun τ τ' eτ eτ' g=>?_⟩
   subst eτ eτ' hm
   simp only [sr,xm,qi,sIf,sV,sC,s2,sA,ak,bz,sNx,sT,asB,d7,yw,MI.a4x,a6q,l1,l2,c1,c2,List.getElem?_cons_zero,List.getElem?_cons_succ,List.set_cons_zero,List.set_cons_succ,beq_self_eq_true,if_true,zb,gh]
  ·have hb:(m == 0)=false:=by simpa using hm
   refine ⟨(free.length - 1 - x).toNat,o1,by omega,P1.up (by omega),fun τ τ' eτ eτ' g=>?_⟩
   subst eτ eτ'
   rw [show (((free.length:Int) - 1 - x).toNat:Int)=(free.length:Int) - 1 - x by omega]
   simp only [sr,xm,qi,sIf,sV,sC,s2,sA,ak,bz,sNx,sT,asB,d7,yw,MI.a4x,a6q,l1,l2,c1,c2,List.getElem?_cons_zero,List.getElem?_cons_succ,List.set_cons_zero,List.set_cons_succ,hb,Bool.false_eq_true,if_false,zb,gh]
 have gk:free[k]? = some free[k]:=List.getElem?_eq_getElem hk
 obtain ⟨fa,fb⟩:=ff free[k] (List.getElem_mem hk)
 generalize free[k]=p at gk fa fb
 have l0:=jc (n:=free.length) (by omega)
 have so:=agk (b:=p.2) (v:=((1+i:Nat):Int)) (by omega:p.1≤rows.length) (by omega) (by omega:((1+i:Nat):Int)<(n:Int)) q0 q1
 refine ⟨u,free.eraseIdx k++(List.range s).map (fun j=>(1+i,j)),(ack r0 rows p.1 p.2 ((1+i:Nat):Int)).1,(ack r0 rows p.1 p.2 ((1+i:Nat):Int)).2++[List.replicate s 0],some (.int (k:Nat)),some (.int (p.1:Nat)),some (.int (p.2:Nat)),?_,Pu,?_,?_,?_,?_,so.1,?_⟩
 ·unfold xr
  rw [ek _ _ rfl rfl]
  rw [sr]
  have st1:∀ τ:Sd,τ=[some (.ref 0),some (.int (s:Nat)),some (.int (n:Nat)),some (.int m),some (.ref 1),some (.ref 3),some (.int ((1+i:Nat))),some (.int (k:Nat)),t8,t9]→aa4 (sML a3i (sV 4) (ak (sV 7) bz)) (a8f 2 (qp (kN 8) (qp (kN 9) a92))) τ (HP u free r0 rows) = .nx [some (.ref 0),some (.int (s:Nat)),some (.int (n:Nat)),some (.int m),some (.ref 1),some (.ref 3),some (.int ((1+i:Nat))),some (.int (k:Nat)),some (.int (p.1:Nat)),some (.int (p.2:Nat))] (HP u (free.eraseIdx k) r0 rows):=by
   rintro τ rfl
   unfold aa4
   rw [ase (bj rfl) awt (arg1 (bj rfl)) (aj7 gk l0)]
   rfl
  rw [st1 _ rfl,xm,sr]
  generalize HT:([some (.ref 0),some (.int (s:Nat)),some (.int (n:Nat)),some (.int m),some (.ref 1),some (.ref 3),some (.int ((1+i:Nat))),some (.int (k:Nat)),some (.int (p.1:Nat)),some (.int (p.2:Nat))]:Sd)=τ
  have pa:=akh (u:=u) (free:=free.eraseIdx k) (v:=((1+i:Nat):Int)) (by omega:p.1≤rows.length) fb q0.1 fun r hr=>(q1 r hr).1
  have st2:aam (sV 6) (s2 gIx (sV 5) (sV 8)) (sV 9) τ (HP u (free.eraseIdx k) r0 rows) = .nx τ (HP u (free.eraseIdx k) (ack r0 rows p.1 p.2 ((1+i:Nat):Int)).1 (ack r0 rows p.1 p.2 ((1+i:Nat):Int)).2):=by
   subst HT
   unfold aam
   rw [bj rfl,yw,jl (bj rfl) (bj rfl) (aki (by omega)),yw,bj rfl,yw,pa]
  rw [st2,xm,sr]
  generalize (ack r0 rows p.1 p.2 ((1+i:Nat):Int)).1=r0' at so
  generalize (ack r0 rows p.1 p.2 ((1+i:Nat):Int)).2=rows' at so
  have st3:a1e (sML aan (sV 5) (ak (s2 a2e (sZ (sA a2i (ak (sC (.int 0)) bz))) (sV 1)) bz)) τ (HP u (free.eraseIdx k) r0' rows') = .nx τ (HP u (free.eraseIdx k) r0' (rows'++[List.replicate s 0])):=by
   subst HT
   exact a75 (bj rfl) ayd (arg1 (jl (a4f (xs:=[.int 0]) rfl (d8 (cj _) je) (akk Pu.clo)) (bj rfl) (mul_zero (jc (by omega))))) (ani (by have:=so.2.1;have:=jc (n:=rows'.length+2) (by omega);omega))
  rw [st3,xm]
  subst HT
  refine a75 (bj rfl) awt (arg1 (agl Pu.clo (jc (by omega)) s6 rfl rfl)) (aj8 (jc ?_))
  simp only [List.length_eraseIdx,List.length_map,List.length_range]
  split<;>omega
 ·rw [List.length_append,so.2.1,lr];rfl
 ·simp only [List.length_append,List.length_eraseIdx,List.length_map,List.length_range]
  split<;>omega
 ·simp only [List.length_append,List.length_eraseIdx,List.length_map,List.length_range]
  split<;>omega
 ·intro q hq
  rcases List.mem_append.mp hq with h | h
  ·have:=ff q (List.mem_of_mem_eraseIdx h)
   omega
  ·obtain ⟨j,hj,rfl⟩:=List.mem_map.mp h
   rw [List.mem_range] at hj
   exact ⟨by simp only [];omega,hj⟩
 ·intro r hr
  rcases List.mem_append.mp hr with h | h
  ·exact so.2.2 r h
  ·rw [List.mem_singleton] at h
   subst h
   exact ⟨by simp,fun x hx=>by rw [List.eq_of_mem_replicate hx];omega⟩
theorem agn {o:O} {N s n:Nat} {p:Nat × Nat} {free:List (Nat × Nat)} {r0:List Int} {rows:List (List Int)} {t3 t6 t7:Option D} (P:Hand o N) (hN:N≤999999000) (n1:1≤n) (n32:n≤32) (pa:p.1≤rows.length) (pb:p.2<s) (q0:a2g s n r0) (q1:∀ r∈rows,a2g s n r) :
  ∃ (u:O) (r0':List Int) (rows':List (List Int)),xu ao [some (.ref 0),some (.int (s:Nat)),some (.int (n:Nat)),t3,some (.ref 1),some (.ref 3),t6,t7,some (.int (p.1:Nat)),some (.int (p.2:Nat))] (HP o free r0 rows) = .nx [some (.ref 0),some (.int (s:Nat)),some (.int (n:Nat)),t3,some (.ref 1),some (.ref 3),t6,t7,some (.int (p.1:Nat)),some (.int (p.2:Nat))] (HP u free r0' rows')
   ∧ Hand u (N+1)∧rows'.length=rows.length∧a2g s n r0'∧∀ r∈rows',a2g s n r:=by
 obtain ⟨x,o1,e1,x0,x1,P1⟩:=uh (m:=(n:Nat)) P (by omega) (by omega) (by omega)
 have so:=agk (b:=p.2) pa x0 x1 q0 q1
 have pa':=akh (u:=o1) (free:=free) (v:=x) pa pb q0.1 fun r hr=>(q1 r hr).1
 refine ⟨o1,_,_,?_,P1,so.2.1,so.1,so.2.2⟩
 have c1:j8 false 2 ao [.ref 0, .int (n:Nat)] (HP o free r0 rows) = .ok (.int x) (HP o1 free r0 rows):=e1 0 _ rfl
 unfold xu aam
 generalize HT:([some (.ref 0),some (.int (s:Nat)),some (.int (n:Nat)),t3,some (.ref 1),some (.ref 3),t6,t7,some (.int (p.1:Nat)),some (.int (p.2:Nat))]:Sd)=τ
 have a1:(sA (j8 false 2 ao) (ak (sV 0) (ak (sV 2) bz))) τ (HP o free r0 rows) = .ok (.int x) (HP o1 free r0 rows):=by
  subst HT
  unfold sA
  rw [asb (bj rfl) (bj rfl),d7,c1]
 rw [a1,yw]
 subst HT
 rw [jl (bj rfl) (bj rfl) (aki pa),yw,bj rfl,yw,pa']
end HND
namespace HND
open PySem PySem.Spec L2 MI AT
theorem anj {o:O} {N s n:Nat} (P:Hand o N) (hN:N≤999990000) (s1:1≤s) (s6:s≤6) (n1:1≤n) (n32:n≤32) :
  ∃ (rows:List (List Int)) (o':O),rows.length=n∧(∀ r∈rows,a2g s n r)∧Dr qe 3 [.int (s:Nat), .int (n:Nat)] o (.rol (rows.map fun r=>.rol (r.map D.int))) o'∧Hand o' (N+1000):=by
 obtain ⟨m,o1,e1,m0,m1,P1⟩:=uh (m:=2) P (by omega) (by omega) (by omega)
 have z:a2g s n (List.replicate s 0):=⟨by simp,fun x hx=>by rw [List.eq_of_mem_replicate hx];omega⟩
 have lo:=a0g (g:=kN 6) (b:=xr ao) (fun i:Nat=>D.int ((1+i:Nat)))
  (fun pre τ h=>∃ (u:O) (free:List (Nat × Nat)) (r0:List Int) (rows:List (List Int)) (t6 t7 t8 t9:Option D),τ=[some (.ref 0),some (.int (s:Nat)),some (.int (n:Nat)),some (.int m),some (.ref 1),some (.ref 3),t6,t7,t8,t9]∧h=HP u free r0 rows∧Hand u (N+1+2*pre.length)∧rows.length=pre.length∧s≤free.length∧free.length≤s+s*pre.length∧(∀ p∈free,p.1≤pre.length∧p.2<s)∧a2g s n r0∧∀ r∈rows,a2g s n r)
  (List.range (n - 1)) [some (.ref 0),some (.int (s:Nat)),some (.int (n:Nat)),some (.int m),some (.ref 1),some (.ref 3),none,none,none,none] (HP o1 ((List.range s).map fun j=>(0,j)) (List.replicate s 0) []) ?_
  ⟨o1,_,_,[],none,none,none,none,rfl,rfl,P1,rfl,by simp,by simp,fun p hp=>by
   obtain ⟨j,hj,rfl⟩:=List.mem_map.mp hp
   rw [List.mem_range] at hj
   exact ⟨Nat.le_refl _,hj⟩,z,by simp⟩
 ·obtain ⟨τ',h',e2,u,free,r0,rows,t6,t7,t8,t9,rfl,rfl,P2,l1,l2,l3,ff,q0,q1⟩:=lo
  rw [List.length_range] at P2 l1 l3 ff
  have f31:s*(n - 1)≤6*31:=Nat.mul_le_mul s6 (by omega)
  have lo2:=acj (g:=a8f 2 (qp (kN 8) (qp (kN 9) a92))) (b:=xu ao) (ck:=fun h=>h[1]? = some (.lst (free.map a2f))) a2f
   (fun pre τ h=>∃ (u:O) (r0:List Int) (rows:List (List Int)) (t8 t9:Option D),τ=[some (.ref 0),some (.int (s:Nat)),some (.int (n:Nat)),some (.int m),some (.ref 1),some (.ref 3),t6,t7,t8,t9]∧h=HP u free r0 rows∧Hand u (N+1+2*(n - 1)+pre.length)∧rows.length=n - 1∧a2g s n r0∧∀ r∈rows,a2g s n r)
   (fun pre τ h ⟨u,r0,rows,_,_,_,e,_⟩=>by rw [e];rfl) free [] [some (.ref 0),some (.int (s:Nat)),some (.int (n:Nat)),some (.int m),some (.ref 1),some (.ref 3),t6,t7,t8,t9] (HP u free r0 rows) ?_ ⟨u,r0,rows,t8,t9,rfl,rfl,P2,l1,q0,q1⟩
  ·obtain ⟨τ',h',e3,u',r0',rows',t8',t9',rfl,rfl,P3,l1',q0',q1'⟩:=lo2
   rw [List.nil_append] at P3
   refine ⟨r0'::rows',u',by rw [List.length_cons];omega,fun r hr=>by
    rcases List.mem_cons.mp hr with rfl | h
    ·exact q0'
    ·exact q1' r h,?_,P3.up (by omega)⟩
   refine Dr.of rfl (by intro x hx;simp only [List.mem_cons,List.not_mem_nil,or_false] at hx;rcases hx with rfl | rfl<;>exact cj _) P.clo (r:=.ok (.ref 3) (HP u' free r0' rows')) ?_ (a7x aj6 (by intro x hx;rw [show List.take 1 (HP u' free r0' rows')=[u'] from rfl,List.mem_singleton] at hx;subst hx;exact a0f (by omega) P3.clo)) (uy (jf fun x _=>uy (jf fun y _=>cj y))) P3.clo
   unfold qe
   rw [gf]
   show toR (a1x ao [some (.ref 0),some (.int (s:Nat)),some (.int (n:Nat)),none,none,none,none,none,none,none] [o])=_
   unfold a1x
   have c1:j8 false 2 ao [.ref 0, .int 2] [o] = .ok (.int m) [o1]:=e1 0 _ rfl
   rw [p8 (a07 (bj rfl) (gm _ _ _) c1)]
   simp only [List.set_cons_zero,List.set_cons_succ]
   have z6:=jc (n:=s) (by omega)
   have c2:∀ τ:Sd,τ[1]? = some (some (.int (s:Nat)))→wz (sRg a2s (ak (sV 1) bz)) t1 (a0h ao) [] τ [o1] = .ok (.ref 1) ([o1]++[.lst ((List.range s).map fun j=>a2f (0,j))]):=fun τ ht=>by
    refine vg (fun i:Nat=>D.int (i:Nat)) (fun j:Nat=>a2f (0,j)) (List.range s) (a88 (bj ht) z6) (by rw [List.length_range];exact z6) fun x _=>?_
    rw [a0p,aax]
    unfold a0h
    simp only [sA,ak,bz,sV,sC,List.getElem?_cons_zero,d7,MI.qx,List.length_cons,List.length_nil,Nat.reduceAdd,if_pos (show (2:Nat)≤LINE by decide)]
    rfl
   rw [p8 (c2 _ rfl)]
   simp only [List.set_cons_zero,List.set_cons_succ,List.cons_append,List.nil_append]
   have cl:∀ x∈[o1,O.lst ((List.range s).map fun j=>a2f (0,j))],a3s 2 x:=by
    intro x hx
    simp only [List.mem_cons,List.not_mem_nil,or_false] at hx
    rcases hx with rfl | rfl
    ·exact a0f (by omega) P1.clo
    ·exact jf fun x _=>qt (d8 (cj _) (d8 (cj _) je))
   have c3:∀ τ:Sd,τ[1]? = some (some (.int (s:Nat)))→sA a2i (ak (s2 a2e (sZ (sA a2i (ak (sC (.int 0)) bz))) (sV 1)) bz) τ [o1,O.lst ((List.range s).map fun j=>a2f (0,j))] = .ok (.ref 3) (HP o1 ((List.range s).map fun j=>(0,j)) (List.replicate s 0) []):=fun τ ht=>by
    refine o8 (jl (a4f (xs:=[.int 0]) rfl (d8 (cj _) je) cl) (bj ht) (mul_zero z6)) ?_
    unfold MI.a2i HP
    simp only [List.map_map,List.length_nil,List.map_nil]
    rfl
   rw [p8 (c3 _ rfl)]
   simp only [List.set_cons_zero,List.set_cons_succ]
   have i2:∀ (τ:Sd) (h:Hd),τ[2]? = some (some (.int (n:Nat)))→sRg a6m (ak (sC (.int 1)) (ak (sV 2) bz)) τ h = .ok ⟨(List.range (n - 1)).map fun i:Nat=>D.int ((1+i:Nat)),fun _=>True⟩ h:=fun τ h ht=>agd (a:=1) (gm _ _ _) (bj ht) (jc (by omega)) (jc (by omega))
   rw [a9p (i2 _ _ rfl),e2,xm]
   have i3:∀ τ:Sd,τ[4]? = some (some (.ref 1))→sIt (sV 4) τ (HP u free r0 rows) = .ok ⟨free.map a2f,fun h=>h[1]? = some (.lst (free.map a2f))⟩ (HP u free r0 rows):=fun τ ht=>by
    unfold sIt
    rw [bj ht,d7]
    rfl
   rw [a9p (i3 _ rfl),e3,xm]
   rfl
  ·rintro pre p post τ h all ⟨u,r0,rows,t8,t9,rfl,rfl,P3,l1',q0',q1'⟩
   rw [List.nil_append] at all
   have hp:p∈free:=by rw [all];simp
   have hl:pre.length<free.length:=by rw [all];simp
   obtain ⟨fa,fb⟩:=ff p hp
   obtain ⟨u',r0',rows',e4,P4,l4,q4,q5⟩:=agn (t3:=some (.int m)) (t6:=t6) (t7:=t7) (free:=free) P3 (by omega) n1 n32 (by omega:p.1≤rows.length) fb q0' q1'
   exact ⟨_,_,rfl,_,_,e4,u',r0',rows',_,_,rfl,rfl,by simpa [Nat.add_assoc] using P4,by omega,q4,q5⟩
 ·rintro pre i post τ h all ⟨u,free,r0,rows,t6,t7,t8,t9,rfl,rfl,P2,l1,l2,l3,ff,q0,q1⟩
  obtain ⟨hi,hk⟩:=a9s all
  have f31:s*pre.length≤6*31:=Nat.mul_le_mul s6 (by omega)
  obtain ⟨u',free',r0',rows',z7,z8,z9,e3,P3,l4,l5,l6,f',q3,q4⟩:=agm (m:=m) (t6:=t6) (t7:=t7) (t8:=t8) (t9:=t9) (i:=i) P2 (by omega) s1 s6 n32 (by omega) (by omega:rows.length=i) l2 (by omega) (fun p hp=>by have:=ff p hp;omega) q0 q1
  refine ⟨_,_,rfl,_,_,e3,u',free',r0',rows',_,z7,z8,z9,rfl,rfl,P3.up (by rw [List.length_append,List.length_singleton];omega),by rw [List.length_append,List.length_singleton];omega,l5,?_,fun p hp=>by rw [List.length_append,List.length_singleton];have:=f' p hp;omega,q3,q4⟩
  rw [List.length_append,List.length_singleton,Nat.mul_add]
  omega
end HND
namespace HND
open PySem PySem.Spec L2 MI AT
noncomputable def m9:SF:=my (a0j ao) 6
abbrev KOk (k:Int):Prop := -1≤k∧k≤5
theorem adm {o:O} {N:Nat} {n m room:Int} {ks:List Int} {t5:Option D} (P:Hand o N) (hN:N≤999999000) (l:ks.length≤100) :
  ∃ (u:O) (k:Int),wj ao [some (.ref 0),some (.int n),some (.int m),some (.ref 1),some (.int room),t5] [o, .lst (ks.map D.int)] = .nx [some (.ref 0),some (.int n),some (.int m),some (.ref 1),some (.int room),some (.int k)] [u, .lst ((ks++[k]).map D.int)]∧Hand u (N+2)∧KOk k:=by
 obtain ⟨x,o1,e1,x0,x1,P1⟩:=uh (m:=7) P (by omega) (by omega) (by omega)
 obtain ⟨y,o2,e2,y0,y1,P2⟩:=uh (m:=3) P1 (by omega) (by omega) (by omega)
 have c1:j8 false 2 ao [.ref 0, .int 7] [o, .lst (ks.map D.int)] = .ok (.int x) [o1, .lst (ks.map D.int)]:=e1 0 _ rfl
 have c2:j8 false 2 ao [.ref 0, .int 3] [o1, .lst (ks.map D.int)] = .ok (.int y) [o2, .lst (ks.map D.int)]:=e2 0 _ rfl
 have fin:∀ (u:O) (k:Int),a1e (sML aan (sV 3) (ak (sV 5) bz)) [some (.ref 0),some (.int n),some (.int m),some (.ref 1),some (.int room),some (.int k)] [u, .lst (ks.map D.int)] = .nx [some (.ref 0),some (.int n),some (.int m),some (.ref 1),some (.int room),some (.int k)] [u, .lst ((ks++[k]).map D.int)]:=fun u k=>by
  rw [List.map_append]
  exact a75 (bj rfl) rfl (arg1 (bj rfl)) (ach (xs:=ks.map D.int) rfl (by rw [List.length_map];exact a9q (by omega)))
 unfold wj
 by_cases h1:m=1
 ·subst h1
  refine ⟨o1,(x - 1) / 5,?_,P1.up (by omega),by omega⟩
  refine Eq.trans (p8 (jl (a07 (bj rfl) (gm _ _ _) c1) (gm _ _ _) (a08 _ _))) ?_
  refine Eq.trans (a4l (Eq.trans (ifT (tof (jl (bj rfl) (gm _ _ _) (aay rfl)))) (avn (jl (bj rfl) (gm _ _ _) (div_ii (by decide)))))) ?_
  refine Eq.trans (ifN (an0 (tof (jl (bj rfl) (gm _ _ _) (aaz (by decide)))))) ?_
  exact fin _ _
 ·by_cases h2:m=2
  ·subst h2
   by_cases hy:0<y
   ·refine ⟨o2, -1,?_,P2,by decide⟩
    refine Eq.trans (p8 (jl (a07 (bj rfl) (gm _ _ _) c1) (gm _ _ _) (a08 _ _))) ?_
    refine Eq.trans (ifN (tof (jl (bj rfl) (gm _ _ _) (aaz h1)))) ?_
    refine Eq.trans (a4l (Eq.trans (ifT (ao9 (tof (jl (bj rfl) (gm _ _ _) (aay rfl))) (tof (jl (a07 (bj rfl) (gm _ _ _) c2) (gm _ _ _) (awq hy))))) (avn (age (gm _ _ _) (a6r _))))) ?_
    exact fin _ _
   ·refine ⟨o2,x - 1,?_,P2,by omega⟩
    refine Eq.trans (p8 (jl (a07 (bj rfl) (gm _ _ _) c1) (gm _ _ _) (a08 _ _))) ?_
    refine Eq.trans (ifN (tof (jl (bj rfl) (gm _ _ _) (aaz h1)))) ?_
    refine Eq.trans (ifN (ao9 (tof (jl (bj rfl) (gm _ _ _) (aay rfl))) (tof (jl (a07 (bj rfl) (gm _ _ _) c2) (gm _ _ _) (awr hy))))) ?_
    exact fin _ _
  ·refine ⟨o1,x - 1,?_,P1.up (by omega),by omega⟩
   refine Eq.trans (p8 (jl (a07 (bj rfl) (gm _ _ _) c1) (gm _ _ _) (a08 _ _))) ?_
   refine Eq.trans (ifN (tof (jl (bj rfl) (gm _ _ _) (aaz h1)))) ?_
   refine Eq.trans (ifN (an0 (tof (jl (bj rfl) (gm _ _ _) (aaz h2))))) ?_
   exact fin _ _
theorem kinds_ok {o:O} {N n:Nat} (P:Hand o N) (hN:N≤999990000) (n1:1≤n) (n32:n≤32) :
  ∃ (ks:List Int) (o':O),ks.length=n∧ks[0]? = some (-1)∧(∀ k∈ks,KOk k)∧Dr m9 2 [.int (n:Nat)] o (.rol (ks.map D.int)) o'∧Hand o' (N+1000):=by
 obtain ⟨m,o1,e1,m0,m1,P1⟩:=uh (m:=3) P (by omega) (by omega) (by omega)
 have lo:=a0g (g:=kN 4) (b:=wj ao) (fun i:Nat=>D.int ((1+i:Nat)))
  (fun pre τ h=>∃ (u:O) (ks:List Int) (t4 t5:Option D),τ=[some (.ref 0),some (.int (n:Nat)),some (.int m),some (.ref 1),t4,t5]∧h=[u, .lst (ks.map D.int)]∧Hand u (N+1+2*pre.length)∧ks.length=1+pre.length∧ks[0]? = some (-1)∧∀ k∈ks,KOk k)
  (List.range (n - 1)) [some (.ref 0),some (.int (n:Nat)),some (.int m),some (.ref 1),none,none] [o1, .lst ([-1].map D.int)] ?_
  ⟨o1,[-1],none,none,rfl,rfl,P1,rfl,rfl,by intro k hk;rw [List.mem_singleton] at hk;subst hk;decide⟩
 ·obtain ⟨τ',h',e2,u,ks,t4,t5,rfl,rfl,P2,l1,k0,kk⟩:=lo
  rw [List.length_range] at P2 l1
  refine ⟨ks,u,by omega,k0,kk,?_,P2.up (by omega)⟩
  refine Dr.of rfl (by intro x hx;simp only [List.mem_cons,List.not_mem_nil,or_false] at hx;rw [hx];exact cj _) P.clo (r:=.ok (.ref 1) [u, .lst (ks.map D.int)]) ?_ (a3m (Nat.le_refl _) rfl (jf fun x _=>cj x) (by intro x hx;rw [show List.take 1 [u,O.lst (ks.map D.int)]=[u] from rfl,List.mem_singleton] at hx;subst hx;exact a0f (by omega) P2.clo)) (uy (jf fun y _=>cj y)) P2.clo
  unfold m9
  rw [gf]
  show toR (a0j ao [some (.ref 0),some (.int (n:Nat)),none,none,none,none] [o])=_
  unfold a0j
  have c1:j8 false 2 ao [.ref 0, .int 3] [o] = .ok (.int m) [o1]:=e1 0 _ rfl
  rw [p8 (a07 (bj rfl) (gm _ _ _) c1),p8 (d:=.ref 1) (h1:=[o1, .lst ([-1].map D.int)]) rfl]
  simp only [List.set_cons_zero,List.set_cons_succ]
  have i2:∀ (τ:Sd) (h:Hd),τ[1]? = some (some (.int (n:Nat)))→sRg a6m (ak (sC (.int 1)) (ak (sV 1) bz)) τ h = .ok ⟨(List.range (n - 1)).map fun i:Nat=>D.int ((1+i:Nat)),fun _=>True⟩ h:=fun τ h ht=>agd (a:=1) (gm _ _ _) (bj ht) (jc (by omega)) (jc (by omega))
  rw [a9p (i2 _ _ rfl),e2,xm]
  rfl
 ·rintro pre i post τ h all ⟨u,ks,t4,t5,rfl,rfl,P2,l1,k0,kk⟩
  obtain ⟨hi,hk⟩:=a9s all
  obtain ⟨u',k,e3,P3,hk3⟩:=adm (n:=n) (m:=m) (room:=((1+i:Nat):Int)) (t5:=t5) P2 (by omega) (by omega:ks.length≤100)
  refine ⟨_,_,rfl,_,_,e3,u',ks++[k],_,_,rfl,rfl,P3.up (by rw [List.length_append,List.length_singleton];omega),by rw [List.length_append,List.length_append,List.length_singleton,List.length_singleton];omega,?_,fun q hq=>?_⟩
  ·rw [List.getElem?_append_left (by omega)];exact k0
  ·rcases List.mem_append.mp hq with h | h
   ·exact kk q h
   ·rw [List.mem_singleton] at h;subst h;exact hk3
end HND
namespace HND
open PySem PySem.Spec L2 MI AT
abbrev dm (i:Nat):D:=.int (i:Nat)
noncomputable def jm:SF:=my (wk ao) 9
theorem xg {k:Nat} (l:List Nat):clos k (l.map dm):=jf fun x _=>cj _
theorem ago {o:O} {N n:Nat} {d1 d2:D} {t5 t6 t7 t8:Option D} (P:Hand o N) (hN:N≤999990000) (n1:1≤n) (n32:n≤32) :
  ∃ (pl:List Nat) (u:O),sWh (vp ao) (u5 ao) 100000 [some (.ref 0),some d1,some d2,some (.ref 1),some (.ref 2),t5,t6,t7,t8] [o, .lst (((List.range (n - 1)).map (1+·)).map dm), .lst ([0].map dm)] = .nx [some (.ref 0),some d1,some d2,some (.ref 1),some (.ref 2),t5,t6,t7,t8] [u, .lst [], .lst (pl.map dm)]
   ∧ List.Perm pl (List.range n)∧pl[0]? = some 0∧Hand u (N+32):=by
 have w:=amo (c:=vp ao) (f:=u5 ao)
  (fun m τ h=>∃ (u:O) (pl rest:List Nat),τ=[some (.ref 0),some d1,some d2,some (.ref 1),some (.ref 2),t5,t6,t7,t8]∧h=[u, .lst (rest.map dm), .lst (pl.map dm)]∧m=rest.length∧List.Perm (pl++rest) (List.range n)∧pl[0]? = some 0∧Hand u (N+pl.length))
  (fun τ h=>∃ (u:O) (pl:List Nat),τ=[some (.ref 0),some d1,some d2,some (.ref 1),some (.ref 2),t5,t6,t7,t8]∧h=[u, .lst [], .lst (pl.map dm)]∧List.Perm pl (List.range n)∧pl[0]? = some 0∧Hand u (N+32))
  (fun _ _=>False) ?_ (n - 1) 100000 [some (.ref 0),some d1,some d2,some (.ref 1),some (.ref 2),t5,t6,t7,t8] [o, .lst (((List.range (n - 1)).map (1+·)).map dm), .lst ([0].map dm)] (by omega)
  ⟨o,[0],(List.range (n - 1)).map (1+·),rfl,rfl,by simp,?_,rfl,P.up (by omega)⟩
 ·rcases w with ⟨τ',h',e,u,pl,rfl,rfl,a,b,c⟩ | ⟨_,_,_,z⟩
  ·exact ⟨pl,u,e,a,b,c⟩
  ·exact z.elim
 ·rintro m τ h ⟨u,pl,rest,rfl,rfl,rfl,pm,p0,Pu⟩
  have ln:(pl++rest).length=n:=by rw [pm.length_eq,List.length_range]
  rw [List.length_append] at ln
  cases rest with
  | nil =>
   refine .inl ⟨_,?_,u,pl,rfl,rfl,by simpa using pm,p0,Pu.up (by omega)⟩
   exact tof (jl (o8 (bj rfl) (a4m rfl)) (gm _ _ _) (awr (by simp)))
  | cons r0 rs =>
   refine .inr ⟨_,tof (jl (o8 (bj rfl) (a4m rfl)) (gm _ _ _) (awq (by simp))), .inl ?_⟩
   generalize hr:r0::rs=rest at *
   have rl:0<rest.length:=by rw [← hr];simp
   obtain ⟨x,u',e1,x0,x1,P1⟩:=uh (m:=(rest.length:Nat)) Pu (by omega) (by omega) (by omega)
   obtain ⟨j,rfl⟩:=Int.eq_ofNat_of_zero_le x0
   have hj:j<rest.length:=by omega
   have gx:rest[j]? = some rest[j]:=List.getElem?_eq_getElem hj
   have pp:=a9r pl rest j rest[j] gx
   rw [← List.eraseIdx_eq_take_drop_succ] at pp
   have c1:j8 false 2 ao [.ref 0, .int ((rest.map dm).length:Nat)] [u, .lst (rest.map dm), .lst (pl.map dm)] = .ok (.int (j:Nat)) [u', .lst (rest.map dm), .lst (pl.map dm)]:=by
    rw [List.length_map]
    exact e1 0 _ rfl
   refine ⟨_,[u', .lst ((rest.eraseIdx j).map dm), .lst ((pl++[rest[j]]).map dm)],(rest.eraseIdx j).length,?_,?_,u',pl++[rest[j]],rest.eraseIdx j,rfl,rfl,rfl,pp.symm.trans pm,?_,?_⟩
   ·unfold u5
    refine a75 (v:=.non) (bj rfl) rfl (arg1 (ase (bj rfl) rfl (arg1 (a07 (bj rfl) (o8 (bj rfl) (a4m rfl)) c1)) (ana (xs:=rest.map dm) rfl (y:=dm rest[j]) (by rw [List.getElem?_map,gx];rfl) (by rw [List.length_map];exact jc (by omega))))) ?_
    rw [← a6h,List.map_append]
    exact ach (xs:=pl.map dm) rfl (by rw [List.length_map];exact a9q (by omega))
   ·rw [List.length_eraseIdx,if_pos hj];omega
   ·have:0<pl.length:=by
     cases pl with
     | nil=>simp at p0
     | cons a b=>simp
    rw [List.getElem?_append_left this];exact p0
   ·rw [List.length_append,List.length_singleton];exact P1
 ·obtain ⟨k,rfl⟩:∃ k,n=k+1:=⟨n - 1,by omega⟩
  rw [List.range_succ_eq_map,show k+1 - 1=k by omega]
  refine List.Perm.of_eq ?_
  show 0::_=_
  congr 1
  exact List.map_congr_left fun i _=>by simp [Nat.succ_eq_add_one,Nat.add_comm]
end HND
namespace PAP
open PySem PySem.Spec L2 MI AT HND
def Pln:D→Prop
 | .non=>True | .bl _=>True | .int _=>True | .str x=>x.cps.toList.length≤1000 | .tup xs=>clos 0 xs | .rol xs=>clos 0 xs | .rod _ xs=>clos 0 xs | _=>False
theorem Pln.clo {d:D} (p:Pln d):clo 0 d:=by
 cases d<;>first | (simp only [Pln] at p;done) | (simp only [Pln] at p;simpa [MI.clo] using p) | simp [MI.clo]
def isTup:D→Bool | .tup _=>true | _=>false
theorem ab1 {d:D} {h:Hd} (p:Pln d):nq [d, .ty "tuple"] h = .ok (.bl (isTup d)) h:=by
 cases d<;>first | (simp only [Pln] at p;done) | simp [nq,ak5,tyD,ah8,isTup]
theorem avq {b:Bool} {h:Hd}:nq [.bl b, .ty "bool"] h = .ok (.bl true) h:=by simp [nq,ak5,tyD,ah8]
theorem aye (l:List Nat) (h:Hd):ao1 (.str (S l)) h = .ok ⟨l.map fun c=>.str (S [c]),fun _=>True⟩ h:=by
 show R.ok (⟨vh (S l),fun _=>True⟩:Itm) _=_
 unfold vh
 rw [a1n]
theorem a5e {f k:SE} {τ:Sd} {h h1:Hd} (e:f τ h = .ok (.bl false) h1):yu f k τ h = .ok (.bl false) h1:=by unfold yu;rw [e,d7]
theorem agp (bs:List Bool) (h:Hd):adq [.rol (bs.map D.bl)] h = .ok (.bl (bs.all id)) h:=by
 unfold adq
 simp only [ai4]
theorem asm (ws:List D):((List.range ws.length).zip ws).map (fun p=>D.tup [.int (p.1:Nat),p.2])=(List.range ws.length).map fun r=>.tup [dm r,(ws[r]?).getD .non]:=by
 refine List.ext_getElem? fun i=>?_
 by_cases hi:i<ws.length
 ·rw [List.getElem?_map,List.getElem?_map,List.getElem?_range hi,List.getElem?_zip_eq_some (z:=(i,ws[i])).mpr ⟨by rw [List.getElem?_range hi],by rw [List.getElem?_eq_getElem hi]⟩]
  simp [List.getElem?_eq_getElem hi]
 ·rw [List.getElem?_eq_none (by simp;omega),List.getElem?_eq_none (by simp;omega)]
theorem a1p:∀ c∈sig,c<127:=by decide +kernel
theorem ab2 {f:SE} {τ:Sd} {h h1:Hd} {i:Int} (e:f τ h = .ok (.int i) h1):oS f τ h = .ok (some i) h1:=by unfold oS;rw [e];rfl
theorem ab3 {f:SE} {lo hi:SO} {τ:Sd} {h h1 h2 h3 h4:Hd} {d v:D} {a b:Option Int} (e:f τ h = .ok d h1) (e1:lo τ h1 = .ok a h2) (e2:hi τ h2 = .ok b h3) (e3:ad9 d a b h3 = .ok v h4):a1w f lo hi τ h = .ok v h4:=by
 unfold a1w
 rw [e,d7,e1,d7,e2,d7,e3]
theorem awv (xs:List D) (lo hi:Option Int) (h:Hd):ad9 (.tup xs) lo hi h = .ok (.tup (a6k xs lo hi)) h:=by
 unfold ad9
 dsimp only
 split
 ·rename_i w
  obtain ⟨a,b⟩:=w
  congr 2
  unfold a6k
  rw [a,b,List.drop_zero,List.take_of_length_le (by omega)]
 ·rfl
theorem asn (xs:List D) (k:Nat) (h:Hd):ad9 (.tup xs) none (some (k:Int)) h = .ok (.tup (xs.take k)) h:=by rw [awv,aaj]
theorem a9t (xs:List D) (k:Nat) (h:Hd):ad9 (.tup xs) (some (k:Int)) none h = .ok (.tup (xs.drop k)) h:=by rw [awv,a91]
theorem a6i {xs ys:List D} {h:Hd} (z:xs.length+ys.length≤1000000):jq (.tup xs) (.tup ys) h = .ok (.tup (xs++ys)) h:=by
 cases xs with
 | nil=>rfl
 | cons x xs =>
  show (if (x::xs).length+ys.length≤LINE then R.ok (D.tup (x::xs++ys)) h else .no)=_
  rw [if_pos (jc z)]
theorem aj9 {h:Hd}:MI.qx [] h = .ok (.tup []) h:=by unfold MI.qx;rw [if_pos (jc (by simp))]
theorem aof {G:List D→Hd→R D} {k:SA} {τ:Sd} {h h1 h2:Hd} {ds:List D} {v:D} (e:k τ h = .ok ds h1) (e2:G ds h1 = .ok v h2):sA G k τ h = .ok v h2:=by
 unfold sA
 rw [e,d7,e2]
theorem p30 (h:Hd):abq (.int 10) (.int 30) h = .ok (.int 1000000000000000000000000000000) h:=(as5 ⟨by decide,by decide,by decide⟩).trans (by rw [show (10:Int) ^ (30:Int).toNat=1000000000000000000000000000000 from by decide +kernel])
theorem a4w {f:SE} {τ:Sd} {h h':Hd} {xs:List D} (hl:h'.length=h.length) (e:f τ h = .ok (.ref h'.length) (h'++[.lst xs])) (cx:clos h.length xs) (c:∀ o∈h',a3s h.length o):sZ f τ h = .ok (.rol xs) h':=by
 unfold sZ
 rw [e,a3m (by omega) (by simp) cx (by rw [← hl];simpa [hl] using c)]
 rw [← hl]
 simp
end PAP
namespace EVX
open PySem PySem.Spec L2 MI
section
variable {i:Nat} {cs:Str→Bool} {fb fs p g:SS} {τ τ1 τ2:Sd} {h h1 h2:Hd} {c:Str} {f:SE} {ka:SA} {ds:List D} {F:SF} {n:Nat}
theorem avr (e:p τ h = .ex c h1):iu p g τ h = .ex c h1:=by unfold iu;rw [e]
theorem ank (e:ka τ h = .ok ds h1) (l:ds.length≤100):acb c ka τ h = .ex c h1:=by
 unfold acb
 rw [e]
 show (if ds.length≤LINE then Fl.ex c h1 else .no)=_
 rw [if_pos (jc (by omega))]
theorem anl (hn:ds.length=n) (cd:∀ x∈ds,MI.clo 0 x) (e:F ds [] = .ex c h1):a5c n F ds h = .ex c h:=by
 unfold a5c
 rw [if_pos cd,e]
 exact if_pos hn
theorem anm {d d':D} (cd:∀ x∈ds,MI.clo 0 x) (e:F ds [] = .ok d h1) (p:Pu F n ds d'):a5c n F ds h = .ok d' h:=by
 unfold a5c
 rw [if_pos cd,e]
 exact p h
theorem aso (e:fb τ h = .ex c h1) (hc:cs c=true) (e2:fs (τ.set i (some (.exc c))) h1 = .nx τ2 h2):aqt i cs fb fs τ h = .nx (τ2.set i none) h2:=by
 unfold aqt
 rw [e]
 show (if cs c=true then _ else _)=_
 rw [if_pos hc,e2]
theorem asp (e:f τ h = .ex c h1):a1e f τ h = .ex c h1:=by unfold a1e;rw [e];rfl
theorem qof {α:Type} {k:Sd→Hd→R α} {x:α} (e:k τ h = .ok x h1):qA k τ h = .ok x h1:=by unfold qA;rw [e];rfl
theorem atz (e:ka τ h = .ok ds h1):sA F ka τ h=F ds h1:=by unfold sA;rw [e];rfl
theorem ano {x:Str→Option Bool} {b:Bool} (e:τ[i]? = some (some (.exc c))) (e2:x c=some b):aj1 i x τ h = .ok (.bl b) h:=by unfold aj1;rw [e];dsimp only;rw [e2]
theorem acl {b:Bool} (e:f τ h = .ok (.bl b) h1):aal f τ h = .ok (.bl (!b)) h1:=by unfold aal;rw [e];rfl
theorem j9 {d:D} (e:f τ h = .ok d h1) (e2:ka τ h1 = .ok ds h2):ak f ka τ h = .ok (d::ds) h2:=by
 unfold ak
 rw [e,d7,e2]
 rfl
theorem akl {a:D}:MI.qx [a] h = .ok (.tup [a]) h:=by unfold MI.qx;rw [if_pos (jc (by simp))]
theorem aj9:MI.qx [] h = .ok (.tup []) h:=by unfold MI.qx;rw [if_pos (jc (by simp))]
theorem asq:sZ ai7 τ [] = .ok (.rod [] []) []:=by
 unfold sZ
 show aaq 0 (.ok (.ref 0) [.dK []])=_
 refine a7x (h1:=[.dK []]) ?_ (by simp)
 unfold FU a5a
 rw [if_neg (by simp only [MI.clo];omega)]
 rfl
theorem asr {G:List D→Hd→R D} {f1 f2 f3 f4:SE} {h3 h4 h5:Hd} {a b c d v:D} (e1:f1 τ h = .ok a h1) (e2:f2 τ h1 = .ok b h2) (e3:f3 τ h2 = .ok c h3) (e4:f4 τ h3 = .ok d h4) (e5:G [a,b,c,d] h4 = .ok v h5):sA G (ak f1 (ak f2 (ak f3 (ak f4 bz)))) τ h = .ok v h5:=by
 have:ak f1 (ak f2 (ak f3 (ak f4 bz))) τ h = .ok [a,b,c,d] h4:=by unfold ak;rw [e1,d7,e2,d7,e3,d7,e4];rfl
 unfold sA
 rw [this,d7,e5]
end
end EVX
namespace HND
open PySem PySem.Spec L2 MI AT
theorem anp {α:Type} {xs:List α} {pre post:List (Nat × α)} {x:Nat × α} (h:(List.range xs.length).zip xs=pre++x::post):x.1=pre.length∧xs[pre.length]? = some x.2:=by
 have h1:=congrArg (fun l=>l[pre.length]?) h
 have h2:=congrArg List.length h
 simp at h1 h2
 have hl:pre.length<xs.length:=by omega
 rw [List.getElem?_eq_getElem (by simpa using hl)] at h1
 simp at h1
 rw [List.getElem?_eq_getElem hl,← h1]
 exact ⟨rfl,rfl⟩
theorem all_map {α:Type} (f:α→D) (P:α→Prop):∀ (l:List D),(∀ x∈l,∃ r,P r∧x=f r)→∃ G:List α,l=G.map f∧∀ r∈G,P r
 | [],_=>⟨[],rfl,by simp⟩
 | x::l,h=>by
  obtain ⟨r,pr,rfl⟩:=h _ List.mem_cons_self
  obtain ⟨G,rfl,pG⟩:=all_map f P l fun y hy=>h y (List.mem_cons_of_mem _ hy)
  exact ⟨r::G,rfl,fun q hq=>by
   rcases List.mem_cons.mp hq with rfl | h
   ·exact pr
   ·exact pG q h⟩
abbrev ye (r:List Nat):D:=.tup (r.map dm)
abbrev a6s (r:List Int):D:=.rol (r.map D.int)
abbrev ass (s n:Nat) (r:List Nat):Prop:=r.length=s∧∀ x∈r,x<n
theorem agq {u:O} {N s n i q:Nat} {d1:D} {pl:List Nat} {ks ts:List Int} {rs:List D} {r:List Int} {k:Int} (Pu:Hand u N) (n32:n≤32) (s6:s≤6) (pm:List.Perm pl (List.range n)) (hq:pl[i]? = some q) (hk:ks[i]? = some k) (hr:a2g s n r) (lr:rs.length=n) (lt:ts.length=n) (cr:∀ x∈rs,clo 0 x) :
  ∃ r':List Nat,ass s n r'∧u9 ao [some (.ref 0),some d1,some (.rol (ks.map D.int)),some (.ref 1),some (.ref 2),some (.ref 3),some (.ref 4),some (dm i),some (a6s r)] [u, .lst [], .lst (pl.map dm), .lst rs, .lst (ts.map D.int)] = .nx [some (.ref 0),some d1,some (.rol (ks.map D.int)),some (.ref 1),some (.ref 2),some (.ref 3),some (.ref 4),some (dm i),some (a6s r)] [u, .lst [], .lst (pl.map dm), .lst (rs.set q (ye r')), .lst ((ts.set q k).map D.int)]:=by
 have pln:pl.length=n:=by rw [pm.length_eq,List.length_range]
 have at':∀ x:Int,x∈r→∃ (j:Nat),x=j∧∃ y:Nat,y<n∧pl[j]? = some y:=fun x hx=>by
  obtain ⟨a,b⟩:=hr.2 x hx
  obtain ⟨j,rfl⟩:=Int.eq_ofNat_of_zero_le a
  have hj:j<pl.length:=by omega
  exact ⟨j,rfl,pl[j],by have:=pm.mem_iff.mp (List.getElem_mem hj);simpa using this,List.getElem?_eq_getElem hj⟩
 have qn:q<n:=by
  have:=List.mem_of_getElem? hq
  simpa using pm.mem_iff.mp this
 refine ⟨r.map fun x=>(pl[x.toNat]?).getD 0,⟨by simp [hr.1],fun y hy=>?_⟩,?_⟩
 ·obtain ⟨x,hx,rfl⟩:=List.mem_map.mp hy
  obtain ⟨j,rfl,y,yn,e⟩:=at' x hx
  simpa [e] using yn
 ·have cl:∀ o∈[u,O.lst [], .lst (pl.map dm), .lst rs, .lst (ts.map D.int)],a3s 5 o:=by
   intro o ho
   simp only [List.mem_cons,List.not_mem_nil,or_false] at ho
   rcases ho with rfl | rfl | rfl | rfl | rfl
   ·exact a0f (by omega) Pu.clo
   ·exact (je:clos 5 [])
   ·exact xg _
   ·exact nj.mpr fun x hx=>abz (by omega) (cr x hx)
   ·exact jf fun x _=>cj x
  have cz:sZ (wz (sIt (sV 8)) t1 (a05 ao) [4]) [some (.ref 0),some d1,some (.rol (ks.map D.int)),some (.ref 1),some (.ref 2),some (.ref 3),some (.ref 4),some (dm i),some (a6s r)] [u, .lst [], .lst (pl.map dm), .lst rs, .lst (ts.map D.int)] = .ok (.rol (r.map fun x=>dm ((pl[x.toNat]?).getD 0))) [u, .lst [], .lst (pl.map dm), .lst rs, .lst (ts.map D.int)]:=by
   refine a4f (vg D.int (fun x=>dm ((pl[x.toNat]?).getD 0)) r (agf (bj rfl) rfl) (jc ?_) fun x hx=>?_) (jf fun x _=>cj _) cl
   ·have:=hr.1
    omega
   ·obtain ⟨j,rfl,y,yn,e⟩:=at' x hx
    rw [a0p]
    refine (jl (bj rfl) (bj rfl) (aci (xs:=pl.map dm) rfl (y:=dm y) (by rw [List.getElem?_map,e];rfl))).trans ?_
    simp [e]
  unfold u9
  have ip:∀ (h:Hd),h[2]? = some (.lst (pl.map dm))→gIx (.ref 2) (dm i) h = .ok (dm q) h:=fun h hh=>aci hh (by rw [List.getElem?_map,hq];rfl)
  refine Eq.trans (a4l (ash (o8 cz rfl) (bj rfl) (jl (bj rfl) (bj rfl) (ip _ rfl)) (asj (xs:=rs) rfl (by omega)))) ?_
  rw [List.map_set]
  refine Eq.trans (ash (jl (bj rfl) (bj rfl) (awp (by rw [List.getElem?_map,hk];rfl))) (bj rfl) (jl (bj rfl) (bj rfl) (ip _ rfl)) (asj (xs:=ts.map D.int) rfl (by rw [List.length_map];omega))) ?_
  simp only [List.set_cons_succ,List.set_cons_zero,ye,List.map_map]
  rfl
theorem ab4 {o:O} {N s n:Nat} {rows:List (List Int)} {ks:List Int} (P:Hand o N) (hN:N≤999990000) (n1:1≤n) (n32:n≤32) (s6:s≤6) (lr:rows.length=n) (qr:∀ r∈rows,a2g s n r) (lk:ks.length=n) (k0:ks[0]? = some (-1)) (kk:∀ k∈ks,KOk k) :
  ∃ (G:List (List Nat)) (ts:List Int) (o':O),G.length=n∧(∀ r∈G,ass s n r)∧ts.length=n∧ts[0]? = some (-1)∧(∀ k∈ts,KOk k)∧Dr jm 3 [.rol (rows.map a6s), .rol (ks.map D.int)] o (.tup [.tup (G.map ye), .tup (ts.map D.int)]) o'∧Hand o' (N+32):=by
 obtain ⟨pl,u,e1,pm,p0,Pu⟩:=ago (d1:=.rol (rows.map a6s)) (d2:=.rol (ks.map D.int)) (t5:=none) (t6:=none) (t7:=none) (t8:=none) P hN n1 n32
 have pln:pl.length=n:=by rw [pm.length_eq,List.length_range]
 have pnd:pl.Nodup:=pm.nodup_iff.mpr List.nodup_range
 have lo:=a0g (g:=a8f 2 (qp (kN 7) (qp (kN 8) a92))) (b:=u9 ao) (fun p:Nat × D=>D.tup [.int (p.1:Nat),p.2])
  (fun pre τ h=>∃ (rs:List D) (ts:List Int) (t7 t8:Option D),τ=[some (.ref 0),some (.rol (rows.map a6s)),some (.rol (ks.map D.int)),some (.ref 1),some (.ref 2),some (.ref 3),some (.ref 4),t7,t8]∧h=[u, .lst [], .lst (pl.map dm), .lst rs, .lst (ts.map D.int)]∧rs.length=n∧ts.length=n∧(∀ x∈rs,clo 0 x)∧(∀ j q,j<pre.length→pl[j]? = some q→∃ r',ass s n r'∧rs[q]? = some (ye r'))∧(∀ k∈ts,KOk k)∧(0<pre.length→ts[0]? = some (-1)))
  ((List.range (rows.map a6s).length).zip (rows.map a6s)) [some (.ref 0),some (.rol (rows.map a6s)),some (.rol (ks.map D.int)),some (.ref 1),some (.ref 2),some (.ref 3),some (.ref 4),none,none] [u, .lst [], .lst (pl.map dm), .lst (rows.map fun _=>.tup []), .lst ((rows.map fun _=>(-1:Int)).map D.int)] ?_
  ⟨_,_,none,none,rfl,rfl,by simpa using lr,by simpa using lr,fun x hx=>by
   obtain ⟨_,_,rfl⟩:=List.mem_map.mp hx
   exact qt je,fun j q hj=>by simp at hj,fun k hk=>by
   obtain ⟨_,_,rfl⟩:=List.mem_map.mp hk
   decide,fun z=>by simp at z⟩
 ·obtain ⟨τ',h',e2,rs,ts,t7,t8,rfl,rfl,l1,l2,c1,full,tk,t0⟩:=lo
  have zl:((List.range (rows.map a6s).length).zip (rows.map a6s)).length=n:=by simp [lr]
  rw [zl] at full t0
  obtain ⟨G,rfl,hG⟩:=all_map ye (ass s n) rs fun x hx=>by
   obtain ⟨q,hq,rfl⟩:=List.mem_iff_getElem.mp hx
   have:q∈pl:=pm.mem_iff.mpr (by simp;omega)
   obtain ⟨j,hj,ej⟩:=List.mem_iff_getElem.mp this
   obtain ⟨r',a,b⟩:=full j q (by omega) (by rw [List.getElem?_eq_getElem hj,ej])
   rw [List.getElem?_eq_getElem hq] at b
   exact ⟨r',a,Option.some.inj b⟩
  refine ⟨G,ts,u,by simpa using l1,hG,l2,t0 (by omega),tk,?_,Pu⟩
  have cd:clo 0 (.tup [.tup (G.map ye), .tup (ts.map D.int)]):=qt (d8 (qt (nj.mpr c1)) (d8 (qt (jf fun x _=>cj x)) je))
  refine Dr.of rfl (by
   intro x hx;simp only [List.mem_cons,List.not_mem_nil,or_false] at hx
   rcases hx with rfl | rfl
   ·exact uy (jf fun x _=>uy (jf fun y _=>cj y))
   ·exact uy (jf fun y _=>cj y)) P.clo (r:=.ok (.tup [.tup (G.map ye), .tup (ts.map D.int)]) [u, .lst [], .lst (pl.map dm), .lst (G.map ye), .lst (ts.map D.int)]) ?_ (v8 (abz (by omega) cd) (by intro x hx;rw [show List.take 1 [u,O.lst [], .lst (pl.map dm), .lst (G.map ye), .lst (ts.map D.int)]=[u] from rfl,List.mem_singleton] at hx;subst hx;exact a0f (by omega) Pu.clo)) cd Pu.clo
  unfold jm
  rw [gf]
  show toR (wk ao [some (.ref 0),some (.rol (rows.map a6s)),some (.rol (ks.map D.int)),none,none,none,none,none,none] [o])=_
  unfold wk
  have r1:a9f [.int 1, .int ((rows.map a6s).length:Nat)] [o] = .ok (.ref 1) [o, .lst (((List.range (n - 1)).map (1+·)).map dm)]:=by
   rw [List.length_map,lr]
   unfold a9f
   dsimp only
   rw [if_pos ⟨⟨as8 (by omega) (by omega),as8 (by omega) (by omega)⟩,jc (by omega)⟩,show ((n:Int) - 1).toNat=n - 1 by omega]
   simp only [rng,List.map_map]
   rfl
  refine Eq.trans (congrArg toR (p8 (a07 (gm _ _ _) (o8 (bj rfl) a6f) r1))) ?_
  refine Eq.trans (congrArg toR (p8 (d:=.ref 2) (h1:=[o, .lst (((List.range (n - 1)).map (1+·)).map dm), .lst ([0].map dm)]) rfl)) ?_
  refine Eq.trans (congrArg toR (a4l e1)) ?_
  have zr:(rows.length:Nat)≤LINE:=jc (by omega)
  refine Eq.trans (congrArg toR (p8 (vg a6s (fun _=>.tup []) rows (agf (bj rfl) rfl) zr fun x _=>rfl))) ?_
  refine Eq.trans (congrArg toR (p8 (vg a6s (fun _=>.int (-1)) rows (agf (bj rfl) rfl) zr fun x _=>rfl))) ?_
  have en:∀ (τ:Sd) (h:Hd),τ[1]? = some (some (.rol (rows.map a6s)))→a7v (sV 1) τ h = .ok ⟨((List.range (rows.map a6s).length).zip (rows.map a6s)).map fun p=>.tup [.int (p.1:Nat),p.2],fun _=>True⟩ h:=fun τ h ht=>by
   unfold a7v
   rw [bj ht,d7]
   rfl
  refine Eq.trans (congrArg toR (a9p (en _ _ rfl))) ?_
  rw [show ((rows.map fun _=>(-1:Int)).map D.int)=rows.map fun _=>.int (-1) from by rw [List.map_map];rfl] at e2
  refine Eq.trans (congrArg (fun z=>toR (thn z _)) e2) ?_
  rw [xm]
  refine Eq.trans (congrArg toR (jh (a07 (o8 (bj rfl) (agg rfl)) (o8 (bj rfl) (agg rfl)) ayc))) ?_
  rfl
 ·rintro pre x post τ h all ⟨rs,ts,t7,t8,rfl,rfl,l1,l2,c1,full,tk,t0⟩
  obtain ⟨hi,hx⟩:=anp all
  obtain ⟨i,d⟩:=x
  simp only at hi hx
  subst hi
  rw [List.getElem?_map] at hx
  obtain ⟨r,hr,rfl⟩:=Option.map_eq_some_iff.mp hx
  have hlt:pre.length<n:=by have:=(List.getElem?_eq_some_iff.mp hr).1;omega
  have hq:pl[pre.length]? = some pl[pre.length]:=List.getElem?_eq_getElem (by omega)
  have hk:ks[pre.length]? = some ks[pre.length]:=List.getElem?_eq_getElem (by omega)
  generalize pl[pre.length]=q at hq
  generalize ks[pre.length]=k at hk
  have qn:q<n:=by simpa using pm.mem_iff.mp (List.mem_of_getElem? hq)
  obtain ⟨r',hr',e3⟩:=agq (d1:=.rol (rows.map a6s)) Pu n32 s6 pm hq hk (qr r (List.mem_of_getElem? hr)) l1 l2 c1
  have kq:=kk k (List.mem_of_getElem? hk)
  refine ⟨_,_,rfl,_,_,e3,_,_,_,_,rfl,rfl,by simpa using l1,by simpa using l2,fun y hy=>?_,fun j q' hj hq'=>?_,fun y hy=>?_,fun _=>?_⟩
  ·rcases List.mem_or_eq_of_mem_set hy with h | rfl
   ·exact c1 y h
   ·exact qt (xg _)
  ·by_cases eq:q'=q
   ·subst eq
    exact ⟨r',hr',by rw [List.getElem?_set_self (by omega)]⟩
   ·rw [List.length_append,List.length_singleton] at hj
    by_cases ej:j=pre.length
    ·subst ej
     rw [hq] at hq'
     exact (eq (Option.some.inj hq').symm).elim
    ·rw [List.getElem?_set_ne (Ne.symm eq)]
     exact full j q' (by omega) hq'
  ·rcases List.mem_or_eq_of_mem_set hy with h | rfl
   ·exact tk y h
   ·exact kq
  ·by_cases z:pre.length=0
   ·rw [z] at hq hk
    rw [p0] at hq
    rw [k0] at hk
    cases hq
    cases hk
    rw [List.getElem?_set_self (by omega)]
   ·have:q≠0:=fun e=>by
     subst e
     have h1:=List.getElem?_eq_some_iff.mp hq
     have h0:=List.getElem?_eq_some_iff.mp p0
     obtain ⟨a1,b1⟩:=h1
     obtain ⟨a0,b0⟩:=h0
     exact z ((List.getElem_inj pnd).mp (b1.trans b0.symm))
    rw [List.getElem?_set_ne this]
    exact t0 (by omega)
noncomputable def oh:SF:=my (vq qe m9 jm ao ju) 5
structure Table where
 tg:List Nat
 go:List (List Nat)
 ks:List Int
def Table.d (T:Table):D:=.tup [.str (S T.tg), .tup (T.go.map ye), .tup (T.ks.map D.int)]
structure Table.Ok (T:Table):Prop where
 tong:Tongue T.tg
 n1:1≤T.go.length
 n32:T.go.length≤32
 row:∀ r∈T.go,ass T.tg.length T.go.length r
 kl:T.ks.length=T.go.length
 k0:T.ks[0]? = some (-1)
 kk:∀ k∈T.ks,KOk k
theorem Table.clo {T:Table}:clo 0 T.d:=qt (d8 (zq _) (d8 (qt (jf fun x _=>qt (xg _))) (d8 (qt (jf fun x _=>cj x)) je)))
theorem a8a {o:O} {N:Nat} (P:Hand o N) (hN:N≤999900000):∃ (T:Table) (o':O),T.Ok∧Dr oh 1 [] o T.d o'∧Hand o' (N+3000):=by
 obtain ⟨l,o1,T1,e1,P1⟩:=agj P (by omega)
 obtain ⟨x,o2,e2,x0,x1,P2⟩:=uh (m:=6) P1 (by omega) (by omega) (by omega)
 obtain ⟨y,o3,e3,y0,y1,P3⟩:=uh (m:=4) P2 (by omega) (by omega) (by omega)
 obtain ⟨z,o4,e4,z0,z1,P4⟩:=uh (m:=32) P3 (by omega) (by omega) (by omega)
 obtain ⟨n,u,n1,n32,Pu,eu⟩:∃ (n:Nat) (u:O),1≤n∧n≤32∧Hand u (N+10)∧∀ g:SS,iu (qi 2 (s2 jq (sC (.int 1)) (sA (j8 false 2 ao) (ak (sV 0) (ak (sC (.int 6)) bz)))))
   (iu (sIf (sT (s2 hEq (sA (j8 false 2 ao) (ak (sV 0) (ak (sC (.int 4)) bz))) (sC (.int 0))))
    (qi 2 (s2 jq (sC (.int 1)) (sA (j8 false 2 ao) (ak (sV 0) (ak (sC (.int 32)) bz)))))
    sNx) g) [some (.ref 0),some (.str (S l)),none,none,none] [o1]=g [some (.ref 0),some (.str (S l)),some (.int (n:Nat)),none,none] [u]:=by
  have c2:j8 false 2 ao [.ref 0, .int 6] [o1] = .ok (.int x) [o2]:=e2 0 _ rfl
  have c3:j8 false 2 ao [.ref 0, .int 4] [o2] = .ok (.int y) [o3]:=e3 0 _ rfl
  have c4:j8 false 2 ao [.ref 0, .int 32] [o3] = .ok (.int z) [o4]:=e4 0 _ rfl
  by_cases hy:y=0
  ·refine ⟨(1+z).toNat,o4,by omega,by omega,P4,fun g=>?_⟩
   rw [show (((1+z).toNat:Nat):Int)=1+z by omega]
   refine Eq.trans (p8 (jl (gm _ _ _) (a07 (bj rfl) (gm _ _ _) c2) a2k)) ?_
   exact a4l (Eq.trans (ifT (tof (jl (a07 (bj rfl) (gm _ _ _) c3) (gm _ _ _) (aay hy)))) (avn (jl (gm _ _ _) (a07 (bj rfl) (gm _ _ _) c4) a2k)))
  ·refine ⟨(1+x).toNat,o3,by omega,by omega,P3.up (by omega),fun g=>?_⟩
   rw [show (((1+x).toNat:Nat):Int)=1+x by omega]
   refine Eq.trans (p8 (jl (gm _ _ _) (a07 (bj rfl) (gm _ _ _) c2) a2k)) ?_
   exact ifN (tof (jl (a07 (bj rfl) (gm _ _ _) c3) (gm _ _ _) (aaz hy)))
 obtain ⟨rows,o5,l5,q5,e5,P5⟩:=anj Pu (by omega) T1.lo T1.hi n1 n32
 obtain ⟨ks,o6,l6,k0,kk,e6,P6⟩:=kinds_ok P5 (by omega) n1 n32
 obtain ⟨G,ts,o7,l7,q7,lt,t0,tk,e7,P7⟩:=ab4 P6 (by omega) n1 n32 T1.hi l5 q5 l6 k0 kk
 refine ⟨⟨l,G,ts⟩,o7,⟨T1,(by omega:1≤G.length),(by omega:G.length≤32),by rw [l7];exact q7,(by omega:ts.length=G.length),t0,tk⟩,?_,P7.up (by omega)⟩
 refine Dr.of rfl (by simp) P.clo (r:=.ok (Table.d ⟨l,G,ts⟩) [o7]) ?_ (v8 (abz (by omega) Table.clo) (by simpa using a0f (by omega) P7.clo)) Table.clo P7.clo
 unfold oh
 rw [gf]
 show toR (vq qe m9 jm ao ju [some (.ref 0),none,none,none,none] [o])=_
 unfold vq
 have c1:j8 false 1 ju [.ref 0] [o] = .ok (.str (S l)) [o1]:=e1 0 _ rfl
 refine Eq.trans (congrArg toR (p8 (o8 (bj rfl) c1))) ?_
 refine Eq.trans (congrArg toR (eu _)) ?_
 have c5:j8 false 3 qe [.ref 0, .int (l.length:Nat), .int (n:Nat)] [u] = .ok (.rol (rows.map a6s)) [o5]:=e5 0 _ rfl
 have c6:j8 false 2 m9 [.ref 0, .int (n:Nat)] [o5] = .ok (.rol (ks.map D.int)) [o6]:=e6 0 _ rfl
 have c7:j8 false 3 jm [.ref 0, .rol (rows.map a6s), .rol (ks.map D.int)] [o6] = .ok (.tup [.tup (G.map ye), .tup (ts.map D.int)]) [o7]:=e7 0 _ rfl
 refine Eq.trans (congrArg toR (a4l (aj3 (a74 (bj rfl) (a74 (bj rfl) (o8 (bj rfl) (a9m (jc (by have:=T1.hi;omega)))) (bj rfl) c5) (a07 (bj rfl) (bj rfl) c6) c7) rfl))) ?_
 refine Eq.trans (congrArg toR (jh (a74 (bj rfl) (bj rfl) (bj rfl) aws))) ?_
 rfl
end HND
namespace K20
open PySem PySem.Spec L2 MI AT HND EVX
open PAP hiding aj9 a4w aof
def Deep:Nat→D→Prop
 | 0,d=>Pln d
 | n+1,d=>Pln d∧∀ ws,d = .tup ws→ws.length≤1000∧∀ x∈ws,Deep n x
theorem Deep.pln {n:Nat} {d:D} (h:Deep n d):Pln d:=by cases n with | zero=>exact h | succ n=>exact h.1
theorem Deep.down {n:Nat}:∀ {d:D},Deep (n+1) d→Deep n d:=by
 induction n with
 | zero=>exact fun h=>h.1
 | succ n ih=>exact fun h=>⟨h.1,fun ws e=>⟨(h.2 ws e).1,fun x hx=>ih ((h.2 ws e).2 x hx)⟩⟩
def isInt:D→Bool | .int _=>true | _=>false
def agr:D→Bool | .bl _=>true | _=>false
def isStr:D→Bool | .str _=>true | _=>false
section
variable {d:D} {h:Hd}
theorem asu (p:Pln d):nq [d, .ty "int"] h = .ok (.bl (isInt d || agr d)) h:=by
 cases d<;>first | (simp only [Pln] at p;done) | simp [nq,ak5,tyD,ah8,isInt,agr]
theorem asv (p:Pln d):nq [d, .ty "bool"] h = .ok (.bl (agr d)) h:=by
 cases d<;>first | (simp only [Pln] at p;done) | simp [nq,ak5,tyD,ah8,agr]
theorem ags (p:Pln d):nq [d, .ty "str"] h = .ok (.bl (isStr d)) h:=by
 cases d<;>first | (simp only [Pln] at p;done) | simp [nq,ak5,tyD,ah8,isStr]
end
theorem adn {f g k:SE} {τ:Sd} {h:Hd} {a x b:Int} (e1:f τ h = .ok (.int a) h) (e2:g τ h = .ok (.int x) h) (e3:k τ h = .ok (.int b) h):sCh gLe gLe f g k τ h = .ok (.bl (decide (a≤x∧x≤b))) h:=by
 unfold sCh
 rw [e1,d7,e2,d7,show gLe (.int a) (.int x) h = .ok (.bl (decide (a≤x))) h from rfl,d7]
 by_cases c:a≤x
 ·simp only [c,decide_true,true_and]
  rw [e3,d7]
  rfl
 ·simp only [c,decide_false,false_and]
def a8b (lo hi:Int):D→Bool | .int i=>decide (lo≤i∧i≤hi) | _=>false
theorem aja {lo hi:Int} {d:D} (h:a8b lo hi d=true):∃ i,d = .int i∧lo≤i∧i≤hi:=by
 cases d<;>first | (simp [a8b] at h;done) | skip
 rename_i i
 simp [a8b] at h
 exact ⟨i,rfl,h.1,h.2⟩
theorem asw {lo hi:Int} {d:D} (h:isInt d=false):a8b lo hi d=false:=by cases d<;>first | rfl | simp [isInt] at h
theorem ar1 {a:D} (ha:MI.clo 0 a):∀ x∈[a],MI.clo 0 x:=by intro x hx;rw [List.mem_singleton] at hx;subst hx;exact ha
theorem ar2 {a b:D} (ha:MI.clo 0 a) (hb:MI.clo 0 b):∀ x∈[a,b],MI.clo 0 x:=by
 intro x hx
 simp only [List.mem_cons,List.not_mem_nil,or_false] at hx
 rcases hx with rfl | rfl
 ·exact ha
 ·exact hb
theorem ar3 {a b c:D} (ha:MI.clo 0 a) (hb:MI.clo 0 b) (hc:MI.clo 0 c):∀ x∈[a,b,c],MI.clo 0 x:=by
 intro x hx
 rcases List.mem_cons.mp hx with rfl | hx
 ·exact ha
 ·exact ar2 hb hc x hx
theorem ar4 {a b c e:D} (ha:MI.clo 0 a) (hb:MI.clo 0 b) (hc:MI.clo 0 c) (he:MI.clo 0 e):∀ x∈[a,b,c,e],MI.clo 0 x:=by
 intro x hx
 rcases List.mem_cons.mp hx with rfl | hx
 ·exact ha
 ·exact ar3 hb hc he x hx
theorem a0q {F:SF} {n:Nat} {ds:List D} {b:Bool} {h':Hd} (hn:ds.length=n) (ca:∀ x∈ds,MI.clo 0 x) (e:F ds [] = .ok (.bl b) h'):Pu F n ds (.bl b):=Pu.of hn ca e (v8 (a9g _) (by simp)) (a9g _)
noncomputable def v4:SF:=my a0l 1
theorem ajb {d:D} (p:Pln d):Pu v4 1 [d] (.bl (isInt d)):=by
 refine a0q rfl (ar1 p.clo) (h':=[]) ?_
 unfold v4
 rw [gf]
 show toR (a0l [some d] [])=_
 unfold a0l
 have a1:sA nq (ak (sV 0) (ak (sC (.ty "int")) bz)) [some d] [] = .ok (.bl (isInt d || agr d)) []:=a07 (bj rfl) (gm _ _ _) (asu p)
 have a2:sA nq (ak (sV 0) (ak (sC (.ty "bool")) bz)) [some d] [] = .ok (.bl (agr d)) []:=a07 (bj rfl) (gm _ _ _) (asv p)
 cases hi:isInt d with
 | true =>
  rw [hi,Bool.true_or] at a1
  have:agr d=false:=by cases d<;>first | rfl | simp [isInt] at hi
  rw [this] at a2
  exact congrArg toR (jh (a1o a1 (EVX.acl a2)))
 | false =>
  rw [hi,Bool.false_or] at a1
  cases hb:agr d with
  | true=>rw [hb] at a1 a2;exact congrArg toR (jh (a1o a1 (EVX.acl a2)))
  | false=>rw [hb] at a1;exact congrArg toR (jh (a5e a1))
noncomputable def dg:SF:=my (ut v4) 3
theorem a76 {d:D} (p:Pln d) (lo hi:Int):Pu dg 3 [d, .int lo, .int hi] (.bl (a8b lo hi d)):=by
 refine a0q rfl (ar3 p.clo (cj _) (cj _)) (h':=[]) ?_
 unfold dg
 rw [gf]
 show toR (ut v4 [some d,some (.int lo),some (.int hi)] [])=_
 unfold ut
 have c:=ajb p []
 cases hi':isInt d with
 | true =>
  obtain ⟨i,rfl⟩:∃ i,d = .int i:=by cases d<;>first | exact ⟨_,rfl⟩ | simp [isInt] at hi'
  exact congrArg toR (jh (a1o (o8 (bj rfl) c) (adn (bj rfl) (bj rfl) (bj rfl))))
 | false =>
  rw [hi'] at c
  rw [asw hi']
  exact congrArg toR (jh (a5e (o8 (bj rfl) c)))
noncomputable def dz:SF:=my zf 3
theorem a9u {d:D} (p:Pln d) (lo hi:Int):Pu dz 3 [d, .int lo, .int hi] (.bl (a8b lo hi d)):=by
 refine a0q rfl (ar3 p.clo (cj _) (cj _)) (h':=[]) ?_
 unfold dz
 rw [gf]
 show toR (zf [some d,some (.int lo),some (.int hi)] [])=_
 unfold zf
 have a1:sA nq (ak (sV 0) (ak (sC (.ty "int")) bz)) [some d,some (.int lo),some (.int hi)] [] = .ok (.bl (isInt d || agr d)) []:=a07 (bj rfl) (gm _ _ _) (asu p)
 have a2:sA nq (ak (sV 0) (ak (sC (.ty "bool")) bz)) [some d,some (.int lo),some (.int hi)] [] = .ok (.bl (agr d)) []:=a07 (bj rfl) (gm _ _ _) (asv p)
 cases hi':isInt d with
 | true =>
  obtain ⟨i,rfl⟩:∃ i,d = .int i:=by cases d<;>first | exact ⟨_,rfl⟩ | simp [isInt] at hi'
  exact congrArg toR (jh (a1o a1 (a1o (EVX.acl (b:=false) a2) (adn (bj rfl) (bj rfl) (bj rfl)))))
 | false =>
  rw [hi',Bool.false_or] at a1
  rw [asw hi']
  cases hb:agr d with
  | true=>rw [hb] at a1 a2;exact congrArg toR (jh (a1o a1 (a5e (EVX.acl (b:=true) a2))))
  | false=>rw [hb] at a1;exact congrArg toR (jh (a5e a1))
def a6t (lo hi:Int):D→Bool | .tup xs=>decide (lo≤(xs.length:Int)∧(xs.length:Int)≤hi) | _=>false
theorem len_T (xs:List D) (h:Hd):p7 [.tup xs] h = .ok (.int (xs.length:Nat)) h:=aau
noncomputable def iw:SF:=my a5n 3
theorem a5p {d:D} (p:Pln d) (lo hi:Int):Pu iw 3 [d, .int lo, .int hi] (.bl (a6t lo hi d)):=by
 refine a0q rfl (ar3 p.clo (cj _) (cj _)) (h':=[]) ?_
 unfold iw
 rw [gf]
 show toR (a5n [some d,some (.int lo),some (.int hi)] [])=_
 unfold a5n
 have a1:sA nq (ak (sV 0) (ak (sC (.ty "tuple")) bz)) [some d,some (.int lo),some (.int hi)] [] = .ok (.bl (isTup d)) []:=a07 (bj rfl) (gm _ _ _) (ab1 p)
 cases ht:isTup d with
 | true =>
  obtain ⟨xs,rfl⟩:∃ xs,d = .tup xs:=by cases d<;>first | exact ⟨_,rfl⟩ | simp [isTup] at ht
  exact congrArg toR (jh (a1o a1 (adn (bj rfl) (o8 (bj rfl) (len_T xs _)) (bj rfl))))
 | false =>
  rw [ht] at a1
  have:a6t lo hi d=false:=by cases d<;>first | rfl | simp [isTup] at ht
  rw [this]
  exact congrArg toR (jh (a5e a1))
theorem a9v {fi:SI} {ce:SE} {ix:List Nat} {τ:Sd} {xs:List D} {P:D→Bool} (e:fi τ [] = .ok ⟨xs,fun _=>True⟩ []) (ln:xs.length≤1000000) (st:∀ x∈xs,a94 t1 ce (frs' ix τ) x [] = .ok (.bl (P x)) []) :
  sA adq (ak (sZ (wz fi t1 ce ix)) bz) τ [] = .ok (.bl (xs.all P)) []:=by
 have e':fi τ [] = .ok ⟨xs.map (fun x=>x),fun _=>True⟩ []:=by rw [List.map_id'];exact e
 have cz:sZ (wz fi t1 ce ix) τ [] = .ok (.rol ((xs.map P).map D.bl)) []:=by
  rw [List.map_map]
  exact a4f (vg (fun x=>x) (fun x=>.bl (P x)) xs e' (jc ln) st) (jf fun c _=>a9g _) (by simp)
 refine o8 cz ?_
 rw [agp,List.all_map]
 rfl
def a3q (n:Nat) (lo hi:Int):D→Bool | .tup xs=>decide (xs.length=n) && xs.all (a8b lo hi) | _=>false
noncomputable def j5:SF:=my (zg dz) 4
theorem a9w {d:D} (p:Deep 1 d) (n:Nat) (lo hi:Int):Pu j5 4 [d,dm n, .int lo, .int hi] (.bl (a3q n lo hi d)):=by
 refine a0q rfl (ar4 p.pln.clo (cj _) (cj _) (cj _)) (h':=[]) ?_
 unfold j5
 rw [gf]
 show toR (zg dz [some d,some (dm n),some (.int lo),some (.int hi)] [])=_
 unfold zg
 have a1:sA nq (ak (sV 0) (ak (sC (.ty "tuple")) bz)) [some d,some (dm n),some (.int lo),some (.int hi)] [] = .ok (.bl (isTup d)) []:=a07 (bj rfl) (gm _ _ _) (ab1 p.pln)
 cases ht:isTup d with
 | true =>
  obtain ⟨xs,rfl⟩:∃ xs,d = .tup xs:=by cases d<;>first | exact ⟨_,rfl⟩ | simp [isTup] at ht
  obtain ⟨xl,px⟩:=p.2 xs rfl
  by_cases hn:xs.length=n
  ·refine Eq.trans (congrArg toR (ifN (orF (a2l (kj a1 (gh _))) (tof (jl (o8 (bj rfl) (len_T xs _)) (bj rfl) (aj4 (by omega))))))) ?_
   refine Eq.trans (congrArg toR (jh (a9v (P:=a8b lo hi) (agf (bj rfl) rfl) (by omega) fun x hx=>?_))) ?_
   ·rw [a0p]
    exact a74 (bj rfl) (bj rfl) (bj rfl) (a9u (px x hx).pln lo hi _)
   ·show R.ok (D.bl (xs.all (a8b lo hi))) [] = .ok (.bl (decide (xs.length=n) && xs.all (a8b lo hi))) []
    rw [decide_eq_true hn,Bool.true_and]
  ·refine Eq.trans (congrArg toR (yc (Eq.trans (ifT (orF (a2l (kj a1 (gh _))) (tof (jl (o8 (bj rfl) (len_T xs _)) (bj rfl) (anb (by omega)))))) (jh (gm _ _ _))))) ?_
   show R.ok (D.bl false) [] = .ok (.bl (decide (xs.length=n) && xs.all (a8b lo hi))) []
   rw [decide_eq_false hn,Bool.false_and]
 | false =>
  rw [ht] at a1
  have:a3q n lo hi d=false:=by cases d<;>first | rfl | simp [isTup] at ht
  rw [this]
  exact congrArg toR (yc (Eq.trans (ifT (orT (a89 (kj a1 (gh _))))) (jh (gm _ _ _))))
noncomputable def zy:SF:=my (a81 dg iw) 3
theorem anq {d:D} (p:Deep 1 d) (n r:Nat):Pu zy 3 [d,dm n,dm r] (.bl (a3q n 0 ((r:Int) - 1) d)):=by
 refine a0q rfl (ar3 p.pln.clo (cj _) (cj _)) (h':=[]) ?_
 unfold zy
 rw [gf]
 show toR (a81 dg iw [some d,some (dm n),some (dm r)] [])=_
 unfold a81
 have a1:sA (j8 false 3 iw) (ak (sV 0) (ak (sV 1) (ak (sV 1) bz))) [some d,some (dm n),some (dm r)] [] = .ok (.bl (a6t n n d)) []:=a74 (bj rfl) (bj rfl) (bj rfl) (a5p p.pln _ _ _)
 cases ht:isTup d with
 | true =>
  obtain ⟨xs,rfl⟩:∃ xs,d = .tup xs:=by cases d<;>first | exact ⟨_,rfl⟩ | simp [isTup] at ht
  obtain ⟨xl,px⟩:=p.2 xs rfl
  by_cases hn:xs.length=n
  ·rw [show a6t n n (.tup xs)=true from decide_eq_true (by omega)] at a1
   refine Eq.trans (congrArg toR (jh (a1o a1 (a9v (P:=a8b 0 ((r:Int) - 1)) (agf (bj rfl) rfl) (by omega) fun x hx=>?_)))) ?_
   ·rw [a0p]
    exact a74 (bj rfl) (gm _ _ _) (jl (bj rfl) (gm _ _ _) (a08 _ _)) (a76 (px x hx).pln 0 _ _)
   ·show R.ok (D.bl (xs.all (a8b 0 ((r:Int) - 1)))) [] = .ok (.bl (decide (xs.length=n) && xs.all (a8b 0 ((r:Int) - 1)))) []
    rw [decide_eq_true hn,Bool.true_and]
  ·rw [show a6t n n (.tup xs)=false from decide_eq_false (by omega)] at a1
   refine Eq.trans (congrArg toR (jh (a5e a1))) ?_
   show R.ok (D.bl false) [] = .ok (.bl (decide (xs.length=n) && xs.all (a8b 0 ((r:Int) - 1)))) []
   rw [decide_eq_false hn,Bool.false_and]
 | false =>
  have e1:a6t n n d=false:=by cases d<;>first | rfl | simp [isTup] at ht
  have e2:a3q n 0 ((r:Int) - 1) d=false:=by cases d<;>first | rfl | simp [isTup] at ht
  rw [e1] at a1
  rw [e2]
  exact congrArg toR (jh (a5e a1))
def hdB:D→Bool | .tup (.int i::_)=>decide (i = -1) | _=>false
noncomputable def mj:SF:=my (a0n dg iw) 2
theorem asx {xs:List D} (a:xs.all (a8b (-1) 5)=true) (n:1≤xs.length):∃ i ys,xs = .int i::ys:=by
 cases xs with
 | nil=>simp at n
 | cons x ys =>
  rw [List.all_cons,Bool.and_eq_true] at a
  obtain ⟨i,rfl,_⟩:=aja a.1
  exact ⟨i,ys,rfl⟩
theorem agt {d:D} (p:Deep 1 d) {n:Nat} (n1:1≤n):Pu mj 2 [d,dm n] (.bl (a3q n (-1) 5 d && hdB d)):=by
 refine a0q rfl (ar2 p.pln.clo (cj _)) (h':=[]) ?_
 unfold mj
 rw [gf]
 show toR (a0n dg iw [some d,some (dm n)] [])=_
 unfold a0n
 have a1:sA (j8 false 3 iw) (ak (sV 0) (ak (sV 1) (ak (sV 1) bz))) [some d,some (dm n)] [] = .ok (.bl (a6t n n d)) []:=a74 (bj rfl) (bj rfl) (bj rfl) (a5p p.pln _ _ _)
 cases ht:isTup d with
 | true =>
  obtain ⟨xs,rfl⟩:∃ xs,d = .tup xs:=by cases d<;>first | exact ⟨_,rfl⟩ | simp [isTup] at ht
  obtain ⟨xl,px⟩:=p.2 xs rfl
  by_cases hn:xs.length=n
  ·rw [show a6t n n (.tup xs)=true from decide_eq_true (by omega)] at a1
   refine Eq.trans (congrArg toR (ifN (a2l (kj a1 (gh _))))) ?_
   have al:=a9v (fi:=sIt (sV 0)) (ce:=a2j dg iw) (ix:=[]) (τ:=[some (.tup xs),some (dm n)]) (P:=a8b (-1) 5) (agf (bj rfl) rfl) (by omega) fun x hx=>by
    rw [a0p]
    exact a74 (bj rfl) (age (gm _ _ _) (a6r _)) (gm _ _ _) (a76 (px x hx).pln (-1) 5 _)
   cases ha:xs.all (a8b (-1) 5) with
   | true =>
    rw [ha] at al
    obtain ⟨i,ys,rfl⟩:=asx ha (by omega)
    refine Eq.trans (congrArg toR (jh (a1o al (jl (jl (bj rfl) (gm _ _ _) (adl (j:=0) rfl)) (age (gm _ _ _) (a6r _)) a6q)))) ?_
    simp only [a3q,hdB,ha,hn,decide_true,Bool.true_and]
    rfl
   | false =>
    rw [ha] at al
    refine Eq.trans (congrArg toR (jh (a5e al))) ?_
    simp only [a3q,ha,Bool.and_false,Bool.false_and]
    rfl
  ·rw [show a6t n n (.tup xs)=false from decide_eq_false (by omega)] at a1
   refine Eq.trans (congrArg toR (yc (Eq.trans (ifT (a89 (kj a1 (gh _)))) (jh (gm _ _ _))))) ?_
   simp only [a3q,hn,decide_false,Bool.false_and]
   rfl
 | false =>
  have e1:a6t n n d=false:=by cases d<;>first | rfl | simp [isTup] at ht
  have e2:a3q n (-1) 5 d=false:=by cases d<;>first | rfl | simp [isTup] at ht
  rw [e1] at a1
  rw [e2,Bool.false_and]
  exact congrArg toR (yc (Eq.trans (ifT (a89 (kj a1 (gh _)))) (jh (gm _ _ _))))
end K20
namespace K20
open PySem PySem.Spec L2 MI AT HND EVX
open PAP hiding aj9 a4w aof
def anr (l:List Nat):Bool:=decide (1≤l.length∧l.length≤6) && (decide l.Nodup && l.all (fun c=>decide (c∈sig)))
def acn:D→Bool | .str x=>anr x.cps.toList | _=>false
theorem akm (l:List Nat):acn (.str (S l))=anr l:=by simp only [acn,a1n]
theorem asy:∀ c:Nat,c<127→(c∈sig↔c=10∨(32≤c∧c≤126∧c≠37)):=by decide +kernel
theorem a8c (c:Nat):c∈sig↔c=10∨(32≤c∧c≤126∧c≠37):=by
 by_cases h:c<127
 ·exact asy c h
 ·constructor
  ·intro z;exact absurd (a1p c z) h
  ·intro z;omega
theorem asz (a b:Nat) (h:Hd):gLe (.str (S [a])) (.str (S [b])) h = .ok (.bl (decide (a≤b))) h:=by
 unfold gLe
 have:(S [b]).cps.toList<(S [a]).cps.toList↔b<a:=by
  rw [a1n,a1n,List.cons_lt_cons_iff]
  simp
 by_cases c:a≤b
 ·rw [decide_eq_true c]
  have n:¬ (S [b]).cps.toList<(S [a]).cps.toList:=fun z=>by have:=this.mp z;omega
  simp only [n,decide_false,Bool.not_false]
 ·rw [decide_eq_false c]
  have n:(S [b]).cps.toList<(S [a]).cps.toList:=this.mpr (by omega)
  simp only [n,decide_true,Bool.not_true]
theorem aww {a b:List Nat} {h:Hd}:hEq (.str (S a)) (.str (S b)) h = .ok (.bl (decide (a=b))) h:=by rw [amy,avj]
noncomputable def ur:SF:=my a3n 1
theorem agu (c:Nat):Pu ur 1 [.str (S [c])] (.bl (decide (c∈sig))):=by
 refine a0q rfl (ar1 (zq _)) (h':=[]) ?_
 unfold ur
 rw [gf]
 show toR (a3n [some (.str (S [c]))] [])=_
 unfold a3n
 refine Eq.trans (congrArg toR (ifN (orF (a2l (kj (a07 (bj rfl) (gm _ _ _) (ags (d:=.str (S [c])) (by simp [Pln]))) (gh _))) (tof (jl (o8 (bj rfl) (a9m (jc (by simp)))) (gm _ _ _) (aj4 rfl)))))) ?_
 by_cases h10:c=10
 ·subst h10
  exact (congrArg toR (yc (Eq.trans (ifT (tof (jl (bj rfl) (gm _ _ _) (aww (b:=[10]))))) (jh (gm _ _ _))))).trans (by rw [decide_eq_true ((a8c 10).mpr (.inl rfl))];rfl)
 ·refine Eq.trans (congrArg toR (ifN (tof (jl (bj rfl) (gm _ _ _) ((aww (b:=[10])).trans (by rw [decide_eq_false (by simpa using h10)])))))) ?_
  have od:aq2 [.str (S [c])] [] = .ok (.int (c:Nat)) []:=by
   unfold aq2
   dsimp only
   rw [if_pos (by rw [a83];rfl)]
   rfl
  have ch:sCh gLe gLe (sC (.str " ")) (sV 0) (sC (.str "~")) [some (.str (S [c]))] [] = .ok (.bl (decide (32≤c∧c≤126))) []:=by
   unfold sCh
   rw [gm,d7,bj rfl,d7,show gLe (.str " ") (.str (S [c])) [] = .ok (.bl (decide (32≤c))) [] from asz 32 c [],d7]
   by_cases z:32≤c
   ·simp only [z,decide_true,true_and]
    rw [gm,d7]
    exact asz c 126 []
   ·simp only [z,decide_false,false_and]
  by_cases z:32≤c∧c≤126
  ·rw [decide_eq_true z] at ch
   refine Eq.trans (congrArg toR (jh (a1o ch (jl (o8 (bj rfl) od) (gm _ _ _) aga)))) ?_
   rw [a3l]
   congr 2
   by_cases q:c=37
   ·subst q
    rw [decide_eq_false (fun z=>by have:=(a8c 37).mp z;omega)]
    rfl
   ·rw [decide_eq_true ((a8c c).mpr (.inr ⟨z.1,z.2,q⟩)),Bool.not_eq_true',beq_eq_false_iff_ne]
    omega
  ·rw [decide_eq_false z] at ch
   refine Eq.trans (congrArg toR (jh (a5e ch))) ?_
   rw [decide_eq_false (fun w=>by have:=(a8c c).mp w;omega)]
   rfl
noncomputable def jw:SF:=my (uc ur) 1
theorem agv {d:D} (p:Pln d):Pu jw 1 [d] (.bl (acn d)):=by
 refine a0q rfl (ar1 p.clo) (h':=[]) ?_
 unfold jw
 rw [gf]
 show toR (uc ur [some d] [])=_
 unfold uc
 have a1:sA nq (ak (sV 0) (ak (sC (.ty "str")) bz)) [some d] [] = .ok (.bl (isStr d)) []:=a07 (bj rfl) (gm _ _ _) (ags p)
 cases hs:isStr d with
 | true =>
  obtain ⟨x,rfl⟩:∃ x,d = .str x:=by cases d<;>first | exact ⟨_,rfl⟩ | simp [isStr] at hs
  have xl:x.cps.toList.length≤1000:=p
  rw [← adk x] at a1 ⊢
  generalize x.cps.toList=l at xl a1
  rw [akm]
  have ln:∀ hh,p7 [.str (S l)] hh = .ok (.int (l.length:Nat)) hh:=fun hh=>a9m (jc (by omega))
  have ch:=adn (f:=sC (.int 1)) (g:=sA p7 (ak (sV 0) bz)) (k:=sC (.int 6)) (τ:=[some (.str (S l))]) (h:=[]) (gm _ _ _) (o8 (bj rfl) (ln _)) (gm _ _ _)
  by_cases hl:1≤l.length∧l.length≤6
  ·rw [decide_eq_true (by omega)] at ch
   refine Eq.trans (congrArg toR (ifN (orF (a2l (kj a1 (gh _))) (a2l (tof ch))))) ?_
   have ls:a2v (.str (S l)) [] = .ok (.int ((a4y l).length:Nat)) []:=by
    unfold a2v
    dsimp only
    rw [if_pos (by rw [a83];omega)]
   have al:=a9v (fi:=sIt (sV 0)) (ce:=xn ur) (ix:=[]) (τ:=[some (.str (S l))]) (xs:=l.map fun c=>.str (S [c])) (P:=fun d=>match d with | .str x=>x.cps.toList.all (fun c=>decide (c∈sig)) | _=>false) (agf (bj rfl) (aye l _)) (by rw [List.length_map];omega) fun x hx=>by
    obtain ⟨c,_,rfl⟩:=List.mem_map.mp hx
    rw [a0p]
    refine (o8 (bj rfl) (agu c _)).trans ?_
    simp only [a1n,List.all_cons,List.all_nil,Bool.and_true]
   have ea:(l.map fun c=>D.str (S [c])).all (fun d=>match d with | .str x=>x.cps.toList.all (fun c=>decide (c∈sig)) | _=>false)=l.all (fun c=>decide (c∈sig)):=by
    rw [List.all_map]
    congr 1
    funext c
    simp only [Function.comp,a1n,List.all_cons,List.all_nil,Bool.and_true]
   rw [ea] at al
   have eq:hEq (.int ((a4y l).length:Nat)) (.int (l.length:Nat)) [] = .ok (.bl (decide l.Nodup)) []:=by
    rw [a6q]
    by_cases nd:l.Nodup
    ·rw [decide_eq_true nd,(a8y l).mpr nd,beq_self_eq_true]
    ·rw [decide_eq_false nd,beq_eq_false_iff_ne.mpr (fun z=>nd ((a8y l).mp (by omega)))]
   have a2:s2 hEq (s1 a2v (sV 0)) (sA p7 (ak (sV 0) bz)) [some (.str (S l))] [] = .ok (.bl (decide l.Nodup)) []:=jl (age (bj rfl) ls) (o8 (bj rfl) (ln _)) eq
   unfold anr
   rw [decide_eq_true hl,Bool.true_and]
   by_cases nd:l.Nodup
   ·rw [decide_eq_true nd] at a2 ⊢
    exact congrArg toR (jh (a1o a2 al))
   ·rw [decide_eq_false nd] at a2 ⊢
    exact congrArg toR (jh (a5e a2))
  ·rw [decide_eq_false (by omega)] at ch
   unfold anr
   rw [decide_eq_false hl,Bool.false_and]
   exact congrArg toR (yc (Eq.trans (ifT (orF (a2l (kj a1 (gh _))) (a89 (tof ch)))) (jh (gm _ _ _))))
 | false =>
  rw [hs] at a1
  have:acn d=false:=by cases d<;>first | rfl | simp [isStr] at hs
  rw [this]
  exact congrArg toR (yc (Eq.trans (ifT (orT (a89 (kj a1 (gh _))))) (jh (gm _ _ _))))
noncomputable def mq:SF:=my (a0m jw) 1
theorem ab5 {d:D} (p:Pln d):Pu mq 1 [d] (.bl (acn d)):=by
 refine a0q rfl (ar1 p.clo) (h':=[]) ?_
 unfold mq
 rw [gf]
 show toR (a0m jw [some d] [])=_
 unfold a0m
 exact congrArg toR (jh (o8 (bj rfl) (agv p _)))
noncomputable def dh:SF:=my yo 1
theorem a5o:Pu dh 0 [] (.str (S sig)):=HND.a5o
theorem awx (neg:Bool) (c:Nat) (t:List Nat) (h:Hd):gIn neg (.str (S [c])) (.str (S t)) h = .ok (.bl (if neg then !decide (c∈t) else decide (c∈t))) h:=by
 cases neg
 ·show R.ok (D.bl (decide (c∈(S t).cps.toList))) h=_
  rw [a1n];rfl
 ·show R.ok (D.bl (!decide (c∈(S t).cps.toList))) h=_
  rw [a1n];rfl
noncomputable def ie:SF:=my (vf dh) 1
def L (l:List Nat) (r:Nat):Nat:=(l[r]?).getD 0
theorem ayf {l:List Nat} {r:Nat} (h:r<l.length):l[r]? = some (L l r):=by unfold L;rw [List.getElem?_eq_getElem h];rfl
def aoa (l:List Nat) (r:Nat):Bool:=decide (L l r∈sig) && !decide (L l r∈l.take r)
theorem ant (l:List Nat):(List.range l.length).all (aoa l)=(decide l.Nodup && l.all (fun c=>decide (c∈sig))):=by
 rw [Bool.eq_iff_iff,List.all_eq_true,Bool.and_eq_true,decide_eq_true_iff,List.all_eq_true]
 constructor
 ·intro h
  have h':∀ r,(hr:r<l.length)→l[r]∈sig∧l[r] ∉ l.take r:=fun r hr=>by
   have:=h r (List.mem_range.mpr hr)
   unfold aoa L at this
   rw [List.getElem?_eq_getElem hr] at this
   simpa using this
  refine ⟨List.pairwise_iff_getElem.mpr fun i j hi hj ij z=>?_,fun c hc=>?_⟩
  ·exact (h' j hj).2 (List.mem_take_iff_getElem.mpr ⟨i,by omega,z⟩)
  ·obtain ⟨i,hi,rfl⟩:=List.getElem_of_mem hc
   exact decide_eq_true (h' i hi).1
 ·rintro ⟨nd,al⟩ r hr
  rw [List.mem_range] at hr
  unfold aoa L
  rw [List.getElem?_eq_getElem hr]
  have a:=al l[r] (List.getElem_mem hr)
  rw [decide_eq_true_iff] at a
  have b:l[r] ∉ l.take r:=fun z=>by
   obtain ⟨i,hi,e⟩:=List.mem_take_iff_getElem.mp z
   exact (List.pairwise_iff_getElem.mp nd) i r (by omega) hr (by omega) e
  simp [a,b]
theorem a9x {d:D} (p:Pln d):Pu ie 1 [d] (.bl (acn d)):=by
 refine a0q rfl (ar1 p.clo) (h':=[]) ?_
 unfold ie
 rw [gf]
 show toR (vf dh [some d] [])=_
 unfold vf
 have a1:sA nq (ak (sV 0) (ak (sC (.ty "str")) bz)) [some d] [] = .ok (.bl (isStr d)) []:=a07 (bj rfl) (gm _ _ _) (ags p)
 cases hs:isStr d with
 | true =>
  obtain ⟨x,rfl⟩:∃ x,d = .str x:=by cases d<;>first | exact ⟨_,rfl⟩ | simp [isStr] at hs
  have xl:x.cps.toList.length≤1000:=p
  rw [← adk x] at a1 ⊢
  generalize x.cps.toList=l at xl a1
  rw [akm]
  have ln:∀ hh,p7 [.str (S l)] hh = .ok (.int (l.length:Nat)) hh:=fun hh=>a9m (jc (by omega))
  have ch:=adn (f:=sC (.int 1)) (g:=sA p7 (ak (sV 0) bz)) (k:=sC (.int 6)) (τ:=[some (.str (S l))]) (h:=[]) (gm _ _ _) (o8 (bj rfl) (ln _)) (gm _ _ _)
  by_cases hl:1≤l.length∧l.length≤6
  ·rw [decide_eq_true (by omega)] at ch
   refine Eq.trans (congrArg toR (ifN (orF (a2l (kj a1 (gh _))) (a2l (tof ch))))) ?_
   have en:a7v (sV 0) [some (.str (S l))] [] = .ok ⟨(List.range l.length).map fun r=>.tup [dm r, .str (S [L l r])],fun _=>True⟩ []:=by
    unfold a7v
    rw [bj rfl,d7]
    show R.ok (⟨((List.range (vh (S l)).length).zip (vh (S l))).map fun p=>.tup [.int (p.1:Nat),p.2],fun _=>True⟩:Itm) []=_
    rw [asm,show vh (S l)=l.map fun c=>.str (S [c]) by unfold vh;rw [a1n],List.length_map]
    congr 2
    refine List.map_congr_left fun r hr=>?_
    rw [List.mem_range] at hr
    rw [List.getElem?_map,ayf hr]
    rfl
   have cz:sZ (wz (a7v (sV 0)) (tN 2) (qw dh) [0]) [some (.str (S l))] [] = .ok (.rol (((List.range l.length).map (aoa l)).map D.bl)) []:=by
    rw [List.map_map]
    refine a4f (vg (fun r=>D.tup [dm r, .str (S [L l r])]) (fun r=>.bl (aoa l r)) (List.range l.length) en (jc (by rw [List.length_range];omega)) fun r _=>?_) (jf fun c _=>a9g _) (by simp)
    show qw dh [some (dm r),some (.str (S [L l r])),some (.str (S l))] []=_
    unfold qw
    have q1:s2 (gIn false) (sV 1) (sA (j8 false 0 dh) bz) [some (dm r),some (.str (S [L l r])),some (.str (S l))] [] = .ok (.bl (decide (L l r∈sig))) []:=jl (bj rfl) (ayb (a5o _)) (awx false _ _ _)
    have q2:s2 (gIn true) (sV 1) (a1w (sV 2) oN (oS (sV 0))) [some (dm r),some (.str (S [L l r])),some (.str (S l))] [] = .ok (.bl (!decide (L l r∈l.take r))) []:=jl (bj rfl) (ab3 (bj rfl) rfl (ab2 (bj rfl)) (atw r (jc (by omega)))) (awx true _ _ _)
    unfold aoa
    by_cases m:L l r∈sig
    ·rw [decide_eq_true m] at q1 ⊢
     rw [Bool.true_and]
     exact a1o q1 q2
    ·rw [decide_eq_false m] at q1 ⊢
     rw [Bool.false_and]
     exact a5e q1
   refine Eq.trans (congrArg toR (jh (o8 cz (agp _ _)))) ?_
   rw [a3l,List.all_map]
   unfold anr
   rw [decide_eq_true hl,Bool.true_and,← ant]
   rfl
  ·rw [decide_eq_false (by omega)] at ch
   unfold anr
   rw [decide_eq_false hl,Bool.false_and]
   exact congrArg toR (yc (Eq.trans (ifT (orF (a2l (kj a1 (gh _))) (a89 (tof ch)))) (jh (gm _ _ _))))
 | false =>
  rw [hs] at a1
  have:acn d=false:=by cases d<;>first | rfl | simp [isStr] at hs
  rw [this]
  exact congrArg toR (yc (Eq.trans (ifT (orT (a89 (kj a1 (gh _))))) (jh (gm _ _ _))))
end K20
namespace BF
def walk (step:Nat→Nat→Nat) (r:Nat):List Nat→Nat
 | []=>r
 | c::p=>step (walk step r p) c
section
variable (s:Nat) (step:Nat→Nat→Nat) (K:Nat→Bool)
def fl:Nat→Nat→Bool
 | 0,r=>K r
 | k+1,r=>(List.range s).any fun c=>fl k (step r c)
variable {s step K}
end
theorem a1z:∀ (n:Nat) (l:List Nat),l.Nodup→(∀ x∈l,x<n)→l.length≤n
 | 0,l,_,h=>by
  cases l with
  | nil=>exact Nat.le_refl _
  | cons x l=>exact absurd (h x List.mem_cons_self) (by omega)
 | n+1,l,nd,h=>by
  have:=a1z n (l.erase n) (nd.erase n) fun x hx=>by
   have h1:=h x (List.mem_of_mem_erase hx)
   have h2:x≠n:=fun z=>by subst z;exact (List.Nodup.not_mem_erase nd) hx
   omega
  have:=List.length_erase (a:=n) (l:=l)
  split at this<;>omega
end BF
namespace K20
open PySem PySem.Spec L2 MI AT HND EVX
open PAP hiding aj9 a4w aof
def grow (G:List (List Nat)):Nat→List Nat→Nat→List Nat
 | 0,ms,_=>ms
 | f+1,ms,i=>match ms[i]? with | none=>ms | some x=>grow G f (((G[x]?).getD []).foldl stepK ms) (i+1)
def met (G:List (List Nat)):List Nat:=grow G (G.length+1) [0] 0
theorem aco {G:List (List Nat)} {f i:Nat} {ms:List Nat} (h:ms[i]? = none):grow G f ms i=ms:=by
 cases f with
 | zero=>rfl
 | succ f=>simp only [grow,h]
theorem agw {G:List (List Nat)} {f i x:Nat} {ms r:List Nat} (h:ms[i]? = some x) (hr:G[x]? = some r):grow G (f+1) ms i=grow G f (r.foldl stepK ms) (i+1):=by simp only [grow,h,hr,Option.getD_some]
structure Gd (G:List (List Nat)):Prop where
 n1:1≤G.length
 n32:G.length≤32
 rg:∀ r∈G,∀ x∈r,x<G.length
theorem fold_lt {n:Nat}:∀ (r ms:List Nat),(∀ x∈r,x<n)→(∀ x∈ms,x<n)→∀ x∈r.foldl stepK ms,x<n
 | [],ms,_,hm=>hm
 | a::r,ms,hr,hm=>by
  rw [List.foldl_cons]
  refine fold_lt r _ (fun x hx=>hr x (List.mem_cons_of_mem _ hx)) fun x hx=>?_
  rcases (a8w ms a x).mp hx with z | rfl
  ·exact hm x z
  ·exact hr _ List.mem_cons_self
abbrev ns (l:List Nat):List D:=l.map dm
theorem at5 (x:Nat) (l:List Nat):inD (dm x) (ns l)=decide (x∈l):=by
 unfold inD
 rw [List.any_map]
 by_cases h:x∈l
 ·rw [decide_eq_true h,List.any_eq_true]
  exact ⟨x,h,by show ((x:Int) == (x:Int))=true;simp⟩
 ·rw [decide_eq_false h,List.any_eq_false]
  intro y hy
  have:x≠y:=fun e=>h (e ▸ hy)
  show ¬ ((y:Int) == (x:Int))=true
  rw [beq_iff_eq]
  omega
theorem acp {x:Nat} {l:List Nat} {h:Hd} (e:h[0]? = some (.lst (ns l))):gIn true (dm x) (.ref 0) h = .ok (.bl (!decide (x∈l))) h:=by
 have fl:a2t (dm x)=true∧(ns l).all a2t=true:=⟨rfl,by
  rw [List.all_eq_true]
  intro y hy
  obtain ⟨n,_,rfl⟩:=List.mem_map.mp hy
  rfl⟩
 unfold gIn a0a
 simp only [e,if_pos fl,if_true,at5]
def v6 (l:List Nat):List (Key × D):=l.map fun x:Nat=>((.inl (x:Int):Key),D.bl true)
theorem ajc {x:Nat} {l:List Nat} (h:x∈l):∃ d,aa6 (v6 l) (.inl (x:Int))=some d:=by
 unfold aa6
 cases e:(v6 l).find? fun kv=>decide (kv.1=(.inl (x:Int):Key)) with
 | some kv=>exact ⟨kv.2,rfl⟩
 | none =>
  rw [List.find?_eq_none] at e
  exact absurd (decide_eq_true rfl) (e _ (List.mem_map.mpr ⟨x,h,rfl⟩))
theorem agx {x:Nat} {l:List Nat} (h:x ∉ l):aa6 (v6 l) (.inl (x:Int))=none∧putD (v6 l) (.inl (x:Int)) (.bl true)=v6 (l++[x]):=by
 have no:∀ kv∈v6 l,¬ decide (kv.1=(.inl (x:Int):Key))=true:=fun kv hk=>by
  obtain ⟨v,hv,rfl⟩:=List.mem_map.mp hk
  rw [decide_eq_true_iff]
  intro z
  have:=Sum.inl.inj z
  exact h (by rwa [show x=v by omega])
 refine ⟨?_,?_⟩
 ·unfold aa6
  rw [List.find?_eq_none.mpr no]
  rfl
 ·unfold putD
  rw [if_neg (fun z=>by obtain ⟨kv,hk,e⟩:=List.any_eq_true.mp z;exact no kv hk e)]
  unfold v6
  rw [List.map_append]
  rfl
theorem akn {x:Nat} {l:List Nat} {o:O}:atv true (dm x) (.ref 1) [o, .dK (v6 l)] = .ok (.bl (!decide (x∈l))) [o, .dK (v6 l)]:=by
 show (match (some (aa6 (v6 l) (.inl (x:Int))):Option (Option D)) with | some r=>R.ok (D.bl (if true then !r.isSome else r.isSome)) [o,O.dK (v6 l)] | none=>.no)=_
 by_cases h:x∈l
 ·obtain ⟨d,e⟩:=ajc h
  rw [e,decide_eq_true h]
  rfl
 ·rw [(agx h).1,decide_eq_false h]
  rfl
section
variable {G:List (List Nat)}
def Inv (G:List (List Nat)) (m i:Nat) (ms:List Nat):Prop:=ms.Nodup∧(∀ x∈ms,x<G.length)∧i+m=G.length+1∧grow G m ms i=met G
theorem Inv.step (g:Gd G) {m i x:Nat} {ms r:List Nat} (h:Inv G m i ms) (e:ms[i]? = some x) (er:G[x]? = some r):1≤m∧Inv G (m - 1) (i+1) (r.foldl stepK ms):=by
 obtain ⟨nd,lt,im,gr⟩:=h
 have ml:=BF.a1z G.length ms nd lt
 have il:=(List.getElem?_eq_some_iff.mp e).1
 have m1:1≤m:=by omega
 refine ⟨m1,(yf r ms nd).1,fold_lt r ms (g.rg r (List.mem_of_getElem? er)) lt,by omega,?_⟩
 rw [← gr,← agw e er]
 congr 1
 omega
noncomputable def qg:SF:=my a3p 4
theorem at6 (g:Gd G):Pu qg 1 [.tup (G.map ye)] (dm (met G).length):=by
 have w:=amo (c:=a4v) (f:=a1l)
  (fun m τ h=>∃ (ms:List Nat) (i:Nat) (t3:Option D),τ=[some (.tup (G.map ye)),some (.ref 0),some (dm i),t3]∧h=[.lst (ns ms)]∧Inv G m i ms)
  (fun τ h=>∃ (i:Nat) (t3:Option D),τ=[some (.tup (G.map ye)),some (.ref 0),some (dm i),t3]∧h=[.lst (ns (met G))])
  (fun _ _=>False) ?_ (G.length+1) 100000 [some (.tup (G.map ye)),some (.ref 0),some (dm 0),none] [.lst (ns [0])] (by have:=g.n32;omega)
  ⟨[0],0,none,rfl,rfl,by simp,by intro x hx;rw [List.mem_singleton] at hx;subst hx;exact g.n1,by omega,rfl⟩
 ·rcases w with ⟨τ',h',e,i,t3,rfl,rfl⟩ | ⟨_,_,_,z⟩
  ·refine Pu.of rfl (ar1 (qt (jf fun x _=>qt (xg _)))) (r:=.ok (dm (met G).length) [.lst (ns (met G))]) ?_ (v8 (cj _) (by simp)) (cj _)
   unfold qg
   rw [gf]
   show toR (a3p [some (.tup (G.map ye)),none,none,none] [])=_
   unfold a3p
   refine Eq.trans (congrArg toR (p8 (d:=.ref 0) (h1:=[.lst (ns [0])]) rfl)) ?_
   refine Eq.trans (congrArg toR (p8 (gm _ _ _))) ?_
   refine Eq.trans (congrArg toR (a4l e)) ?_
   refine Eq.trans (congrArg toR (jh (o8 (bj rfl) (a4m (xs:=ns (met G)) rfl)))) ?_
   rw [List.length_map]
   rfl
  ·exact z.elim
 ·rintro m τ h ⟨ms,i,t3,rfl,rfl,inv⟩
  have lm:p7 [.ref 0] [.lst (ns ms)] = .ok (dm ms.length) [.lst (ns ms)]:=by rw [a4m (xs:=ns ms) rfl,List.length_map]
  by_cases lt:i<ms.length
  ·refine .inr ⟨_,tof (jl (bj rfl) (o8 (bj rfl) lm) (avo (by omega))), .inl ?_⟩
   have ex:ms[i]? = some ms[i]:=List.getElem?_eq_getElem lt
   have xl:=inv.2.1 _ (List.getElem_mem lt)
   generalize ms[i]=x at ex xl
   have er:G[x]? = some G[x]:=List.getElem?_eq_getElem xl
   generalize G[x]=r at er
   obtain ⟨m1,inv'⟩:=inv.step g ex er
   have small:=BF.a1z G.length ms inv.1 inv.2.1
   have n32:=g.n32
   have lp:=a0g (g:=kN 3) (b:=a1k) dm
    (fun pre τ h=>∃ t3:Option D,τ=[some (.tup (G.map ye)),some (.ref 0),some (dm i),t3]∧h=[.lst (ns (pre.foldl stepK ms))])
    r [some (.tup (G.map ye)),some (.ref 0),some (dm i),t3] [.lst (ns ms)] ?_ ⟨t3,rfl,rfl⟩
   ·obtain ⟨τ',h',e,t3',rfl,rfl⟩:=lp
    refine ⟨[some (.tup (G.map ye)),some (.ref 0),some (dm (i+1)),t3'],[.lst (ns (r.foldl stepK ms))],m - 1,?_,by omega,_,i+1,t3',rfl,rfl,inv'⟩
    unfold a1l
    have i1:sIt (s2 gIx (sV 0) (s2 gIx (sV 1) (sV 2))) [some (.tup (G.map ye)),some (.ref 0),some (dm i),t3] [.lst (ns ms)] = .ok ⟨ns r,fun _=>True⟩ [.lst (ns ms)]:=agf (jl (bj rfl) (jl (bj rfl) (bj rfl) (aci (xs:=ns ms) rfl (y:=dm x) (by rw [List.getElem?_map,ex];rfl))) (adl (y:=ye r) (by rw [List.getElem?_map,er];rfl))) rfl
    refine Eq.trans (a9p i1) ?_
    refine Eq.trans (congrArg (fun z=>MI.thn z _) e) ?_
    rw [xm]
    exact asf rfl (gm _ _ _) (show a6n (dm i) (.int 1) _ = .ok (dm (i+1)) _ from rfl)
   ·rintro pre y post τ h all ⟨t3,rfl,rfl⟩
    have nd:=yf pre ms inv.1
    have fl:(pre.foldl stepK ms).length≤G.length:=BF.a1z _ _ nd.1 (fold_lt pre ms (fun z hz=>g.rg r (List.mem_of_getElem? er) z (by rw [all];simp [hz])) inv.2.1)
    refine ⟨_,_,rfl,[some (.tup (G.map ye)),some (.ref 0),some (dm i),some (dm y)],[.lst (ns ((pre++[y]).foldl stepK ms))],?_,_,rfl,rfl⟩
    rw [List.foldl_append,List.foldl_cons,List.foldl_nil]
    unfold a1k
    by_cases q:y∈pre.foldl stepK ms
    ·refine Eq.trans (ifF (tof (jl (bj rfl) (bj rfl) ((acp rfl).trans (by rw [decide_eq_true q];rfl))))) ?_
     rw [show stepK (pre.foldl stepK ms) y=pre.foldl stepK ms from if_pos q]
     rfl
    ·refine Eq.trans (ifT (tof (jl (bj rfl) (bj rfl) ((acp rfl).trans (by rw [decide_eq_false q];rfl))))) ?_
     rw [show stepK (pre.foldl stepK ms) y=pre.foldl stepK ms++[y] from if_neg q]
     unfold ns
     rw [List.map_append]
     exact a75 (bj rfl) rfl (arg1 (bj rfl)) (ach (xs:=(pre.foldl stepK ms).map dm) rfl (by rw [List.length_map];exact a9q (by omega)))
  ·refine .inl ⟨_,tof (jl (bj rfl) (o8 (bj rfl) lm) (avp (by omega))),i,t3,rfl,?_⟩
   rw [← inv.2.2.2,aco (List.getElem?_eq_none (by omega))]
noncomputable def ou:SF:=my wu 6
theorem at7 (g:Gd G):Pu ou 1 [.tup (G.map ye)] (.rol (ns (met G))):=by
 have w:=amo (c:=a06) (f:=vz)
  (fun m τ h=>∃ (ms:List Nat) (i:Nat) (t4 t5:Option D),τ=[some (.tup (G.map ye)),some (.ref 0),some (.ref 1),some (dm i),t4,t5]∧h=[.lst (ns ms), .dK (v6 ms)]∧Inv G m i ms)
  (fun τ h=>∃ (i:Nat) (t4 t5:Option D),τ=[some (.tup (G.map ye)),some (.ref 0),some (.ref 1),some (dm i),t4,t5]∧h=[.lst (ns (met G)), .dK (v6 (met G))])
  (fun _ _=>False) ?_ (G.length+1) 100000 [some (.tup (G.map ye)),some (.ref 0),some (.ref 1),some (dm 0),none,none] [.lst (ns [0]), .dK (v6 [0])] (by have:=g.n32;omega)
  ⟨[0],0,none,none,rfl,rfl,by simp,by intro x hx;rw [List.mem_singleton] at hx;subst hx;exact g.n1,by omega,rfl⟩
 ·rcases w with ⟨τ',h',e,i,t4,t5,rfl,rfl⟩ | ⟨_,_,_,z⟩
  ·refine Pu.of rfl (ar1 (qt (jf fun x _=>qt (xg _)))) (r:=.ok (.ref 0) [.lst (ns (met G)), .dK (v6 (met G))]) ?_ (a3m (Nat.le_refl _) rfl (xg _) (by simp)) (uy (xg _))
   unfold ou
   rw [gf]
   show toR (wu [some (.tup (G.map ye)),none,none,none,none,none] [])=_
   unfold wu
   refine Eq.trans (congrArg toR (p8 (d:=.ref 0) (h1:=[.lst (ns [0])]) rfl)) ?_
   refine Eq.trans (congrArg toR (p8 (d:=.ref 1) (h1:=[.lst (ns [0]), .dK (v6 [0])]) rfl)) ?_
   refine Eq.trans (congrArg toR (p8 (gm _ _ _))) ?_
   refine Eq.trans (congrArg toR (a4l e)) ?_
   exact congrArg toR (jh (bj rfl))
  ·exact z.elim
 ·rintro m τ h ⟨ms,i,t4,t5,rfl,rfl,inv⟩
  have lm:p7 [.ref 0] [.lst (ns ms), .dK (v6 ms)] = .ok (dm ms.length) [.lst (ns ms), .dK (v6 ms)]:=by rw [a4m (xs:=ns ms) rfl,List.length_map]
  by_cases lt:i<ms.length
  ·refine .inr ⟨_,tof (jl (bj rfl) (o8 (bj rfl) lm) (avo (by omega))), .inl ?_⟩
   have ex:ms[i]? = some ms[i]:=List.getElem?_eq_getElem lt
   have xl:=inv.2.1 _ (List.getElem_mem lt)
   generalize ms[i]=x at ex xl
   have er:G[x]? = some G[x]:=List.getElem?_eq_getElem xl
   generalize G[x]=r at er
   obtain ⟨m1,inv'⟩:=inv.step g ex er
   have small:=BF.a1z G.length ms inv.1 inv.2.1
   have n32:=g.n32
   have lp:=a0g (g:=kN 5) (b:=vy) dm
    (fun pre τ h=>∃ t5:Option D,τ=[some (.tup (G.map ye)),some (.ref 0),some (.ref 1),some (dm i),some (ye r),t5]∧h=[.lst (ns (pre.foldl stepK ms)), .dK (v6 (pre.foldl stepK ms))])
    r [some (.tup (G.map ye)),some (.ref 0),some (.ref 1),some (dm i),some (ye r),t5] [.lst (ns ms), .dK (v6 ms)] ?_ ⟨t5,rfl,rfl⟩
   ·obtain ⟨τ',h',e,t5',rfl,rfl⟩:=lp
    refine ⟨[some (.tup (G.map ye)),some (.ref 0),some (.ref 1),some (dm (i+1)),some (ye r),t5'],[.lst (ns (r.foldl stepK ms)), .dK (v6 (r.foldl stepK ms))],m - 1,?_,by omega,_,i+1,_,t5',rfl,rfl,inv'⟩
    unfold vz
    refine Eq.trans (p8 (jl (bj rfl) (jl (bj rfl) (bj rfl) (aci (xs:=ns ms) rfl (y:=dm x) (by rw [List.getElem?_map,ex];rfl))) (adl (y:=ye r) (by rw [List.getElem?_map,er];rfl)))) ?_
    have i1:sIt (sV 4) [some (.tup (G.map ye)),some (.ref 0),some (.ref 1),some (dm i),some (ye r),t5] [.lst (ns ms), .dK (v6 ms)] = .ok ⟨ns r,fun _=>True⟩ [.lst (ns ms), .dK (v6 ms)]:=agf (bj rfl) rfl
    refine Eq.trans (a9p i1) ?_
    refine Eq.trans (congrArg (fun z=>MI.thn z _) e) ?_
    rw [xm]
    exact asf rfl (gm _ _ _) (show a6n (dm i) (.int 1) _ = .ok (dm (i+1)) _ from rfl)
   ·rintro pre y post τ h all ⟨t5,rfl,rfl⟩
    have nd:=yf pre ms inv.1
    have fl:(pre.foldl stepK ms).length≤G.length:=BF.a1z _ _ nd.1 (fold_lt pre ms (fun z hz=>g.rg r (List.mem_of_getElem? er) z (by rw [all];simp [hz])) inv.2.1)
    refine ⟨_,_,rfl,[some (.tup (G.map ye)),some (.ref 0),some (.ref 1),some (dm i),some (ye r),some (dm y)],[.lst (ns ((pre++[y]).foldl stepK ms)), .dK (v6 ((pre++[y]).foldl stepK ms))],?_,_,rfl,rfl⟩
    rw [List.foldl_append,List.foldl_cons,List.foldl_nil]
    unfold vy
    by_cases q:y∈pre.foldl stepK ms
    ·refine Eq.trans (ifF (tof (jl (bj rfl) (bj rfl) (akn.trans (by rw [decide_eq_true q];rfl))))) ?_
     rw [show stepK (pre.foldl stepK ms) y=pre.foldl stepK ms from if_pos q]
     rfl
    ·refine Eq.trans (ifT (tof (jl (bj rfl) (bj rfl) (akn.trans (by rw [decide_eq_false q];rfl))))) ?_
     rw [show stepK (pre.foldl stepK ms) y=pre.foldl stepK ms++[y] from if_neg q]
     generalize pre.foldl stepK ms=u at q fl
     have pt:ao7 (.ref 1) (dm y) (.bl true) [.lst (ns u), .dK (v6 u)]=some [.lst (ns u), .dK (v6 (u++[y]))]:=by
      have lt:(v6 u).length<LINE:=a9q (by unfold v6;rw [List.length_map];omega)
      show (if (v6 u).length<LINE then some [O.lst (ns u),O.dK (putD (v6 u) (.inl (y:Int)) (.bl true))] else none)=_
      rw [if_pos lt,(agx q).2]
     refine Eq.trans (a4l (asi (gm _ _ _) (bj rfl) (bj rfl) pt)) ?_
     unfold ns
     rw [List.map_append]
     exact a75 (bj rfl) rfl (arg1 (bj rfl)) (ach (xs:=u.map dm) rfl (by rw [List.length_map];exact a9q (by omega)))
  ·refine .inl ⟨_,tof (jl (bj rfl) (o8 (bj rfl) lm) (avp (by omega))),i,t4,t5,rfl,?_⟩
   rw [← inv.2.2.2,aco (List.getElem?_eq_none (by omega))]
noncomputable def jn:SF:=my (v9 ou) 1
theorem agy (g:Gd G):Pu jn 1 [.tup (G.map ye)] (.bl (decide ((met G).length=G.length))):=by
 refine a0q rfl (ar1 (qt (jf fun x _=>qt (xg _)))) (h':=[]) ?_
 unfold jn
 rw [gf]
 show toR (v9 ou [some (.tup (G.map ye))] [])=_
 unfold v9
 refine Eq.trans (congrArg toR (jh (jl (o8 (o8 (bj rfl) (at7 g _)) a6f) (o8 (bj rfl) (len_T _ _)) a6q))) ?_
 rw [a3l,List.length_map,List.length_map]
 congr 2
 by_cases h:(met G).length=G.length
 ·rw [decide_eq_true h,h,beq_self_eq_true]
 ·rw [decide_eq_false h,beq_eq_false_iff_ne]
  omega
end
end K20
namespace K20
open PySem PySem.Spec L2 MI AT HND EVX
open PAP hiding aj9 a4w aof
def acq:D→Nat | .str x=>x.cps.toList.length | _=>0
def a8d (s:Nat) (rs:List D):Bool:=rs.all (a3q s 0 ((rs.length:Int) - 1))
def natOf:D→Nat | .int i=>i.toNat | _=>0
def a77:D→List Nat | .tup xs=>xs.map natOf | _=>[]
def gOf (rs:List D):List (List Nat):=rs.map a77
def a2m:D→Bool
 | .tup [a, .tup rs,k]=>acn a && (decide (1≤rs.length∧rs.length≤32) && (a8d (acq a) rs && ((a3q rs.length (-1) 5 k && hdB k) && decide ((met (gOf rs)).length=rs.length))))
 | _=>false
theorem acr {s n:Nat} {d:D} (h:a3q s 0 ((n:Int) - 1) d=true):d=ye (a77 d)∧(a77 d).length=s∧∀ x∈a77 d,x<n:=by
 cases d<;>first | (simp [a3q] at h;done) | skip
 rename_i xs
 simp only [a3q,Bool.and_eq_true,decide_eq_true_iff,List.all_eq_true] at h
 refine ⟨?_,by simp [a77,h.1],fun x hx=>?_⟩
 ·show D.tup xs = .tup ((xs.map natOf).map dm)
  rw [List.map_map]
  congr 1
  have:xs.map (dm ∘ natOf)=xs.map fun x=>x:=List.map_congr_left fun y hy=>by
   obtain ⟨i,rfl,i0,i1⟩:=aja (h.2 y hy)
   show D.int ((i.toNat:Nat):Int) = .int i
   rw [Int.toNat_of_nonneg i0]
  rw [this,List.map_id']
 ·obtain ⟨y,hy,rfl⟩:=List.mem_map.mp hx
  obtain ⟨i,rfl,i0,i1⟩:=aja (h.2 y hy)
  show i.toNat<n
  omega
theorem ako {s:Nat} {rs:List D} (n1:1≤rs.length∧rs.length≤32) (h:a8d s rs=true):rs=(gOf rs).map ye∧Gd (gOf rs):=by
 unfold a8d at h
 rw [List.all_eq_true] at h
 have gl:(gOf rs).length=rs.length:=List.length_map ..
 refine ⟨?_,⟨by omega,by omega,fun r hr x hx=>?_⟩⟩
 ·unfold gOf
  rw [List.map_map]
  have:rs.map (ye ∘ a77)=rs.map fun x=>x:=List.map_congr_left fun y hy=>((acr (h y hy)).1).symm
  rw [this,List.map_id']
 ·obtain ⟨y,hy,rfl⟩:=List.mem_map.mp hr
  rw [gl]
  exact (acr (h y hy)).2.2 x hx
theorem agz {a:D} (t:acn a=true) (h:Hd):p7 [a] h = .ok (dm (acq a)) h:=by
 cases a<;>first | (simp [acn] at t;done) | skip
 rename_i x
 have xl:x.cps.toList.length≤6:=by
  simp only [acn,anr,Bool.and_eq_true,decide_eq_true_iff] at t
  exact t.1.2
 rw [← adk x]
 show _=R.ok (dm (acq (.str (S x.cps.toList)))) h
 simp only [acq,a1n]
 exact a9m (jc (by omega))
theorem at8 {ws:List D} (h:ws.length≠3):a2m (.tup ws)=false:=by
 unfold a2m
 split
 ·rename_i e
  injection e with e
  subst e
  simp at h
 ·rfl
theorem at9 {a g k:D} (h:isTup g=false):a2m (.tup [a,g,k])=false:=by cases g<;>first | rfl | simp [isTup] at h
theorem three {ws:List D} (h:ws.length=3):∃ a g k,ws=[a,g,k]:=by
 match ws,h with
 | [a,g,k],_=>exact ⟨a,g,k,rfl⟩
theorem ayg {n:Nat} {lo hi:Int} {k:D} (h:a3q n lo hi k=true) (n1:1≤n) (h5:lo = -1∧hi=5):∃ i ys,k = .tup (.int i::ys):=by
 cases k<;>first | (simp [a3q] at h;done) | skip
 rename_i xs
 simp only [a3q,Bool.and_eq_true,decide_eq_true_iff] at h
 obtain ⟨rfl,rfl⟩:=h5
 obtain ⟨i,ys,rfl⟩:=asx h.2 (by omega)
 exact ⟨i,ys,rfl⟩
noncomputable def rn:SF:=my (uq j5 ie qg) 3
theorem ata {d:D} (p:Deep 3 d):Pu rn 1 [d] (.bl (a2m d)):=by
 have fin:∀ (b:Bool) (h':Hd),toR (uq j5 ie qg [some d,none,none] []) = .ok (.bl b) h'→a2m d=b→Pu rn 1 [d] (.bl (a2m d)):=fun b h' e t=>by
  rw [t]
  refine a0q rfl (ar1 p.pln.clo) (h':=h') ?_
  unfold rn
  rw [gf]
  exact e
 have a1:sA nq (ak (sV 0) (ak (sC (.ty "tuple")) bz)) [some d,none,none] [] = .ok (.bl (isTup d)) []:=a07 (bj rfl) (gm _ _ _) (ab1 p.pln)
 cases ht:isTup d with
 | false =>
  rw [ht] at a1
  refine fin false [] ?_ (by cases d<;>first | rfl | simp [isTup] at ht)
  unfold uq
  exact congrArg toR (yc (Eq.trans (ifT (orT (a89 (kj a1 (gh _))))) (jh (gm _ _ _))))
 | true =>
  obtain ⟨ws,rfl⟩:∃ xs,d = .tup xs:=by cases d<;>first | exact ⟨_,rfl⟩ | simp [isTup] at ht
  obtain ⟨wl,pw⟩:=p.2 ws rfl
  rw [ht] at a1
  by_cases h3:ws.length=3
  ·obtain ⟨a,g,k,rfl⟩:=three h3
   have pa:=pw a (by simp)
   have pg:=pw g (by simp)
   have pk:=pw k (by simp)
   have d0:∀ hh,gIx (.tup [a,g,k]) (.int 0) hh = .ok a hh:=fun hh=>adl (j:=0) rfl
   have d1:∀ hh,gIx (.tup [a,g,k]) (.int 1) hh = .ok g hh:=fun hh=>adl (j:=1) rfl
   have d2:∀ hh,gIx (.tup [a,g,k]) (.int 2) hh = .ok k hh:=fun hh=>adl (j:=2) rfl
   have l3:sT (s2 hNe (sA p7 (ak (sV 0) bz)) (sC (.int 3))) [some (.tup [a,g,k]),none,none] [] = .ok false []:=tof (jl (o8 (bj rfl) (len_T _ _)) (gm _ _ _) (aj4 rfl))
   have tg:=a9x pa.pln []
   cases ta:acn a with
   | false =>
    rw [ta] at tg
    refine fin false [] ?_ (by cases g<;>first | rfl | simp only [a2m,ta,Bool.false_and])
    unfold uq
    exact congrArg toR (yc (Eq.trans (ifT (orF (a2l (kj a1 (gh _))) (orF l3 (a89 (kj (o8 (jl (bj rfl) (gm _ _ _) (d0 _)) tg) (gh _)))))) (jh (gm _ _ _))))
   | true =>
    rw [ta] at tg
    have s0:∀ g':SS,iu (sIf (sOr (a0z (zb (sA nq (ak (sV 0) (ak (sC (.ty "tuple")) bz))))) (sOr (sT (s2 hNe (sA p7 (ak (sV 0) bz)) (sC (.int 3)))) (a0z (zb (sA (j8 false 1 ie) (ak (s2 gIx (sV 0) (sC (.int 0))) bz)))))) (o9 (sC (.bl false))) sNx) (iu (qi 1 (s2 gIx (sV 0) (sC (.int 1)))) g') [some (.tup [a,g,k]),none,none] []=g' [some (.tup [a,g,k]),some g,none] []:=fun g'=>by
     refine Eq.trans (ifN (orF (a2l (kj a1 (gh _))) (orF l3 (a2l (kj (o8 (jl (bj rfl) (gm _ _ _) (d0 _)) tg) (gh _)))))) ?_
     exact p8 (jl (bj rfl) (gm _ _ _) (d1 _))
    have g1:sA nq (ak (sV 1) (ak (sC (.ty "tuple")) bz)) [some (.tup [a,g,k]),some g,none] [] = .ok (.bl (isTup g)) []:=a07 (bj rfl) (gm _ _ _) (ab1 pg.pln)
    cases hg:isTup g with
    | false =>
     rw [hg] at g1
     refine fin false [] ?_ (at9 hg)
     unfold uq
     rw [s0]
     exact congrArg toR (yc (Eq.trans (ifT (orT (a89 (kj g1 (gh _))))) (jh (gm _ _ _))))
    | true =>
     obtain ⟨rs,rfl⟩:∃ xs,g = .tup xs:=by cases g<;>first | exact ⟨_,rfl⟩ | simp [isTup] at hg
     obtain ⟨rl,pr⟩:=pg.2 rs rfl
     rw [hg] at g1
     have ch:=adn (f:=sC (.int 1)) (g:=sA p7 (ak (sV 1) bz)) (k:=sC (.int 32)) (τ:=[some (.tup [a, .tup rs,k]),some (.tup rs),none]) (h:=[]) (gm _ _ _) (o8 (bj rfl) (len_T _ _)) (gm _ _ _)
     by_cases hl:1≤rs.length∧rs.length≤32
     ·rw [decide_eq_true (by omega)] at ch
      have lp:=a7y (g:=kN 2) (b:=zj j5 ie qg) (fun x:D=>x)
       (fun pre τ h=>∃ t2:Option D,τ=[some (.tup [a, .tup rs,k]),some (.tup rs),t2]∧h=[]∧pre.all (a3q (acq a) 0 ((rs.length:Int) - 1))=true)
       (fun d h=>d = .bl false∧a8d (acq a) rs=false) rs [] [some (.tup [a, .tup rs,k]),some (.tup rs),none] [] ?_ ⟨none,rfl,rfl,rfl⟩
      ·rw [List.map_id',List.nil_append] at lp
       have st:uq j5 ie qg [some (.tup [a, .tup rs,k]),none,none] []=MI.thn (forL (fun _=>True) (kN 2) (zj j5 ie qg) rs [some (.tup [a, .tup rs,k]),some (.tup rs),none] []) (iu (sIf (sOr (a0z (zb (sA (j8 false 4 j5) (ak (s2 gIx (sV 0) (sC (.int 2))) (ak (sA p7 (ak (sV 1) bz)) (ak (s1 a4z (sC (.int 1))) (ak (sC (.int 5)) bz))))))) (sT (s2 hNe (s2 gIx (s2 gIx (sV 0) (sC (.int 2))) (sC (.int 0))) (s1 a4z (sC (.int 1)))))) (o9 (sC (.bl false))) sNx) (o9 (s2 hEq (sA (j8 false 1 qg) (ak (sV 1) bz)) (sA p7 (ak (sV 1) bz))))):=by
        unfold uq
        rw [s0]
        refine Eq.trans (ifN (orF (a2l (kj g1 (gh _))) (a2l (tof ch)))) ?_
        exact a9p (agf (bj rfl) rfl)
       rcases lp with ⟨τ',h',e,t2,rfl,rfl,al⟩ | ⟨d',h',e,rfl,al⟩
       ·rw [e,xm] at st
        have rk:=a9w pk.down rs.length (-1) 5 []
        have kk:∀ τ:Sd,τ[0]? = some (some (.tup [a, .tup rs,k]))→τ[1]? = some (some (.tup rs))→sA (j8 false 4 j5) (ak (s2 gIx (sV 0) (sC (.int 2))) (ak (sA p7 (ak (sV 1) bz)) (ak (s1 a4z (sC (.int 1))) (ak (sC (.int 5)) bz)))) τ [] = .ok (.bl (a3q rs.length (-1) 5 k)) []:=fun τ h0 h1=>EVX.asr (jl (bj h0) (gm _ _ _) (d2 _)) (o8 (bj h1) (len_T _ _)) (age (gm _ _ _) (a6r _)) (gm _ _ _) rk
        cases hk:a3q rs.length (-1) 5 k with
        | false =>
         rw [hk] at kk
         refine fin false [] ?_ (by simp only [a2m,hk,Bool.false_and,Bool.and_false])
         rw [st]
         exact congrArg toR (yc (Eq.trans (ifT (orT (a89 (kj (kk _ rfl rfl) (gh _))))) (jh (gm _ _ _))))
        | true =>
         rw [hk] at kk
         obtain ⟨i,ys,rfl⟩:=ayg hk hl.1 ⟨rfl,rfl⟩
         have k0:∀ hh,gIx (.tup (.int i::ys)) (.int 0) hh = .ok (.int i) hh:=fun hh=>adl (j:=0) rfl
         by_cases hi:i = -1
         ·obtain ⟨eg,gd⟩:=ako (s:=acq a) hl al
          have mt:=at6 gd []
          rw [← eg] at mt
          refine fin (decide ((met (gOf rs)).length=rs.length)) [] ?_ ?_
          ·rw [st]
           refine Eq.trans (congrArg toR (ifN (orF (a2l (kj (kk _ rfl rfl) (gh _))) (tof (jl (jl (jl (bj rfl) (gm _ _ _) (d2 _)) (gm _ _ _) (k0 _)) (age (gm _ _ _) (a6r _)) (aj4 hi)))))) ?_
           refine Eq.trans (congrArg toR (jh (jl (o8 (bj rfl) mt) (o8 (bj rfl) (len_T _ _)) a6q))) ?_
           rw [a3l]
           congr 2
           by_cases q:(met (gOf rs)).length=rs.length
           ·rw [decide_eq_true q,q,beq_self_eq_true]
           ·rw [decide_eq_false q,beq_eq_false_iff_ne]
            omega
          ·have al':a8d (acq a) rs=true:=al
           have hd:hdB (.tup (.int i::ys))=true:=decide_eq_true hi
           simp only [a2m,ta,hk,al',hd,decide_eq_true hl,Bool.true_and]
         ·refine fin false [] ?_ (by simp only [a2m,hdB,hi,decide_false,Bool.false_and,Bool.and_false])
          rw [st]
          exact congrArg toR (yc (Eq.trans (ifT (orF (a2l (kj (kk _ rfl rfl) (gh _))) (tof (jl (jl (jl (bj rfl) (gm _ _ _) (d2 _)) (gm _ _ _) (k0 _)) (age (gm _ _ _) (a6r _)) (anb hi))))) (jh (gm _ _ _))))
       ·rw [e,aft] at st
        refine fin false h' ?_ (by simp only [a2m,al,Bool.false_and,Bool.and_false])
        rw [st]
        rfl
      ·rintro pre x post τ h all ⟨t2,rfl,rfl,al⟩
       rw [List.nil_append] at all
       have px:=pr x (by rw [all];simp)
       have rk:=a9w px (acq a) 0 ((rs.length:Int) - 1) []
       have kk:sA (j8 false 4 j5) (ak (sV 2) (ak (sA p7 (ak (s2 gIx (sV 0) (sC (.int 0))) bz)) (ak (sC (.int 0)) (ak (s2 a4x (sA p7 (ak (sV 1) bz)) (sC (.int 1))) bz)))) [some (.tup [a, .tup rs,k]),some (.tup rs),some x] [] = .ok (.bl (a3q (acq a) 0 ((rs.length:Int) - 1) x)) []:=EVX.asr (bj rfl) (o8 (jl (bj rfl) (gm _ _ _) (d0 _)) (agz ta _)) (gm _ _ _) (jl (o8 (bj rfl) (len_T _ _)) (gm _ _ _) (a08 _ _)) rk
       refine ⟨_,_,rfl,?_⟩
       unfold zj
       cases hx:a3q (acq a) 0 ((rs.length:Int) - 1) x with
       | true =>
        rw [hx] at kk
        exact .inl ⟨_,_,Eq.trans (ifF (a2l (kj kk (gh _)))) rfl,some x,rfl,rfl,by rw [List.all_append,al,List.all_cons,hx];rfl⟩
       | false =>
        rw [hx] at kk
        refine .inr ⟨.bl false,[],Eq.trans (ifT (a89 (kj kk (gh _)))) (jh (gm _ _ _)),rfl,?_⟩
        unfold a8d
        rw [List.all_eq_false]
        exact ⟨x,by rw [all];simp,by rw [hx];simp⟩
     ·rw [decide_eq_false (by omega)] at ch
      refine fin false [] ?_ (by simp only [a2m,decide_eq_false hl,Bool.false_and,Bool.and_false])
      unfold uq
      rw [s0]
      exact congrArg toR (yc (Eq.trans (ifT (orF (a2l (kj g1 (gh _))) (a89 (tof ch)))) (jh (gm _ _ _))))
  ·refine fin false [] ?_ (at8 h3)
   unfold uq
   exact congrArg toR (yc (Eq.trans (ifT (orF (a2l (kj a1 (gh _))) (orT (tof (jl (o8 (bj rfl) (len_T _ _)) (gm _ _ _) (anb (by omega))))))) (jh (gm _ _ _))))
noncomputable def jx:SF:=my (ud mj jn zy iw mq) 4
theorem a78 {d:D} (p:Deep 3 d):Pu jx 1 [d] (.bl (a2m d)):=by
 have fin:∀ (b:Bool) (h':Hd),toR (ud mj jn zy iw mq [some d,none,none,none] []) = .ok (.bl b) h'→a2m d=b→Pu jx 1 [d] (.bl (a2m d)):=fun b h' e t=>by
  rw [t]
  refine a0q rfl (ar1 p.pln.clo) (h':=h') ?_
  unfold jx
  rw [gf]
  exact e
 have a1:sA (j8 false 3 iw) (ak (sV 0) (ak (sC (.int 3)) (ak (sC (.int 3)) bz))) [some d,none,none,none] [] = .ok (.bl (a6t 3 3 d)) []:=a74 (bj rfl) (gm _ _ _) (gm _ _ _) (a5p p.pln _ _ _)
 by_cases h3:a6t 3 3 d=true
 ·obtain ⟨ws,rfl⟩:∃ xs,d = .tup xs:=by cases d<;>first | exact ⟨_,rfl⟩ | simp [a6t] at h3
  obtain ⟨wl,pw⟩:=p.2 ws rfl
  obtain ⟨a,g,k,rfl⟩:=three (ws:=ws) (by simp only [a6t,decide_eq_true_iff] at h3;omega)
  rw [h3] at a1
  have pa:=pw a (by simp)
  have pg:=pw g (by simp)
  have pk:=pw k (by simp)
  have tg:=ab5 pa.pln []
  have s0:∀ g':SS,iu (sIf (a0z (zb (sA (j8 false 3 iw) (ak (sV 0) (ak (sC (.int 3)) (ak (sC (.int 3)) bz)))))) (o9 (sC (.bl false))) sNx) (iu (aa4 (sV 0) (a8f 3 (qp (kN 1) (qp (kN 2) (qp (kN 3) a92))))) g') [some (.tup [a,g,k]),none,none,none] []=g' [some (.tup [a,g,k]),some a,some g,some k] []:=fun g'=>by
   refine Eq.trans (ifN (a2l (kj a1 (gh _)))) ?_
   exact a4l (aj3 (bj rfl) rfl)
  cases ta:acn a with
  | false =>
   rw [ta] at tg
   refine fin false [] ?_ (by cases g<;>first | rfl | simp only [a2m,ta,Bool.false_and])
   unfold ud
   rw [s0]
   exact congrArg toR (yc (Eq.trans (ifT (orT (a89 (kj (o8 (bj rfl) tg) (gh _))))) (jh (gm _ _ _))))
  | true =>
   rw [ta] at tg
   have g1:sA (j8 false 3 iw) (ak (sV 2) (ak (sC (.int 1)) (ak (sC (.int 32)) bz))) [some (.tup [a,g,k]),some a,some g,some k] [] = .ok (.bl (a6t 1 32 g)) []:=a74 (bj rfl) (gm _ _ _) (gm _ _ _) (a5p pg.pln _ _ _)
   cases hg:a6t 1 32 g with
   | false =>
    rw [hg] at g1
    refine fin false [] ?_ ?_
    ·unfold ud
     rw [s0]
     exact congrArg toR (yc (Eq.trans (ifT (orF (a2l (kj (o8 (bj rfl) tg) (gh _))) (a89 (kj g1 (gh _))))) (jh (gm _ _ _))))
    ·cases ig:isTup g with
     | false=>exact at9 ig
     | true =>
      obtain ⟨rs,rfl⟩:∃ xs,g = .tup xs:=by cases g<;>first | exact ⟨_,rfl⟩ | simp [isTup] at ig
      have hl:¬ (1≤rs.length∧rs.length≤32):=fun z=>by simp only [a6t,decide_eq_false_iff_not] at hg;omega
      simp only [a2m,decide_eq_false hl,Bool.false_and,Bool.and_false]
   | true =>
    obtain ⟨rs,rfl⟩:∃ xs,g = .tup xs:=by cases g<;>first | exact ⟨_,rfl⟩ | simp [a6t] at hg
    obtain ⟨rl,pr⟩:=pg.2 rs rfl
    have hl:1≤rs.length∧rs.length≤32:=by simp only [a6t,decide_eq_true_iff] at hg;omega
    rw [hg] at g1
    have al:=a9v (fi:=sIt (sV 2)) (ce:=a3o mj jn zy iw mq) (ix:=[1,2]) (τ:=[some (.tup [a, .tup rs,k]),some a,some (.tup rs),some k]) (P:=a3q (acq a) 0 ((rs.length:Int) - 1)) (agf (bj rfl) rfl) (by omega) fun x hx=>by
     rw [a0p]
     exact a74 (bj rfl) (o8 (bj rfl) (agz ta _)) (o8 (bj rfl) (len_T _ _)) (anq (pr x hx) _ _ _)
    have s9:∀ g':SS,iu (sIf (sOr (a0z (zb (sA (j8 false 1 mq) (ak (sV 1) bz)))) (a0z (zb (sA (j8 false 3 iw) (ak (sV 2) (ak (sC (.int 1)) (ak (sC (.int 32)) bz))))))) (o9 (sC (.bl false))) sNx) g' [some (.tup [a, .tup rs,k]),some a,some (.tup rs),some k] []=g' [some (.tup [a, .tup rs,k]),some a,some (.tup rs),some k] []:=fun g'=>ifN (orF (a2l (kj (o8 (bj rfl) tg) (gh _))) (a2l (kj g1 (gh _))))
    cases ha:rs.all (a3q (acq a) 0 ((rs.length:Int) - 1)) with
    | false =>
     rw [ha] at al
     refine fin false [] ?_ (by simp only [a2m,a8d,ha,Bool.false_and,Bool.and_false])
     unfold ud
     rw [s0,s9]
     exact congrArg toR (yc (Eq.trans (ifT (a89 (kj al (gh _)))) (jh (gm _ _ _))))
    | true =>
     rw [ha] at al
     have kd:=agt pk.down hl.1 []
     obtain ⟨eg,gd⟩:=ako (s:=acq a) hl ha
     have mt:=agy gd []
     rw [← eg,show (gOf rs).length=rs.length from List.length_map ..] at mt
     have kk:sA (j8 false 2 mj) (ak (sV 3) (ak (sA p7 (ak (sV 2) bz)) bz)) [some (.tup [a, .tup rs,k]),some a,some (.tup rs),some k] [] = .ok (.bl (a3q rs.length (-1) 5 k && hdB k)) []:=a07 (bj rfl) (o8 (bj rfl) (len_T _ _)) kd
     cases hk:(a3q rs.length (-1) 5 k && hdB k) with
     | false =>
      rw [hk] at kk
      refine fin false [] ?_ (by simp only [a2m,hk,Bool.false_and,Bool.and_false])
      unfold ud
      rw [s0,s9]
      exact Eq.trans (congrArg toR (ifN (a2l (kj al (gh _))))) (congrArg toR (jh (a5e kk)))
     | true =>
      rw [hk] at kk
      refine fin (decide ((met (gOf rs)).length=rs.length)) [] ?_ (by simp only [a2m,ta,a8d,ha,hk,decide_eq_true hl,Bool.true_and])
      unfold ud
      rw [s0,s9]
      exact Eq.trans (congrArg toR (ifN (a2l (kj al (gh _))))) (congrArg toR (jh (a1o kk (o8 (bj rfl) mt))))
 ·have h3':a6t 3 3 d=false:=by simpa using h3
  rw [h3'] at a1
  refine fin false [] ?_ ?_
  ·unfold ud
   exact congrArg toR (yc (Eq.trans (ifT (a89 (kj a1 (gh _)))) (jh (gm _ _ _))))
  ·cases it:isTup d with
   | false=>cases d<;>first | rfl | simp [isTup] at it
   | true =>
    obtain ⟨ws,rfl⟩:∃ xs,d = .tup xs:=by cases d<;>first | exact ⟨_,rfl⟩ | simp [isTup] at it
    exact at8 (fun z=>by simp only [a6t,decide_eq_false_iff_not] at h3';omega)
end K20
namespace K20
open PySem PySem.Spec L2 MI AT HND EVX
open PAP hiding aj9 a4w aof
noncomputable def fj:SF:=my (ww jx) 1
theorem a79 {d:D} (p:Deep 3 d):fj [d] []=if a2m d=true then .ok d [] else .ex "NoTable" []:=by
 unfold fj
 rw [gf]
 show toR (ww jx [some d] [])=_
 unfold ww
 have c:=a78 p []
 cases e:a2m d with
 | true =>
  rw [e] at c
  rw [if_pos rfl]
  refine Eq.trans (congrArg toR (ifN (a2l (kj (o8 (bj rfl) c) (gh _))))) ?_
  exact congrArg toR (jh (bj rfl))
 | false =>
  rw [e] at c
  rw [if_neg (by simp)]
  exact congrArg toR (avr (Eq.trans (ifT (a89 (kj (o8 (bj rfl) c) (gh _)))) (ank (arg1 (gm _ _ _)) (by simp))))
theorem ajd {d:D} (p:Deep 3 d) (t:a2m d=true) (h:Hd):a5c 1 fj [d] h = .ok d h:=by
 have r:=a79 p
 rw [if_pos t] at r
 exact anm (ar1 p.pln.clo) r (Pu.of rfl (ar1 p.pln.clo) r (v8 p.pln.clo (by simp)) p.pln.clo)
theorem aje {d:D} (p:Deep 3 d) (t:a2m d=false) (h:Hd):a5c 1 fj [d] h = .ex "NoTable" h:=by
 have r:=a79 p
 rw [if_neg (by simp [t])] at r
 exact anl rfl (ar1 p.pln.clo) r
noncomputable def jz:SF:=my (xx fj) 3
theorem ado {d:D} (p:Deep 3 d) (t:a2m d=false):Pu jz 1 [d] (.bl true):=by
 refine a0q rfl (ar1 p.pln.clo) (h':=[]) ?_
 unfold jz
 rw [gf]
 show toR (xx fj [some d,none,none] [])=_
 unfold xx
 refine Eq.trans (congrArg toR (p8 (gm _ _ _))) ?_
 refine Eq.trans (congrArg toR (a4l (aso (c := "NoTable") (h1:=[]) (asp ((atz (qof (j9 (bj rfl) rfl))).trans (aje p t _))) (by decide) (Eq.trans (p8 (a1o (ano (b:=true) rfl (by decide)) (ano (b:=true) rfl (by decide)))) (Eq.trans (ifF (kj (ano (c := "NoTable") rfl (b:=false) (by decide)) (gh _))) rfl))))) ?_
 exact congrArg toR (jh (bj rfl))
noncomputable def dw:Nat→SF
 | 0=>fun _ _=>.no
 | n+1=>my (uz (dw n) dz) 2
theorem anu {n:Nat} {a b:D}:dw (n+1) [a,b] []=toR (uz (dw n) dz [some a,some b] []):=by
 show my (uz (dw n) dz) 2 [a,b] []=_
 rw [gf]
 rfl
theorem atb (n:Nat) {i:Int} (h0 : -1≤i) (h1:i≤32):Pu (dw (n+1)) 2 [.int i, .int i] (.bl true):=by
 refine a0q rfl (ar2 (cj _) (cj _)) (h':=[]) ?_
 rw [anu]
 unfold uz
 have p:Pln (.int i):=trivial
 have nu:=a9u p (-1) 32 []
 rw [show a8b (-1) 32 (.int i)=true from decide_eq_true ⟨h0,h1⟩] at nu
 have nt:∀ τ:Sd,∀ j,τ[j]? = some (some (.int i))→zb (sA nq (ak (sV j) (ak (sC (.ty "tuple")) bz))) τ [] = .ok false []:=fun τ j e=>kj (a07 (bj e) (gm _ _ _) (ab1 p)) (gh _)
 have nst:∀ τ:Sd,∀ j,τ[j]? = some (some (.int i))→zb (sA nq (ak (sV j) (ak (sC (.ty "str")) bz))) τ [] = .ok false []:=fun τ j e=>kj (a07 (bj e) (gm _ _ _) (ags p)) (gh _)
 refine Eq.trans (congrArg toR (ifN (an0 (nt _ _ rfl)))) ?_
 refine Eq.trans (congrArg toR (ifN (an0 (nst _ _ rfl)))) ?_
 exact congrArg toR (jh (a1o (a74 (bj rfl) (age (gm _ _ _) (a6r _)) (gm _ _ _) nu) (a1o (a74 (bj rfl) (age (gm _ _ _) (a6r _)) (gm _ _ _) nu) (jl (bj rfl) (bj rfl) (aay rfl)))))
theorem atc (n:Nat) {x:Str} (p:Pln (.str x)):Pu (dw (n+1)) 2 [.str x, .str x] (.bl true):=by
 refine a0q rfl (ar2 (zq _) (zq _)) (h':=[]) ?_
 rw [anu]
 unfold uz
 have nt:∀ τ:Sd,∀ j,τ[j]? = some (some (.str x))→zb (sA nq (ak (sV j) (ak (sC (.ty "tuple")) bz))) τ [] = .ok false []:=fun τ j e=>kj (a07 (bj e) (gm _ _ _) (ab1 p)) (gh _)
 have st:∀ τ:Sd,∀ j,τ[j]? = some (some (.str x))→zb (sA nq (ak (sV j) (ak (sC (.ty "str")) bz))) τ [] = .ok true []:=fun τ j e=>kj (a07 (bj e) (gm _ _ _) (ags p)) (gh _)
 refine Eq.trans (congrArg toR (ifN (an0 (nt _ _ rfl)))) ?_
 exact congrArg toR (yc (Eq.trans (ifT (ao9 (st _ _ rfl) (st _ _ rfl))) (jh (jl (bj rfl) (bj rfl) (by rw [amy,beq_self_eq_true])))))
theorem acs:∀ xs:List D,(xs.zip xs).map (fun p=>D.tup [p.1,p.2])=xs.map fun x=>.tup [x,x]
 | []=>rfl
 | x::xs=>by rw [List.zip_cons_cons,List.map_cons,List.map_cons,acs xs]
theorem acu:∀ xs:List D,(xs.map fun _=>true).all id=true
 | []=>rfl
 | _::xs=>by rw [List.map_cons,List.all_cons,acu xs];rfl
theorem ah0 {n:Nat} {xs:List D} (p:Pln (.tup xs)) (xl:xs.length≤1000) (h:∀ x∈xs,Pu (dw n) 2 [x,x] (.bl true)):Pu (dw (n+1)) 2 [.tup xs, .tup xs] (.bl true):=by
 refine a0q rfl (ar2 p.clo p.clo) (h':=[]) ?_
 rw [anu]
 unfold uz
 have tt:∀ τ:Sd,∀ j,τ[j]? = some (some (.tup xs))→zb (sA nq (ak (sV j) (ak (sC (.ty "tuple")) bz))) τ [] = .ok true []:=fun τ j e=>kj (a07 (bj e) (gm _ _ _) (ab1 p)) (gh _)
 have zi:ao3 (sV 0) (sV 1) [some (.tup xs),some (.tup xs)] [] = .ok ⟨xs.map fun x=>.tup [x,x],fun _=>True⟩ []:=by
  unfold ao3
  rw [bj rfl,d7,bj rfl,d7]
  show R.ok (⟨(xs.zip xs).map fun p=>.tup [p.1,p.2],fun _=>True∧True⟩:Itm) []=_
  rw [acs]
  congr 2
  funext _
  simp
 have cz:sZ (wz (ao3 (sV 0) (sV 1)) (tN 2) (zu (dw n) dz) []) [some (.tup xs),some (.tup xs)] [] = .ok (.rol ((xs.map fun _=>true).map D.bl)) []:=by
  rw [List.map_map]
  refine a4f (vg (fun x=>D.tup [x,x]) (fun _=>.bl true) xs zi (jc (by omega)) fun x hx=>?_) (jf fun c _=>a9g _) (by simp)
  show zu (dw n) dz [some x,some x] []=_
  exact a07 (bj rfl) (bj rfl) (h x hx _)
 refine congrArg toR (yc (Eq.trans (ifT (ao9 (tt _ _ rfl) (tt _ _ rfl))) (jh (a1o (jl (o8 (bj rfl) (len_T _ _)) (o8 (bj rfl) (len_T _ _)) (aay rfl)) (o8 cz ?_)))))
 rw [agp,acu]
theorem akp (n:Nat) {s:Nat} {lo hi:Int} {d:D} (p:Deep 1 d) (h:a3q s lo hi d=true) (l0 : -1≤lo) (h0:hi≤32):Pu (dw (n+2)) 2 [d,d] (.bl true):=by
 cases d<;>first | (simp [a3q] at h;done) | skip
 rename_i xs
 simp only [a3q,Bool.and_eq_true,decide_eq_true_iff,List.all_eq_true] at h
 refine ah0 p.pln (p.2 xs rfl).1 fun x hx=>?_
 obtain ⟨i,rfl,i0,i1⟩:=aja (h.2 x hx)
 exact atb n (by omega) (by omega)
theorem atd {d:D} (p:Deep 3 d) (t:a2m d=true):Pu (dw 4) 2 [d,d] (.bl true):=by
 unfold a2m at t
 split at t
 ·rename_i a rs k
  simp only [Bool.and_eq_true,decide_eq_true_iff] at t
  obtain ⟨ta,hl,hr,⟨hk,_⟩,_⟩:=t
  obtain ⟨_,pw⟩:=p.2 _ rfl
  have pa:=pw a (by simp)
  have pg:=pw (.tup rs) (by simp)
  have pk:=pw k (by simp)
  refine ah0 p.pln (p.2 _ rfl).1 fun x hx=>?_
  simp only [List.mem_cons,List.not_mem_nil,or_false] at hx
  rcases hx with rfl | rfl | rfl
  ·cases x<;>first | (simp [acn] at ta;done) | skip
   exact atc 2 pa.pln
  ·refine ah0 pg.pln (pg.2 rs rfl).1 fun r hr'=>?_
   unfold a8d at hr
   rw [List.all_eq_true] at hr
   exact akp 0 ((pg.2 rs rfl).2 r hr') (hr r hr') (by omega) (by omega)
  ·exact akp 1 pk.down hk (by omega) (by omega)
 ·cases t
noncomputable def p6:SF:=my (a0o (dw 4) rn jz jx fj) 5
theorem acv {d:D} (p:Deep 3 d) (rp:∃ q,toPy d=some q∧okR d q):Pu p6 1 [d] (.bl true):=by
 obtain ⟨q,eq,oq⟩:=rp
 have re:∀ hh,adg [d] hh = .ok (.str q.shown) hh:=fun hh=>by
  unfold adg
  simp only [eq,if_pos oq]
 refine a0q rfl (ar1 p.pln.clo) (h':=[]) ?_
 unfold p6
 rw [gf]
 show toR (a0o (dw 4) rn jz jx fj [some d,none,none,none,none] [])=_
 unfold a0o
 refine Eq.trans (congrArg toR (p8 (o8 (bj rfl) (ata p _)))) ?_
 refine Eq.trans (congrArg toR (p8 (o8 (bj rfl) (re _)))) ?_
 refine Eq.trans (congrArg toR (a9p (a88 (n:=2) (gm _ _ _) (jc (by omega))))) ?_
 have lp:=a0g (g:=kN 3) (b:=zx (dw 4) rn jz jx fj) (fun i:Nat=>D.int (i:Nat))
  (fun pre τ hh=>∃ t3 t4:Option D,τ=[some d,some (.bl (a2m d)),some (.str q.shown),t3,t4]∧hh=[]) (List.range 2) [some d,some (.bl (a2m d)),some (.str q.shown),none,none] [] ?_ ⟨none,none,rfl,rfl⟩
 ·obtain ⟨τ',h',e,t3,t4,rfl,rfl⟩:=lp
  refine Eq.trans (congrArg (fun z=>toR (MI.thn z _)) e) ?_
  rw [xm]
  exact congrArg toR (jh (jl (o8 (bj rfl) (re _)) (bj rfl) (by rw [amy,beq_self_eq_true])))
 ·rintro pre i post τ hh all ⟨t3,t4,rfl,rfl⟩
  refine ⟨_,_,rfl,[some d,some (.bl (a2m d)),some (.str q.shown),some (.int (i:Nat)),some (.bl (a2m d))],[],?_,_,_,rfl,rfl⟩
  unfold zx
  refine Eq.trans (p8 (o8 (bj rfl) (a78 p _))) ?_
  refine Eq.trans (ifN (orF (a2l (kj (a07 (bj rfl) (gm _ _ _) avq) (gh _))) (tof (jl (bj rfl) (bj rfl) ((amz _ _).trans (by rw [beq_self_eq_true];rfl)))))) ?_
  cases t:a2m d with
  | true =>
   refine Eq.trans (ifN (ao9 (kj (bj rfl) (gh _)) (a2l (kj (a07 ((atz (j9 (bj rfl) rfl)).trans (ajd p t _)) (bj rfl) (atd p t _)) (gh _))))) ?_
   exact Eq.trans (ifF (an0 (a2l (kj (bj rfl) (gh _))))) rfl
  | false =>
   refine Eq.trans (ifN (an0 (kj (bj rfl) (gh _)))) ?_
   exact Eq.trans (ifF (ao9 (a89 (kj (bj rfl) (gh _))) (a2l (kj (o8 (bj rfl) (ado p t _)) (gh _))))) rfl
end K20
namespace K20
open PySem PySem.Spec L2 MI AT HND EVX
open PAP hiding aj9 a4w aof
def Lv:Nat→Nat | 0=>100 | n+1=>40*(Lv n+2)+3
theorem avs (n:Nat):Lv n≤Lv (n+1):=by simp only [Lv];omega
theorem lv3:Lv 3≤16777216:=by decide
structure Ft (m:Bool) (l:Nat) (d:D):Prop where
 deep:∀ n,Deep n d
 py:∃ q,toPy d=some q∧q.showable=true∧q.depth≤3+l∧q.shown.length≤Lv l∧(m=true→noL d=true)∧(m=false→q.hasDict=false)
section
variable {m:Bool} {l:Nat} {d:D}
theorem Ft.up (h:Ft m l d):Ft m (l+1) d:=by
 obtain ⟨q,e,a,b,c,f,g⟩:=h.py
 exact ⟨h.deep,q,e,a,by omega,Nat.le_trans c (avs l),f,g⟩
theorem Ft.clo (h:Ft m l d):MI.clo 0 d:=(h.deep 0).pln.clo
theorem yq (p:Pln d) (t:isTup d=false):∀ n,Deep n d
 | 0=>p
 | n+1=>⟨p,fun ws e=>by subst e;simp [isTup] at t⟩
theorem a2a {ws:List D} (wl:ws.length≤1000) (h:∀ x∈ws,∀ n,Deep n x):∀ n,Deep n (.tup ws)
 | 0=>nj.mpr fun x hx=>(h x hx 0).pln.clo
 | n+1=>⟨nj.mpr fun x hx=>(h x hx 0).pln.clo,fun ws' e=>by cases e;exact ⟨wl,fun x hx=>h x hx n⟩⟩
theorem yr {ws:List D} (wl:ws.length≤40) (h:∀ x∈ws,Ft m l x):Ft m (l+1) (.tup ws):=by
 obtain ⟨qs,e,ql,rs⟩:=agb (R:=fun q=>q.showable=true∧q.depth≤3+l∧q.shown.length≤Lv l∧(m=false→q.hasDict=false)) fun d hd=>let ⟨q,e,a,b,c,f,g⟩:=(h d hd).py; ⟨q,e,a,b,c,g⟩
 refine ⟨a2a (by omega) fun x hx=>(h x hx).deep, .tuple qs,by simp only [toPy,e,Option.map_some],a85 fun q hq=>(rs q hq).1,?_,?_,fun z=>acf fun x hx=>?_,fun z=>a86 fun q hq=>(rs q hq).2.2.2 z⟩
 ·have:=a6g (k:=3+l) fun q hq=>(rs q hq).2.1
  simp only [PyData.depth]
  omega
 ·have h1:=a87 (k:=Lv l) fun q hq=>(rs q hq).2.2.1
  have h2:=a9o (PyData.shownAll qs)
  show (tupleText (PyData.shownAll qs)).length≤40*(Lv l+2)+3
  have:qs.length*(Lv l+2)≤40*(Lv l+2):=Nat.mul_le_mul (by omega) (Nat.le_refl _)
  omega
 ·obtain ⟨q,_,_,_,_,f,_⟩:=(h x hx).py
  exact f z
theorem a9y {ws:List D} (wl:ws.length≤40) (h:∀ x∈ws,Ft false l x):Ft false (l+1) (.rol ws):=by
 obtain ⟨qs,e,ql,rs⟩:=agb (R:=fun q=>q.showable=true∧q.depth≤3+l∧q.shown.length≤Lv l∧q.hasDict=false) fun d hd=>let ⟨q,e,a,b,c,f,g⟩:=(h d hd).py; ⟨q,e,a,b,c,g rfl⟩
 refine ⟨yq (nj.mpr fun x hx=>(h x hx).clo) rfl, .list qs,by simp only [toPy,e,Option.map_some],a85 fun q hq=>(rs q hq).1,?_,?_,nofun,fun z=>a86 fun q hq=>(rs q hq).2.2.2⟩
 ·have:=a6g (k:=3+l) fun q hq=>(rs q hq).2.1
  simp only [PyData.depth]
  omega
 ·have h1:=a87 (k:=Lv l) fun q hq=>(rs q hq).2.2.1
  have h2:=aav (PyData.shownAll qs)
  show (listText (PyData.shownAll qs)).length≤40*(Lv l+2)+3
  have:qs.length*(Lv l+2)≤40*(Lv l+2):=Nat.mul_le_mul (by omega) (Nat.le_refl _)
  omega
theorem ate (h:Ft m 3 d):∃ q,toPy d=some q∧okR d q:=by
 obtain ⟨q,e,a,b,c,f,g⟩:=h.py
 refine ⟨q,e,fun z=>?_,a,by omega,Nat.le_trans c lv3⟩
 cases m with
 | true=>exact f rfl
 | false=>rw [g rfl] at z;cases z
theorem ah1:∀ k:Nat,k<128→(PyData.int ((k:Int) - 64)).showable=true∧(PyData.int ((k:Int) - 64)).shown.length≤100:=by decide +kernel
theorem a09 (m:Bool) {i:Int} (a : -64≤i) (b:i<64):Ft m 0 (.int i):=by
 obtain ⟨k,hk,rfl⟩:∃ k:Nat,k<128∧i=(k:Int) - 64:=⟨(i+64).toNat,by omega,by omega⟩
 obtain ⟨h1,h2⟩:=ah1 k hk
 exact ⟨yq trivial rfl, .int ((k:Int) - 64),rfl,h1,by simp [PyData.depth],h2,fun _=>rfl,fun _=>rfl⟩
theorem a9z (m:Bool) {n:Nat} (b:n<64):Ft m 0 (dm n):=a09 m (by omega) (by omega)
theorem a3r (m:Bool) {t:List Nat} (tl:t.length≤9) (ht:∀ c∈t,c<127):Ft m 0 (.str (S t)):=by
 refine ⟨yq (by simp only [Pln,a1n];omega) rfl, .str (S t),rfl,rfl,by simp [PyData.depth],?_,fun _=>rfl,fun _=>rfl⟩
 have:=StrLaws.reprText_len (S t) (by rw [a1n];intro c h;have:=ht c h;omega)
 have e:=a83 t
 show (reprText (S t)).length≤100
 omega
theorem atf (m b:Bool):Ft m 0 (.bl b):=⟨yq trivial rfl, .bool b,rfl,rfl,by simp [PyData.depth],by cases b<;>decide +kernel,fun _=>rfl,fun _=>rfl⟩
theorem atg (m:Bool):Ft m 0 .non:=⟨yq trivial rfl, .none,rfl,rfl,by simp [PyData.depth],by decide +kernel,fun _=>rfl,fun _=>rfl⟩
end
def things:List D:=[.int (-1), .int 6, .int 32, .int 1000000000000000000000000000000, .bl true, .bl false, .non, .str (S []), .str (S [97,97]), .str (S [97,9,98]), .tup [], .tup [.int 0], .rol [], .rol [.int 0, .int 0], .rod [] [], .str (S [97,98,99,100,101,102,103]), .int (-2), .int 0, .int 5,
 .tup [.str (S [97]), .tup [.tup [.int 0]], .tup [.int (-1)]], .rol [.str (S [97]), .rol [.rol [.int 0]], .rol [.int (-1)]], .tup [.str (S [97]), .tup [.tup [.int 0]]], .tup [.int 0, .int 1, .int 2, .int 3, .int 4, .int 5]]
theorem i1 {P:D→Prop} {a:D} (h:P a):∀ x∈[a],P x:=by intro x hx;rw [List.mem_singleton] at hx;subst hx;exact h
theorem a7a (i:Int):∀ n,Deep n (.int i):=yq trivial rfl
theorem akq {t:List Nat} (h:t.length≤1000):∀ n,Deep n (.str (S t)):=yq (by simp only [Pln,a1n];exact h) rfl
theorem a7b {a:D} (h:∀ n,Deep n a):∀ n,Deep n (.tup [a]):=a2a (by simp) (i1 h)
theorem awy {P:D→Prop} {a b:D} (ha:P a) (hb:P b):∀ x∈[a,b],P x:=by
 intro x hx
 rcases List.mem_cons.mp hx with rfl | hx
 ·exact ha
 ·exact i1 hb x hx
theorem avt {P:D→Prop} {a b c:D} (ha:P a) (hb:P b) (hc:P c):∀ x∈[a,b,c],P x:=by
 intro x hx
 rcases List.mem_cons.mp hx with rfl | hx
 ·exact ha
 ·exact awy hb hc x hx
theorem aa0:∀ d∈things,∃ m,Ft m 0 d:=by
 intro d hd
 simp only [things,List.mem_cons,List.not_mem_nil,or_false] at hd
 rcases hd with rfl | rfl | rfl | rfl | rfl | rfl | rfl | rfl | rfl | rfl | rfl | rfl | rfl | rfl | rfl | rfl | rfl | rfl | rfl | rfl | rfl | rfl | rfl
 ·exact ⟨false,a09 _ (by decide) (by decide)⟩
 ·exact ⟨false,a09 _ (by decide) (by decide)⟩
 ·exact ⟨false,a09 _ (by decide) (by decide)⟩
 ·exact ⟨false,a7a _,_,rfl,by decide +kernel,by simp [PyData.depth],by decide +kernel,nofun,fun _=>rfl⟩
 ·exact ⟨false,atf _ _⟩
 ·exact ⟨false,atf _ _⟩
 ·exact ⟨false,atg _⟩
 ·exact ⟨false,a3r _ (by simp) (by simp)⟩
 ·exact ⟨false,a3r _ (by simp) (by decide)⟩
 ·exact ⟨false,a3r _ (by simp) (by decide)⟩
 ·exact ⟨false,a2a (by simp) (by simp),_,rfl,by decide +kernel,by simp [PyData.depth,PyData.depthAll],by decide +kernel,nofun,fun _=>rfl⟩
 ·exact ⟨false,a7b (a7a _),_,rfl,by decide +kernel,by simp [PyData.depth,PyData.depthAll],by decide +kernel,nofun,fun _=>rfl⟩
 ·exact ⟨false,yq (show clos 0 [] from je) rfl,_,rfl,by decide +kernel,by simp [PyData.depth,PyData.depthAll],by decide +kernel,nofun,fun _=>rfl⟩
 ·exact ⟨false,yq (d8 (cj _) (d8 (cj _) je)) rfl,_,rfl,by decide +kernel,by simp [PyData.depth,PyData.depthAll],by decide +kernel,nofun,fun _=>rfl⟩
 ·exact ⟨true,yq (show clos 0 [] from je) rfl,_,rfl,by decide +kernel,by simp [PyData.depth,PyData.depthKv],by decide +kernel,fun _=>rfl,fun z=>by cases z⟩
 ·exact ⟨false,a3r _ (by simp) (by decide)⟩
 ·exact ⟨false,a09 _ (by decide) (by decide)⟩
 ·exact ⟨false,a09 _ (by decide) (by decide)⟩
 ·exact ⟨false,a09 _ (by decide) (by decide)⟩
 ·exact ⟨false,a2a (by simp) (avt (akq (by simp)) (a7b (a7b (a7a _))) (a7b (a7a _))),_,rfl,by decide +kernel,by simp [PyData.depth,PyData.depthAll],by decide +kernel,nofun,fun _=>rfl⟩
 ·exact ⟨false,yq (d8 (zq _) (d8 (uy (d8 (uy (d8 (cj _) je)) je)) (d8 (uy (d8 (cj _) je)) je))) rfl,_,rfl,by decide +kernel,by simp [PyData.depth,PyData.depthAll],by decide +kernel,nofun,fun _=>rfl⟩
 ·exact ⟨false,a2a (by simp) (awy (akq (by simp)) (a7b (a7b (a7a _)))),_,rfl,by decide +kernel,by simp [PyData.depth,PyData.depthAll],by decide +kernel,nofun,fun _=>rfl⟩
 ·refine ⟨false,a2a (by simp) (fun x hx=>?_),_,rfl,by decide +kernel,by simp [PyData.depth,PyData.depthAll],by decide +kernel,nofun,fun _=>rfl⟩
  simp only [List.mem_cons,List.not_mem_nil,or_false] at hx
  rcases hx with rfl | rfl | rfl | rfl | rfl | rfl<;>exact a7a _
noncomputable def fu:SF:=my yp 2
theorem ab6 {ka:SA} {τ:Sd} {h h1:Hd} {ds:List D} (e:ka τ h = .ok ds h1) (l:ds.length≤100):sA qx ka τ h = .ok (.tup ds) h1:=by
 rw [atz e]
 unfold MI.qx
 rw [if_pos (jc (by omega))]
theorem ab7 {ka:SA} {τ:Sd} {ds:List D} (e:ka τ [] = .ok ds []) (l:ds.length≤100) (cl:clos 0 ds):sZ (sA a2i ka) τ [] = .ok (.rol ds) []:=by
 refine a4f (xs:=ds) ?_ cl (by simp)
 rw [atz e]
 unfold MI.a2i
 rw [if_pos (jc (by omega))]
theorem a8e (k:Nat):∃ m d,Ft m 0 d∧Pu fu 1 [dm k] d:=by
 have hk:k % 23<things.length:=Nat.mod_lt _ (by decide)
 have ck:∀ d∈things,MI.clo 0 d:=fun d hd=>let ⟨m,f⟩:=aa0 d hd;f.clo
 obtain ⟨m,ft⟩:=aa0 _ (List.getElem_mem hk)
 refine ⟨m,things[k % 23],ft,Pu.of rfl (ar1 (cj _)) (r:=.ok things[k % 23] []) ?_ (v8 ft.clo (by simp)) ft.clo⟩
 unfold fu
 rw [gf]
 show toR (yp [some (dm k),none] [])=_
 unfold yp
 have nl:∀ τ:Sd,bz τ [] = .ok [] []:=fun τ=>rfl
 have ci:∀ (i:Int) (τ:Sd),sC (.int i) τ [] = .ok (.int i) []:=fun i τ=>gm _ _ _
 have cs:∀ (x:Str) (τ:Sd),sC (.str x) τ [] = .ok (.str x) []:=fun i τ=>gm _ _ _
 have n1:∀ (i:Int) (τ:Sd),s1 a4z (sC (.int i)) τ [] = .ok (.int (-i)) []:=fun i τ=>age (gm _ _ _) (a6r _)
 have t0:∀ τ:Sd,sA qx (ak (sC (.int 0)) bz) τ [] = .ok (.tup [.int 0]) []:=fun τ=>ab6 (j9 (ci _ _) (nl _)) (by simp)
 have l0:∀ τ:Sd,sZ (sA a2i (ak (sC (.int 0)) bz)) τ [] = .ok (.rol [.int 0]) []:=fun τ=>ab7 (j9 (ci _ _) (nl _)) (by simp) (d8 (cj _) je)
 have tn:∀ τ:Sd,sA qx (ak (s1 a4z (sC (.int 1))) bz) τ [] = .ok (.tup [.int (-1)]) []:=fun τ=>ab6 (j9 (n1 _ _) (nl _)) (by simp)
 have ln:∀ τ:Sd,sZ (sA a2i (ak (s1 a4z (sC (.int 1))) bz)) τ [] = .ok (.rol [.int (-1)]) []:=fun τ=>ab7 (j9 (n1 _ _) (nl _)) (by simp) (d8 (cj _) je)
 have tt:∀ τ:Sd,sA qx (ak (sA qx (ak (sC (.int 0)) bz)) bz) τ [] = .ok (.tup [.tup [.int 0]]) []:=fun τ=>ab6 (j9 (t0 _) (nl _)) (by simp)
 have lt:∀ τ:Sd,sZ (sA a2i (ak (sZ (sA a2i (ak (sC (.int 0)) bz))) bz)) τ [] = .ok (.rol [.rol [.int 0]]) []:=fun τ=>ab7 (j9 (l0 _) (nl _)) (by simp) (d8 (uy (d8 (cj _) je)) je)
 refine Eq.trans (congrArg toR (p8 (ab7 (ds:=things) ?_ (by decide) (nj.mpr ck)))) ?_
 ·refine j9 (n1 1 _) (j9 (ci 6 _) (j9 (ci 32 _) (j9 (jl (ci 10 _) (ci 30 _) (p30 [])) (j9 (gm _ _ _) (j9 (gm _ _ _) (j9 (gm _ _ _) (j9 (cs "" _) (j9 (cs "aa" _) (j9 (cs "a\tb" _) (j9 (ab6 (nl _) (by simp)) (j9 (t0 _) (j9 (ab7 (nl _) (by simp) je) (j9 (ab7 (j9 (ci 0 _) (j9 (ci 0 _) (nl _))) (by simp) (d8 (cj _) (d8 (cj _) je))) (j9 EVX.asq (j9 (cs "abcdefg" _) (j9 (n1 2 _) (j9 (ci 0 _) (j9 (ci 5 _) (j9 (ab6 (j9 (cs "a" _) (j9 (tt _) (j9 (tn _) (nl _)))) (by simp)) (j9 (ab7 (j9 (cs "a" _) (j9 (lt _) (j9 (ln _) (nl _)))) (by simp) ?_) (j9 (ab6 (j9 (cs "a" _) (j9 (tt _) (nl _))) (by simp)) (j9 (ab6 (j9 (ci 0 _) (j9 (ci 1 _) (j9 (ci 2 _) (j9 (ci 3 _) (j9 (ci 4 _) (j9 (ci 5 _) (nl _))))))) (by simp)) (nl _)))))))))))))))))))))))
  exact d8 (zq _) (d8 (uy (d8 (uy (d8 (cj _) je)) je)) (d8 (uy (d8 (cj _) je)) je))
 ·refine congrArg toR (jh (jl (bj rfl) (jl (bj rfl) (o8 (bj rfl) a6f) (agh (by decide))) ?_))
  rw [show ((k:Int) % ((things.length:Nat):Int))=((k % 23:Nat):Int) from rfl]
  exact awp (List.getElem?_eq_getElem hk)
end K20
namespace K20
open PySem PySem.Spec L2 MI AT HND EVX
open PAP hiding aj9 a4w aof
abbrev GT (T:Table):List D:=T.go.map ye
abbrev KT (T:Table):List D:=T.ks.map D.int
section
variable {T:Table}
theorem ajf (h:T.Ok) (m:Bool):Ft m 0 (.str (S T.tg)):=a3r m (by have:=h.tong.hi;omega) fun c hc=>a1p c (h.tong.sub c hc)
theorem a1q (h:T.Ok) (m:Bool) {r:List Nat} (hr:r∈T.go):∀ x∈r.map dm,Ft m 0 x:=fun x hx=>by
 obtain ⟨n,hn,rfl⟩:=List.mem_map.mp hx
 have:=(h.row r hr).2 n hn
 have:=h.n32
 exact a9z m (by omega)
theorem akr (h:T.Ok) (m:Bool) {r:List Nat} (hr:r∈T.go):Ft m 1 (ye r):=yr (by rw [List.length_map,(h.row r hr).1];have:=h.tong.hi;omega) (a1q h m hr)
theorem a1r (h:T.Ok) (m:Bool):∀ x∈GT T,Ft m 1 x:=fun x hx=>by
 obtain ⟨r,hr,rfl⟩:=List.mem_map.mp hx
 exact akr h m hr
theorem a2b (h:T.Ok) (m:Bool):∀ x∈KT T,Ft m 0 x:=fun x hx=>by
 obtain ⟨k,hk,rfl⟩:=List.mem_map.mp hx
 have:=h.kk k hk
 unfold KOk at this
 exact a09 m (by omega) (by omega)
theorem gl (h:T.Ok):(GT T).length≤32:=by rw [List.length_map];exact h.n32
theorem kl (h:T.Ok):(KT T).length≤32:=by rw [List.length_map,h.kl];exact h.n32
theorem anv (h:T.Ok) (m:Bool):Ft m 2 (.tup (GT T)):=yr (by have:=gl h;omega) (a1r h m)
theorem ajg (h:T.Ok) (m:Bool):Ft m 1 (.tup (KT T)):=yr (by have:=kl h;omega) (a2b h m)
theorem ah2 {m:Bool} {a b c:D} (ha:Ft m 2 a) (hb:Ft m 2 b) (hc:Ft m 2 c):Ft m 3 (.tup [a,b,c]):=yr (by simp) (avt ha hb hc)
theorem avu (h:T.Ok) (m:Bool):Ft m 3 T.d:=ah2 (ajf h m).up.up (anv h m) (ajg h m).up
end
def wth (ws:List D) (k:Nat) (d:D):List D:=ws.take k++[d]++ws.drop (k+1)
theorem anw {ws:List D} {k:Nat} {d:D}:(wth ws k d).length≤ws.length+1:=by
 unfold wth
 simp only [List.length_append,List.length_take,List.length_singleton,List.length_drop]
 omega
theorem anx {ws:List D} {k:Nat} {d x:D} (hx:x∈wth ws k d):x∈ws∨x=d:=by
 unfold wth at hx
 simp only [List.mem_append,List.mem_singleton] at hx
 rcases hx with (hx | rfl) | hx
 ·exact .inl (List.mem_of_mem_take hx)
 ·exact .inr rfl
 ·exact .inl (List.mem_of_mem_drop hx)
theorem a6j {m:Bool} {l k:Nat} {ws:List D} {d:D} (wl:ws.length≤39) (hw:∀ x∈ws,Ft m l x) (hd:Ft m l d):Ft m (l+1) (.tup (wth ws k d)):=yr (by have:=anw (ws:=ws) (k:=k) (d:=d);omega) fun x hx=>by
 rcases anx hx with h | rfl
 ·exact hw x h
 ·exact hd
noncomputable def d9:SF:=my a1y 3
theorem a4n {m:Bool} {l k:Nat} {ws:List D} {d:D} (wl:ws.length≤39) (hw:∀ x∈ws,Ft m l x) (hd:Ft m l d):Pu d9 3 [.tup ws,dm k,d] (.tup (wth ws k d)):=by
 have cr:=(a6j (k:=k) wl hw hd).clo
 refine Pu.of rfl (ar3 (qt (nj.mpr fun x hx=>(hw x hx).clo)) (cj _) hd.clo) (r:=.ok (.tup (wth ws k d)) []) ?_ (v8 cr (by simp)) cr
 unfold d9
 rw [gf]
 show toR (a1y [some (.tup ws),some (dm k),some d] [])=_
 unfold a1y
 refine congrArg toR (jh (jl (jl (ab3 (bj rfl) rfl (ab2 (bj rfl)) (asn ws k _)) (o8 (bj rfl) EVX.akl) (a6i ?_)) (ab3 (bj rfl) (ab2 (jl (bj rfl) (gm _ _ _) a2k)) rfl (a9t ws (k+1) _)) (a6i ?_)))
 ·simp only [List.length_take,List.length_singleton];omega
 ·simp only [List.length_append,List.length_take,List.length_singleton,List.length_drop];omega
theorem a0x {a b:Nat} {h:Hd} (c:0<b):a01 (dm a) (dm b) h = .ok (dm (a % b)) h:=by
 have:=agh (x:=(a:Int)) (y:=(b:Nat)) (h:=h) (by omega)
 rwa [← Int.natCast_emod] at this
theorem ath {a:Nat} {h:Hd}:abp (dm a) (.int 32) h = .ok (dm (a / 32)) h:=div_ii (x:=(a:Int)) (y:=32) (h:=h) (by omega)
def Res (r:Fl):Prop:=∃ m d,Ft m 3 d∧aaq 0 (toR r) = .ok d []
theorem aa1 {r:Fl} {m:Bool} {d:D} (f:Ft m 3 d) (e:r = .rt d []):Res r:=⟨m,d,f,by rw [e,a3l];exact v8 f.clo (by simp)⟩
theorem ati {f g:SS} {τ:Sd} {k j:Int} (t1:τ[1]? = some (some (.int k))) (a:Res (f τ [])) (b:Res (g τ [])) (a1:∃ d h,f τ [] = .rt d h):Res (iu (sIf (sT (s2 hEq (sV 1) (sC (.int j)))) f sNx) g τ []):=by
 by_cases q:k=j
 ·obtain ⟨d,h,e⟩:=a1
  rw [e] at a
  rw [yc (Eq.trans (ifT (tof (jl (bj t1) (gm _ _ _) (aay q)))) e)]
  exact a
 ·rw [ifN (tof (jl (bj t1) (gm _ _ _) (aaz q)))]
  exact b
theorem a0y {f g:SS} {τ:Sd} {k j:Int} {m:Bool} {d:D} (t1:τ[1]? = some (some (.int k))) (ft:Ft m 3 d) (e:f τ [] = .rt d []) (b:Res (g τ [])):Res (iu (sIf (sT (s2 hEq (sV 1) (sC (.int j)))) f sNx) g τ []):=ati t1 (aa1 ft e) b ⟨_,_,e⟩
theorem a2n {f g k:SE} {τ:Sd} {a b c:D} (e1:f τ [] = .ok a []) (e2:g τ [] = .ok b []) (e3:k τ [] = .ok c []):o9 (sA qx (ak f (ak g (ak k bz)))) τ [] = .rt (.tup [a,b,c]) []:=jh (a74 e1 e2 e3 aws)
section
variable {T:Table}
noncomputable def jb:SF:=my (uv fu d9) 9
theorem ajh (h:T.Ok) (k:Int) (w u:Nat):∃ m d,Ft m 3 d∧Pu jb 4 [T.d, .int k,dm w,dm u] d:=by
 have n1:=h.n1
 have n32:=h.n32
 have s1:=h.tong.lo
 have s6:=h.tong.hi
 have hr:w % T.go.length<T.go.length:=Nat.mod_lt _ (by omega)
 generalize hroom:w % T.go.length=room at hr
 obtain ⟨r,er⟩:∃ r,T.go[room]? = some r:=⟨_,List.getElem?_eq_getElem hr⟩
 have rm:r∈T.go:=List.mem_of_getElem? er
 have rl:=(h.row r rm).1
 obtain ⟨mt,t,ftt,et⟩:=a8e u
 have R:Res (uv fu d9 [some T.d,some (.int k),some (dm w),some (dm u),none,none,none,none,none] []):=by
  unfold uv
  have st:∀ g:SS,iu (aa4 (sV 0) (a8f 3 (qp (kN 4) (qp (kN 5) (qp (kN 6) a92))))) (iu (qi 7 (s2 a01 (sV 2) (sA p7 (ak (sV 5) bz)))) (iu (qi 8 (s2 a01 (s2 abp (sV 2) (sC (.int 32))) (sA p7 (ak (sV 4) bz)))) g)) [some T.d,some (.int k),some (dm w),some (dm u),none,none,none,none,none] []=g [some T.d,some (.int k),some (dm w),some (dm u),some (.str (S T.tg)),some (.tup (GT T)),some (.tup (KT T)),some (dm room),some (dm (w / 32 % T.tg.length))] []:=fun g=>by
   refine Eq.trans (a4l (aj3 (bj rfl) rfl)) ?_
   refine Eq.trans (p8 (jl (bj rfl) (o8 (bj rfl) (len_T _ _)) (show a01 (dm w) (dm (GT T).length) [] = .ok (dm room) [] by rw [List.length_map,a0x (by omega),hroom]))) ?_
   exact p8 (jl (jl (bj rfl) (gm _ _ _) ath) (o8 (bj rfl) (a9m (jc (by omega)))) (a0x (by omega)))
  rw [st]
  generalize w / 32 % T.tg.length=at'
  have row:∀ hh,gIx (.tup (GT T)) (dm room) hh = .ok (ye r) hh:=fun hh=>adl (by rw [List.getElem?_map,er];rfl)
  have ln:∀ hh,p7 [.tup (GT T)] hh = .ok (dm T.go.length) hh:=fun hh=>by rw [len_T,List.length_map]
  have um:u % T.go.length<32:=by have:=Nat.mod_lt u (show 0<T.go.length by omega);omega
  have fin:∀ {m:Bool} {Y:D} {fe:SE},Ft m 1 Y→fe [some T.d,some (.int k),some (dm w),some (dm u),some (.str (S T.tg)),some (.tup (GT T)),some (.tup (KT T)),some (dm room),some (dm at')] [] = .ok Y []→Ft m 3 (.tup [.str (S T.tg), .tup (wth (GT T) room Y), .tup (KT T)])∧o9 (sA qx (ak (sV 4) (ak (sA (j8 false 3 d9) (ak (sV 5) (ak (sV 7) (ak fe bz)))) (ak (sV 6) bz)))) [some T.d,some (.int k),some (dm w),some (dm u),some (.str (S T.tg)),some (.tup (GT T)),some (.tup (KT T)),some (dm room),some (dm at')] [] = .rt (.tup [.str (S T.tg), .tup (wth (GT T) room Y), .tup (KT T)]) []:=fun {m Y fe} fY e =>
   ⟨ah2 (ajf h m).up.up (a6j (by have:=gl h;omega) (a1r h m) fY) (ajg h m).up,a2n (bj rfl) (a74 (bj rfl) (bj rfl) e (a4n (by have:=gl h;omega) (a1r h m) fY _)) (bj rfl)⟩
  have cl:(r.map dm).length≤39:=by rw [List.length_map];omega
  have inrow:∀ {m:Bool} {Z:D} {fe:SE},Ft m 0 Z→fe [some T.d,some (.int k),some (dm w),some (dm u),some (.str (S T.tg)),some (.tup (GT T)),some (.tup (KT T)),some (dm room),some (dm at')] [] = .ok Z []→Ft m 1 (.tup (wth (r.map dm) at' Z))∧sA (j8 false 3 d9) (ak (s2 gIx (sV 5) (sV 7)) (ak (sV 8) (ak fe bz))) [some T.d,some (.int k),some (dm w),some (dm u),some (.str (S T.tg)),some (.tup (GT T)),some (.tup (KT T)),some (dm room),some (dm at')] [] = .ok (.tup (wth (r.map dm) at' Z)) []:=fun {m Z fe} fZ e =>
   ⟨a6j cl (a1q h m rm) fZ,a74 (jl (bj rfl) (bj rfl) (row _)) (bj rfl) e (a4n cl (a1q h m rm) fZ _)⟩
  have f0:=fin (fe:=sA (j8 false 1 fu) (ak (sV 3) bz)) ftt.up (o8 (bj rfl) (et _))
  refine a0y rfl f0.1 f0.2 ?_
  have gl':a0d [ye r] [] = .ok (.ref 0) [.lst (r.map dm)]:=rfl
  have f1:=fin (fe:=sZ (sA a0d (ak (s2 gIx (sV 5) (sV 7)) bz))) (a9y (l:=0) (by omega) (a1q h false rm)) (a4f (o8 (jl (bj rfl) (bj rfl) (row _)) gl') (nj.mpr fun x hx=>(a1q h false rm x hx).clo) (by simp))
  refine a0y rfl f1.1 f1.2 ?_
  have g2:=inrow (fe:=sA (j8 false 1 fu) (ak (sV 3) bz)) ftt (o8 (bj rfl) (et _))
  have f2:=fin g2.1 g2.2
  refine a0y rfl f2.1 f2.2 ?_
  have e3:s2 a4x (sA p7 (ak (sV 5) bz)) (s2 a01 (sV 3) (sC (.int 2))) [some T.d,some (.int k),some (dm w),some (dm u),some (.str (S T.tg)),some (.tup (GT T)),some (.tup (KT T)),some (dm room),some (dm at')] [] = .ok (.int ((T.go.length:Int) - (u:Int) % 2)) []:=jl (o8 (bj rfl) (ln _)) (jl (bj rfl) (gm _ _ _) (agh (by omega))) (a08 _ _)
  have g3:=inrow (a09 false (by omega) (by omega)) e3
  have f3:=fin g3.1 g3.2
  refine a0y rfl f3.1 f3.2 ?_
  have cu:∀ x∈r.map dm++[dm (u % T.go.length)],Ft false 0 x:=fun x hx=>by
   rcases List.mem_append.mp hx with q | q
   ·exact a1q h false rm x q
   ·rw [List.mem_singleton] at q;subst q;exact a9z false (by omega)
  have f4:=fin (fe:=s2 jq (s2 gIx (sV 5) (sV 7)) (sA qx (ak (s2 a01 (sV 3) (sA p7 (ak (sV 5) bz))) bz))) (yr (by rw [List.length_append,List.length_singleton];omega) cu) (jl (jl (bj rfl) (bj rfl) (row _)) (o8 (jl (bj rfl) (o8 (bj rfl) (ln _)) (a0x (by omega))) EVX.akl) (a6i (by simp only [List.length_singleton];omega)))
  refine a0y rfl f4.1 f4.2 ?_
  have cd:∀ x∈(r.map dm).take at'++(r.map dm).drop (at'+1),Ft false 0 x:=fun x hx=>by
   rcases List.mem_append.mp hx with q | q
   ·exact a1q h false rm x (List.mem_of_mem_take q)
   ·exact a1q h false rm x (List.mem_of_mem_drop q)
  have f5:=fin (fe:=s2 jq (a1w (s2 gIx (sV 5) (sV 7)) oN (oS (sV 8))) (a1w (s2 gIx (sV 5) (sV 7)) (oS (s2 jq (sV 8) (sC (.int 1)))) oN)) (yr (by rw [List.length_append,List.length_take,List.length_drop];omega) cd) (jl (ab3 (jl (bj rfl) (bj rfl) (row _)) rfl (ab2 (bj rfl)) (asn _ at' _)) (ab3 (jl (bj rfl) (bj rfl) (row _)) (ab2 (jl (bj rfl) (gm _ _ _) a2k)) rfl (a9t _ (at'+1) _)) (a6i (by rw [List.length_take,List.length_drop];omega)))
  refine a0y rfl f5.1 f5.2 ?_
  have g6:=inrow (fe:=s2 a01 (sV 3) (sA p7 (ak (sV 5) bz))) (a9z false (n:=u % T.go.length) (by omega)) (jl (bj rfl) (o8 (bj rfl) (ln _)) (a0x (by omega)))
  have f6:=fin g6.1 g6.2
  exact aa1 f6.1 f6.2
 obtain ⟨m,d,fd,e⟩:=R
 refine ⟨m,d,fd,Pu.of rfl (ar4 Table.clo (cj _) (cj _) (cj _)) (r:=_) ?_ e fd.clo⟩
 unfold jb
 rw [gf]
 rfl
end
end K20
namespace K20
open PySem PySem.Spec L2 MI AT HND EVX
open PAP hiding aj9 a4w aof
section
variable {T:Table}
theorem a2x {P:D→Prop} {a b:List D} (ha:∀ x∈a,P x) (hb:∀ x∈b,P x):∀ x∈a++b,P x:=fun x hx=>(List.mem_append.mp hx).elim (ha x) (hb x)
theorem ah3 {P:D→Prop} {a:List D} (k:Nat) (ha:∀ x∈a,P x):∀ x∈a.take k,P x:=fun x hx=>ha x (List.mem_of_mem_take hx)
theorem ah4 {P:D→Prop} {a:List D} (k:Nat) (ha:∀ x∈a,P x):∀ x∈a.drop k,P x:=fun x hx=>ha x (List.mem_of_mem_drop hx)
noncomputable def iy:SF:=my (ue fu d9) 10
theorem ah5 (h:T.Ok) (k:Int) (w u:Nat):∃ m d,Ft m 3 d∧Pu iy 4 [T.d, .int k,dm w,dm u] d:=by
 have n1:=h.n1
 have n32:=h.n32
 have s1:=h.tong.lo
 have s6:=h.tong.hi
 have hr:w % T.go.length<T.go.length:=Nat.mod_lt _ (by omega)
 generalize hroom:w % T.go.length=room at hr
 obtain ⟨r,er⟩:∃ r,T.go[room]? = some r:=⟨_,List.getElem?_eq_getElem hr⟩
 have rm:r∈T.go:=List.mem_of_getElem? er
 obtain ⟨mt,t,ftt,et⟩:=a8e u
 have gl':=gl h
 have kl':=kl h
 have R:Res (ue fu d9 [some T.d,some (.int k),some (dm w),some (dm u),none,none,none,none,none,none] []):=by
  unfold ue
  have st:∀ g:SS,iu (aa4 (sV 0) (a8f 3 (qp (kN 4) (qp (kN 5) (qp (kN 6) a92))))) (iu (qi 7 (s2 a01 (sV 2) (sA p7 (ak (sV 5) bz)))) g) [some T.d,some (.int k),some (dm w),some (dm u),none,none,none,none,none,none] []=g [some T.d,some (.int k),some (dm w),some (dm u),some (.str (S T.tg)),some (.tup (GT T)),some (.tup (KT T)),some (dm room),none,none] []:=fun g=>by
   refine Eq.trans (a4l (aj3 (bj rfl) rfl)) ?_
   exact p8 (jl (bj rfl) (o8 (bj rfl) (len_T _ _)) (show a01 (dm w) (dm (GT T).length) [] = .ok (dm room) [] by rw [List.length_map,a0x (by omega),hroom]))
  rw [st]
  have fgo:=fun m=>anv h m
  have ftg:=fun m=>(ajf h m).up.up
  have fks:=fun m=>(ajg h m).up
  have row:∀ hh,gIx (.tup (GT T)) (dm room) hh = .ok (ye r) hh:=fun hh=>adl (by rw [List.getElem?_map,er];rfl)
  have ks0:=a2b h false
  have m7:∀ hh,a01 (dm u) (.int 7) hh = .ok (dm (u % 7)) hh:=fun hh=>a0x (b:=7) (by omega)
  have u7:Ft false 0 (.int (((u % 7:Nat):Int) - 1)):=a09 false (by omega) (by omega)
  refine a0y rfl (ah2 (ftg mt) (fgo mt) (a6j (k:=room) (by omega) (a2b h mt) ftt).up) (a2n (bj rfl) (bj rfl) (a74 (bj rfl) (bj rfl) (o8 (bj rfl) (et _)) (a4n (by omega) (a2b h mt) ftt _))) ?_
  have u6:Ft false 0 (dm (u % 6)):=a9z false (by omega)
  refine a0y rfl (ah2 (ftg false) (fgo false) (yr (ws:=(KT T).take room++[dm (u % 6)]++(KT T).drop room) (l:=0) (by simp only [List.length_append,List.length_take,List.length_drop,List.length_singleton];omega) (a2x (a2x (ah3 _ ks0) (i1 u6)) (ah4 _ ks0))).up)
   (a2n (bj rfl) (bj rfl) (jl (jl (ab3 (bj rfl) rfl (ab2 (bj rfl)) (asn _ room _)) (o8 (jl (bj rfl) (gm _ _ _) (a0x (b:=6) (by omega))) EVX.akl) (a6i (by simp only [List.length_take,List.length_singleton];omega))) (ab3 (bj rfl) (ab2 (bj rfl)) rfl (a9t _ room _)) (a6i (by simp only [List.length_append,List.length_take,List.length_drop,List.length_singleton];omega)))) ?_
  have fcut:Ft false 1 (.tup ((KT T).take room++(KT T).drop (room+1))):=yr (l:=0) (by simp only [List.length_append,List.length_take,List.length_drop];omega) (a2x (ah3 _ ks0) (ah4 _ ks0))
  have ecut:∀ τ:Sd,τ[6]? = some (some (.tup (KT T)))→τ[7]? = some (some (dm room))→s2 jq (a1w (sV 6) oN (oS (sV 7))) (a1w (sV 6) (oS (s2 jq (sV 7) (sC (.int 1)))) oN) τ [] = .ok (.tup ((KT T).take room++(KT T).drop (room+1))) []:=fun τ h6 h7=>jl (ab3 (bj h6) rfl (ab2 (bj h7)) (asn _ room _)) (ab3 (bj h6) (ab2 (jl (bj h7) (gm _ _ _) a2k)) rfl (a9t _ (room+1) _)) (a6i (by simp only [List.length_take,List.length_drop];omega))
  refine a0y rfl (ah2 (ftg false) (fgo false) fcut.up) (a2n (bj rfl) (bj rfl) (ecut _ rfl rfl)) ?_
  refine a0y rfl (ah2 (ftg false) (yr (ws:=GT T++[ye r]) (l:=1) (by rw [List.length_append,List.length_singleton];omega) (a2x (a1r h false) (i1 (akr h false rm)))) (yr (ws:=KT T++[.int (((u % 7:Nat):Int) - 1)]) (l:=0) (by rw [List.length_append,List.length_singleton];omega) (a2x ks0 (i1 u7))).up)
   (a2n (bj rfl) (jl (bj rfl) (o8 (jl (bj rfl) (bj rfl) (row _)) EVX.akl) (a6i (by simp only [List.length_singleton];omega))) (jl (bj rfl) (o8 (jl (jl (bj rfl) (gm _ _ _) (m7 _)) (gm _ _ _) (a08 _ _)) EVX.akl) (a6i (by simp only [List.length_singleton];omega)))) ?_
  have gcut:Ft false 2 (.tup ((GT T).take room++(GT T).drop (room+1))):=yr (l:=1) (by simp only [List.length_append,List.length_take,List.length_drop];omega) (a2x (ah3 _ (a1r h false)) (ah4 _ (a1r h false)))
  refine a0y rfl (ah2 (ftg false) gcut fcut.up) (a2n (bj rfl) (jl (ab3 (bj rfl) rfl (ab2 (bj rfl)) (asn _ room _)) (ab3 (bj rfl) (ab2 (jl (bj rfl) (gm _ _ _) a2k)) rfl (a9t _ (room+1) _)) (a6i (by simp only [List.length_take,List.length_drop];omega))) (ecut _ rfl rfl)) ?_
  refine a0y rfl (ah2 (ftg false) (fgo false) (a6j (k:=0) (by omega) ks0 u7).up) (a2n (bj rfl) (bj rfl) (a74 (bj rfl) (gm _ _ _) (jl (jl (bj rfl) (gm _ _ _) (m7 _)) (gm _ _ _) (a08 _ _)) (a4n (k:=0) (by omega) ks0 u7 _))) ?_
  have wl:w % T.tg.length<T.tg.length:=Nat.mod_lt _ (by omega)
  obtain ⟨c,ec⟩:∃ c,T.tg[w % T.tg.length]? = some c:=⟨_,List.getElem?_eq_getElem wl⟩
  have ct:c∈T.tg:=List.mem_of_getElem? ec
  have sm:∀ c∈T.tg,c<127:=fun c hc=>a1p c (h.tong.sub c hc)
  have lt:∀ hh,p7 [.str (S T.tg)] hh = .ok (dm T.tg.length) hh:=fun hh=>a9m (jc (by omega))
  generalize hat:room % T.tg.length=at'
  have f6:Ft false 0 (.str (S (T.tg.take at'++[c]++T.tg.drop at'))):=a3r false (by simp only [List.length_append,List.length_take,List.length_drop,List.length_singleton];omega) fun x hx=>by
   simp only [List.mem_append,List.mem_singleton] at hx
   rcases hx with (hx | rfl) | hx
   ·exact sm x (List.mem_of_mem_take hx)
   ·exact sm _ ct
   ·exact sm x (List.mem_of_mem_drop hx)
  refine a0y (d:=.tup [.str (S (T.tg.take at'++[c]++T.tg.drop at')), .tup (GT T), .tup (KT T)]) rfl (ah2 f6.up.up (fgo false) (fks false)) ?_ ?_
  ·refine Eq.trans (p8 (jl (bj rfl) (o8 (bj rfl) (lt _)) (a0x (by omega)))) ?_
   rw [hat]
   refine Eq.trans (p8 (jl (bj rfl) (jl (bj rfl) (o8 (bj rfl) (lt _)) (a0x (by omega))) (awk (jc (by omega)) ec))) ?_
   exact a2n (jl (jl (ab3 (bj rfl) rfl (ab2 (bj rfl)) (atw at' (jc (by omega)))) (bj rfl) (ag2 (jc (by simp only [List.length_take,List.length_singleton];omega)))) (ab3 (bj rfl) (ab2 (bj rfl)) rfl (ag3 at' (jc (by omega)))) (ag2 (jc (by simp only [List.length_append,List.length_take,List.length_drop,List.length_singleton];omega)))) (bj rfl) (bj rfl)
  have f7:Ft false 0 (.str (S (T.tg.drop 1))):=a3r false (by rw [List.length_drop];omega) fun x hx=>sm x (List.mem_of_mem_drop hx)
  exact aa1 (ah2 f7.up.up (fgo false) (fks false)) (a2n (ab3 (bj rfl) (ab2 (gm _ _ _)) rfl (ag3 1 (jc (by omega)))) (bj rfl) (bj rfl))
 obtain ⟨m,d,fd,e⟩:=R
 refine ⟨m,d,fd,Pu.of rfl (ar4 Table.clo (cj _) (cj _) (cj _)) (r:=_) ?_ e fd.clo⟩
 unfold iy
 rw [gf]
 rfl
noncomputable def rz:SF:=my (zm iy jb fu d9) 6
theorem ah6 (h:T.Ok) (k w u:Nat):∃ m d,Ft m 3 d∧Pu rz 4 [T.d,dm k,dm w,dm u] d:=by
 have n1:=h.n1
 have n32:=h.n32
 have s1:=h.tong.lo
 have s6:=h.tong.hi
 obtain ⟨mt,t,ftt,et⟩:=a8e u
 have gl':=gl h
 have kl':=kl h
 have P3:∀ m,∀ x∈[D.str (S T.tg), .tup (GT T), .tup (KT T)],Ft m 2 x:=fun m=>avt (ajf h m).up.up (anv h m) (ajg h m).up
 have R:Res (zm iy jb fu d9 [some T.d,some (dm k),some (dm w),some (dm u),none,none] []):=by
  unfold zm
  refine a0y rfl (avu h false) (jh (bj rfl)) ?_
  refine a0y rfl ftt.up.up.up (jh (o8 (bj rfl) (et _))) ?_
  have l2:o9 (sA a0d (ak (sV 0) bz)) [some T.d,some (dm k),some (dm w),some (dm u),none,none] [] = .rt (.ref 0) [.lst [.str (S T.tg), .tup (GT T), .tup (KT T)]]:=jh (o8 (bj rfl) rfl)
  refine ati rfl ⟨false, .rol [.str (S T.tg), .tup (GT T), .tup (KT T)],a9y (by simp) (P3 false),?_⟩ ?_ ⟨_,_,l2⟩
  ·rw [l2,a3l]
   exact a3m (Nat.le_refl _) rfl (nj.mpr fun x hx=>(P3 false x hx).clo) (by simp)
  have m3:∀ hh,a01 (dm w) (.int 3) hh = .ok (dm (w % 3)) hh:=fun hh=>a0x (b:=3) (by omega)
  refine a0y rfl (a6j (ws:=[D.str (S T.tg), .tup (GT T), .tup (KT T)]) (k:=w % 3) (by simp) (P3 mt) ftt.up.up) (jh (a74 (bj rfl) (jl (bj rfl) (gm _ _ _) (m3 _)) (o8 (bj rfl) (et _)) (a4n (by simp) (P3 mt) ftt.up.up _))) ?_
  obtain ⟨xs,f4,e4⟩:∃ xs,Ft false 2 (.rol xs)∧sZ (sA a0d (ak (s2 gIx (sV 0) (s2 a01 (sV 2) (sC (.int 3)))) bz)) [some T.d,some (dm k),some (dm w),some (dm u),none,none] [] = .ok (.rol xs) []:=by
   have go:∀ (x:D) (xs:List D),(∀ hh,gIx T.d (dm (w % 3)) hh = .ok x hh)→a0d [x] [] = .ok (.ref 0) [.lst xs]→Ft false 2 (.rol xs)→clos 0 xs→∃ xs,Ft false 2 (.rol xs)∧sZ (sA a0d (ak (s2 gIx (sV 0) (s2 a01 (sV 2) (sC (.int 3)))) bz)) [some T.d,some (dm k),some (dm w),some (dm u),none,none] [] = .ok (.rol xs) []:=fun x xs ex el f cx =>
    ⟨xs,f,a4f (o8 (jl (bj rfl) (jl (bj rfl) (gm _ _ _) (m3 _)) (ex _)) el) cx (by simp)⟩
   have three:w % 3=0∨w % 3=1∨w % 3=2:=by omega
   rcases three with z | z | z
   ·have fs:∀ x∈T.tg.map fun c=>D.str (S [c]),Ft false 0 x:=fun x hx=>by
     obtain ⟨c,hc,rfl⟩:=List.mem_map.mp hx
     exact a3r false (by simp) (by intro y hy;rw [List.mem_singleton] at hy;subst hy;exact a1p _ (h.tong.sub _ hc))
    refine go (.str (S T.tg)) (T.tg.map fun c=>.str (S [c])) (fun hh=>by rw [z];exact adl (j:=0) rfl) ?_ (a9y (l:=0) (by rw [List.length_map];omega) fs).up (nj.mpr fun x hx=>(fs x hx).clo)
    show (if (S T.tg).length≤LINE then R.ok (D.ref 0) [O.lst (vh (S T.tg))] else .no)=_
    rw [if_pos (by rw [a83];exact jc (by omega)),show vh (S T.tg)=T.tg.map fun c=>.str (S [c]) by unfold vh;rw [a1n]]
   ·exact go (.tup (GT T)) (GT T) (fun hh=>by rw [z];exact adl (j:=1) rfl) rfl (a9y (l:=1) (by omega) (a1r h false)) (nj.mpr fun x hx=>(a1r h false x hx).clo)
   ·exact go (.tup (KT T)) (KT T) (fun hh=>by rw [z];exact adl (j:=2) rfl) rfl (a9y (l:=0) (by omega) (a2b h false)).up (nj.mpr fun x hx=>(a2b h false x hx).clo)
  refine a0y rfl (a6j (ws:=[D.str (S T.tg), .tup (GT T), .tup (KT T)]) (k:=w % 3) (by simp) (P3 false) f4) (jh (a74 (bj rfl) (jl (bj rfl) (gm _ _ _) (m3 _)) e4 (a4n (by simp) (P3 false) f4 _))) ?_
  generalize hR:32+u % 2=Rn
  have Rb:32≤Rn∧Rn≤33:=by omega
  let v:Nat→D:=fun i=>.int (if (Rn:Int) - 1<(i:Int)+1 then (Rn:Int) - 1 else (i:Int)+1)
  have fv:∀ i,i<Rn→Ft false 0 (v i):=fun i hi=>by
   show Ft false 0 (.int (if (Rn:Int) - 1<(i:Int)+1 then (Rn:Int) - 1 else (i:Int)+1))
   split
   ·exact a09 false (by omega) (by omega)
   ·exact a09 false (by omega) (by omega)
  have fg:∀ x∈(List.range Rn).map fun i=>D.tup [v i],Ft false 1 x:=fun x hx=>by
   obtain ⟨i,hi,rfl⟩:=List.mem_map.mp hx
   exact yr (by simp) (i1 (fv i (List.mem_range.mp hi)))
  have cz:∀ τ:Sd,τ[4]? = some (some (dm Rn))→sZ (wz (sRg a2s (ak (sV 4) bz)) t1 (a1m iy jb fu d9) [4]) τ [] = .ok (.rol ((List.range Rn).map fun i=>D.tup [v i])) []:=fun τ h4=>by
   refine a4f (vg (fun i:Nat=>D.int (i:Nat)) (fun i=>D.tup [v i]) (List.range Rn) (a88 (bj h4) (jc (by omega))) (jc (by rw [List.length_range];omega)) fun i _=>?_) (nj.mpr fun x hx=>(fg x hx).clo) (by simp)
   rw [a0p,acg,aax,h4]
   exact o8 (a07 (jl (bj rfl) (gm _ _ _) a2k) (jl (bj rfl) (gm _ _ _) (a08 _ _)) rfl) EVX.akl
  have gt:∀ xs:List D,ym [.rol xs] [] = .ok (.tup xs) []:=fun xs=>rfl
  have ml:ada (.tup [dm (u % 6)]) (.int ((Rn:Int) - 1)) [] = .ok (.tup (List.replicate (Rn - 1) [dm (u % 6)]).flatten) []:=by
   unfold ada
   dsimp only
   rw [show ((Rn:Int) - 1).toNat=Rn - 1 by omega,if_pos ⟨⟨by simp,by omega,by omega⟩,jc (by simp only [List.length_singleton];omega)⟩]
  have lr:(List.replicate (Rn - 1) [dm (u % 6)]).flatten.length=Rn - 1:=by simp
  have fr:∀ x∈(List.replicate (Rn - 1) [dm (u % 6)]).flatten,Ft false 0 x:=fun x hx=>by
   obtain ⟨l,hl,hx⟩:=List.mem_flatten.mp hx
   rw [List.eq_of_mem_replicate hl,List.mem_singleton] at hx
   subst hx
   exact a9z false (by omega)
  generalize (List.replicate (Rn - 1) [dm (u % 6)]).flatten=ks5 at ml lr fr
  have t1':Ft false 0 (.str (S (T.tg.take 1))):=a3r false (by rw [List.length_take];omega) fun x hx=>a1p x (h.tong.sub x (List.mem_of_mem_take hx))
  refine a0y (d:=.tup [.str (S (T.tg.take 1)), .tup ((List.range Rn).map fun i=>D.tup [v i]), .tup ([.int (-1)]++ks5)]) rfl (ah2 t1'.up.up (yr (l:=1) (by rw [List.length_map,List.length_range];omega) fg) (yr (l:=0) (by rw [List.length_append,List.length_singleton];omega) (a2x (i1 (a09 false (by decide) (by decide))) fr)).up) ?_ ?_
  ·have a5:jq (.int 32) (dm (u % 2)) [] = .ok (dm Rn) []:=by
    rw [← hR]
    rfl
   refine Eq.trans (p8 (jl (gm _ _ _) (jl (bj rfl) (gm _ _ _) (a0x (b:=2) (by omega))) a5)) ?_
   refine Eq.trans (p8 (o8 (cz _ rfl) (gt _))) ?_
   exact a2n (ab3 (jl (bj rfl) (gm _ _ _) (adl (j:=0) rfl)) rfl (ab2 (gm _ _ _)) (atw 1 (jc (by omega)))) (bj rfl) (jl (o8 (age (gm _ _ _) (a6r _)) EVX.akl) (jl (o8 (jl (bj rfl) (gm _ _ _) (a0x (b:=6) (by omega))) EVX.akl) (jl (bj rfl) (gm _ _ _) (a08 _ _)) ml) (a6i (by simp only [List.length_singleton];omega)))
  obtain ⟨m1,d1,f1,e1⟩:=ajh h ((k:Int) - 6) w u
  obtain ⟨m2,d2,f2,e2⟩:=ah5 h ((k:Int) - 13) w u
  by_cases q:(k:Int)<13
  ·exact aa1 f1 (yc (Eq.trans (ifT (tof (jl (bj rfl) (gm _ _ _) (avo q)))) (jh (EVX.asr (bj rfl) (jl (bj rfl) (gm _ _ _) (a08 _ _)) (bj rfl) (bj rfl) (e1 _)))))
  ·exact aa1 f2 (Eq.trans (ifN (tof (jl (bj rfl) (gm _ _ _) (avp q)))) (jh (EVX.asr (bj rfl) (jl (bj rfl) (gm _ _ _) (a08 _ _)) (bj rfl) (bj rfl) (e2 _))))
 obtain ⟨m,d,fd,e⟩:=R
 refine ⟨m,d,fd,Pu.of rfl (ar4 Table.clo (cj _) (cj _) (cj _)) (r:=_) ?_ e fd.clo⟩
 unfold rz
 rw [gf]
 rfl
end
noncomputable def ju:SF:=my (xf dh ao) 5
noncomputable def oh:SF:=my (vq qe m9 jm ao ju) 5
theorem a8a {o:O} {N:Nat} (P:Hand o N) (hN:N≤999900000):∃ (T:Table) (o':O),T.Ok∧Dr oh 1 [] o T.d o'∧Hand o' (N+3000):=HND.a8a P hN
noncomputable def aji:SF:=my (aj2 p6 v5 rz oh ao) 7
theorem atj (ns:List Int):∃ h',aji [.scr (ns.map D.int)] [] = .ok (.bl true) h':=by
 obtain ⟨o,P,e0⟩:=anc ns []
 obtain ⟨k,o1,e1,k0,k1,P1⟩:=uh (m:=21) P (by omega) (by omega) (by omega)
 obtain ⟨w,o2,e2,w0,w1,P2⟩:=uh (m:=1009) P1 (by omega) (by omega) (by omega)
 obtain ⟨u,o3,e3,u0,u1,P3⟩:=uh (m:=1013) P2 (by omega) (by omega) (by omega)
 obtain ⟨k,rfl⟩:=Int.eq_ofNat_of_zero_le k0
 obtain ⟨w,rfl⟩:=Int.eq_ofNat_of_zero_le w0
 obtain ⟨u,rfl⟩:=Int.eq_ofNat_of_zero_le u0
 obtain ⟨T,o4,hT,e4,P4⟩:=a8a P3 (by omega)
 obtain ⟨m,d,fd,ed⟩:=ah6 hT k w u
 have c1:j8 false 2 ao [.ref 0, .int 21] [o] = .ok (dm k) [o1]:=e1 0 _ rfl
 have c2:j8 false 2 ao [.ref 0, .int 1009] [o1] = .ok (dm w) [o2]:=e2 0 _ rfl
 have c3:j8 false 2 ao [.ref 0, .int 1013] [o2] = .ok (dm u) [o3]:=e3 0 _ rfl
 have c4:j8 false 1 oh [.ref 0] [o3] = .ok T.d [o4]:=e4 0 _ rfl
 have ad:Pu p6 1 [d] (.bl true):=acv (fd.deep 3) (ate fd)
 have aT:Pu p6 1 [T.d] (.bl true):=acv ((avu hT false).deep 3) (ate (avu hT false))
 refine ⟨[o4],?_⟩
 unfold aji
 rw [gf]
 show toR (aj2 p6 v5 rz oh ao [some (.scr (ns.map D.int)),none,none,none,none,none,none] [])=_
 unfold aj2
 refine Eq.trans (congrArg toR (p8 (o8 (bj rfl) e0))) ?_
 refine Eq.trans (congrArg toR (p8 (a07 (bj rfl) (gm _ _ _) c1))) ?_
 refine Eq.trans (congrArg toR (p8 (a07 (bj rfl) (gm _ _ _) c2))) ?_
 refine Eq.trans (congrArg toR (p8 (a07 (bj rfl) (gm _ _ _) c3))) ?_
 refine Eq.trans (congrArg toR (p8 (o8 (bj rfl) c4))) ?_
 refine Eq.trans (congrArg toR (p8 (EVX.asr (bj rfl) (bj rfl) (bj rfl) (bj rfl) (ed _)))) ?_
 refine Eq.trans (congrArg toR (ifN (a2l (kj (o8 (bj rfl) (ad _)) (gh _))))) ?_
 exact congrArg toR (jh (o8 (bj rfl) (aT _)))
end K20
namespace L2
open PySem PySem.Spec PySem.W PyProof.Rows
theorem anz {K:Frag} {C:Addr} (q:excIn K C [.type "ValueError", .type "Exception", .type "BaseException", .type "object"] "ValueError.__new__" = true):XCls K C:=by
 unfold excIn at q
 split at q
 ·rename_i dd cd sl lo
  split at q
  ·rename_i C' bm k0 k1 k2 k3 n k5 mo ss
   simp only [Bool.and_eq_true,beq_iff_eq,Bool.not_eq_true'] at q
   obtain ⟨⟨⟨⟨⟨e1,e2⟩,nd⟩,tl⟩,no⟩,ni⟩:=q
   subst e1 e2
   cases cd
   dsimp only at mo nd no ni
   subst mo nd
   obtain ⟨l⟩:=sl
   simp only at ss
   subst ss
   exact ⟨_,_,_,_,bm,_,_,_,_,_,dd,k0,k1,k2,k3,k5,lo,no,ni,tl⟩
  ·cases q
 ·cases q
end L2
namespace K20
open PySem PySem.Spec L2 MI
section
variable {P:Program} {w:World} {K:PySem.W.Frag} {mg:Str→Option Value} {base:Heap} {f:Addr} {fd:FuncData}
theorem atk {f_31:Addr} {e_31:FuncData} (Fu_31:Fun K "_law_alike" "_law_alike" (top 44) f_31 e_31) (mk_31:mg "_law_alike" = some (.ref f_31)) (kp_31:PySem.W.keepIn K (.ref f_31)=true) (bd_31:Binds K e_31 ["_law_one", "_law_other"] []) (M:Nm mg) {a_20:Addr} {d_20:FuncData} (D_20:Dn P w K mg base 1 "_law_number" ["_law_thing_here", "_law_low", "_law_high"] (mz K 3 (K20.dz)) a_20 d_20):∀ n:Nat,Dn P w K mg base (n+1) "_law_alike" ["_law_one", "_law_other"] (mz K 2 (K20.dw n)) f_31 e_31:=by
 intro n
 induction n with
 | zero=>exact ⟨av4 (ps:=["_law_one", "_law_other"]),mk_31,kp_31,bd_31⟩
 | succ n ih =>
  have e:n+1+1=n+1+1:=by omega
  rw [e]
  have s_law_alike:=ih
  exact ⟨lz Fu_31 aro (ay8 M s_law_alike (by omega) D_20 (by omega)),mk_31,kp_31,bd_31⟩
end
def ajj (K:PySem.W.Frag):Sp:=fun vs H Q _=>∃ (a:Addr) (ns:List Int),vs=[.ref a]∧SqF K H a (ns.map V.int)∧ns.length≤63∧∀ H',Q (.bl true) H'
theorem aa2 {K:PySem.W.Frag} {ι:List Addr} {H:Hp}:∀ ns:List Int,Reps K ι H (ns.map V.int) (ns.map D.int)
 | []=>.nil
 | n::ns=>.cons (.int n) (aa2 ns)
theorem atl {K:PySem.W.Frag} (vs:List V) (H:Hp) (Q:VK) (E:XK) (h:ajj K vs H Q E):mz K 1 K20.aji vs H Q E:=by
 obtain ⟨a,ns,rfl,hS,hl,q⟩:=h
 obtain ⟨h',e⟩:=K20.atj ns
 refine ⟨rfl,[],[.scr (ns.map D.int)],[], .cons (.scr hS (aa2 ns)) .nil,⟨List.nodup_nil,rfl,fun i a o z=>by simp at z⟩,?_⟩
 rw [e]
 intro ι' H' b g r hr
 cases r
 exact q H'
theorem atm {K:PySem.W.Frag} {H:Hp} {a:Addr} {vs:List V} (hO:Only H) (hS:SqL K H a vs):SqF K H a vs:=by
 rcases hS with r | r
 ·rcases r with r | ⟨o,r⟩
  ·rcases hO a with z | ⟨o,xs,z⟩<;>rw [z] at r<;>cases r
  ·exact .inl ⟨o,r⟩
 ·exact .inr (.inr r)
abbrev fo (x:Str) (t:Stmt) (kV dc pm:Value) (an:Option Addr) (cd ct:Value):=PySem.W.fnOf x x (a3w t) (g8 t) (au t) .none kV dc pm an cd ct
theorem atn {l:PySem.W.OpenLaw} {w:World} {K:PySem.W.Frag} {h:Heap} {mg:Str→Option Value} {fa f1 f2 f3 f4 f5 f6 f7 f8 f9 f10 f11 f12 f13 f14 f15 f16 f17 f18 f19 f20 f21 f22 f23 f24 f25 f26 f27 f28 f29 f30 f31 f32 f33 f34:Addr} (X:K.In h) (G:h.Ns mainGlobals mg) (hfa:mg "law" = some (.ref fa))
  {od1 an1 od2 an2 od3 an3 od4 an4 od5 an5 od6 an6 od7 an7 od8 an8 od9 an9 od10 an10 od11 an11 od12 an12 od13 an13 od14 an14 od15 an15 od16 an16 od17 an17 od18 an18 od19 an19 od20 an20 od21 an21 od22 an22 od23 an23 od24 an24 od25 an25 od26 an26 od27 an27 od28 an28 od29 an29 od30 an30 od31 an31 od32 an32 od33 an33 od34 an34:Option Addr} {sl1 sl2 sl3 sl4 sl5 sl6 sl7 sl8 sl9 sl10 sl11 sl12 sl13 sl14 sl15 sl16 sl17 sl18 sl19 sl20 sl21 sl22 sl23 sl24 sl25 sl26 sl27 sl28 sl29 sl30 sl31 sl32 sl33 sl34:Array (Option Value)} {oc1 kV1 dc1 pm1 cd1 ct1 oc2 kV2 dc2 pm2 cd2 ct2 oc3 kV3 dc3 pm3 cd3 ct3 oc4 kV4 dc4 pm4 cd4 ct4 oc5 kV5 dc5 pm5 cd5 ct5 oc6 kV6 dc6 pm6 cd6 ct6 oc7 kV7 dc7 pm7 cd7 ct7 oc8 kV8 dc8 pm8 cd8 ct8 oc9 kV9 dc9 pm9 cd9 ct9 oc10 kV10 dc10 pm10 cd10 ct10 oc11 kV11 dc11 pm11 cd11 ct11 oc12 kV12 dc12 pm12 cd12 ct12 oc13 kV13 dc13 pm13 cd13 ct13 oc14 kV14 dc14 pm14 cd14 ct14 oc15 kV15 dc15 pm15 cd15 ct15 oc16 kV16 dc16 pm16 cd16 ct16 oc17 kV17 dc17 pm17 cd17 ct17 oc18 kV18 dc18 pm18 cd18 ct18 oc19 kV19 dc19 pm19 cd19 ct19 oc20 kV20 dc20 pm20 cd20 ct20 oc21 kV21 dc21 pm21 cd21 ct21 oc22 kV22 dc22 pm22 cd22 ct22 oc23 kV23 dc23 pm23 cd23 ct23 oc24 kV24 dc24 pm24 cd24 ct24 oc25 kV25 dc25 pm25 cd25 ct25 oc26 kV26 dc26 pm26 cd26 ct26 oc27 kV27 dc27 pm27 cd27 ct27 oc28 kV28 dc28 pm28 cd28 ct28 oc29 kV29 dc29 pm29 cd29 ct29 oc30 kV30 dc30 pm30 cd30 ct30 oc31 kV31 dc31 pm31 cd31 ct31 oc32 kV32 dc32 pm32 cd32 ct32 oc33 kV33 dc33 pm33 cd33 ct33 oc34 kV34 dc34 pm34 cd34 ct34:Value}
  (a1:PySem.W.nsIn K mainGlobals "is_number" = some (some (.ref f1))) (l1:K.lookup f1=some ⟨oc1,od1, .func (fo "is_number" (top 8) kV1 dc1 pm1 an1 cd1 ct1),sl1⟩) (c1:PySem.W.codeIn K cd1 "is_number" = true) (k1:PySem.W.keepIn K (.ref f1)=true)
  (a2:PySem.W.nsIn K mainGlobals "is_number_from" = some (some (.ref f2))) (l2:K.lookup f2=some ⟨oc2,od2, .func (fo "is_number_from" (top 9) kV2 dc2 pm2 an2 cd2 ct2),sl2⟩) (c2:PySem.W.codeIn K cd2 "is_number_from" = true) (k2:PySem.W.keepIn K (.ref f2)=true)
  (a3:PySem.W.nsIn K mainGlobals "is_row" = some (some (.ref f3))) (l3:K.lookup f3=some ⟨oc3,od3, .func (fo "is_row" (top 10) kV3 dc3 pm3 an3 cd3 ct3),sl3⟩) (c3:PySem.W.codeIn K cd3 "is_row" = true) (k3:PySem.W.keepIn K (.ref f3)=true)
  (a4:PySem.W.nsIn K mainGlobals "is_sign" = some (some (.ref f4))) (l4:K.lookup f4=some ⟨oc4,od4, .func (fo "is_sign" (top 11) kV4 dc4 pm4 an4 cd4 ct4),sl4⟩) (c4:PySem.W.codeIn K cd4 "is_sign" = true) (k4:PySem.W.keepIn K (.ref f4)=true)
  (a5:PySem.W.nsIn K mainGlobals "is_unlike_signs" = some (some (.ref f5))) (l5:K.lookup f5=some ⟨oc5,od5, .func (fo "is_unlike_signs" (top 12) kV5 dc5 pm5 an5 cd5 ct5),sl5⟩) (c5:PySem.W.codeIn K cd5 "is_unlike_signs" = true) (k5:PySem.W.keepIn K (.ref f5)=true)
  (a6:PySem.W.nsIn K mainGlobals "is_tongue" = some (some (.ref f6))) (l6:K.lookup f6=some ⟨oc6,od6, .func (fo "is_tongue" (top 14) kV6 dc6 pm6 an6 cd6 ct6),sl6⟩) (c6:PySem.W.codeIn K cd6 "is_tongue" = true) (k6:PySem.W.keepIn K (.ref f6)=true)
  (a7:PySem.W.nsIn K mainGlobals "is_table" = some (some (.ref f7))) (l7:K.lookup f7=some ⟨oc7,od7, .func (fo "is_table" (top 18) kV7 dc7 pm7 an7 cd7 ct7),sl7⟩) (c7:PySem.W.codeIn K cd7 "is_table" = true) (k7:PySem.W.keepIn K (.ref f7)=true)
  (a8:PySem.W.nsIn K mainGlobals "is_go" = some (some (.ref f8))) (l8:K.lookup f8=some ⟨oc8,od8, .func (fo "is_go" (top 19) kV8 dc8 pm8 an8 cd8 ct8),sl8⟩) (c8:PySem.W.codeIn K cd8 "is_go" = true) (k8:PySem.W.keepIn K (.ref f8)=true)
  (a9:PySem.W.nsIn K mainGlobals "are_kinds" = some (some (.ref f9))) (l9:K.lookup f9=some ⟨oc9,od9, .func (fo "are_kinds" (top 20) kV9 dc9 pm9 an9 cd9 ct9),sl9⟩) (c9:PySem.W.codeIn K cd9 "are_kinds" = true) (k9:PySem.W.keepIn K (.ref f9)=true)
  (a10:PySem.W.nsIn K mainGlobals "is_all_led_to" = some (some (.ref f10))) (l10:K.lookup f10=some ⟨oc10,od10, .func (fo "is_all_led_to" (top 21) kV10 dc10 pm10 an10 cd10 ct10),sl10⟩) (c10:PySem.W.codeIn K cd10 "is_all_led_to" = true) (k10:PySem.W.keepIn K (.ref f10)=true)
  (a11:PySem.W.nsIn K mainGlobals "rooms_led_to" = some (some (.ref f11))) (l11:K.lookup f11=some ⟨oc11,od11, .func (fo "rooms_led_to" (top 22) kV11 dc11 pm11 an11 cd11 ct11),sl11⟩) (c11:PySem.W.codeIn K cd11 "rooms_led_to" = true) (k11:PySem.W.keepIn K (.ref f11)=true)
  (a12:PySem.W.nsIn K mainGlobals "looked_table" = some (some (.ref f12))) (l12:K.lookup f12=some ⟨oc12,od12, .func (fo "looked_table" (top 23) kV12 dc12 pm12 an12 cd12 ct12),sl12⟩) (c12:PySem.W.codeIn K cd12 "looked_table" = true) (k12:PySem.W.keepIn K (.ref f12)=true)
  (a13:PySem.W.nsIn K mainGlobals "_law_hand" = some (some (.ref f13))) (l13:K.lookup f13=some ⟨oc13,od13, .func (fo "_law_hand" (top 25) kV13 dc13 pm13 an13 cd13 ct13),sl13⟩) (c13:PySem.W.codeIn K cd13 "_law_hand" = true) (k13:PySem.W.keepIn K (.ref f13)=true)
  (a14:PySem.W.nsIn K mainGlobals "_law_take" = some (some (.ref f14))) (l14:K.lookup f14=some ⟨oc14,od14, .func (fo "_law_take" (top 26) kV14 dc14 pm14 an14 cd14 ct14),sl14⟩) (c14:PySem.W.codeIn K cd14 "_law_take" = true) (k14:PySem.W.keepIn K (.ref f14)=true)
  (a15:PySem.W.nsIn K mainGlobals "_law_signs" = some (some (.ref f15))) (l15:K.lookup f15=some ⟨oc15,od15, .func (fo "_law_signs" (top 27) kV15 dc15 pm15 an15 cd15 ct15),sl15⟩) (c15:PySem.W.codeIn K cd15 "_law_signs" = true) (k15:PySem.W.keepIn K (.ref f15)=true)
  (a16:PySem.W.nsIn K mainGlobals "_law_tongue" = some (some (.ref f16))) (l16:K.lookup f16=some ⟨oc16,od16, .func (fo "_law_tongue" (top 28) kV16 dc16 pm16 an16 cd16 ct16),sl16⟩) (c16:PySem.W.codeIn K cd16 "_law_tongue" = true) (k16:PySem.W.keepIn K (.ref f16)=true)
  (a17:PySem.W.nsIn K mainGlobals "_law_goes" = some (some (.ref f17))) (l17:K.lookup f17=some ⟨oc17,od17, .func (fo "_law_goes" (top 29) kV17 dc17 pm17 an17 cd17 ct17),sl17⟩) (c17:PySem.W.codeIn K cd17 "_law_goes" = true) (k17:PySem.W.keepIn K (.ref f17)=true)
  (a18:PySem.W.nsIn K mainGlobals "_law_kinds" = some (some (.ref f18))) (l18:K.lookup f18=some ⟨oc18,od18, .func (fo "_law_kinds" (top 30) kV18 dc18 pm18 an18 cd18 ct18),sl18⟩) (c18:PySem.W.codeIn K cd18 "_law_kinds" = true) (k18:PySem.W.keepIn K (.ref f18)=true)
  (a19:PySem.W.nsIn K mainGlobals "_law_shuffled" = some (some (.ref f19))) (l19:K.lookup f19=some ⟨oc19,od19, .func (fo "_law_shuffled" (top 31) kV19 dc19 pm19 an19 cd19 ct19),sl19⟩) (c19:PySem.W.codeIn K cd19 "_law_shuffled" = true) (k19:PySem.W.keepIn K (.ref f19)=true)
  (a20:PySem.W.nsIn K mainGlobals "_law_table" = some (some (.ref f20))) (l20:K.lookup f20=some ⟨oc20,od20, .func (fo "_law_table" (top 32) kV20 dc20 pm20 an20 cd20 ct20),sl20⟩) (c20:PySem.W.codeIn K cd20 "_law_table" = true) (k20:PySem.W.keepIn K (.ref f20)=true)
  (a21:PySem.W.nsIn K mainGlobals "_law_number" = some (some (.ref f21))) (l21:K.lookup f21=some ⟨oc21,od21, .func (fo "_law_number" (top 33) kV21 dc21 pm21 an21 cd21 ct21),sl21⟩) (c21:PySem.W.codeIn K cd21 "_law_number" = true) (k21:PySem.W.keepIn K (.ref f21)=true)
  (a22:PySem.W.nsIn K mainGlobals "_law_is_row" = some (some (.ref f22))) (l22:K.lookup f22=some ⟨oc22,od22, .func (fo "_law_is_row" (top 34) kV22 dc22 pm22 an22 cd22 ct22),sl22⟩) (c22:PySem.W.codeIn K cd22 "_law_is_row" = true) (k22:PySem.W.keepIn K (.ref f22)=true)
  (a23:PySem.W.nsIn K mainGlobals "_law_is_tongue" = some (some (.ref f23))) (l23:K.lookup f23=some ⟨oc23,od23, .func (fo "_law_is_tongue" (top 35) kV23 dc23 pm23 an23 cd23 ct23),sl23⟩) (c23:PySem.W.codeIn K cd23 "_law_is_tongue" = true) (k23:PySem.W.keepIn K (.ref f23)=true)
  (a24:PySem.W.nsIn K mainGlobals "_law_met" = some (some (.ref f24))) (l24:K.lookup f24=some ⟨oc24,od24, .func (fo "_law_met" (top 36) kV24 dc24 pm24 an24 cd24 ct24),sl24⟩) (c24:PySem.W.codeIn K cd24 "_law_met" = true) (k24:PySem.W.keepIn K (.ref f24)=true)
  (a25:PySem.W.nsIn K mainGlobals "_law_due" = some (some (.ref f25))) (l25:K.lookup f25=some ⟨oc25,od25, .func (fo "_law_due" (top 37) kV25 dc25 pm25 an25 cd25 ct25),sl25⟩) (c25:PySem.W.codeIn K cd25 "_law_due" = true) (k25:PySem.W.keepIn K (.ref f25)=true)
  (a26:PySem.W.nsIn K mainGlobals "_law_thing" = some (some (.ref f26))) (l26:K.lookup f26=some ⟨oc26,od26, .func (fo "_law_thing" (top 38) kV26 dc26 pm26 an26 cd26 ct26),sl26⟩) (c26:PySem.W.codeIn K cd26 "_law_thing" = true) (k26:PySem.W.keepIn K (.ref f26)=true)
  (a27:PySem.W.nsIn K mainGlobals "_law_with" = some (some (.ref f27))) (l27:K.lookup f27=some ⟨oc27,od27, .func (fo "_law_with" (top 39) kV27 dc27 pm27 an27 cd27 ct27),sl27⟩) (c27:PySem.W.codeIn K cd27 "_law_with" = true) (k27:PySem.W.keepIn K (.ref f27)=true)
  (a28:PySem.W.nsIn K mainGlobals "_law_spoilt_row" = some (some (.ref f28))) (l28:K.lookup f28=some ⟨oc28,od28, .func (fo "_law_spoilt_row" (top 40) kV28 dc28 pm28 an28 cd28 ct28),sl28⟩) (c28:PySem.W.codeIn K cd28 "_law_spoilt_row" = true) (k28:PySem.W.keepIn K (.ref f28)=true)
  (a29:PySem.W.nsIn K mainGlobals "_law_spoilt_part" = some (some (.ref f29))) (l29:K.lookup f29=some ⟨oc29,od29, .func (fo "_law_spoilt_part" (top 41) kV29 dc29 pm29 an29 cd29 ct29),sl29⟩) (c29:PySem.W.codeIn K cd29 "_law_spoilt_part" = true) (k29:PySem.W.keepIn K (.ref f29)=true)
  (a30:PySem.W.nsIn K mainGlobals "_law_spoilt" = some (some (.ref f30))) (l30:K.lookup f30=some ⟨oc30,od30, .func (fo "_law_spoilt" (top 42) kV30 dc30 pm30 an30 cd30 ct30),sl30⟩) (c30:PySem.W.codeIn K cd30 "_law_spoilt" = true) (k30:PySem.W.keepIn K (.ref f30)=true)
  (a31:PySem.W.nsIn K mainGlobals "_law_refused" = some (some (.ref f31))) (l31:K.lookup f31=some ⟨oc31,od31, .func (fo "_law_refused" (top 43) kV31 dc31 pm31 an31 cd31 ct31),sl31⟩) (c31:PySem.W.codeIn K cd31 "_law_refused" = true) (k31:PySem.W.keepIn K (.ref f31)=true)
  (a32:PySem.W.nsIn K mainGlobals "_law_alike" = some (some (.ref f32))) (l32:K.lookup f32=some ⟨oc32,od32, .func (fo "_law_alike" (top 44) kV32 dc32 pm32 an32 cd32 ct32),sl32⟩) (c32:PySem.W.codeIn K cd32 "_law_alike" = true) (k32:PySem.W.keepIn K (.ref f32)=true)
  (a33:PySem.W.nsIn K mainGlobals "_law_asked" = some (some (.ref f33))) (l33:K.lookup f33=some ⟨oc33,od33, .func (fo "_law_asked" (top 45) kV33 dc33 pm33 an33 cd33 ct33),sl33⟩) (c33:PySem.W.codeIn K cd33 "_law_asked" = true) (k33:PySem.W.keepIn K (.ref f33)=true)
  (a34:PySem.W.nsIn K mainGlobals "law" = some (some (.ref f34))) (l34:K.lookup f34=some ⟨oc34,od34, .func (fo "law" (top 46) kV34 dc34 pm34 an34 cd34 ct34),sl34⟩) (c34:PySem.W.codeIn K cd34 "law" = true) (k34:PySem.W.keepIn K (.ref f34)=true)
  {y_NoTable y_ReachError y_Closed y_NoBook y_NoModes y_NoText:Addr}
  (xg_NoTable:PySem.W.nsIn K mainGlobals "NoTable" = some (some (.ref y_NoTable)))
  (xg_ReachError:PySem.W.nsIn K mainGlobals "ReachError" = some (some (.ref y_ReachError)))
  (xg_Closed:PySem.W.nsIn K mainGlobals "Closed" = some (some (.ref y_Closed)))
  (xg_NoBook:PySem.W.nsIn K mainGlobals "NoBook" = some (some (.ref y_NoBook)))
  (xg_NoModes:PySem.W.nsIn K mainGlobals "NoModes" = some (some (.ref y_NoModes)))
  (xg_NoText:PySem.W.nsIn K mainGlobals "NoText" = some (some (.ref y_NoText)))
  (xc_NoTable:XCls K y_NoTable)
  (xk_NoTable:XKit K y_NoTable)
  (xe_NoTable_ReachError:PySem.W.exmOne K (.ref y_NoTable) (.ref y_ReachError)=some true)
  (xi_NoTable_ValueError:PySem.W.kitOne K (.ref y_NoTable) (.type "ValueError")=some true)
  (xi_NoTable_NoTable:PySem.W.kitOne K (.ref y_NoTable) (.ref y_NoTable)=some true)
  (xi_NoTable_Closed_NoBook_NoModes_NoText:PySem.W.kitAny K (.ref y_NoTable) [.ref y_Closed, .ref y_NoBook, .ref y_NoModes, .ref y_NoText]=some false)
  (z1:PySem.W.nsIn K mainGlobals "ValueError" = some none) (z2:PySem.W.nsIn K mainGlobals "abs" = some none) (z3:PySem.W.nsIn K mainGlobals "all" = some none) (z4:PySem.W.nsIn K mainGlobals "bool" = some none) (z5:PySem.W.nsIn K mainGlobals "enumerate" = some none) (z6:PySem.W.nsIn K mainGlobals "int" = some none) (z7:PySem.W.nsIn K mainGlobals "isinstance" = some none) (z8:PySem.W.nsIn K mainGlobals "len" = some none) (z9:PySem.W.nsIn K mainGlobals "list" = some none) (z10:PySem.W.nsIn K mainGlobals "min" = some none) (z11:PySem.W.nsIn K mainGlobals "ord" = some none) (z12:PySem.W.nsIn K mainGlobals "range" = some none) (z13:PySem.W.nsIn K mainGlobals "repr" = some none) (z14:PySem.W.nsIn K mainGlobals "set" = some none) (z15:PySem.W.nsIn K mainGlobals "str" = some none) (z16:PySem.W.nsIn K mainGlobals "tuple" = some none) (z17:PySem.W.nsIn K mainGlobals "zip" = some none) {ty1:Tok} (y1:PySem.W.nsIn K mainGlobals "LAST_KIND" = some (some (.int 5 ty1))) {ty2:Tok} (y2:PySem.W.nsIn K mainGlobals "MOST_ROOMS" = some (some (.int 32 ty2))) :
  ∃ fd:FuncData,(∀ (s:Shared) (v:Value),BindsTo s fd ⟨[v],[]⟩ [("_law_script",v)])∧∀ base:Heap,K.In base→base.Ns mainGlobals mg→FnOk l.prog w K mg base CX0 8 fa fd ["_law_script"] (ajj K):=by
 have e:=hfa.symm.trans (PySem.W.mg_of X G a34)
 cases e
 have F1:=km (st:=top 8) l1 c1 k1
 have b1:=F1.binds (ps:=["thing"]) fun _ _ _ _ _ _ us hl=>match us,hl with | [_],_=>rfl
 have F2:=km (st:=top 9) l2 c2 k2
 have b2:=F2.binds (ps:=["thing", "low", "high"]) fun _ _ _ _ _ _ us hl=>match us,hl with | [_,_,_],_=>rfl
 have F3:=km (st:=top 10) l3 c3 k3
 have b3:=F3.binds (ps:=["thing", "low", "high"]) fun _ _ _ _ _ _ us hl=>match us,hl with | [_,_,_],_=>rfl
 have F4:=km (st:=top 11) l4 c4 k4
 have b4:=F4.binds (ps:=["thing"]) fun _ _ _ _ _ _ us hl=>match us,hl with | [_],_=>rfl
 have F5:=km (st:=top 12) l5 c5 k5
 have b5:=F5.binds (ps:=["thing"]) fun _ _ _ _ _ _ us hl=>match us,hl with | [_],_=>rfl
 have F6:=km (st:=top 14) l6 c6 k6
 have b6:=F6.binds (ps:=["thing"]) fun _ _ _ _ _ _ us hl=>match us,hl with | [_],_=>rfl
 have F7:=km (st:=top 18) l7 c7 k7
 have b7:=F7.binds (ps:=["thing"]) fun _ _ _ _ _ _ us hl=>match us,hl with | [_],_=>rfl
 have F8:=km (st:=top 19) l8 c8 k8
 have b8:=F8.binds (ps:=["thing", "signs", "rooms"]) fun _ _ _ _ _ _ us hl=>match us,hl with | [_,_,_],_=>rfl
 have F9:=km (st:=top 20) l9 c9 k9
 have b9:=F9.binds (ps:=["thing", "rooms"]) fun _ _ _ _ _ _ us hl=>match us,hl with | [_,_],_=>rfl
 have F10:=km (st:=top 21) l10 c10 k10
 have b10:=F10.binds (ps:=["goes"]) fun _ _ _ _ _ _ us hl=>match us,hl with | [_],_=>rfl
 have F11:=km (st:=top 22) l11 c11 k11
 have b11:=F11.binds (ps:=["goes"]) fun _ _ _ _ _ _ us hl=>match us,hl with | [_],_=>rfl
 have F12:=km (st:=top 23) l12 c12 k12
 have b12:=F12.binds (ps:=["thing"]) fun _ _ _ _ _ _ us hl=>match us,hl with | [_],_=>rfl
 have F13:=km (st:=top 25) l13 c13 k13
 have b13:=F13.binds (ps:=["_law_script"]) fun _ _ _ _ _ _ us hl=>match us,hl with | [_],_=>rfl
 have F14:=km (st:=top 26) l14 c14 k14
 have b14:=F14.binds (ps:=["_law_hand_here", "_law_many"]) fun _ _ _ _ _ _ us hl=>match us,hl with | [_,_],_=>rfl
 have F15:=km (st:=top 27) l15 c15 k15
 have b15:=F15.binds (ps:=[]) fun _ _ _ _ _ _ us hl=>match us,hl with | [],_=>rfl
 have F16:=km (st:=top 28) l16 c16 k16
 have b16:=F16.binds (ps:=["_law_hand_here"]) fun _ _ _ _ _ _ us hl=>match us,hl with | [_],_=>rfl
 have F17:=km (st:=top 29) l17 c17 k17
 have b17:=F17.binds (ps:=["_law_hand_here", "_law_size", "_law_rooms"]) fun _ _ _ _ _ _ us hl=>match us,hl with | [_,_,_],_=>rfl
 have F18:=km (st:=top 30) l18 c18 k18
 have b18:=F18.binds (ps:=["_law_hand_here", "_law_rooms"]) fun _ _ _ _ _ _ us hl=>match us,hl with | [_,_],_=>rfl
 have F19:=km (st:=top 31) l19 c19 k19
 have b19:=F19.binds (ps:=["_law_hand_here", "_law_goes_here", "_law_kinds_here"]) fun _ _ _ _ _ _ us hl=>match us,hl with | [_,_,_],_=>rfl
 have F20:=km (st:=top 32) l20 c20 k20
 have b20:=F20.binds (ps:=["_law_hand_here"]) fun _ _ _ _ _ _ us hl=>match us,hl with | [_],_=>rfl
 have F21:=km (st:=top 33) l21 c21 k21
 have b21:=F21.binds (ps:=["_law_thing_here", "_law_low", "_law_high"]) fun _ _ _ _ _ _ us hl=>match us,hl with | [_,_,_],_=>rfl
 have F22:=km (st:=top 34) l22 c22 k22
 have b22:=F22.binds (ps:=["_law_thing_here", "_law_size", "_law_low", "_law_high"]) fun _ _ _ _ _ _ us hl=>match us,hl with | [_,_,_,_],_=>rfl
 have F23:=km (st:=top 35) l23 c23 k23
 have b23:=F23.binds (ps:=["_law_thing_here"]) fun _ _ _ _ _ _ us hl=>match us,hl with | [_],_=>rfl
 have F24:=km (st:=top 36) l24 c24 k24
 have b24:=F24.binds (ps:=["_law_goes_here"]) fun _ _ _ _ _ _ us hl=>match us,hl with | [_],_=>rfl
 have F25:=km (st:=top 37) l25 c25 k25
 have b25:=F25.binds (ps:=["_law_thing_here"]) fun _ _ _ _ _ _ us hl=>match us,hl with | [_],_=>rfl
 have F26:=km (st:=top 38) l26 c26 k26
 have b26:=F26.binds (ps:=["_law_which"]) fun _ _ _ _ _ _ us hl=>match us,hl with | [_],_=>rfl
 have F27:=km (st:=top 39) l27 c27 k27
 have b27:=F27.binds (ps:=["_law_row", "_law_at", "_law_thing_here"]) fun _ _ _ _ _ _ us hl=>match us,hl with | [_,_,_],_=>rfl
 have F28:=km (st:=top 40) l28 c28 k28
 have b28:=F28.binds (ps:=["_law_table_here", "_law_which", "_law_where", "_law_what"]) fun _ _ _ _ _ _ us hl=>match us,hl with | [_,_,_,_],_=>rfl
 have F29:=km (st:=top 41) l29 c29 k29
 have b29:=F29.binds (ps:=["_law_table_here", "_law_which", "_law_where", "_law_what"]) fun _ _ _ _ _ _ us hl=>match us,hl with | [_,_,_,_],_=>rfl
 have F30:=km (st:=top 42) l30 c30 k30
 have b30:=F30.binds (ps:=["_law_table_here", "_law_which", "_law_where", "_law_what"]) fun _ _ _ _ _ _ us hl=>match us,hl with | [_,_,_,_],_=>rfl
 have F31:=km (st:=top 43) l31 c31 k31
 have b31:=F31.binds (ps:=["_law_thing_here"]) fun _ _ _ _ _ _ us hl=>match us,hl with | [_],_=>rfl
 have F32:=km (st:=top 44) l32 c32 k32
 have b32:=F32.binds (ps:=["_law_one", "_law_other"]) fun _ _ _ _ _ _ us hl=>match us,hl with | [_,_],_=>rfl
 have F33:=km (st:=top 45) l33 c33 k33
 have b33:=F33.binds (ps:=["_law_thing_here"]) fun _ _ _ _ _ _ us hl=>match us,hl with | [_],_=>rfl
 have F34:=km (st:=top 46) l34 c34 k34
 have b34:=F34.binds (ps:=["_law_script"]) fun _ _ _ _ _ _ us hl=>match us,hl with | [_],_=>rfl
 have M:Nm mg:=⟨PySem.W.mg_none_of X G z1,PySem.W.mg_none_of X G z2,PySem.W.mg_none_of X G z3,PySem.W.mg_none_of X G z4,PySem.W.mg_none_of X G z5,PySem.W.mg_none_of X G z6,PySem.W.mg_none_of X G z7,PySem.W.mg_none_of X G z8,PySem.W.mg_none_of X G z9,PySem.W.mg_none_of X G z10,PySem.W.mg_none_of X G z11,PySem.W.mg_none_of X G z12,PySem.W.mg_none_of X G z13,PySem.W.mg_none_of X G z14,PySem.W.mg_none_of X G z15,PySem.W.mg_none_of X G z16,PySem.W.mg_none_of X G z17⟩
 have C:Cn mg:=⟨⟨_,PySem.W.mg_of X G y1⟩,⟨_,PySem.W.mg_of X G y2⟩⟩
 have Z:Xn K mg y_NoTable y_ReachError y_Closed y_NoBook y_NoModes y_NoText:=⟨PySem.W.mg_of X G xg_NoTable,PySem.W.mg_of X G xg_ReachError,PySem.W.mg_of X G xg_Closed,PySem.W.mg_of X G xg_NoBook,PySem.W.mg_of X G xg_NoModes,PySem.W.mg_of X G xg_NoText,xg_NoTable,xc_NoTable,xk_NoTable,xe_NoTable_ReachError,xi_NoTable_ValueError,xi_NoTable_NoTable,xi_NoTable_Closed_NoBook_NoModes_NoText⟩
 refine ⟨PySem.W.fnOf "law" "law" (a3w (top 46)) (g8 (top 46)) (au (top 46)) .none kV34 dc34 pm34 an34 cd34 ct34,fun s v=>.of_eq rfl,fun base _ _=>?_⟩
 have D_0:Dn l.prog w K mg base 1 "is_number" ["thing"] (mz K 1 (K20.v4)) _ _:=⟨lz F1 awa (m_0 M),PySem.W.mg_of X G a1,k1,b1⟩
 have D_1:Dn l.prog w K mg base 2 "is_number_from" ["thing", "low", "high"] (mz K 3 (K20.dg)) _ _:=⟨lz F2 awb (m_1 D_0 (by decide)),PySem.W.mg_of X G a2,k2,b2⟩
 have D_2:Dn l.prog w K mg base 1 "is_row" ["thing", "low", "high"] (mz K 3 (K20.iw)) _ _:=⟨lz F3 awc (m_2 M),PySem.W.mg_of X G a3,k3,b3⟩
 have D_3:Dn l.prog w K mg base 1 "is_sign" ["thing"] (mz K 1 (K20.ur)) _ _:=⟨lz F4 awd (m_3 M),PySem.W.mg_of X G a4,k4,b4⟩
 have D_4:Dn l.prog w K mg base 2 "is_unlike_signs" ["thing"] (mz K 1 (K20.jw)) _ _:=⟨lz F5 awe (m_4 M D_3 (by decide)),PySem.W.mg_of X G a5,k5,b5⟩
 have D_5:Dn l.prog w K mg base 3 "is_tongue" ["thing"] (mz K 1 (K20.mq)) _ _:=⟨lz F6 awf (m_5 D_4 (by decide)),PySem.W.mg_of X G a6,k6,b6⟩
 have D_8:Dn l.prog w K mg base 3 "are_kinds" ["thing", "rooms"] (mz K 2 (K20.mj)) _ _:=⟨lz F9 awi (m_8 M C D_1 (by decide) D_2 (by decide)),PySem.W.mg_of X G a9,k9,b9⟩
 have D_10:Dn l.prog w K mg base 1 "rooms_led_to" ["goes"] (mz K 1 (K20.ou)) _ _:=⟨lz F11 aqw (axn M),PySem.W.mg_of X G a11,k11,b11⟩
 have D_9:Dn l.prog w K mg base 2 "is_all_led_to" ["goes"] (mz K 1 (K20.jn)) _ _:=⟨lz F10 awj (m_9 M D_10 (by decide)),PySem.W.mg_of X G a10,k10,b10⟩
 have D_7:Dn l.prog w K mg base 3 "is_go" ["thing", "signs", "rooms"] (mz K 3 (K20.zy)) _ _:=⟨lz F8 awh (m_7 M D_1 (by decide) D_2 (by decide)),PySem.W.mg_of X G a8,k8,b8⟩
 have D_6:Dn l.prog w K mg base 4 "is_table" ["thing"] (mz K 1 (K20.jx)) _ _:=⟨lz F7 awg (m_6 M C D_8 (by decide) D_9 (by decide) D_7 (by decide) D_2 (by decide) D_5 (by decide)),PySem.W.mg_of X G a7,k7,b7⟩
 have D_11:DnX l.prog w K mg base 5 "looked_table" ["thing"] (spX K mg 1 (K20.fj)) _ _:=⟨amt F12 aqx (axo Z D_6 (by decide)),PySem.W.mg_of X G a12,k12,b12⟩
 have D_12:Dn l.prog w K mg base 1 "_law_hand" ["_law_script"] (mz K 1 (HND.v5)) _ _:=⟨lz F13 aqy (axp M),PySem.W.mg_of X G a13,k13,b13⟩
 have D_13:Dn l.prog w K mg base 1 "_law_take" ["_law_hand_here", "_law_many"] (mz K 2 (HND.ao)) _ _:=⟨lz F14 aqz (axq M),PySem.W.mg_of X G a14,k14,b14⟩
 have D_14:Dn l.prog w K mg base 1 "_law_signs" [] (mz K 0 (K20.dh)) _ _:=⟨lz F15 ar0 (axr ),PySem.W.mg_of X G a15,k15,b15⟩
 have D_15:Dn l.prog w K mg base 2 "_law_tongue" ["_law_hand_here"] (mz K 1 (K20.ju)) _ _:=⟨lz F16 ar5 (axs M D_14 (by decide) D_13 (by decide)),PySem.W.mg_of X G a16,k16,b16⟩
 have D_16:Dn l.prog w K mg base 2 "_law_goes" ["_law_hand_here", "_law_size", "_law_rooms"] (mz K 3 (HND.qe)) _ _:=⟨lz F17 ar6 (axt M D_13 (by decide)),PySem.W.mg_of X G a17,k17,b17⟩
 have D_17:Dn l.prog w K mg base 2 "_law_kinds" ["_law_hand_here", "_law_rooms"] (mz K 2 (HND.m9)) _ _:=⟨lz F18 ar7 (axu M D_13 (by decide)),PySem.W.mg_of X G a18,k18,b18⟩
 have D_18:Dn l.prog w K mg base 2 "_law_shuffled" ["_law_hand_here", "_law_goes_here", "_law_kinds_here"] (mz K 3 (HND.jm)) _ _:=⟨lz F19 ar8 (axv M D_13 (by decide)),PySem.W.mg_of X G a19,k19,b19⟩
 have D_19:Dn l.prog w K mg base 3 "_law_table" ["_law_hand_here"] (mz K 1 (K20.oh)) _ _:=⟨lz F20 ar9 (axw M D_16 (by decide) D_17 (by decide) D_18 (by decide) D_13 (by decide) D_15 (by decide)),PySem.W.mg_of X G a20,k20,b20⟩
 have D_20:Dn l.prog w K mg base 1 "_law_number" ["_law_thing_here", "_law_low", "_law_high"] (mz K 3 (K20.dz)) _ _:=⟨lz F21 ara (axx M),PySem.W.mg_of X G a21,k21,b21⟩
 have D_21:Dn l.prog w K mg base 2 "_law_is_row" ["_law_thing_here", "_law_size", "_law_low", "_law_high"] (mz K 4 (K20.j5)) _ _:=⟨lz F22 arb (axy M D_20 (by decide)),PySem.W.mg_of X G a22,k22,b22⟩
 have D_22:Dn l.prog w K mg base 2 "_law_is_tongue" ["_law_thing_here"] (mz K 1 (K20.ie)) _ _:=⟨lz F23 arc (axz M D_14 (by decide)),PySem.W.mg_of X G a23,k23,b23⟩
 have D_23:Dn l.prog w K mg base 1 "_law_met" ["_law_goes_here"] (mz K 1 (K20.qg)) _ _:=⟨lz F24 ard (ay0 M),PySem.W.mg_of X G a24,k24,b24⟩
 have D_24:Dn l.prog w K mg base 3 "_law_due" ["_law_thing_here"] (mz K 1 (K20.rn)) _ _:=⟨lz F25 arf (ay1 M D_21 (by decide) D_22 (by decide) D_23 (by decide)),PySem.W.mg_of X G a25,k25,b25⟩
 have D_25:Dn l.prog w K mg base 1 "_law_thing" ["_law_which"] (mz K 1 (K20.fu)) _ _:=⟨lz F26 arh (ay2 M),PySem.W.mg_of X G a26,k26,b26⟩
 have D_26:Dn l.prog w K mg base 1 "_law_with" ["_law_row", "_law_at", "_law_thing_here"] (mz K 3 (K20.d9)) _ _:=⟨lz F27 ari (ay3 ),PySem.W.mg_of X G a27,k27,b27⟩
 have D_27:Dn l.prog w K mg base 2 "_law_spoilt_row" ["_law_table_here", "_law_which", "_law_where", "_law_what"] (mz K 4 (K20.jb)) _ _:=⟨lz F28 arj (ay4 M D_25 (by decide) D_26 (by decide)),PySem.W.mg_of X G a28,k28,b28⟩
 have D_28:Dn l.prog w K mg base 2 "_law_spoilt_part" ["_law_table_here", "_law_which", "_law_where", "_law_what"] (mz K 4 (K20.iy)) _ _:=⟨lz F29 ark (ay5 M D_25 (by decide) D_26 (by decide)),PySem.W.mg_of X G a29,k29,b29⟩
 have D_29:Dn l.prog w K mg base 3 "_law_spoilt" ["_law_table_here", "_law_which", "_law_where", "_law_what"] (mz K 4 (K20.rz)) _ _:=⟨lz F30 arl (ay6 M D_28 (by decide) D_27 (by decide) D_25 (by decide) D_26 (by decide)),PySem.W.mg_of X G a30,k30,b30⟩
 have D_30:Dn l.prog w K mg base 6 "_law_refused" ["_law_thing_here"] (mz K 1 (K20.jz)) _ _:=⟨lz F31 arn (ay7 M Z D_11 (by decide)),PySem.W.mg_of X G a31,k31,b31⟩
 have D_31:=atk (P:=l.prog) (w:=w) (base:=base) F32 (PySem.W.mg_of X G a32) k32 b32 M D_20 4
 have D_32:Dn l.prog w K mg base 7 "_law_asked" ["_law_thing_here"] (mz K 1 (K20.p6)) _ _:=⟨lz F33 arp (ay9 M D_31 (by decide) D_24 (by decide) D_30 (by decide) D_6 (by decide) D_11 (by decide)),PySem.W.mg_of X G a33,k33,b33⟩
 have D_33:Dn l.prog w K mg base 8 "law" ["_law_script"] (mz K 1 (K20.aji)) _ _:=⟨lz F34 arq (aya D_32 (by decide) D_12 (by decide) D_29 (by decide) D_19 (by decide) D_13 (by decide)),PySem.W.mg_of X G a34,k34,b34⟩
 exact D_33.ok.imp atl
theorem walk {l:PySem.W.OpenLaw} {q:Program} {loose:List Str} {XP:(Str→Option Value)→Heap→Prop} {YP:World→Heap→Prop} {d:DefRec} {K:Params→PySem.W.Frag} (hn:l.most=some 63) (hdf:d.params.defaults=[])
  (hY:∀ (w:World) (h:Heap),YP w h→(K w.params).In h)
  (F:∀ (w:World) (mg:Str→Option Value) (fa:Addr) (h:Heap),(K w.params).In h→h.Ns mainGlobals mg→mg d.name=some (.ref fa) →
   ∃ fd:FuncData,(∀ (s:Shared) (u:Value),BindsTo s fd ⟨[u],[]⟩ [("_law_script",u)])∧∀ base:Heap,(K w.params).In base→base.Ns mainGlobals mg→FnOk l.prog w (K w.params) mg base CX0 8 fa fd ["_law_script"] (ajj (K w.params))) :
  PySem.W.WalkO q loose XP YP l.row.toRowW d [] (fun f vs=>PySem.call f vs) :=
 L2.ald (n:=63) (k:=8) (x := "_law_script") (CX:=fun _=>CX0) (sp:=fun w=>ajj (K w.params)) hn (by decide) hdf ⟨rfl,by decide,by decide,rfl⟩ hY F (fun _ _ a ns hl hO hS=>⟨a,ns,rfl,atm hO hS,hl,fun _=>rfl⟩) fun _ _ _ _ _ z=>z
end K20
open PySem PySem.W PyProof.Rows
theorem K20.said:PySem.Challenge.rw_nearreach_k20_tables_of_anything.wellSaid=true:=by kernel_rfl
noncomputable def K20.hq:Program:=view PySem.Challenge.pw_nearreach_k20_tables_of_anything [PySem.Challenge.pw_nearreach_k20_tables_of_anything.main.body.length - 1]
noncomputable def K20.hl:List Str:=PySem.Challenge.pw_nearreach_k20_tables_of_anything.boundNames
local macro_rules | `(tactic| o_head $H) => `(tactic| refine PySem.W.holds_open (q:=K20.hq) (loose:=K20.hl) (Xt:=fun _=>true) (XP:=fun _ _=>True) (Yf:=Hook.obs $H) (Ya:=Hook.val $H) (YP:=Hook.says $H) (N:=20000) ?hl (Hook.of $H) (Hook.keeps $H) (fun _ _=>trivial) (fun _ _ _ _ _=>trivial) (by rfl) (by rfl) (by rfl) (fun _ _=>recFacts_nil rfl) (by rfl) (by assumption) (by decide +kernel) ⟨rfl,rfl,rfl,rfl,rfl,by decide +kernel⟩ ?hw ?hc)
set_option maxRecDepth 100000 in
set_option maxHeartbeats 0 in
theorem PySem.Challenge.cw_nearreach_k20_tables_of_anything_holds : PySem.Challenge.rw_nearreach_k20_tables_of_anything.Holds := by
 w_on;refine holds_law K20.said fun said=>?_;k_head
 (case hw=>w_witness2)
 (case hl=>intro w;kernel_rfl)
 k_fill
 refine K20.walk (l:=PySem.Challenge.rw_nearreach_k20_tables_of_anything) rfl rfl (fun w h Y=>PySem.W.kIn_of Y) ?F
 case F =>
  intro w mg fa h KX G hmg
  refine' K20.atn KX G hmg ?a1 ?l1 ?c1 ?k1 ?a2 ?l2 ?c2 ?k2 ?a3 ?l3 ?c3 ?k3 ?a4 ?l4 ?c4 ?k4 ?a5 ?l5 ?c5 ?k5 ?a6 ?l6 ?c6 ?k6 ?a7 ?l7 ?c7 ?k7 ?a8 ?l8 ?c8 ?k8 ?a9 ?l9 ?c9 ?k9 ?a10 ?l10 ?c10 ?k10 ?a11 ?l11 ?c11 ?k11 ?a12 ?l12 ?c12 ?k12 ?a13 ?l13 ?c13 ?k13 ?a14 ?l14 ?c14 ?k14 ?a15 ?l15 ?c15 ?k15 ?a16 ?l16 ?c16 ?k16 ?a17 ?l17 ?c17 ?k17 ?a18 ?l18 ?c18 ?k18 ?a19 ?l19 ?c19 ?k19 ?a20 ?l20 ?c20 ?k20 ?a21 ?l21 ?c21 ?k21 ?a22 ?l22 ?c22 ?k22 ?a23 ?l23 ?c23 ?k23 ?a24 ?l24 ?c24 ?k24 ?a25 ?l25 ?c25 ?k25 ?a26 ?l26 ?c26 ?k26 ?a27 ?l27 ?c27 ?k27 ?a28 ?l28 ?c28 ?k28 ?a29 ?l29 ?c29 ?k29 ?a30 ?l30 ?c30 ?k30 ?a31 ?l31 ?c31 ?k31 ?a32 ?l32 ?c32 ?k32 ?a33 ?l33 ?c33 ?k33 ?a34 ?l34 ?c34 ?k34 ?xg_NoTable ?xg_ReachError ?xg_Closed ?xg_NoBook ?xg_NoModes ?xg_NoText ?xc_NoTable ?xk_NoTable ?xe_NoTable_ReachError ?xi_NoTable_ValueError ?xi_NoTable_NoTable ?xi_NoTable_Closed_NoBook_NoModes_NoText ?z1 ?z2 ?z3 ?z4 ?z5 ?z6 ?z7 ?z8 ?z9 ?z10 ?z11 ?z12 ?z13 ?z14 ?z15 ?z16 ?z17 ?y1 ?y2
  (case a1=>k_is);(case l1=>k_is);(case c1=>k_is);(case k1=>k_is)
  (case a2=>k_is);(case l2=>k_is);(case c2=>k_is);(case k2=>k_is)
  (case a3=>k_is);(case l3=>k_is);(case c3=>k_is);(case k3=>k_is)
  (case a4=>k_is);(case l4=>k_is);(case c4=>k_is);(case k4=>k_is)
  (case a5=>k_is);(case l5=>k_is);(case c5=>k_is);(case k5=>k_is)
  (case a6=>k_is);(case l6=>k_is);(case c6=>k_is);(case k6=>k_is)
  (case a7=>k_is);(case l7=>k_is);(case c7=>k_is);(case k7=>k_is)
  (case a8=>k_is);(case l8=>k_is);(case c8=>k_is);(case k8=>k_is)
  (case a9=>k_is);(case l9=>k_is);(case c9=>k_is);(case k9=>k_is)
  (case a10=>k_is);(case l10=>k_is);(case c10=>k_is);(case k10=>k_is)
  (case a11=>k_is);(case l11=>k_is);(case c11=>k_is);(case k11=>k_is)
  (case a12=>k_is);(case l12=>k_is);(case c12=>k_is);(case k12=>k_is)
  (case a13=>k_is);(case l13=>k_is);(case c13=>k_is);(case k13=>k_is)
  (case a14=>k_is);(case l14=>k_is);(case c14=>k_is);(case k14=>k_is)
  (case a15=>k_is);(case l15=>k_is);(case c15=>k_is);(case k15=>k_is)
  (case a16=>k_is);(case l16=>k_is);(case c16=>k_is);(case k16=>k_is)
  (case a17=>k_is);(case l17=>k_is);(case c17=>k_is);(case k17=>k_is)
  (case a18=>k_is);(case l18=>k_is);(case c18=>k_is);(case k18=>k_is)
  (case a19=>k_is);(case l19=>k_is);(case c19=>k_is);(case k19=>k_is)
  (case a20=>k_is);(case l20=>k_is);(case c20=>k_is);(case k20=>k_is)
  (case a21=>k_is);(case l21=>k_is);(case c21=>k_is);(case k21=>k_is)
  (case a22=>k_is);(case l22=>k_is);(case c22=>k_is);(case k22=>k_is)
  (case a23=>k_is);(case l23=>k_is);(case c23=>k_is);(case k23=>k_is)
  (case a24=>k_is);(case l24=>k_is);(case c24=>k_is);(case k24=>k_is)
  (case a25=>k_is);(case l25=>k_is);(case c25=>k_is);(case k25=>k_is)
  (case a26=>k_is);(case l26=>k_is);(case c26=>k_is);(case k26=>k_is)
  (case a27=>k_is);(case l27=>k_is);(case c27=>k_is);(case k27=>k_is)
  (case a28=>k_is);(case l28=>k_is);(case c28=>k_is);(case k28=>k_is)
  (case a29=>k_is);(case l29=>k_is);(case c29=>k_is);(case k29=>k_is)
  (case a30=>k_is);(case l30=>k_is);(case c30=>k_is);(case k30=>k_is)
  (case a31=>k_is);(case l31=>k_is);(case c31=>k_is);(case k31=>k_is)
  (case a32=>k_is);(case l32=>k_is);(case c32=>k_is);(case k32=>k_is)
  (case a33=>k_is);(case l33=>k_is);(case c33=>k_is);(case k33=>k_is)
  (case a34=>k_is);(case l34=>k_is);(case c34=>k_is);(case k34=>k_is)
  (case xg_NoTable=>k_is)
  (case xg_ReachError=>k_is)
  (case xg_Closed=>k_is)
  (case xg_NoBook=>k_is)
  (case xg_NoModes=>k_is)
  (case xg_NoText=>k_is)
  (case xc_NoTable=>exact L2.anz (by kernel_rfl))
  (case xk_NoTable=>constructor<;>first | k_is | kernel_rfl)
  (case xe_NoTable_ReachError=>kernel_rfl)
  (case xi_NoTable_ValueError=>kernel_rfl)
  (case xi_NoTable_NoTable=>kernel_rfl)
  (case xi_NoTable_Closed_NoBook_NoModes_NoText=>kernel_rfl)
  (case z1=>k_is)
  (case z2=>k_is)
  (case z3=>k_is)
  (case z4=>k_is)
  (case z5=>k_is)
  (case z6=>k_is)
  (case z7=>k_is)
  (case z8=>k_is)
  (case z9=>k_is)
  (case z10=>k_is)
  (case z11=>k_is)
  (case z12=>k_is)
  (case z13=>k_is)
  (case z14=>k_is)
  (case z15=>k_is)
  (case z16=>k_is)
  (case z17=>k_is)
  (case y1=>k_is)
  (case y2=>k_is)
