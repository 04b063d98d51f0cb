import PyProof.Rows.All
import Wide.All
import OpenK.AllK
import Wide.FinOn
import Lean
import PyProof.EqAt
import PyProof.EqKinds
import PyProof.TupleCall
import PyProof.ListStr
import PyProof.TupleOfStr
import PyProof.ConsumeWalk
import PyProof.SliceStr2
import PyProof.CompUse
import PyProof.Rows.SetFrom
import PyProof.SetRoads
import PyProof.StrLawsIn
import PyProof.Rows.StrIndexOr
import PyProof.Rows.StrJoin2
import PyProof.Rows.SumAny
import PyProof.WalkInts
import PyProof.SeqI3
import PyProof.Draws
import PyProof.ZipIter
import PyProof.EnumMake
import Wide.Txt2
import PyProof.Rows.SortWalk
import PyProof.ListRange
import PyProof.Rows.Range3
import KE.KStateDown
import PyProof.ReprRoads
import PyProof.CallFns
import KE.KTryDeep
import PyProof.ExcBaseAll.ValueError
import KE.KTryMore
import KE.KIsNot
import PyProof.ExcAttrAll.ValueError
import PyProof.NsDelKeeps
import PyProof.WalksMore
import PyProof.Rows.StrSplit
import PySem.Challenge.RW_nearreach_k37_spots_there_and_back
set_option Elab.async false
set_option linter.all false
set_option maxRecDepth 100000
namespace L2
open PySem PySem.Spec PyProof.Rows
abbrev Key:=Sum Int Str
def ag0:Key->Value->Bool
 | .inl k,v=>Value.isInt k v
 | .inr x,v=>Value.isStrOf x v
def amn(w:World):Key->Int
 | .inl k=>hashInt k
 | .inr x=>hashStr w x
theorem j7:∀ {k:Key} {v:Value},ag0 k v=true->(∃ i t,k=Sum.inl i/\v=Value.int i t)\/(∃ x t,k=Sum.inr x/\v=Value.str x t)
 | .inl i,v,h=>by
  obtain ⟨t,e⟩:=Value.isInt_shape (k:=i) (v:=v) h;exact .inl ⟨i,t,rfl,e⟩
 | .inr x,v,h=>by
  obtain ⟨t,e⟩:=Value.isStrOf_shape (x:=x) (v:=v) h;exact .inr ⟨x,t,rfl,e⟩
theorem ag1(a b:Int):decide ((Sum.inl a:Key)=Sum.inl b)=(a == b):=by
 by_cases e:a=b
 ·subst e;simp
 ·have h:¬ (Sum.inl a:Key)=Sum.inl b:=λq=>e (Sum.inl.inj q);rw [decide_eq_false h];exact (beq_eq_false_iff_ne.mpr e).symm
theorem ag2(a b:Str):decide ((Sum.inr a:Key)=Sum.inr b)=decide (a=b):=by
 by_cases e:a=b
 ·subst e;simp
 ·have h:¬ (Sum.inr a:Key)=Sum.inr b:=λq=>e (Sum.inr.inj q);rw [decide_eq_false h,decide_eq_false e]
theorem ag3(a:Int)(b:Str):decide ((Sum.inl a:Key)=Sum.inr b)=false:=decide_eq_false (λq=>nomatch q)
theorem ag4(a:Str)(b:Int):decide ((Sum.inr a:Key)=Sum.inl b)=false:=decide_eq_false (λq=>nomatch q)
def zj(prog:Program)(w:World):PySem.KeyKind prog w Key where
 is:=ag0
 hash:=amn w
 inj:=λv a b ha hb=>by
  rcases j7 ha with ⟨i,t,rfl,rfl⟩ | ⟨x,t,rfl,rfl⟩
  ·rcases j7 hb with ⟨j,u,rfl,e⟩ | ⟨y,u,rfl,e⟩
   ·injection e with e1 _;rw [e1]
   ·exact nomatch e
  ·rcases j7 hb with ⟨j,u,rfl,e⟩ | ⟨y,u,rfl,e⟩
   ·exact nomatch e
   ·injection e with e1 _;rw [e1]
 byValue:=λk v h=>by
  rcases j7 h with ⟨i,t,rfl,rfl⟩ | ⟨x,t,rfl,rfl⟩<;>rfl
 pyHash:=λhv h=>by
  rcases j7 hv with ⟨i,t,rfl,rfl⟩ | ⟨x,t,rfl,rfl⟩
  ·exact wpAny_pyHash_int h
  ·exact wpAny_pyHash_str h
 eqBool:=λhu hv h=>by
  rcases j7 hu with ⟨i,t,rfl,rfl⟩ | ⟨x,t,rfl,rfl⟩
  ·rcases j7 hv with ⟨j,u,rfl,rfl⟩ | ⟨y,u,rfl,rfl⟩
   ·rw [ag1] at h;exact wpAny_eqBool_int h
   ·rw [ag3] at h;exact SeqAt.EqAt.int_str i t y u _ _ _ _ h
  ·rcases j7 hv with ⟨j,u,rfl,rfl⟩ | ⟨y,u,rfl,rfl⟩
   ·rw [ag4] at h;exact SeqAt.EqAt.str_int x t j u _ _ _ _ h
   ·rw [ag2] at h;exact wpAny_eqBool_str h
 «strs»:=λk x t v h=>by
  rcases j7 h with ⟨i,u,rfl,e⟩ | ⟨y,u,rfl,e⟩
  ·exact nomatch e
  ·injection e with e1 _
   subst e1
   cases v<;>rfl
inductive V where
 | non | bl (b:Bool) | int (i:Int) | str (x:Str) | byt (b:Array UInt8) | flt (b:UInt64) | ref (a:Addr) | ty (n:String)
 deriving DecidableEq
def RelV:V->Value->Prop
 | .non,u=>u=Value.none
 | .bl b,u=>u=Value.bool b
 | .int i,u=>∃ t,u=Value.int i t
 | .str x,u=>∃ t,u=Value.str x t
 | .byt b,u=>∃ t,u=Value.bytes b t
 | .flt b,u=>∃ t,u=Value.float b t
 | .ref a,u=>u=Value.ref a
 | .ty n,u=>u=Value.type n
abbrev Vals:List V->List Value->Prop:=Paired RelV
theorem Vals.length{xs:List V}{us:List Value}(r:Vals xs us):xs.length=us.length:=Paired.length r
theorem Vals.get:∀ {xs:List V} {us:List Value} {i:Nat} {x:V},Vals xs us->xs[i]? = some x->∃ u,us[i]? = some u/\RelV x u
 | _,_,_,_, .nil,e=>by simp at e
 | _,_,0,_, .cons r _,e=>by simp at e;subst e;exact ⟨_,rfl,r⟩
 | _,_,i+1,x, .cons _ t,e=>by
  obtain ⟨u,h1,h2⟩:=Vals.get (i:=i) (x:=x) t (by simpa using e)
  exact ⟨u,by simpa using h1,h2⟩
theorem Vals.set{x:V}{u:Value}(r:RelV x u):∀ {xs:List V} {us:List Value} (i:Nat),Vals xs us->Vals (xs.set i x) (us.set i u)
 | _,_,_, .nil=>.nil
 | _,_,0, .cons _ t=>.cons r t
 | _,_,i+1, .cons q t=>.cons q (Vals.set r i t)
theorem Vals.append:∀ {xs ys:List V} {us ws:List Value},Vals xs us->Vals ys ws->Vals (xs++ys) (us++ws)
 | _,_,_,_, .nil,s=>s
 | _,_,_,_, .cons r t,s=>.cons r (Vals.append t s)
theorem Vals.take:∀ {xs:List V} {us:List Value} (n:Nat),Vals xs us->Vals (xs.take n) (us.take n)
 | _,_,0,_=>.nil
 | _,_,_+1, .nil=>.nil
 | _,_,n+1, .cons r t=>.cons r (Vals.take n t)
theorem Vals.drop:∀ {xs:List V} {us:List Value} (n:Nat),Vals xs us->Vals (xs.drop n) (us.drop n)
 | _,_,0,r=>r
 | _,_,_+1, .nil=>.nil
 | _,_,n+1, .cons _ t=>Vals.drop n t
def RelO:Option V->Option Value->Prop
 | some v,some u=>RelV v u
 | none,none=>True
 | _,_=>False
def KV{κ:Type}:List (κ × V)->List (κ × Value)->Prop:=Paired λ(p:κ × V) (q:κ × Value)=>p.1=q.1/\RelV p.2 q.2
def kV:Key->V
 | .inl i=>.int i
 | .inr x=>.str x
inductive HO where
 | lst (xs:List V)
 | tup (xs:List V)
 | dK (kvs:List (Key × V)) | dT (kvs:List (List Key × V))
 | set (S:Int->Bool) (n:Nat)
 | ins (C dx:Addr) (fs:List (Str × V))
 | own (x:Addr)
 | xd (fs:List (Str × V))
 | met (f x:Addr)
 | rng (lo hi:Int)
 | frz (o:Obj) (u:HO)
 | tbl (ps:Array Value)
 | ext (φ:Heap->Prop)
abbrev Hp:=Addr->Option HO
def upd(H:Hp)(a:Addr)(o:HO):Hp:=λb=>if b=a then some o else H b
theorem jh{H:Hp}{a:Addr}{o:HO}:upd H a o a=some o:=by unfold upd;rw [if_pos rfl]
theorem gh{H:Hp}{a b:Addr}{o:HO}(h:b≠a):upd H a o b=H b:=by unfold upd;rw [if_neg h]
theorem dz{H:Hp}{a b:Addr}{o:HO}(h:H a=some o)(h':H b=none):a≠b:=by
 intro e;subst e;rw [h] at h';cases h'
section
variable(P:Program)(w:World)
def ObjOk(H:Hp)(h:Heap)(a:Addr):HO->Prop
 | .lst xs=>xs.length<=sizeLine/\∃ (its:List Value) (n:Nat),Vals xs its/\h.get? a=some { cls:=.type "list",data:=.seq its.toArray n }
 | .tup xs=>xs.length<=sizeLine/\∃ its:List Value,Vals xs its/\IsTup h a its.toArray
 | .dK kvs=>kvs.length<=sizeLine/\(a == sysModules)=false/\∃ vs,KV kvs vs/\h.DictOf (zj P w) a vs
 | .dT kvs=>kvs.length<=sizeLine/\(a == sysModules)=false/\∃ xs:List (List Key × Addr × Value),
   Paired (λ(p:List Key × V) (q:List Key × Addr × Value)=>p.1=q.1/\H q.2.1=some (.tup (p.1.map kV))/\RelV p.2 q.2.2) kvs xs /\
   ∃ o es ep,h.get? a=some o/\o.ExactDict/\o.data = .dict es ep/\es.toList=xs.map (entryOfKey (tupleKind (zj P w)))/\(xs.map (·.1)).Nodup
 | .set S n=>h.SetOf (intKind P w) a S n
 | .ins C dx fs=>H dx=some (.own a)/\fs.length<=1000/\dx≠a/\h.get? a=some (PySem.W.instObj C dx) /\
   ∃ mA,h.Ns1 dx mA/\(∀ f,RelO (fs.lookup f) (mA f))/\PySem.Within mA (fs.map (·.1))
 | .own _=>∃ o,h.get? a=some o
 | .xd fs=>∃ mA,h.Ns1 a mA/\∀ f,RelO (fs.lookup f) (mA f)
 | .rng lo hi=>∃ t u v,h.get? a=some { cls:=.type "range",data:=.fields #[.int lo t, .int hi u, .int 1 v] }
 | .frz o u=>h.get? a=some o/\ObjOk H h a u
 | .tbl ps=>h.get? a=some { cls:=.none,data:=.fields ps }
 | .met f x=>h.get? a=some (PySem.W.methodObj (.ref f) (.ref x))
 | .ext φ=>φ h/\(∃ o,h.get? a=some o)/\∀ h1 h2:Heap,φ h1->(∀ o,h1.get? a=some o->h2.get? a=some o)->φ h2
def HOk(H:Hp)(h:Heap):Prop:=∀ a o,H a=some o->ObjOk P w H h a o
end
section
variable{P:Program}{w:World}{H H':Hp}{h h':Heap}{a:Addr}{o:HO}
theorem ObjOk.lt(x:ObjOk P w H h a o):a<h.objs.size:=by
 cases o with
 | lst xs=>obtain ⟨_,_,_,_,e⟩:=x;exact Heap.lt_size e
 | tup xs=>obtain ⟨_,_,_,p⟩:=x;exact p.lt
 | dK kvs=>obtain ⟨_,_,_,_,o,_,_,e,_⟩:=x;exact Heap.lt_size e
 | dT kvs=>obtain ⟨_,_,_,_,o,_,_,e,_⟩:=x;exact Heap.lt_size e
 | set S n=>obtain ⟨o,_,_,_,e,_⟩:=x;exact Heap.lt_size e
 | ins C dx fs=>obtain ⟨_,_,_,e,_⟩:=x;exact Heap.lt_size e
 | own y=>obtain ⟨_,e⟩:=x;exact Heap.lt_size e
 | xd fs=>obtain ⟨_,⟨_,_,_,e,_⟩,_⟩:=x;exact Heap.lt_size e
 | rng lo hi=>obtain ⟨_,_,_,e⟩:=x;exact Heap.lt_size e
 | frz ob u=>obtain ⟨e,_⟩:=x;exact Heap.lt_size e
 | tbl ps=>exact Heap.lt_size (show h.get? a=some _ from x)
 | met f y=>exact Heap.lt_size (show h.get? a=some _ from x)
 | ext φ=>obtain ⟨_,⟨_,e⟩,_⟩:=x;exact Heap.lt_size e
theorem Paired.mapP{α β:Type}{F G:α->β->Prop}:∀ {l₁:List α} {l₂:List β},Paired F l₁ l₂->(∀ a b,F a b->G a b)->Paired G l₁ l₂
 | _,_, .nil,_=>.nil
 | _,_, .cons r t,f=>.cons (f _ _ r) (Paired.mapP t f)
theorem ObjOk.stay(x:ObjOk P w H h a o)(k:∀ b u,(b=a\/H b=some (.own a))->h.get? b=some u->h'.get? b=some u)
  (ho:∀ b,H b=some (.own a)->H' b=some (.own a)) (ht:∀ b xs,H b=some (.tup xs)->H' b=some (.tup xs)):ObjOk P w H' h' a o:=by
 induction o with
 | lst xs=>obtain ⟨z,its,n,r,e⟩:=x;exact ⟨z,its,n,r,k _ _ (.inl rfl) e⟩
 | tup xs=>obtain ⟨z,its,r,ob,e,c⟩:=x;exact ⟨z,its,r,ob,k _ _ (.inl rfl) e,c⟩
 | dK kvs=>obtain ⟨z,y,vs,r,ob,es,ep,e,c⟩:=x;exact ⟨z,y,vs,r,ob,es,ep,k _ _ (.inl rfl) e,c⟩
 | dT kvs =>
  obtain ⟨z,y,xs,r,ob,es,ep,e,c⟩:=x;exact ⟨z,y,xs,Paired.mapP r λp q z=>⟨z.1,ht _ _ z.2.1,z.2.2⟩,ob,es,ep,k _ _ (.inl rfl) e,c⟩
 | set S n=>obtain ⟨ob,es,ep,t,e,c⟩:=x;exact ⟨ob,es,ep,t,k _ _ (.inl rfl) e,c⟩
 | ins C dx fs =>
  obtain ⟨d,z,ne,e,mA,⟨od,es,ep,e2,c⟩,r⟩:=x;exact ⟨ho _ d,z,ne,k _ _ (.inl rfl) e,mA,⟨od,es,ep,k _ _ (.inr d) e2,c⟩,r⟩
 | own y=>obtain ⟨ob,e⟩:=x;exact ⟨ob,k _ _ (.inl rfl) e⟩
 | xd fs=>obtain ⟨mA,⟨od,es,ep,e,c⟩,r⟩:=x;exact ⟨mA,⟨od,es,ep,k _ _ (.inl rfl) e,c⟩,r⟩
 | rng lo hi=>obtain ⟨t,u,v,e⟩:=x;exact ⟨t,u,v,k _ _ (.inl rfl) e⟩
 | frz ob u ih=>obtain ⟨e,q⟩:=x;exact ⟨k _ _ (.inl rfl) e,ih q⟩
 | tbl ps =>
  have e:h.get? a=some { cls:=.none,data:=.fields ps }:=x;show h'.get? a=some { cls:=.none,data:=.fields ps };exact k a _ (.inl rfl) e
 | met f y =>
  have e:h.get? a=some (PySem.W.methodObj (.ref f) (.ref y)):=x;show h'.get? a=some (PySem.W.methodObj (.ref f) (.ref y));exact k a _ (.inl rfl) e
 | ext φ=>obtain ⟨p,⟨o,e⟩,st⟩:=x;exact ⟨st _ _ p λo q=>k _ _ (.inl rfl) q,⟨o,k _ _ (.inl rfl) e⟩,st⟩
theorem HOk.lt(x:HOk P w H h)(e:H a=some o):a<h.objs.size:=(x a o e).lt
theorem HOk.fresh(x:HOk P w H h)(e:h.objs.size<=a):H a=none:=by
 cases q:H a with
 | none=>rfl
 | some u=>exact absurd (Nat.lt_of_lt_of_le (x.lt q) e) (Nat.lt_irrefl _)
theorem HOk.kept(x:HOk P w H h)(k:∀ b u,h.get? b=some u->h'.get? b=some u):HOk P w H h':=λa o e =>
 (x a o e).stay (λb u _ q=>k b u q) (λ_ q=>q) λ_ _ q=>q
theorem HOk.laid(x:HOk P w H h)(k:∀ b u,h.get? b=some u->h'.get? b=some u)(hp:h.objs.size<=a)(new:ObjOk P w (upd H a o) h' a o):HOk P w (upd H a o) h':=λb u e=>by
 have hn:=x.fresh hp
 by_cases hb:b=a
 ·subst hb;rw [jh] at e;cases e;exact new
 ·rw [gh hb] at e;exact (x b u e).stay (λc v _ q=>k c v q) (λc q=>by rw [gh (dz q hn)];exact q) λc xs q=>by rw [gh (dz q hn)];exact q
end
def Rd(H:Hp)(a:Addr)(u:HO):Prop:=H a=some u\/∃ o,H a=some (.frz o u)
theorem Rd.of{H:Hp}{a:Addr}{u:HO}(h:H a=some u):Rd H a u:=.inl h
theorem Rd.ok{P:Program}{w:World}{H:Hp}{h:Heap}{a:Addr}{u:HO}(r:Rd H a u)(x:HOk P w H h):ObjOk P w H h a u:=by
 rcases r with r | ⟨o,r⟩
 ·exact x a u r
 ·obtain ⟨_,q⟩:=x a _ r;exact q
def Mut:Option HO->Prop
 | some (.lst _)=>True
 | some (.dK _)=>True
 | some (.dT _)=>True
 | some (.set _ _)=>True
 | some (.ins _ _ _)=>True
 | some (.ext _)=>True
 | _=>False
section
variable{P:Program}{w:World}{H:Hp}{h h':Heap}{x e:Addr}{o':HO}
theorem HOk.write(ok:HOk P w H h)(mu:Mut (H x))(he:e=x\/H e=some (.own x))(k:∀ b u,b≠e->h.get? b=some u->h'.get? b=some u)(heo:∃ u,h'.get? e=some u)
  (new:ObjOk P w (upd H x o') h' x o'):HOk P w (upd H x o') h':=λb u q=>by
 have nown:∀ c y,H c=some (.own y)->c≠x:=λc y r z=>by subst z;rw [r] at mu;exact mu
 have ntup:∀ c xs,H c=some (.tup xs)->c≠x:=λc xs r z=>by subst z;rw [r] at mu;exact mu
 by_cases hb:b=x
 ·subst hb;rw [jh] at q;cases q;exact new
 ·rw [gh hb] at q
  by_cases hbe:b=e
  ·have q':H b=some (.own x):=by
    rcases he with z | z
    ·exact absurd (hbe.trans z) hb
    ·rw [hbe];exact z
   rw [q] at q';cases q'
   obtain ⟨v,hv⟩:=heo;exact ⟨v,by rw [hbe];exact hv⟩
  ·refine (ok b u q).stay (λc v hc r=>k c v ?_ r) (λc r=>by rw [gh (nown c b r)];exact r) λc xs r=>by rw [gh (ntup c xs r)];exact r
   rcases hc with rfl | hc
   ·exact hbe
   ·rintro rfl
    rcases he with z | z
    ·exact nown c b hc z
    ·rw [hc] at z;cases z;exact hb rfl
end
structure Un (fs ex:List Addr) (H H':Hp) (h h':Heap):Prop where
 keep:∀ b o,h.get? b=some o->H b=none->b ∉ fs->b ∉ ex->h'.get? b=some o
 slot:∀ b o,h.get? b=some o->H b=none->b∈fs->b ∉ ex->∃ sl,h'.get? b=some { o with slots:=sl }
 free:∀ b o,h.get? b=some o->H b=none->b ∉ ex->H' b=none
 there:∀ b o,h.get? b=some o->b ∉ ex->∃ o',h'.get? b=some o'
 tups:∀ b xs,H b=some (.tup xs)->H' b=some (.tup xs)
 frzs:∀ b o u,H b=some (.frz o u)->H' b=some (.frz o u)
 tbls:∀ b ps,H b=some (.tbl ps)->∃ more,H' b=some (.tbl (ps++more))
section
variable{fs fs' ex ex':List Addr}{H H1 H2:Hp}{h h1 h2 h':Heap}{a x e:Addr}{o:HO}
theorem Un.any(u:Un fs ex H H1 h h1){b:Addr}{ob:Obj}(q:h.get? b=some ob)(n:H b=none)(hx:b ∉ ex):∃ sl,h1.get? b=some { ob with slots:=sl }:=by
 by_cases hb:b∈fs
 ·exact u.slot b ob q n hb hx
 ·exact ⟨ob.slots,u.keep b ob q n hb hx⟩
theorem Un.kept(k:∀ b u,h.get? b=some u->h'.get? b=some u):Un fs ex H H h h' :=
 ⟨λb ob q _ _ _=>k b ob q,λb ob q _ _ _=>⟨ob.slots,k b ob q⟩,λ_ _ _ n _=>n,λb ob q _=>⟨ob,k b ob q⟩,λ_ _ q=>q,λ_ _ _ q=>q,λ_ ps q=>⟨#[],by rw [q];simp⟩⟩
theorem Un.refl:Un fs ex H H h h:=Un.kept λ_ _ q=>q
theorem Un.laid(k:∀ b u,h.get? b=some u->h'.get? b=some u)(hp:h.objs.size<=a)(hn:H a=none):Un fs ex H (upd H a o) h h' where
 keep:=λb u q _ _ _=>k b u q
 slot:=λb u q _ _ _=>⟨u.slots,k b u q⟩
 free:=λb u q n _=>by rw [gh (Nat.ne_of_lt (Nat.lt_of_lt_of_le (Heap.lt_size q) hp))];exact n
 there:=λb u q _=>⟨u,k b u q⟩
 tups:=λb xs q=>by rw [gh (dz q hn)];exact q
 frzs:=λb u xs q=>by rw [gh (dz q hn)];exact q
 tbls:=λb ps q=>⟨#[],by rw [gh (dz q hn),q];simp⟩
theorem Un.write(mu:Mut (H x))(he:e=x\/H e=some (.own x))(k:∀ b u,b≠e->h.get? b=some u->h'.get? b=some u)(heo:∃ u,h'.get? e=some u):Un fs ex H (upd H x o) h h':=by
 have hx:∀ b,H b=none->b≠x:=λb n z=>by subst z;rw [n] at mu;exact mu
 have hb:∀ b,H b=none->b≠e:=λb n z=>by
  subst z
  rcases he with r | r
  ·exact hx b n r
  ·rw [n] at r;cases r
 have hm:∀ b u,H b=some u->¬ Mut (some u)->b≠x:=λb u q nm z=>by subst z;rw [q] at mu;exact nm mu
 refine ⟨λb u q n _ _=>k b u (hb b n) q,λb u q n _ _=>⟨u.slots,k b u (hb b n) q⟩,λb u q n _=>by rw [gh (hx b n)];exact n,λb u q _=>?_,
  λb xs q=>by rw [gh (hm b _ q λz=>z)];exact q,λb u xs q=>by rw [gh (hm b _ q λz=>z)];exact q,λb ps q=>⟨#[],by rw [gh (hm b _ q λz=>z),q];simp⟩⟩
 by_cases hbe:b=e
 ·subst hbe;exact heo
 ·exact ⟨u,k b u hbe q⟩
end
def trk(h:Heap)(H:Hp):List Addr:=(List.range h.objs.size).filter λa=>(H a).isSome
def a9y(h:Heap)(H:Hp):Heap:=PySem.W.hideAll h (trk h H)
theorem a7b(h:Heap)(H:Hp):(a9y h H).objs.size=h.objs.size:=PySem.W.hideAll_size _ _
theorem a9z{h:Heap}{H:Hp}{b:Addr}{o:Obj}(e:h.get? b=some o)(n:H b=none):(a9y h H).get? b=some o :=
 PySem.W.hideAll_get _ e λhm=>by
  have q:(H b).isSome=true:=(List.mem_filter.mp hm).2;rw [n] at q;simp at q
theorem ad5{h:Heap}{H:Hp}{b:Addr}{o:Obj}(e:(a9y h H).get? b=some o):h.get? b=some o/\H b=none:=by
 have e':h.get? b=some o:=PySem.W.of_hideAll (trk h H) e;refine ⟨e',?_⟩
 cases q:H b with
 | none=>rfl
 | some x =>
  have hm:b∈trk h H:=List.mem_filter.mpr ⟨List.mem_range.mpr (Heap.lt_size e'),by simp [q]⟩
  have z:(a9y h H).get? b=none:=PySem.W.hideAll_none (trk h H) hm;rw [z] at e;cases e
def ad6(g h:Heap)(L:Addr):List (Addr × Obj):=(List.range h.objs.size).filterMap λa=>if a=L\/(g.get? a).isSome=true then none else (h.get? a).map λo=>(a,o)
def rest(g h:Heap)(L d:Addr):List (Addr × Obj):=(ad6 g h L).filter λp=>decide (p.1≠d)
structure Mod (K:PySem.W.Frag) (mg:Str->Option Value) (base:Heap):Prop where
 kin:K.In base
 glob:base.Ns mainGlobals mg
 blt:∃ mb,base.Ns builtinsNs mb/\∀ x:Str,x ≠ "__name__"->mb x=bootBuiltins x
 nolimit:base.NoLimit
structure Cx where
 prog:Program
 w:World
 K:PySem.W.Frag
 mg:Str->Option Value
 base:Heap
 A:Around
 N:List Str
 s₀:Shared
 H₀:Hp
 env:Env
 outer:List Env
 stack:List Env
 ex:List Addr
 fn:Str->Bool
 calm:Bool
 pn:List (Addr × Obj)
 xe:Value->Shared->Prop
def frs(l:List Env):List Addr:=l.filterMap (·.frame)
abbrev Cx.fs(X:Cx):List Addr:=frs X.outer
def Vis(sc:Scope)(x:Str):Prop:=sc.names.lookup x=some .local\/sc.names.lookup x=some .cell\/sc.names.lookup x=some .free
def Loc(sc:Scope)(x:Str):Prop:=sc.names.lookup x=some .local\/sc.names.lookup x=some .cell
def Look(env:Env)(h:Heap)(m:Str->Option Value)(x:Str)(u:Value):Prop :=
 (env.kindOf x=some .local/\m x=some u)\/((env.kindOf x=some .cell\/env.kindOf x=some .free)/\∃ c,env.cells.lookup x=some c/\h.IsCell c (some u))
structure Cx.Ok (X:Cx):Prop where
 mod:Mod X.K X.mg X.base
 kind:X.env.scope.kind = .function
 glob:X.env.globals=mainGlobals
 blt:X.env.builtins=builtinsNs
 above:X.s₀.heap.objs.size<=X.env.locals
 inj:∀ x y c,X.env.cells.lookup x=some c->X.env.cells.lookup y=some c->x=y
 has:∀ x,(X.env.kindOf x=some .cell\/X.env.kindOf x=some .free)->∃ c,X.env.cells.lookup x=some c
 cab:∀ x c,X.fn x=true->X.env.cells.lookup x=some c->X.s₀.heap.objs.size<=c
 hd:X.calm=true->X.A.handled=none
 frames:X.A.frames=some X.stack
 stk:X.stack=X.outer\/(X.stack=X.env::X.outer/\X.env.frame=some X.env.locals)
 exf:∀ b∈X.ex,b≠X.env.locals/\∀ x c,X.env.cells.lookup x=some c->c≠b
 bs:∀ b o,X.base.get? b=some o->X.s₀.heap.get? b=some o/\X.H₀ b=none
 bsz:X.base.objs.size<=X.s₀.heap.objs.size
 noex:∀ b o,X.base.get? b=some o->b ∉ X.ex
 exfs:∀ b∈X.ex,b ∉ X.fs
 funs:X.s₀.heap.FunFrames X.base X.outer
 frf:∀ b∈X.fs,X.H₀ b=none
structure Inv (X:Cx) (pins:List (Addr × Obj)) (σ:List (Option V)) (H:Hp) (s:Shared):Prop where
 ok:X.Ok
 os:s.os=X.s₀.os
 bare:AllBare s.gens
 base:Un X.fs X.ex X.H₀ H X.s₀.heap s.heap
 loc:∃ m,s.heap.Ns X.env.locals m/\∀ (i:Nat) (x:Str) (v:V),X.N[i]? = some x->σ[i]? = some (some v)->Vis X.env.scope x->∃ u,RelV v u/\Look X.env s.heap m x u
 cell:∀ x c,X.env.cells.lookup x=some c->∃ v,s.heap.IsCell c v
 free:H X.env.locals=none
 freeC:∀ x c,X.env.cells.lookup x=some c->H c=none
 pin:∀ p∈X.pn++pins,s.heap.get? p.1=some p.2/\H p.1=none/\p.1≠X.env.locals/\p.1 ∉ X.fs/\∀ v,p.2.data≠.cell v
 hok:HOk X.prog X.w H s.heap
 len:σ.length=X.N.length
section
variable{X:Cx}{pins:List (Addr × Obj)}{σ:List (Option V)}{H H':Hp}{s:Shared}{h':Heap}
theorem Cx.Ok.nofr(ok:X.Ok){b:Addr}{o:Obj}(e:X.base.get? b=some o):b ∉ X.fs:=λhb=>by
 have:=(ok.funs.mem hb).1
 rw [e] at this;cases this
theorem Inv.bs(I:Inv X pins σ H s):∀ b o,X.base.get? b=some o->s.heap.get? b=some o/\H b=none:=λb o e =>
 ⟨I.base.keep b o (I.ok.bs b o e).1 (I.ok.bs b o e).2 (I.ok.nofr e) (I.ok.noex b o e),I.base.free b o (I.ok.bs b o e).1 (I.ok.bs b o e).2 (I.ok.noex b o e)⟩
theorem Inv.bk(I:Inv X pins σ H s):∀ b o,X.base.get? b=some o->s.heap.get? b=some o:=λb o e=>(I.bs b o e).1
theorem Inv.mod(I:Inv X pins σ H s):Mod X.K X.mg X.base:=I.ok.mod
theorem Inv.kIn(I:Inv X pins σ H s):X.K.In s.heap:=I.ok.mod.kin.keeps I.bk
theorem Inv.fr(I:Inv X pins σ H s):∃ m,Fr X.base X.env.locals s.heap m :=
 let ⟨m,hn,_⟩:=I.loc
 ⟨m,hn,I.bk,Nat.le_trans I.ok.bsz I.ok.above⟩
theorem Inv.lt(I:Inv X pins σ H s):X.env.locals<s.heap.objs.size:=let ⟨_,hn,_⟩:=I.loc;hn.lt
theorem Inv.sz(I:Inv X pins σ H s):X.s₀.heap.objs.size<=s.heap.objs.size:=Nat.le_trans I.ok.above (Nat.le_of_lt I.lt)
theorem Inv.nofs(I:Inv X pins σ H s){a:Addr}(h:s.heap.objs.size<=a):a ∉ X.fs:=λhb=>by
 obtain ⟨_,o,ho,_⟩:=I.ok.funs.mem hb;exact absurd (Nat.lt_of_lt_of_le (Heap.lt_size ho) (Nat.le_trans I.sz h)) (Nat.lt_irrefl _)
theorem Inv.cne(I:Inv X pins σ H s):∀ x c,X.env.cells.lookup x=some c->c≠X.env.locals:=λx c e z=>by
 obtain ⟨v,o,ho,hd⟩:=I.cell x c e;obtain ⟨m,⟨o',es,ep,ho',hd',_⟩,_⟩:=I.loc;rw [z,ho'] at ho;cases ho;rw [hd'] at hd;cases hd
theorem Inv.funs(I:Inv X pins σ H s):s.heap.FunFrames X.base X.outer:=by
 have all:∀ (l:List Env),(∀ b∈frs l,b∈X.fs)->X.s₀.heap.FunFrames X.base l->s.heap.FunFrames X.base l:=by
  intro l
  induction l with
  | nil=>intro _ _;trivial
  | cons env r ih =>
   intro hs hl
   obtain ⟨hk,⟨L,o,hf,hn,ho,hd⟩,hr⟩:=hl;have hL:L∈X.fs:=hs L (by unfold frs;rw [List.filterMap_cons,hf];exact List.mem_cons_self)
   obtain ⟨sl,e⟩:=I.base.slot L o ho (I.ok.frf L hL) hL λz=>I.ok.exfs L z hL;exact ⟨hk,⟨L,_,hf,hn,e,hd⟩,ih (λb hb=>hs b (by unfold frs;rw [List.filterMap_cons,hf];exact List.mem_cons_of_mem _ hb)) hr⟩
 exact all X.outer (λ_ hb=>hb) I.ok.funs
theorem Inv.stack(I:Inv X pins σ H s):s.heap.FunFrames X.base X.stack:=by
 rcases I.ok.stk with e | ⟨e,hf⟩
 ·rw [e];exact I.funs
 ·rw [e];obtain ⟨m,hn,_⟩:=I.loc;refine .cons (by rw [I.ok.kind];decide) hf hn ?_ I.funs
  exact Heap.get?_none_of_le (Nat.le_trans I.ok.bsz I.ok.above)
theorem Inv.stkSub(I:Inv X pins σ H s):∀ b∈frs X.stack,b∈X.env.locals::X.fs:=λb hb=>by
 rcases I.ok.stk with e | ⟨e,hf⟩
 ·rw [e] at hb;exact List.mem_cons_of_mem _ hb
 ·rw [e] at hb;unfold frs at hb;rw [List.filterMap_cons,hf] at hb;exact hb
theorem Inv.stkFree(I:Inv X pins σ H s):∀ b∈frs X.stack,H b=none:=λb hb=>by
 rcases List.mem_cons.mp (I.stkSub b hb) with e | hb
 ·rw [e];exact I.free
 ·obtain ⟨_,o,ho,_⟩:=I.ok.funs.mem hb;exact I.base.free b o ho (I.ok.frf b hb) λz=>I.ok.exfs b z hb
theorem Inv.step{g':Array GenState}{t':Nat}{d':Drawn}{ch:List Addr}(I:Inv X pins σ H s)
  (hch:∀ b∈ch,(b∈X.ex\/X.s₀.heap.objs.size<=b)/\b≠X.env.locals/\(∀ x c,X.env.cells.lookup x=some c->c≠b)/\∀ p∈X.pn++pins,p.1≠b)
  (keep:∀ b o,b≠X.env.locals->b ∉ X.fs->b ∉ ch->s.heap.get? b=some o->H b=none->h'.get? b=some o)
  (slot:∀ b o,b≠X.env.locals->b∈X.fs->b ∉ ch->s.heap.get? b=some o->H b=none->∃ sl,h'.get? b=some { o with slots:=sl }) (free:∀ b o,b ∉ ch->s.heap.get? b=some o->H b=none->H' b=none)
  (there:∀ b o,b ∉ ch->s.heap.get? b=some o->∃ o',h'.get? b=some o')
  (tups:∀ b xs,H b=some (.tup xs)->H' b=some (.tup xs)) (frzs:∀ b o u,H b=some (.frz o u)->H' b=some (.frz o u)) (tbls:∀ b ps,H b=some (.tbl ps)->∃ more,H' b=some (.tbl (ps++more)))
  (ns:∀ m,s.heap.Ns X.env.locals m->h'.Ns X.env.locals m) (hok:HOk X.prog X.w H' h') (hg:AllBare g') :
  Inv X pins σ H' { s with heap:=h',gens:=g',drawn:=d',toks:=t' }:=by
 have neL:∀ b o,X.s₀.heap.get? b=some o->b≠X.env.locals:=λb o e=>Nat.ne_of_lt (Nat.lt_of_lt_of_le (Heap.lt_size e) I.ok.above);have neC:∀ b o,X.s₀.heap.get? b=some o->b ∉ X.ex->b ∉ ch:=λb o e hx hb=>by
  rcases (hch b hb).1 with z | z
  ·exact hx z
  ·exact absurd (Nat.lt_of_lt_of_le (Heap.lt_size e) z) (Nat.lt_irrefl _)
 have cellK:∀ x c,X.env.cells.lookup x=some c->∀ v,s.heap.IsCell c v->h'.IsCell c v:=λx c e v ⟨o,ho,hd⟩=>by
  have nch:c ∉ ch:=λz=>(hch c z).2.2.1 x c e rfl
  by_cases hc:c∈X.fs
  ·obtain ⟨sl,q⟩:=slot c o (I.cne x c e) hc nch ho (I.freeC x c e);exact ⟨_,q,hd⟩
  ·exact ⟨o,keep c o (I.cne x c e) hc nch ho (I.freeC x c e),hd⟩
 refine ⟨I.ok,I.os,hg,⟨λb o e n hb hx=>?_,λb o e n hb hx=>?_,λb o e n hx=>?_,λb o e hx=>?_,λb xs e=>tups b xs (I.base.tups b xs e),λb o xs e=>frzs b o xs (I.base.frzs b o xs e),λb ps e=>?_⟩,?_,λx c e=>?_,?_,λx c e=>?_,λp hp=>?_,hok,I.len⟩
 ·exact keep b o (neL b o e) hb (neC b o e hx) (I.base.keep b o e n hb hx) (I.base.free b o e n hx)
 ·obtain ⟨sl,e1⟩:=I.base.slot b o e n hb hx;obtain ⟨sl',e2⟩:=slot b _ (neL b o e) hb (neC b o e hx) e1 (I.base.free b o e n hx);exact ⟨sl',e2⟩
 ·obtain ⟨o',e1⟩:=I.base.there b o e hx;exact free b o' (neC b o e hx) e1 (I.base.free b o e n hx)
 ·obtain ⟨o',e1⟩:=I.base.there b o e hx;exact there b o' (neC b o e hx) e1
 ·obtain ⟨m1,e1⟩:=I.base.tbls b ps e;obtain ⟨m2,e2⟩:=tbls b _ e1;exact ⟨m1++m2,by rw [e2,Array.append_assoc]⟩
 ·obtain ⟨m,hn,hl⟩:=I.loc;refine ⟨m,ns m hn,λi x v e1 e2 e3=>?_⟩;obtain ⟨u,r,l⟩:=hl i x v e1 e2 e3;refine ⟨u,r,?_⟩
  rcases l with l | ⟨k,c,e,z⟩
  ·exact .inl l
  ·exact .inr ⟨k,c,e,cellK x c e _ z⟩
 ·obtain ⟨v,z⟩:=I.cell x c e;exact ⟨v,cellK x c e v z⟩
 ·obtain ⟨m,⟨o,_,_,ho,_⟩,_⟩:=I.loc;exact free _ o (λz=>(hch _ z).2.1 rfl) ho I.free
 ·obtain ⟨v,o,ho,hd⟩:=I.cell x c e;exact free c o (λz=>(hch c z).2.2.1 x c e rfl) ho (I.freeC x c e)
 ·obtain ⟨e,n,ne,nf,d⟩:=I.pin p hp;have nch:p.1 ∉ ch:=λz=>(hch p.1 z).2.2.2 p hp rfl;exact ⟨keep p.1 p.2 ne nf nch e n,free p.1 p.2 nch e n,ne,nf,d⟩
theorem Inv.un{t':Nat}(I:Inv X pins σ H s)(u:Un X.fs [] H H' s.heap h')(hok:HOk X.prog X.w H' h'):Inv X pins σ H' { s with heap:=h',toks:=t' }:=by
 obtain ⟨m,⟨o,es,ep,ho,r⟩,_⟩:=id I.loc;obtain ⟨sl,hL⟩:=u.any ho I.free (by simp)
 exact I.step (g':=s.gens) (d':=s.drawn) (ch:=[]) (λ_ z=>nomatch z) (λb o _ hb _ e n=>u.keep b o e n hb (by simp)) (λb o _ hb _ e n=>u.slot b o e n hb (by simp)) (λb o _ e n=>u.free b o e n (by simp)) (λb o _ e=>u.there b o e (by simp)) u.tups u.frzs u.tbls (λm' hm=>by
  obtain ⟨o',es',ep',ho',r'⟩:=hm;rw [ho] at ho';cases ho'
  exact ⟨_,es',ep',hL,r'⟩) hok I.bare
theorem Inv.call{g':Array GenState}{t':Nat}{d':Drawn}{ch:List Addr}(I:Inv X pins σ H s)(u:Un (frs X.stack) ch H H' s.heap h')(hok:HOk X.prog X.w H' h')(hg:AllBare g')
  (hch:∀ b∈ch,(b∈X.ex\/X.s₀.heap.objs.size<=b)/\b≠X.env.locals/\(∀ x c,X.env.cells.lookup x=some c->c≠b)/\∀ p∈X.pn++pins,p.1≠b) :
  Inv X pins σ H' { s with heap:=h',gens:=g',drawn:=d',toks:=t' }:=by
 obtain ⟨m,⟨o,es,ep,ho,r⟩,_⟩:=id I.loc;obtain ⟨sl,hL⟩:=u.any ho I.free λz=>(hch _ z).2.1 rfl;exact I.step (ch:=ch) hch (λb o hL hb hc e n=>u.keep b o e n (λz=>(List.mem_cons.mp (I.stkSub b z)).elim hL hb) hc) (λb o _ _ hc e n=>u.any e n hc) (λb o hc e n=>u.free b o e n hc) (λb o hc e=>u.there b o e hc) u.tups u.frzs u.tbls (λm' hm=>by
  obtain ⟨o',es',ep',ho',r'⟩:=hm;rw [ho] at ho';cases ho'
  exact ⟨_,es',ep',hL,r'⟩) hok hg
theorem Inv.turned{t':Nat}{it:Addr}(I:Inv X pins σ H s)(k:∀ b o,b≠it->s.heap.get? b=some o->h'.get? b=some o)(hn:H it=none)(hL:it≠X.env.locals)
  (h1:it∈X.ex\/X.s₀.heap.objs.size<=it) (h2:∀ x c,X.env.cells.lookup x=some c->c≠it) (h3:∀ p∈X.pn++pins,p.1≠it):Inv X pins σ H { s with heap:=h',toks:=t' }:=by
 have nit:∀ b u,H b=some u->b≠it:=λb u e z=>by rw [z,hn] at e;cases e
 refine I.step (g':=s.gens) (d':=s.drawn) (ch:=[it]) (λb hb=>?_) (λb o _ _ hc e _=>k b o (λz=>hc (by simp [z])) e) (λb o _ _ hc e _=>⟨o.slots,k b o (λz=>hc (by simp [z])) e⟩) (λ_ _ _ _ n=>n)
  (λb o hc e=>⟨o,k b o (λz=>hc (by simp [z])) e⟩) (λ_ _ e=>e) (λ_ _ _ e=>e) (λb ps e=>⟨#[],by rw [e];simp⟩) (λm hm=>?_) (λb u e=>?_) I.bare
 ·have e:b=it:=by simpa using hb
  subst e;exact ⟨h1,hL,h2,h3⟩
 ·obtain ⟨o,es,ep,ho,r⟩:=hm;exact ⟨o,es,ep,k _ o (Ne.symm hL) ho,r⟩
 ·refine (I.hok b u e).stay (λc v hc q=>k c v ?_ q) (λ_ q=>q) λ_ _ q=>q
  rcases hc with z | z
  ·rw [z];exact nit b u e
  ·exact nit c _ z
theorem Inv.tok(I:Inv X pins σ H s)(t:Nat):Inv X pins σ H { s with toks:=t }:=I.un (h':=s.heap) (t':=t) Un.refl I.hok
theorem Inv.kept{t':Nat}(I:Inv X pins σ H s)(k:∀ b u,s.heap.get? b=some u->h'.get? b=some u):Inv X pins σ H { s with heap:=h',toks:=t' }:=I.un (Un.kept k) (I.hok.kept k)
theorem Inv.laid{a:Addr}{o:HO}{t':Nat}(I:Inv X pins σ H s)(k:∀ b u,s.heap.get? b=some u->h'.get? b=some u)(hp:s.heap.objs.size<=a)(new:ObjOk X.prog X.w (upd H a o) h' a o) :
  Inv X pins σ (upd H a o) { s with heap:=h',toks:=t' }:=I.un (Un.laid k hp (I.hok.fresh hp)) (I.hok.laid k hp new)
theorem Inv.write{x e:Addr}{o:HO}{t':Nat}(I:Inv X pins σ H s)(mu:Mut (H x))(he:e=x\/H e=some (.own x))(k:∀ b u,b≠e->s.heap.get? b=some u->h'.get? b=some u)(heo:∃ u,h'.get? e=some u)
  (new:ObjOk X.prog X.w (upd H x o) h' x o):Inv X pins σ (upd H x o) { s with heap:=h',toks:=t' }:=I.un (Un.write mu he k heo) (I.hok.write mu he k heo new)
theorem Inv.weak{σ':List (Option V)}(I:Inv X pins σ H s)(hl:σ'.length=σ.length)(w:∀ (i:Nat) v,σ'[i]? = some (some v)->σ[i]? = some (some v)):Inv X pins σ' H s :=
 ⟨I.ok,I.os,I.bare,I.base,let ⟨m,hn,hl'⟩:=I.loc; ⟨m,hn,λi x v e1 e2 e3=>hl' i x v e1 (w i v e2) e3⟩,I.cell,I.free,I.freeC,I.pin,I.hok,hl.trans I.len⟩
theorem Inv.pins_of{pins':List (Addr × Obj)}(I:Inv X pins σ H s)(h:∀ p∈pins',s.heap.get? p.1=some p.2/\H p.1=none/\p.1≠X.env.locals/\p.1 ∉ X.fs/\∀ v,p.2.data≠.cell v):Inv X pins' σ H s :=
 ⟨I.ok,I.os,I.bare,I.base,I.loc,I.cell,I.free,I.freeC,λp hp=>(List.mem_append.mp hp).elim (λz=>I.pin p (List.mem_append_left _ z)) (h p),I.hok,I.len⟩
theorem a0w{N:List Str}(hN:N.Nodup){i j:Nat}{x:Str}(a:N[i]? = some x)(b:N[j]? = some x):i=j:=by
 obtain ⟨h1,e1⟩:=List.getElem?_eq_some_iff.mp a;obtain ⟨h2,e2⟩:=List.getElem?_eq_some_iff.mp b;exact (List.getElem_inj hN).mp (e1.trans e2.symm)
theorem a2g{M:Model}{A:Around}{E:Value->Shared->Prop}{i:Nat}{x:Str}{v:V}{u:Value}{Q:Unit->Shared->Prop}(I:Inv X pins σ H s)(hN:X.N.Nodup)(hi:X.N[i]? = some x)(hx:Loc X.env.scope x)(r:RelV v u)
  (h:∀ s',Inv X pins (σ.set i (some v)) H s'->(∃ a,Heap.SameBut a s.heap s'.heap/\(a=X.env.locals\/X.env.cells.lookup x=some a))->Q () s') (hf:X.fn x=true\/X.env.scope.names.lookup x=some .local:=by first | exact .inl rfl | exact .inr rfl | assumption):wpAny M A (storeName X.env x u) Q E s:=by
 obtain ⟨m,hn,hl⟩:=id I.loc;have hcls:(X.env.scope.kind == .class || (X.env.scope.kind == .module && X.env.locals != X.env.globals))=false:=by rw [I.ok.kind];rfl
 have hiσ:i<σ.length:=by rw [I.len];exact (List.getElem?_eq_some_iff.mp hi).1
 have cne:=I.cne;have tracked:∀ {a:Addr} {h':Heap},(∃ o,s.heap.get? a=some o/\H a=none)->Heap.SameBut a s.heap h'->HOk X.prog X.w H h':=λ{a h'} ha hs b ob e=>by
  obtain ⟨_,_,hfree⟩:=ha;refine (I.hok b ob e).stay (λc w' hc q=>(hs.2 c ?_).trans q) (λ_ q=>q) λ_ _ q=>q
  rintro rfl
  rcases hc with rfl | hc
  ·rw [hfree] at e;cases e
  ·rw [hfree] at hc;cases hc
 rcases hx with hk | hk
 ·refine wpAny_storeName_local hk hn (λh' hn' hs=>?_) hcls;obtain ⟨oL,_,_,hoL,_⟩:=id hn;refine h _ ⟨I.ok,I.os,I.bare,⟨λb o e n hb hx=>?_,λb o e n hb hx=>?_,I.base.free,λb o e hx=>?_,I.base.tups,I.base.frzs,I.base.tbls⟩,⟨_,hn',λj y v' e1 e2 e3=>?_⟩,λy c e=>?_,I.free,I.freeC,λp hp=>?_,tracked ⟨oL,hoL,I.free⟩ hs,by simpa using I.len⟩ ⟨_,hs, .inl rfl⟩
  ·exact (hs.2 b (Nat.ne_of_lt (Nat.lt_of_lt_of_le (Heap.lt_size e) I.ok.above))).trans (I.base.keep b o e n hb hx)
  ·obtain ⟨sl,e1⟩:=I.base.slot b o e n hb hx;exact ⟨sl,(hs.2 b (Nat.ne_of_lt (Nat.lt_of_lt_of_le (Heap.lt_size e) I.ok.above))).trans e1⟩
  ·obtain ⟨o',e1⟩:=I.base.there b o e hx;exact ⟨o',(hs.2 b (Nat.ne_of_lt (Nat.lt_of_lt_of_le (Heap.lt_size e) I.ok.above))).trans e1⟩
  ·by_cases hj:j=i
   ·subst hj;rw [hi] at e1;cases e1
    rw [List.getElem?_set_self hiσ] at e2;cases e2
    exact ⟨u,r, .inl ⟨hk,by simp⟩⟩
   ·rw [List.getElem?_set_ne (Ne.symm hj)] at e2;obtain ⟨u',r',q⟩:=hl j y v' e1 e2 e3;refine ⟨u',r',?_⟩
    rcases q with ⟨k,e⟩ | ⟨k,c,e,z⟩
    ·refine .inl ⟨k,?_⟩;have:y≠x:=λe=>hj (a0w hN e1 (e ▸ hi));simp [this,e]
    ·exact .inr ⟨k,c,e,z.sameBut hs (cne y c e)⟩
  ·obtain ⟨w',z⟩:=I.cell y c e;exact ⟨w',z.sameBut hs (cne y c e)⟩
  ·obtain ⟨e,n,ne,nf,d⟩:=I.pin p hp;exact ⟨(hs.2 p.1 ne).trans e,n,ne,nf,d⟩
 ·have hfn:X.fn x=true:=by
   rcases hf with z | z
   ·exact z
   ·rw [z] at hk;cases hk
  obtain ⟨c,hc⟩:=I.ok.has x (.inl hk);obtain ⟨w',z⟩:=I.cell x c hc;refine wpAny_storeName_cell I.ok.kind hk hc z (λh' hc' hs=>?_);obtain ⟨oc,hoc,hocd⟩:=id z;refine h { s with heap:=h' } ⟨I.ok,I.os,I.bare,⟨λb o e n hb hx=>?_,λb o e n hb hx=>?_,I.base.free,λb o e hx=>?_,I.base.tups,I.base.frzs,I.base.tbls⟩,⟨m,hn.sameBut hs (Ne.symm (cne x c hc)),λj y v' e1 e2 e3=>?_⟩,λy c' e=>?_,I.free,I.freeC,λp hp=>?_,tracked ⟨oc,hoc,I.freeC x c hc⟩ hs,by simpa using I.len⟩ ⟨c,hs, .inr hc⟩
  ·exact (hs.2 b (Nat.ne_of_lt (Nat.lt_of_lt_of_le (Heap.lt_size e) (I.ok.cab x c hfn hc)))).trans (I.base.keep b o e n hb hx)
  ·obtain ⟨sl,e1⟩:=I.base.slot b o e n hb hx;exact ⟨sl,(hs.2 b (Nat.ne_of_lt (Nat.lt_of_lt_of_le (Heap.lt_size e) (I.ok.cab x c hfn hc)))).trans e1⟩
  ·obtain ⟨o',e1⟩:=I.base.there b o e hx;exact ⟨o',(hs.2 b (Nat.ne_of_lt (Nat.lt_of_lt_of_le (Heap.lt_size e) (I.ok.cab x c hfn hc)))).trans e1⟩
  ·by_cases hj:j=i
   ·subst hj;rw [hi] at e1;cases e1
    rw [List.getElem?_set_self hiσ] at e2;cases e2
    exact ⟨u,r, .inr ⟨.inl hk,c,hc,hc'⟩⟩
   ·rw [List.getElem?_set_ne (Ne.symm hj)] at e2;obtain ⟨u',r',q⟩:=hl j y v' e1 e2 e3;refine ⟨u',r',?_⟩
    rcases q with q | ⟨k,c',e,z'⟩
    ·exact .inl q
    ·refine .inr ⟨k,c',e,z'.sameBut hs ?_⟩
     rintro rfl
     exact hj (a0w hN e1 (I.ok.inj _ _ _ e hc ▸ hi))
  ·by_cases hcc:c'=c
   ·subst hcc;exact ⟨_,hc'⟩
   ·obtain ⟨w2,z2⟩:=I.cell y c' e;exact ⟨w2,z2.sameBut hs hcc⟩
  ·obtain ⟨e,n,ne,nf,d⟩:=I.pin p hp;refine ⟨(hs.2 p.1 ?_).trans e,n,ne,nf,d⟩
   intro q
   rw [q,hoc] at e;have q':oc=p.2:=Option.some.inj e;exact d w' (by rw [<-q'];exact hocd)
theorem vf{M:Model}{A:Around}{E:Value->Shared->Prop}{i:Nat}{x:Str}{v:V}{u:Value}{Q:Unit->Shared->Prop}(I:Inv X pins σ H s)(hN:X.N.Nodup)(hi:X.N[i]? = some x)(hx:Loc X.env.scope x)(r:RelV v u)
  (h:∀ s',Inv X pins (σ.set i (some v)) H s'->Q () s') (hf:X.fn x=true\/X.env.scope.names.lookup x=some .local:=by first | exact .inl rfl | exact .inr rfl | assumption):wpAny M A (storeName X.env x u) Q E s :=
 a2g I hN hi hx r (λs' I' _=>h s' I') hf
theorem Inv.call'{s':Shared}{ch:List Addr}(I:Inv X pins σ H s)(ho:s'.os=s.os)(u:Un (frs X.stack) ch H H' s.heap s'.heap)(hok:HOk X.prog X.w H' s'.heap)(hg:AllBare s'.gens)
  (hch:∀ b∈ch,(b∈X.ex\/X.s₀.heap.objs.size<=b)/\b≠X.env.locals/\(∀ x c,X.env.cells.lookup x=some c->c≠b)/\∀ p∈X.pn++pins,p.1≠b):Inv X pins σ H' s':=by
 obtain ⟨h',g',d',t',o'⟩:=s';have e:o'=s.os:=ho;subst e;exact I.call (g':=g') (t':=t') (d':=d') u hok hg hch
end
abbrev XK:=Value->Option Addr->Hp->Prop
abbrev St:=List (Option V)
abbrev VK:=V->Hp->Prop
abbrev TE:=St->Hp->VK->Prop
abbrev TT:=St->Hp->(Bool->Hp->Prop)->Prop
abbrev TA:=St->Hp->(List V->Hp->Prop)->Prop
structure Ends where
 nx:St->Hp->Prop
 rt:VK
 bk:St->Hp->Prop:=λ_ _=>False
 ct:St->Hp->Prop:=λ_ _=>False
abbrev TS:=Ends->St->Hp->Prop
def EP(X:Cx)(pins:List (Addr × Obj))(σ:St)(Q:VK)(u:Value)(s':Shared):Prop:=∃ v H',Inv X pins σ H' s'/\RelV v u/\Q v H'
def TP(X:Cx)(pins:List (Addr × Obj))(σ:St)(Q:Bool->Hp->Prop)(b:Bool)(s':Shared):Prop:=∃ H',Inv X pins σ H' s'/\Q b H'
def AP(X:Cx)(pins:List (Addr × Obj))(σ:St)(Q:List V->Hp->Prop)(us:List Value)(s':Shared):Prop:=∃ vs H',Inv X pins σ H' s'/\Vals vs us/\Q vs H'
def SP(X:Cx)(pins:List (Addr × Obj))(D:Ends)(f:Flow)(s':Shared):Prop :=
 match f with
 | .next=>∃ σ' H',Inv X pins σ' H' s'/\D.nx σ' H'
 | .brk=>∃ σ' H',Inv X pins σ' H' s'/\D.bk σ' H'
 | .cont=>∃ σ' H',Inv X pins σ' H' s'/\D.ct σ' H'
 | .ret u=>∃ v σ' H',Inv X pins σ' H' s'/\RelV v u/\D.rt v H'
def PE(X:Cx)(e:Expr)(t:TE):Prop :=
 ∀ (pins:List (Addr × Obj)) (s:Shared) (σ:St) (H:Hp) (Q:VK),Inv X pins σ H s->t σ H Q->wpAny (model X.prog X.w) X.A (eval e X.env) (EP X pins σ Q) X.xe s
def PT(X:Cx)(e:Expr)(t:TT):Prop :=
 ∀ (pins:List (Addr × Obj)) (s:Shared) (σ:St) (H:Hp) (Q:Bool->Hp->Prop),Inv X pins σ H s->t σ H Q->wpAny (model X.prog X.w) X.A (isTrue e X.env (eval e X.env)) (TP X pins σ Q) X.xe s
def PW(X:Cx)(e:Expr)(t:TT):Prop :=
 ∀ (whole:Sem Value) (pins:List (Addr × Obj)) (s:Shared) (σ:St) (H:Hp) (Q:Bool->Hp->Prop),Inv X pins σ H s->t σ H Q->wpAny (model X.prog X.w) X.A (isTrue e X.env whole) (TP X pins σ Q) X.xe s
theorem PW.pt{X:Cx}{e:Expr}{t:TT}(h:PW X e t):PT X e t:=h _
def PA(X:Cx)(es:List Expr)(t:TA):Prop :=
 ∀ (pos:Pos) (pins:List (Addr × Obj)) (s:Shared) (σ:St) (H:Hp) (Q:List V->Hp->Prop),Inv X pins σ H s->t σ H Q->wpAny (model X.prog X.w) X.A (spliced (backTo pos (starEach es X.env))) (AP X pins σ Q) X.xe s
def PS(X:Cx)(st:Stmt)(t:TS):Prop :=
 ∀ (pins:List (Addr × Obj)) (s:Shared) (σ:St) (H:Hp) (D:Ends),Inv X pins σ H s->t D σ H->wpAny (model X.prog X.w) X.A (exec st X.env) (SP X pins D) X.xe s
def PSs(X:Cx)(st:List Stmt)(t:TS):Prop :=
 ∀ (pins:List (Addr × Obj)) (s:Shared) (σ:St) (H:Hp) (D:Ends),Inv X pins σ H s->t D σ H->wpAny (model X.prog X.w) X.A (execs st X.env) (SP X pins D) X.xe s
theorem thn{α:Type}{t:Sem α}{Q Q':α->Shared->Prop}{M:Model}{A:Around}{E:Value->Shared->Prop}{s:Shared}(h:wpAny M A t Q E s)(hQ:∀ a s,Q a s->Q' a s):wpAny M A t Q' E s:=wpAny_mono h hQ λ_ _ x=>x
section
variable{X:Cx}
def amo(i:Nat):TE:=λσ H Q=>∃ v,σ[i]? = some (some v)/\Q v H
def tC(v:V):TE:=λ_ H Q=>Q v H
theorem a7c{i:Nat}{x:Str}{pos:Pos}(hN:X.N[i]? = some x)(hv:Vis X.env.scope x)(hd:(x == ("__debug__" : Str))=false:=by decide)(hcd:(x == ("__classdict__" : Str))=false:=by decide):PE X (.Name x pos) (amo i):=by
 intro pins s σ H Q I h
 obtain ⟨v,e,h⟩:=h;obtain ⟨m,hn,hl⟩:=I.loc;obtain ⟨u,r,l⟩:=hl i x v hN e hv;have fin:EP X pins σ Q u s:=⟨v,H,I,r,h⟩
 rcases l with ⟨hk,hm⟩ | ⟨hk,c,hc,hcell⟩
 ·exact wpAny_Name (wpAny_loadName_local I.ok.kind hk hn hm fin) hd
 ·rcases hk with hk | hk
  ·exact wpAny_Name (wpAny_loadName_cell I.ok.kind hk hc hcell fin) hd
  ·exact wpAny_Name (wpAny_loadName_free I.ok.kind hk hc hcell fin hcd) hd
theorem ag5{i j pos}:PE X (.Constant (.int i) j pos) (tC (.int i)):=λ_ _ _ H _ I h=>wpAny_Constant_int ⟨.int i,H,I.tok _,⟨_,rfl⟩,h⟩
theorem ajx{b j pos}:PE X (.Constant (.bool b) j pos) (tC (.bl b)):=λ_ _ _ H _ I h=>Constant_bool ⟨.bl b,H,I,rfl,h⟩
theorem ag6{j pos}:PE X (.Constant .none j pos) (tC .non):=λ_ _ _ H _ I h=>Constant_none ⟨.non,H,I,rfl,h⟩
theorem ag7{x j pos}:PE X (.Constant (.str x) j pos) (tC (.str x)):=λ_ _ _ H _ I h=>Calls.Constant_str ⟨.str x,H,I.tok _,⟨_,rfl⟩,h⟩
def Gl(X:Cx)(x:Str):Prop:=X.env.kindOf x=some .globalImplicit
theorem ww{E:Value->Shared->Prop}{pins:List (Addr × Obj)}{s:Shared}{σ:St}{H:Hp}{x:Str}{u:Value}{pos:Pos}{Q:Value->Shared->Prop}(I:Inv X pins σ H s)(hg:Gl X x)(hm:X.mg x=some u)(h:Q u s)
  (hd:(x == ("__debug__" : Str))=false:=by decide):wpAny (model X.prog X.w) X.A (eval (.Name x pos) X.env) Q E s :=
 Calls.Name_function_global I.ok.kind hg (Calls.loadGlobal_global (by rw [I.ok.glob];exact I.mod.glob.keeps I.bk) hm h) hd
theorem a4u{E:Value->Shared->Prop}{pins:List (Addr × Obj)}{s:Shared}{σ:St}{H:Hp}{x:Str}{u:Value}{pos:Pos}{Q:Value->Shared->Prop}(I:Inv X pins σ H s)(hg:Gl X x)(hm:X.mg x=none)(hv:bootBuiltins x=some u)(h:Q u s)
  (hn:x ≠ "__name__":=by decide) (hd:(x == ("__debug__" : Str))=false:=by decide):wpAny (model X.prog X.w) X.A (eval (.Name x pos) X.env) Q E s:=by
 obtain ⟨mb,h1,h2⟩:=I.mod.blt;exact Calls.Name_function_global I.ok.kind hg (Calls.loadGlobal_builtin (by rw [I.ok.glob];exact I.mod.glob.keeps I.bk) hm (by rw [I.ok.blt];exact h1.keeps I.bk) ((h2 x hn).trans hv) h) hd
theorem a0x{x:Str}{v:V}{u:Value}{pos:Pos}(hg:Gl X x)(hm:X.mg x=some u)(r:RelV v u)(hd:(x == ("__debug__" : Str))=false:=by decide):PE X (.Name x pos) (tC v) :=
 λ_ _ _ H _ I h=>ww I hg hm ⟨v,H,I,r,h⟩ hd
theorem a7d{x:Str}{v:V}{u:Value}{pos:Pos}(hg:Gl X x)(hm:X.mg x=none)(hv:bootBuiltins x=some u)(r:RelV v u)(hn:x ≠ "__name__":=by decide)(hd:(x == ("__debug__" : Str))=false:=by decide):PE X (.Name x pos) (tC v) :=
 λ_ _ _ H _ I h=>a4u I hg hm hv ⟨v,H,I,r,h⟩ hn hd
variable{a b:Expr}{ta tb:TE}{pos:Pos}
variable{tA tB':TT}{rest:List Expr}
def amq(t u:TT):TT:=λσ H Q=>t σ H λc H1=>if c=true then u σ H1 Q else Q false H1
def tOr(t u:TT):TT:=λσ H Q=>t σ H λc H1=>if c=true then Q true H1 else u σ H1 Q
def amr(t:TT):TT:=λσ H Q=>t σ H λc H1=>Q (!c) H1
theorem ad7(ha:PT X a tA):PW X (.BoolOp .And [a] pos) tA:=by
 intro wh pins s σ H Q I h
 refine isTrue_and (thn (ha pins s σ H Q I h) λc s1 e=>?_)
 cases c with
 | true=>exact isTrue_and_nil e
 | false=>exact e
theorem ag8(ha:PT X a tA):PW X (.BoolOp .Or [a] pos) tA:=by
 intro wh pins s σ H Q I h
 refine isTrue_or (thn (ha pins s σ H Q I h) λc s1 e=>?_)
 cases c with
 | false=>exact isTrue_or_nil e
 | true=>exact e
theorem ag9(ha:PT X a tA)(hb:PW X (.BoolOp .And (b::rest) pos) tB'):PW X (.BoolOp .And (a::b::rest) pos) (amq tA tB'):=by
 intro wh pins s σ H Q I h
 refine isTrue_and (thn (ha pins s σ H _ I h) λc s1 ⟨H1,I1,q1⟩=>?_)
 cases c with
 | true=>exact hb wh pins s1 σ H1 Q I1 q1
 | false=>exact ⟨H1,I1,q1⟩
theorem ajy(ha:PT X a tA)(hb:PW X (.BoolOp .Or (b::rest) pos) tB'):PW X (.BoolOp .Or (a::b::rest) pos) (tOr tA tB'):=by
 intro wh pins s σ H Q I h
 refine isTrue_or (thn (ha pins s σ H _ I h) λc s1 ⟨H1,I1,q1⟩=>?_)
 cases c with
 | true=>exact ⟨H1,I1,q1⟩
 | false=>exact hb wh pins s1 σ H1 Q I1 q1
theorem aga(ha:PT X a tA):PT X (.UnaryOp .Not a pos) (amr tA):=by
 intro pins s σ H Q I h
 exact isTrue_not (ha pins s σ H (λc H1=>Q (!c) H1) I h)
def ajz(ta tb:TE):TE:=λσ H Q=>ta σ H λx H1=>∃ c,x = .bl c/\if c=true then tb σ H1 Q else Q (.bl false) H1
def ak0(ta:TE):TE:=λσ H Q=>ta σ H λx H1=>∃ c,x = .bl c/\Q (.bl (!c)) H1
theorem agb{op}{t:TE}(h:PE X a t):PE X (.BoolOp op [a] pos) t:=λpins s σ H Q I hw=>BoolOp_one (h pins s σ H Q I hw)
theorem agc(ha:PE X a ta)(hb:PE X (.BoolOp .And (b::rest) pos) tb):PE X (.BoolOp .And (a::b::rest) pos) (ajz ta tb):=by
 intro pins s σ H Q I h
 refine BoolOp_and (thn (ha pins s σ H _ I h) λv s1 ⟨x,H1,I1,r1,q1⟩=>?_);obtain ⟨c,rfl,q1⟩:=q1;cases r1
 refine wpAny_truthy_bool ?_
 cases c with
 | true=>exact hb pins s1 σ H1 Q I1 q1
 | false=>exact ⟨.bl false,H1,I1,rfl,q1⟩
theorem agd(ha:PE X a ta):PE X (.UnaryOp .Not a pos) (ak0 ta):=by
 intro pins s σ H Q I h
 refine UnaryOp_ (thn (ha pins s σ H _ I h) λv s1 ⟨x,H1,I1,r1,q1⟩=>?_);obtain ⟨c,rfl,q1⟩:=q1;cases r1
 exact not_of (wpAny_truthy_bool ⟨.bl (!c),H1,I1,rfl,q1⟩)
def tIf(t:TT)(ta tb:TE):TE:=λσ H Q=>t σ H λc H1=>if c=true then ta σ H1 Q else tb σ H1 Q
theorem aa0{c:Expr}(hc:PT X c tA)(ha:PE X a ta)(hb:PE X b tb):PE X (.IfExp c a b pos) (tIf tA ta tb):=by
 intro pins s σ H Q I h
 refine wpAny_IfExp (thn (hc pins s σ H _ I h) λd s1 ⟨H1,I1,q1⟩=>?_)
 cases d with
 | true=>exact ha pins s1 σ H1 Q I1 q1
 | false=>exact hb pins s1 σ H1 Q I1 q1
end
def SqL(K:PySem.W.Frag)(H:Hp)(a:Addr)(xs:List V):Prop :=
 Rd H a (.lst xs) \/
  ∃ (o:Obj) (its:Array Value) (n:Nat),K.lookup a=some o/\o.cls = .type "list"/\o.dict=none/\o.data = .seq its n/\its.size<=sizeLine/\Vals xs its.toList
def SqT(K:PySem.W.Frag)(H:Hp)(a:Addr)(xs:List V):Prop :=
 Rd H a (.tup xs) \/
  ∃ (o:Obj) (its:Array Value) (n:Nat),K.lookup a=some o/\o.cls = .type "tuple"/\o.data = .seq its n/\its.size<=sizeLine/\Vals xs its.toList
def ams:Value->Option V
 | .none=>some .non
 | .bool b=>some (.bl b)
 | .int i _=>some (.int i)
 | .str x _=>some (.str x)
 | .bytes b _=>some (.byt b)
 | .float b _=>some (.flt b)
 | .ref a=>some (.ref a)
 | .type n=>some (.ty n)
 | _=>none
theorem RelV.abs{x:V}{u:Value}(r:RelV x u):ams u=some x:=by
 cases x with
 | non=>cases r;rfl
 | bl _=>cases r;rfl
 | int _=>obtain ⟨t,rfl⟩:=r;rfl
 | str _=>obtain ⟨t,rfl⟩:=r;rfl
 | byt _=>obtain ⟨t,rfl⟩:=r;rfl
 | flt _=>obtain ⟨t,rfl⟩:=r;rfl
 | ref _=>cases r;rfl
 | ty _=>cases r;rfl
theorem RelV.inj{x y:V}{u:Value}(r:RelV x u)(q:RelV y u):x=y:=Option.some.inj (r.abs.symm.trans q.abs)
theorem Vals.inj:∀ {xs ys:List V} {us:List Value},Vals xs us->Vals ys us->xs=ys
 | _,_,_, .nil, .nil=>rfl
 | _,_,_, .cons r t, .cons r' t'=>by rw [r.inj r',Vals.inj t t']
section
variable{X:Cx}{pins:List (Addr × Obj)}{σ:St}{H:Hp}{s:Shared}{a:Addr}{xs ys:List V}
theorem SqL.of{K:PySem.W.Frag}(h:H a=some (.lst xs)):SqL K H a xs:=.inl (.inl h)
theorem SqT.of{K:PySem.W.Frag}(h:H a=some (.tup xs)):SqT K H a xs:=.inl (.inl h)
theorem Inv.list(I:Inv X pins σ H s)(h:SqL X.K H a xs):∃ its:List Value,Vals xs its/\PlainL s.heap a its.toArray/\xs.length<=sizeLine:=by
 rcases h with h | ⟨o,its,n,hk,hc,hd,hs,hz,r⟩
 ·obtain ⟨z,its,n,r,e⟩:=h.ok I.hok;exact ⟨its,r,⟨_,n,e,rfl,rfl,rfl⟩,z⟩
 ·refine ⟨its.toList,r,⟨o,n,I.kIn a o hk,hc,hd,by simpa using hs⟩,?_⟩
  have e:=r.length;simp only [Array.length_toList] at e;omega
theorem Inv.tuple(I:Inv X pins σ H s)(h:SqT X.K H a xs):∃ its:List Value,Vals xs its/\IsTup s.heap a its.toArray/\xs.length<=sizeLine:=by
 rcases h with h | ⟨o,its,n,hk,hc,hs,hz,r⟩
 ·obtain ⟨z,its,r,p⟩:=h.ok I.hok;exact ⟨its,r,p,z⟩
 ·refine ⟨its.toList,r,⟨o,I.kIn a o hk,hc,n,by simpa using hs⟩,?_⟩
  have e:=r.length;simp only [Array.length_toList] at e;omega
theorem Inv.list_inj(I:Inv X pins σ H s)(h:SqL X.K H a xs)(h':SqL X.K H a ys):xs=ys:=by
 obtain ⟨its,r,⟨o,n,e,_,_,d⟩,_⟩:=I.list h;obtain ⟨its',r',⟨o',n',e',_,_,d'⟩,_⟩:=I.list h';rw [e] at e';cases e'
 rw [d] at d'
 injection d' with d1 _
 have:its=its':=by simpa using congrArg Array.toList d1
 subst this;exact r.inj r'
theorem Inv.tuple_inj(I:Inv X pins σ H s)(h:SqT X.K H a xs)(h':SqT X.K H a ys):xs=ys:=by
 obtain ⟨its,r,⟨o,e,_,n,d⟩,_⟩:=I.tuple h;obtain ⟨its',r',⟨o',e',_,n',d'⟩,_⟩:=I.tuple h';rw [e] at e';cases e'
 rw [d] at d'
 injection d' with d1 _
 have:its=its':=by simpa using congrArg Array.toList d1
 subst this;exact r.inj r'
end
abbrev Cx.wish(X:Cx)(E:Value->Shared->Prop):Cx:={ X with xe:=E }
abbrev Cx.nox(X:Cx):Cx:=X.wish λ_ _=>False
theorem Cx.Ok.wish{X:Cx}(ok:X.Ok)(E:Value->Shared->Prop):(X.wish E).Ok :=
 ⟨ok.mod,ok.kind,ok.glob,ok.blt,ok.above,ok.inj,ok.has,ok.cab,ok.hd,ok.frames,ok.stk,ok.exf,ok.bs,ok.bsz,ok.noex,ok.exfs,ok.funs,ok.frf⟩
theorem Cx.Ok.unwish{X:Cx}{E:Value->Shared->Prop}(ok:(X.wish E).Ok):X.Ok :=
 ⟨ok.mod,ok.kind,ok.glob,ok.blt,ok.above,ok.inj,ok.has,ok.cab,ok.hd,ok.frames,ok.stk,ok.exf,ok.bs,ok.bsz,ok.noex,ok.exfs,ok.funs,ok.frf⟩
section
variable{X:Cx}{pins:List (Addr × Obj)}{σ:St}{H:Hp}{s:Shared}{E:Value->Shared->Prop}
theorem Inv.wish(I:Inv X pins σ H s)(E:Value->Shared->Prop):Inv (X.wish E) pins σ H s:=⟨I.ok.wish E,I.os,I.bare,I.base,I.loc,I.cell,I.free,I.freeC,I.pin,I.hok,I.len⟩
theorem Inv.unwish(I:Inv (X.wish E) pins σ H s):Inv X pins σ H s:=⟨I.ok.unwish,I.os,I.bare,I.base,I.loc,I.cell,I.free,I.freeC,I.pin,I.hok,I.len⟩
theorem SP.unwish{D:Ends}{f:Flow}{s':Shared}(h:SP (X.wish E) pins D f s'):SP X pins D f s':=by
 cases f with
 | next=>obtain ⟨σ',H',I,q⟩:=h;exact ⟨σ',H',I.unwish,q⟩
 | brk=>obtain ⟨σ',H',I,q⟩:=h;exact ⟨σ',H',I.unwish,q⟩
 | cont=>obtain ⟨σ',H',I,q⟩:=h;exact ⟨σ',H',I.unwish,q⟩
 | ret u=>obtain ⟨v,σ',H',I,r,q⟩:=h;exact ⟨v,σ',H',I.unwish,r,q⟩
theorem PSs.nox{st:List Stmt}{t:TS}(h:PSs X.nox st t):PSs X st t:=λpins s σ H D I hw =>
 wpAny_mono (h pins s σ H D (I.wish _) hw) (λ_ _ q=>q.unwish) λ_ _ z=>False.elim z
end
section
variable{X:Cx}{st:Stmt}{rest:List Stmt}{t u:TS}{e:Expr}{te:TE}{pos:Pos}
def ak1:TS:=λD σ H=>D.nx σ H
def amt(t u:TS):TS:=λD σ H=>t { D with nx:=u D } σ H
theorem ad8:PSs X [] ak1:=λ_ _ σ H _ I h=>wpAny_execs_nil ⟨σ,H,I,h⟩
theorem aa1(h1:PS X st t)(h2:PSs X rest u):PSs X (st::rest) (amt t u):=by
 intro pins s σ H D I h
 refine wpAny_execs_cons (thn (h1 pins s σ H { D with nx:=u D } I h) λf s1 q=>?_)
 cases f with
 | next =>
  obtain ⟨σ',H',I',q⟩:=q;exact h2 pins s1 σ' H' D I' q
 | ret v=>exact q
 | brk=>exact q
 | cont=>exact q
theorem ad9(h1:PS X st t):PSs X [st] t:=by
 intro pins s σ H D I h
 refine wpAny_execs_cons (thn (h1 pins s σ H D I h) λf s1 q=>?_)
 cases f with
 | next=>exact wpAny_execs_nil q
 | ret v=>exact q
 | brk=>exact q
 | cont=>exact q
theorem Inv.quiet{pins:List (Addr × Obj)}{σ:St}{H:Hp}{s:Shared}(I:Inv X pins σ H s):interactive X.env=false:=by simp [interactive,I.ok.kind]
def ak2(te:TE):TS:=λD σ H=>te σ H λ_ H1=>D.nx σ H1
theorem ada(he:PE X e te)(hs:swapsWith e none pos.line X.env=pure false:=by rfl):PS X (.Expr e pos) (ak2 te):=by
 intro pins s σ H D I h
 exact wpAny_Expr_any (thn (he pins s σ H _ I h) λv s1 ⟨x,H1,I1,r1,q1⟩=>⟨σ,H1,I1,q1⟩) I.quiet hs
def amu(te:TE):TS:=λD σ H=>te σ H D.rt
theorem age(he:PE X e te):PS X (.Return (some e) pos) (amu te):=by
 intro pins s σ H D I h
 exact wpAny_Return_some (thn (he pins s σ H _ I h) λv s1 ⟨x,H1,I1,r1,q1⟩=>⟨x,σ,H1,I1,r1,q1⟩)
def amv(c:TT)(t u:TS):TS:=λD σ H=>c σ H λb H1=>if b=true then t D σ H1 else u D σ H1
theorem ak3{c:Expr}{a b:List Stmt}{tc:TT}(hc:PT X c tc)(ha:PSs X a t)(hb:PSs X b u):PS X (.If c a b pos) (amv tc t u):=by
 intro pins s σ H D I h
 refine wpAny_If (thn (hc pins s σ H _ I h) λd s1 ⟨H1,I1,q1⟩=>?_)
 cases d with
 | true=>exact ha pins s1 σ H1 D I1 q1
 | false=>exact hb pins s1 σ H1 D I1 q1
end
abbrev TG:=V->St->Hp->(St->Hp->Prop)->Prop
abbrev TGs:=List V->St->Hp->(St->Hp->Prop)->Prop
def PG(X:Cx)(target:Expr)(t:TG):Prop :=
 ∀ (pins:List (Addr × Obj)) (s:Shared) (σ:St) (H:Hp) (v:V) (u:Value) (Q:St->Hp->Prop),Inv X pins σ H s->RelV v u->t v σ H Q->
  wpAny (model X.prog X.w) X.A (assign target X.env u) (λ_ s'=>∃ σ' H',Inv X pins σ' H' s'/\Q σ' H') X.xe s
def PGs(X:Cx)(ts:List Expr)(t:TGs):Prop :=
 ∀ (pins:List (Addr × Obj)) (s:Shared) (σ:St) (H:Hp) (vs:List V) (us:List Value) (Q:St->Hp->Prop),Inv X pins σ H s->Vals vs us->t vs σ H Q->
  wpAny (model X.prog X.w) X.A (assignInOrder ((assignEach ts X.env).map (·.2)) us) (λ_ s'=>∃ σ' H',Inv X pins σ' H' s'/\Q σ' H') X.xe s
abbrev agf:=V->V->V->Hp->(Hp->Prop)->Prop
def ak4(X:Cx)(t:agf):Prop :=
 ∀ (pins:List (Addr × Obj)) (s:Shared) (σ:St) (H:Hp) (o i v:V) (ov iv u:Value) (Q:Hp->Prop),Inv X pins σ H s->RelV o ov->RelV i iv->RelV v u->t o i v H Q->
  wpAny (model X.prog X.w) X.A (setItem ov iv u) (λ_ s'=>∃ H',Inv X pins σ H' s'/\Q H') X.xe s
abbrev TIp:=V->V->Hp->VK->Prop
def PIp(X:Cx)(op:Operator)(t:TIp):Prop :=
 ∀ (pins:List (Addr × Obj)) (s:Shared) (σ:St) (H:Hp) (x y:V) (v u:Value) (Q:VK),Inv X pins σ H s->RelV x v->RelV y u->t x y H Q->
  wpAny (model X.prog X.w) X.A (inplaceOp op v u) (EP X pins σ Q) X.xe s
section
variable{X:Cx}{pos:Pos}
def a08(i:Nat):TG:=λv σ H Q=>Q (σ.set i (some v)) H
theorem mz{i:Nat}{x:Str}(hN:X.N.Nodup)(hi:X.N[i]? = some x)(hx:Loc X.env.scope x)(hf:X.fn x=true\/X.env.scope.names.lookup x=some .local:=by first | exact .inl rfl | exact .inr rfl | assumption):PG X (.Name x pos) (a08 i):=by
 intro pins s σ H v u Q I r h
 exact wpAny_assign_Name (vf I hN hi hx r (λs' I'=>⟨_,H,I',h⟩) hf)
def ak5:TGs:=λvs σ H Q=>vs=[]/\Q σ H
def a3n(t:TG)(u:TGs):TGs:=λvs σ H Q=>∃ v r,vs=v::r/\t v σ H λσ' H'=>u r σ' H' Q
theorem a0y:PGs X [] ak5:=by
 intro pins s σ H vs us Q I r h
 obtain ⟨e,h⟩:=h;subst e;cases r
 exact assignInOrder_nil ⟨σ,H,I,h⟩
theorem m7{e:Expr}{es:List Expr}{t:TG}{u:TGs}(h1:PG X e t)(h2:PGs X es u)
  (hs:(assignEach (e::es) X.env).map (·.2)=assign e X.env::(assignEach es X.env).map (·.2):=by rfl):PGs X (e::es) (a3n t u):=by
 intro pins s σ H vs us Q I r h
 obtain ⟨v,vr,e1,h⟩:=h;subst e1
 cases r with
 | cons r rr =>
  rw [hs];refine assignInOrder_cons (thn (h1 pins s σ H _ _ _ I r h) λ_ s1 ⟨σ1,H1,I1,q1⟩=>?_);exact h2 pins s1 σ1 H1 _ _ Q I1 rr q1
def wy(K:PySem.W.Frag)(n:Nat)(t:TGs):TG:=λv σ H Q=>∃ a xs,v = .ref a/\SqT K H a xs/\xs.length=n/\t xs σ H Q
theorem a4v{es:List Expr}{k:Nat}{t:TGs}{n:Nat}(hc:X.calm=true)(h:PGs X es t)
  (hn:(assignEach es X.env).length=n:=by rfl) (hst:(assignEach es X.env).findIdx? (·.1)=none:=by rfl):PG X (.Tuple es k pos) (wy X.K n t):=by
 intro pins s σ H v u Q I r hw
 obtain ⟨a,xs,e1,hq,hl,hw⟩:=hw;subst e1;cases r
 obtain ⟨its,rv,ht,hz⟩:=I.tuple hq;refine assign_Tuple_tuple (I.ok.hd hc) ht (by simp [hn,<-hl,rv.length]) hst λh' hx=>?_
 have I1:Inv X pins σ H { s with heap:=h' }:=I.kept (t':=s.toks) λb o e=>hx b o (Nat.ne_of_lt (Heap.lt_size e)) e
 exact h pins _ σ H xs _ Q I1 (by simpa using rv) hw
def a07(to ti:TE)(t:agf):TG:=λv σ H Q=>to σ H λo H1=>ti σ H1 λi H2=>t o i v H2 λH3=>Q σ H3
theorem agg{o i:Expr}{to ti:TE}{t:agf}(ho:PE X o to)(hi:PE X i ti)(hs:ak4 X t)
  (ha:∀ v,assign (.Subscript o i pos) X.env v=(do
   let ov <-holding [v] (eval o X.env)
   let iv <-holding [v,ov] (eval i X.env)
   standAt pos
   holding [v,ov,iv] (setItem ov iv v)
   release [v,ov,iv] []):=by intro _;rfl):PG X (.Subscript o i pos) (a07 to ti t):=by
 intro pins s σ H v u Q I r h
 rw [ha];refine wpAny_bind (wpAny_holding (thn (ho pins s σ H _ I h) λov s1 ⟨x,H1,I1,r1,q1⟩=>?_));refine wpAny_bind (wpAny_holding (thn (hi pins s1 σ H1 _ I1 q1) λiv s2 ⟨y,H2,I2,r2,q2⟩=>?_));refine wpAny_bind (wpAny_standAt (wpAny_bind (wpAny_holding (thn (hs pins s2 σ H2 x y v ov iv u _ I2 r1 r2 r q2) λ_ s3 ⟨H3,I3,q3⟩=>?_))));exact wpAny_release ⟨σ,H3,I3,q3⟩
def ak6(te:TE)(g:TG):TS:=λD σ H=>te σ H λx H1=>g x σ H1 D.nx
theorem abu{tg e:Expr}{te:TE}{g:TG}(he:PE X e te)(hg:PG X tg g)(hs:swapsWithSole [tg] e pos.line X.env=pure false:=by rfl)(hw:swappedStores [tg] e X.env=pure none:=by rfl)
  (h1:(assignEach [tg] X.env).map (·.2)=[assign tg X.env]:=by rfl):PS X (.Assign [tg] e pos) (ak6 te g):=by
 intro pins s σ H D I h
 refine wpAny_Assign_stores (thn (he pins s σ H _ I h) λv s1 ⟨x,H1,I1,r1,q1⟩=>?_) hs hw;rw [h1];exact thn (hg pins s1 σ H1 x v _ I1 r1 q1) λ_ s2 q=>q
theorem agh{i:Nat}{x:Str}{e:Expr}{te:TE}{pos':Pos}(hN:X.N.Nodup)(hi:X.N[i]? = some x)(hx:Loc X.env.scope x)(he:PE X e te)(hs:swapsWith e (some (.Name x pos')) pos.line X.env=pure false:=by rfl)(hf:X.fn x=true\/X.env.scope.names.lookup x=some .local:=by first | exact .inl rfl | exact .inr rfl | assumption) :
  PS X (.Assign [.Name x pos'] e pos) (ak6 te (a08 i)):=by
 intro pins s σ H D I h
 refine wpAny_Assign_Name (thn (he pins s σ H _ I h) λv s1 ⟨y,H1,I1,r1,q1⟩=>?_) hs;exact vf I1 hN hi hx r1 (λs2 I2=>⟨_,H1,I2,q1⟩) hf
def amw(i:Nat)(te:TE)(ti:TIp):TS:=λD σ H=>∃ x,σ[i]? = some (some x)/\te σ H λy H1=>ti x y H1 λz H2=>D.nx (σ.set i (some z)) H2
theorem agi{i:Nat}{x:Str}{e:Expr}{te:TE}{op:Operator}{ti:TIp}{pos':Pos}(hN:X.N.Nodup)(hi:X.N[i]? = some x)(hx:Loc X.env.scope x)(he:PE X e te)(ho:PIp X op ti)(hf:X.fn x=true\/X.env.scope.names.lookup x=some .local:=by first | exact .inl rfl | exact .inr rfl | assumption) :
  PS X (.AugAssign (.Name x pos') op e pos) (amw i te ti):=by
 intro pins s σ H D I h
 obtain ⟨v,e1,h⟩:=h;obtain ⟨m,hn,hl⟩:=I.loc;have vis:Vis X.env.scope x:=by rcases hx with k | k;exact .inl k;exact .inr (.inl k)
 obtain ⟨u,r,l⟩:=hl i x v hi e1 vis;refine wpAny_AugAssign_Name ?_;have go:wpAny (model X.prog X.w) X.A (eval e X.env) (λw s₂=>wpAny (model X.prog X.w) X.A (inplaceOp op u w) (λr s₃=>wpAny (model X.prog X.w) X.A (storeName X.env x r) (λ_=>SP X pins D .next) X.xe s₃) X.xe s₂) X.xe s:=by
  refine thn (he pins s σ H _ I h) λw s1 ⟨y,H1,I1,r1,q1⟩=>?_;refine thn (ho pins s1 σ H1 v y u w _ I1 r r1 q1) λz s2 ⟨zv,H2,I2,r2,q2⟩=>?_;exact vf I2 hN hi hx r2 (λs3 I3=>⟨_,H2,I3,q2⟩) hf
 rcases l with ⟨hk,hm⟩ | ⟨hk,c,hc,hcell⟩
 ·exact wpAny_loadName_local I.ok.kind hk hn hm go
 ·rcases hk with hk | hk
  ·exact wpAny_loadName_cell I.ok.kind hk hc hcell go
  ·rcases hx with k | k
   ·have:X.env.scope.names.lookup x=some .free:=hk
    rw [k] at this;cases this
   ·have:X.env.scope.names.lookup x=some .free:=hk
    rw [k] at this;cases this
def ak7(to ti te:TE)(tget:V->V->Hp->VK->Prop)(tip:TIp)(tset:agf):TS:=λD σ H=>to σ H λo H1=>ti σ H1 λi H2=>tget o i H2 λx H3=>te σ H3 λy H4=>tip x y H4 λz H5=>tset o i z H5 λH6=>D.nx σ H6
def alm(X:Cx)(t:V->V->Hp->VK->Prop):Prop :=
 ∀ (pins:List (Addr × Obj)) (s:Shared) (σ:St) (H:Hp) (o i:V) (ov iv:Value) (Q:VK),Inv X pins σ H s->RelV o ov->RelV i iv->t o i H Q->
  wpAny (model X.prog X.w) X.A (getItem ov iv) (EP X pins σ Q) X.xe s
theorem adb{o i e:Expr}{to ti te:TE}{tget:V->V->Hp->VK->Prop}{tip:TIp}{tset:agf}{op:Operator}{tpos:Pos}(ho:PE X o to)(hi:PE X i ti)(hg:alm X tget)(he:PE X e te)(hp:PIp X op tip)(hs:ak4 X tset)
  (ha:∀ ov iv new,augStore i ov iv new=(do holding [new,ov,iv] (setItem ov iv new);release [new,ov,iv] [];pure .next):=by intros;rfl):PS X (.AugAssign (.Subscript o i tpos) op e pos) (ak7 to ti te tget tip tset):=by
 intro pins s σ H D I h
 refine wpAny_AugAssign_SubscriptAny (thn (ho pins s σ H _ I h) λov s1 ⟨x1,H1,I1,r1,q1⟩=>?_) ha;refine thn (hi pins s1 σ H1 _ I1 q1) λiv s2 ⟨x2,H2,I2,r2,q2⟩=>?_;refine thn (hg pins s2 σ H2 x1 x2 ov iv _ I2 r1 r2 q2) λold s3 ⟨x3,H3,I3,r3,q3⟩=>?_;refine thn (he pins s3 σ H3 _ I3 q3) λv s4 ⟨x4,H4,I4,r4,q4⟩=>?_;refine thn (hp pins s4 σ H4 x3 x4 old v _ I4 r3 r4 q4) λnew s5 ⟨x5,H5,I5,r5,q5⟩=>?_;exact thn (hs pins s5 σ H5 x1 x2 x5 ov iv new _ I5 r1 r2 r5 q5) λ_ s6 ⟨H6,I6,q6⟩=>⟨σ,H6,I6,q6⟩
end
section
variable{X:Cx}{pos:Pos}
def agj(c:TT)(tb:TS):TS:=λD σ H=>∃ W:Nat->St->Hp->Prop,(∃ m,W m σ H)/\∀ m σ H,W m σ H->
 c σ H λb H1=>if b=true then ∃ N:St->Hp->Prop,(∀ σ' H',N σ' H'->∃ m',m'<m/\W m' σ' H')/\tb { D with nx:=N,ct:=N,bk:=D.nx } σ H1 else D.nx σ H1
theorem aa2{c:Expr}{body:List Stmt}{tc:TT}{tb:TS}(hp:PassesOwn (model X.prog X.w) X.A X.env X.xe)(hc:PT X c tc)(hb:PSs X body tb):PS X (.While c body [] pos) (agj tc tb):=by
 intro pins s σ H D I h
 obtain ⟨W,⟨m0,w0⟩,turn⟩:=h;refine wpAny_While (codeAny_whileLoop (λn s'=>∃ σ' H',Inv X pins σ' H' s'/\W n σ' H') ?_ m0 ⟨σ,H,I,w0⟩)
 rintro n s1 ⟨σ1,H1,I1,w1⟩
 refine wpAny_passesOwn hp (thn (hc pins s1 σ1 H1 _ I1 (turn n σ1 H1 w1)) λb s2 ⟨H2,I2,q2⟩=>?_)
 cases b with
 | true =>
  obtain ⟨N,hN,q2⟩:=q2;rw [if_pos rfl];refine wpAny_passesOwn hp (thn (hb pins s2 σ1 H2 _ I2 q2) λf s3 q3=>?_)
  cases f with
  | next =>
   obtain ⟨σ3,H3,I3,n3⟩:=q3;obtain ⟨m',hm,w3⟩:=hN σ3 H3 n3;exact ⟨m',hm,σ3,H3,I3,w3⟩
  | cont =>
   obtain ⟨σ3,H3,I3,n3⟩:=q3;obtain ⟨m',hm,w3⟩:=hN σ3 H3 n3;exact ⟨m',hm,σ3,H3,I3,w3⟩
  | brk=>exact q3
  | ret v=>exact q3
 | false =>
  rw [if_neg Bool.false_ne_true];exact wpAny_execs_nil ⟨σ1,H2,I2,q2⟩
end
structure It where
 go:Nat->Hp->Prop
 yld:Nat->Hp->V->Hp->Prop
 stop:Nat->Hp->Prop
def a6l(X:Cx)(pins:List (Addr × Obj))(H:Hp)(b:Addr):Prop :=
 H b=none/\b≠X.env.locals/\b ∉ X.fs/\(b∈X.ex\/X.s₀.heap.objs.size<=b)/\(∀ x c,X.env.cells.lookup x=some c->c≠b)/\∀ p∈X.pn++pins,p.1≠b
theorem Inv.fpOk{X:Cx}{pins:List (Addr × Obj)}{σ:St}{H H':Hp}{s:Shared}{b:Addr}(I:Inv X pins σ H s)(hb:s.heap.objs.size<=b)(hn:H' b=none):a6l X pins H' b:=by
 refine ⟨hn,Nat.ne_of_gt (Nat.lt_of_lt_of_le I.lt hb),I.nofs hb, .inr (Nat.le_trans I.sz hb),λx c e z=>?_,λp hp z=>?_⟩
 ·obtain ⟨v,q⟩:=I.cell x c e;exact absurd (Nat.lt_of_lt_of_le q.lt (by rw [z];exact hb)) (Nat.lt_irrefl _)
 ·exact absurd (Nat.lt_of_lt_of_le (Heap.lt_size (I.pin p hp).1) (by rw [z];exact hb)) (Nat.lt_irrefl _)
structure Turn (P:Program) (w:World) (K:PySem.W.Frag) (tg:Expr) (J:It) (fp:List Addr) (it:Addr) (tn:Nat->Heap->Prop):Prop where
 mem:it∈fp
 obj:∀ i h,tn i h->∀ b∈fp,∃ o,h.get? b=some o/\∀ v,o.data≠.cell v
 keep:∀ i h h',tn i h->(∀ b∈fp,∀ o,h.get? b=some o->h'.get? b=some o)->tn i h'
 item:∀ (X:Cx),X.prog=P->X.w=w->X.K=K->X.calm=true->∀ (i:Nat) (pins:List (Addr × Obj)) (s:Shared) (σ:St) (H:Hp) (E:Value->Shared->Prop),Inv X pins σ H s->(∀ b∈fp,a6l X pins H b)->tn i s.heap->J.go i H->
  wpAny (model P w) X.A (pyNext (.ref it)) (λr s1=>∃ u,r=some u /\
   wpAny (model P w) X.A (letOwnedTupleGo tg (.ref it) u) (λ_ s2=>∃ x H',Inv X pins σ H' s2/\RelV x u/\J.yld i H x H'/\tn (i+1) s2.heap/\∀ b∈fp,H' b=none) E s1) E s
 done:∀ (X:Cx),X.prog=P->X.w=w->X.K=K->X.calm=true->∀ (i:Nat) (pins:List (Addr × Obj)) (s:Shared) (σ:St) (H:Hp) (E:Value->Shared->Prop),Inv X pins σ H s->(∀ b∈fp,a6l X pins H b)->tn i s.heap->J.stop i H->
  wpAny (model P w) X.A (pyNext (.ref it)) (λr s1=>r=none/\Inv X pins σ H s1) E s
 self:∀ (A:Around) (i:Nat) (s:Shared) (Q:Value->Shared->Prop) (E:Value->Shared->Prop),tn i s.heap->Q (.ref it) s->wpAny (model P w) A (pyIter (.ref it)) Q E s
abbrev TI:=St->Hp->(It->Hp->Prop)->Prop
def PIE(X:Cx)(pins:List (Addr × Obj))(σ:St)(tg:Expr)(R:It->Hp->Prop)(itv:Value)(s2:Shared):Prop :=
 ∃ (it:Addr) (fp:List Addr) (tn:Nat->Heap->Prop) (J:It) (H':Hp),itv = .ref it/\Inv X pins σ H' s2/\Turn X.prog X.w X.K tg J fp it tn/\tn 0 s2.heap/\(∀ b∈fp,a6l X pins H' b)/\R J H'
def PI(X:Cx)(tg iter:Expr)(wi:TI):Prop :=
 ∀ (pins:List (Addr × Obj)) (s:Shared) (σ:St) (H:Hp) (R:It->Hp->Prop),Inv X pins σ H s->wi σ H R->
  wpAny (model X.prog X.w) X.A (eval iter X.env) (λv s1=>wpAny (model X.prog X.w) X.A (pyIter v) (PIE X pins σ tg R) X.xe s1) X.xe s
theorem aa3{M:Model}{A:Around}{E:Value->Shared->Prop}{s:Shared}{tg:Expr}{it:Addr}{u:Value}{o:Obj}{n:String}{vs:Array Value}{Q:Unit->Shared->Prop}(ho:s.heap.get? it=some o)(hc:o.cls = .type n)(hd:o.data = .fields vs)
  (hn:["enumerate", "zip", "dict_itemiterator", "dict_reverseitemiterator", "odict_iterator", "itertools.zip_longest", "itertools.pairwise"].contains n=false) (hQ:Q () s):wpAny M A (letOwnedTupleGo tg (.ref it) u) Q E s:=by
 unfold letOwnedTupleGo
 cases tg<;>first
  | exact wpAny_pure hQ
  | (cases u<;>first
    | exact wpAny_pure hQ
    | (refine wpAny_bind (wpAny_load ho ?_)
       rw [hc,hd];show wpAny M A (if (["enumerate", "zip", "dict_itemiterator", "dict_reverseitemiterator", "odict_iterator", "itertools.zip_longest", "itertools.pairwise"].contains n && vs[0]? == some (rawInt _))=true then _ else _) Q E s
       rw [if_neg (by intro h;rw [hn,Bool.false_and] at h;cases h)]
       exact wpAny_pure hQ))
def Itl(K:PySem.W.Frag)(a:Addr):It :=
 ⟨λi H=>∃ xs x,SqL K H a xs/\xs[i]? = some x,λi H x H'=>H'=H/\∀ xs,SqL K H a xs->xs[i]? = some x,λi H=>∃ xs,SqL K H a xs/\xs.length<=i⟩
def Itt(K:PySem.W.Frag)(a:Addr):It :=
 ⟨λi H=>∃ xs x,SqT K H a xs/\xs[i]? = some x,λi H x H'=>H'=H/\∀ xs,SqT K H a xs->xs[i]? = some x,λi H=>∃ xs,SqT K H a xs/\xs.length<=i⟩
def Itr(lo:Int)(n:Nat):It:=⟨λi _=>i<n,λi H x H'=>H'=H/\x = .int (lo+i),λi _=>n<=i⟩
theorem a7e{P:Program}{w:World}{K:PySem.W.Frag}{tg:Expr}(a it:Addr):Turn P w K tg (Itl K a) [it] it (λi h=>h.IsListIter it a i) where
 mem:=by simp
 obj:=λi h st b hb=>by
  have e:b=it:=by simpa using hb
  subst e;obtain ⟨o,e,c,d⟩:=st;exact ⟨o,e,λv z=>by rw [d] at z;cases z⟩
 keep:=λi h h' st k=>st.at λo e=>k it (by simp) o e
 item:=by
  intro X hP hw hK hc i pins s σ H E I hf st hg
  subst hP hw hK;obtain ⟨xs,x,hq,hx⟩:=hg;obtain ⟨its,rv,p,hz⟩:=I.list hq;obtain ⟨u,hu,ru⟩:=rv.get hx;obtain ⟨f0,f1,f2,f3,f4,f5⟩:=hf it (by simp)
  refine wpAny_pyNext_list_item st p.isList (x:=u) (by simpa using hu) λh' st' sb=>?_
  have I1:Inv X pins σ H { s with heap:=h' }:=I.turned (t':=s.toks) (λb o hb e=>(sb.2 b hb).trans e) f0 f1 f3 f4 f5
  obtain ⟨o,e,c,d⟩:=id st';exact ⟨u,rfl,aa3 (s:={ s with heap:=h' }) e c d (by decide) ⟨x,H,I1,ru,⟨rfl,λys hy=>by rw [I.list_inj hy hq];exact hx⟩,st',λb hb=>(hf b hb).1⟩⟩
 done:=by
  intro X hP hw hK hc i pins s σ H E I hf st hg
  subst hP hw hK;obtain ⟨xs,hq,hx⟩:=hg;obtain ⟨its,rv,p,hz⟩:=I.list hq;obtain ⟨f0,f1,f2,f3,f4,f5⟩:=hf it (by simp)
  have hl:=rv.length;exact wpAny_pyNext_list_end (I.ok.hd hc) st p.isList (by simp;omega) λh' eb=>⟨rfl,I.turned (t':=s.toks) (λb o hb e=>eb b o hb e) f0 f1 f3 f4 f5⟩
 self:=λ_ _ _ _ _ st h=>wpAny_pyIter_listiter st h
theorem a6m{P:Program}{w:World}{K:PySem.W.Frag}{tg:Expr}(a it:Addr):Turn P w K tg (Itt K a) [it] it (λi h=>h.IsTupleIter it a i) where
 mem:=by simp
 obj:=λi h st b hb=>by
  have e:b=it:=by simpa using hb
  subst e;obtain ⟨o,e,c,d⟩:=st;exact ⟨o,e,λv z=>by rw [d] at z;cases z⟩
 keep:=λi h h' st k=>st.at λo e=>k it (by simp) o e
 item:=by
  intro X hP hw hK hc i pins s σ H E I hf st hg
  subst hP hw hK;obtain ⟨xs,x,hq,hx⟩:=hg;obtain ⟨its,rv,p,hz⟩:=I.tuple hq;obtain ⟨u,hu,ru⟩:=rv.get hx;obtain ⟨f0,f1,f2,f3,f4,f5⟩:=hf it (by simp)
  refine wpAny_pyNext_tuple_item st (show s.heap.IsTuple a its.toArray from p) (x:=u) (by simpa using hu) λh' st' sb=>?_
  have I1:Inv X pins σ H { s with heap:=h' }:=I.turned (t':=s.toks) (λb o hb e=>(sb.2 b hb).trans e) f0 f1 f3 f4 f5
  obtain ⟨o,e,c,d⟩:=id st';exact ⟨u,rfl,aa3 (s:={ s with heap:=h' }) e c d (by decide) ⟨x,H,I1,ru,⟨rfl,λys hy=>by rw [I.tuple_inj hy hq];exact hx⟩,st',λb hb=>(hf b hb).1⟩⟩
 done:=by
  intro X hP hw hK hc i pins s σ H E I hf st hg
  subst hP hw hK;obtain ⟨xs,hq,hx⟩:=hg;obtain ⟨its,rv,p,hz⟩:=I.tuple hq;obtain ⟨f0,f1,f2,f3,f4,f5⟩:=hf it (by simp)
  have hl:=rv.length;exact wpAny_pyNext_tuple_end (I.ok.hd hc) st (show s.heap.IsTuple a its.toArray from p) (by simp;omega) λh' eb=>⟨rfl,I.turned (t':=s.toks) (λb o hb e=>eb b o hb e) f0 f1 f3 f4 f5⟩
 self:=λ_ _ _ _ _ st h=>wpAny_pyIter_tupleiter st h
theorem a6n{P:Program}{w:World}{K:PySem.W.Frag}{tg:Expr}(it:Addr)(lo:Int)(n:Nat):Turn P w K tg (Itr lo n) [it] it (λi h=>IsRangeIter h it (lo+(i:Nat)*1) ((n:Int) - (i:Nat)) 1) where
 mem:=by simp
 obj:=λi h st b hb=>by
  have e:b=it:=by simpa using hb
  subst e;exact ⟨_,st,λv z=>by
   have z':Data.fields _=Data.cell v:=z
   cases z'⟩
 keep:=λi h h' st k=>k it (by simp) _ st
 item:=by
  intro X hP hw hK hc i pins s σ H E I hf st hg
  subst hP hw hK;obtain ⟨f0,f1,f2,f3,f4,f5⟩:=hf it (by simp)
  have W:=Walks.range (prog:=X.prog) (w:=X.w) (I.ok.hd hc) it lo 1 n;refine W.item i s _ _ hg st λv h' tk hv st' kk=>?_;obtain ⟨t,rfl⟩:=hv;have I1:Inv X pins σ H { s with heap:=h',toks:=tk }:=I.turned (λb o hb e=>kk b o (by simpa using hb) e) f0 f1 f3 f4 f5
  refine ⟨_,rfl,aa3 (s:={ s with heap:=h',toks:=tk }) (n := "range_iterator") st' rfl rfl (by decide) ⟨.int (lo+i),H,I1,⟨t,?_⟩,⟨rfl,rfl⟩,st',λb hb=>(hf b hb).1⟩⟩
  rw [Int.mul_one]
 done:=by
  intro X hP hw hK hc i pins s σ H E I hf st hg
  subst hP hw hK;obtain ⟨f0,f1,f2,f3,f4,f5⟩:=hf it (by simp)
  exact wpAny_pyNext_range_end (I.ok.hd hc) st (by have:n<=i:=hg;omega) λh' eb=>⟨rfl,I.turned (t':=s.toks) (λb o hb e=>eb b o hb e) f0 f1 f3 f4 f5⟩
 self:=λ_ _ _ _ _ st h=>wpAny_pyIter_rangeiter st h
section
variable{X:Cx}{tg:Expr}
def ak8(K:PySem.W.Frag)(tl:TE):TI:=λσ H R=>tl σ H λx H1=>∃ a,x = .ref a/\(∃ xs,SqL K H1 a xs)/\R (Itl K a) H1
def amx(K:PySem.W.Frag)(tl:TE):TI:=λσ H R=>tl σ H λx H1=>∃ a,x = .ref a/\(∃ xs,SqT K H1 a xs)/\R (Itt K a) H1
theorem a7f{l:Expr}{tl:TE}(hl:PE X l tl):PI X tg l (ak8 X.K tl):=by
 intro pins s σ H R I h
 refine thn (hl pins s σ H _ I h) λv s1 ⟨x,H1,I1,r1,q1⟩=>?_;obtain ⟨a,e,⟨xs,hq⟩,q⟩:=q1;subst e;cases r1
 obtain ⟨its,rv,p,hz⟩:=I1.list hq;refine wpAny_pyIter_list p.isList ?_;refine ⟨s1.heap.objs.size,[s1.heap.objs.size],_,_,H1,rfl,I1.kept (t':=s1.toks) λb o e=>Heap.get?_push_of_some _ e,a7e a _,⟨_,Heap.get?_push_size _ rfl,rfl,rfl⟩,λb hb=>?_,q⟩;have e:b=s1.heap.objs.size:=by simpa using hb
 subst e;exact I1.fpOk (Nat.le_refl _) (I1.hok.fresh (Nat.le_refl _))
theorem agk{l:Expr}{tl:TE}(hl:PE X l tl):PI X tg l (amx X.K tl):=by
 intro pins s σ H R I h
 refine thn (hl pins s σ H _ I h) λv s1 ⟨x,H1,I1,r1,q1⟩=>?_;obtain ⟨a,e,⟨xs,hq⟩,q⟩:=q1;subst e;cases r1
 obtain ⟨its,rv,p,hz⟩:=I1.tuple hq;refine wpAny_pyIter_tuple (show s1.heap.IsTuple a its.toArray from p) ?_
 refine ⟨s1.heap.objs.size,[s1.heap.objs.size],_,_,H1,rfl,I1.kept (t':=s1.toks) λb o e=>Heap.get?_push_of_some _ e,a6m a _,⟨_,Heap.get?_push_size _ rfl,rfl,rfl⟩,λb hb=>?_,q⟩;have e:b=s1.heap.objs.size:=by simpa using hb
 subst e;exact I1.fpOk (Nat.le_refl _) (I1.hok.fresh (Nat.le_refl _))
theorem aa4{pins:List (Addr × Obj)}{σ:St}{H:Hp}{s:Shared}{R:It->Hp->Prop}{E:Value->Shared->Prop}{lo hi:Int}{t u v:Tok}{tk:Nat}(I:Inv X pins σ H s)(h1 : -(2 ^ 62)<=lo)(h2:lo<2 ^ 62)(h3 : -(2 ^ 62)<=hi)(h4:hi<2 ^ 62)
  (q:R (Itr lo (hi - lo).toNat) H):wpAny (model X.prog X.w) X.A (pyIter (.ref s.heap.objs.size)) (PIE X pins σ tg R) E { s with heap:=s.heap.push { cls:=.type "range",data:=.fields #[.int lo t, .int hi u, .int 1 v] },toks:=tk }:=by
 refine wpAny_pyIter_range (IsRange.new ..) (small_one h1 h2 h3 h4) ?_;have I1:Inv X pins σ H { s with heap:=s.heap.push { cls:=.type "range",data:=.fields #[.int lo t, .int hi u, .int 1 v] },toks:=tk }:=I.kept λb o e=>Heap.get?_push_of_some _ e
 refine ⟨(s.heap.push { cls:=.type "range",data:=.fields #[.int lo t, .int hi u, .int 1 v] }).objs.size,[(s.heap.push { cls:=.type "range",data:=.fields #[.int lo t, .int hi u, .int 1 v] }).objs.size],_,_,H,rfl,
  I1.kept (t':=tk) λb o e=>Heap.get?_push_of_some _ e,a6n _ lo (hi - lo).toNat,?_,λb hb=>?_,q⟩
 ·have e1:lo+((0:Nat):Int)*1=lo:=by simp
  have e2:(((hi - lo).toNat:Nat):Int) - ((0:Nat):Int)=Builtin.Range.rangeSize lo hi 1:=by rw [rangeSize_one];split<;>omega
  show IsRangeIter _ _ (lo+((0:Nat):Int)*1) ((((hi - lo).toNat:Nat):Int) - ((0:Nat):Int)) 1;rw [e1,e2];exact Heap.get?_push_size _ rfl
 ·have e:b=(s.heap.push { cls:=.type "range",data:=.fields #[.int lo t, .int hi u, .int 1 v] }).objs.size:=by simpa using hb
  subst e;exact I1.fpOk (Nat.le_refl _) (I1.hok.fresh (Nat.le_refl _))
def ak9(ta:TA):TI:=λσ H R=>ta σ H λvs H1=>∃ j:Int,vs=[.int j] /\ -(2 ^ 62)<=j/\j<2 ^ 62/\R (Itr 0 j.toNat) H1
theorem a7g{a:Expr}{ta:TA}{p pos:Pos}(hg:Gl X "range")(hm:X.mg "range" = none)(ha:PA X [a] ta)(hs:starEach [a] X.env=[(false,eval a X.env)]:=by rfl):PI X tg (.Call (.Name "range" p) [a] [] pos) (ak9 ta):=by
 intro pins s σ H R I h
 refine Call_ (a4u I hg hm boot_range (PyProof.Rows.callWith_type1 (thn (ha pos pins s σ H _ I h) λus s1 ⟨vs,H1,I1,r1,q1⟩=>?_) hs rfl));obtain ⟨j,e,q1,q2,q⟩:=q1;subst e
 cases r1 with
 | cons r rr =>
  cases rr
  obtain ⟨t,rfl⟩:=r;exact call_range_1 (aa4 I1 (by omega) (by omega) q1 q2 (by simpa using q))
def amy(wi:TI)(g:TG)(tb:TS):TS:=λD σ H=>wi σ H λJ H1=>∃ W:Nat->Nat->St->Hp->Prop,(∃ m,W 0 m σ H1)/\∀ i m σ H,W i m σ H->
 (J.stop i H/\D.nx σ H)\/(J.go i H/\∃ N:St->Hp->Prop,(∀ σ' H',N σ' H'->∃ m',m'<m/\W (i+1) m' σ' H')/\∀ x H',J.yld i H x H'->g x σ H' λσ2 H2=>tb { D with nx:=N,ct:=N,bk:=D.nx } σ2 H2)
def a2h(fp:List Addr)(h:Heap):List (Addr × Obj):=fp.filterMap λb=>(h.get? b).map λo=>(b,o)
theorem uf{fp:List Addr}{h:Heap}{b:Addr}{o:Obj}(hb:b∈fp)(e:h.get? b=some o):(b,o)∈a2h fp h:=List.mem_filterMap.mpr ⟨b,hb,by rw [e];rfl⟩
theorem a7h{fp:List Addr}{h:Heap}{p:Addr × Obj}(hp:p∈a2h fp h):p.1∈fp/\h.get? p.1=some p.2:=by
 obtain ⟨b,hb,e⟩:=List.mem_filterMap.mp hp
 cases q:h.get? b with
 | none=>rw [q] at e;cases e
 | some o =>
  rw [q] at e;have e':(b,o)=p:=Option.some.inj e;subst e';exact ⟨hb,q⟩
theorem Inv.pinned{pins:List (Addr × Obj)}{σ:St}{H:Hp}{s:Shared}{fp:List Addr}(I:Inv X pins σ H s)(hf:∀ b∈fp,a6l X pins H b)(ho:∀ b∈fp,∃ o,s.heap.get? b=some o/\∀ v,o.data≠.cell v):Inv X (pins++a2h fp s.heap) σ H s :=
 I.pins_of λp hp=>(List.mem_append.mp hp).elim (λz=>I.pin p (List.mem_append_right _ z)) λz=>by
  obtain ⟨hb,e⟩:=a7h z;obtain ⟨f0,f1,f2,_⟩:=hf p.1 hb;obtain ⟨o,e',d⟩:=ho p.1 hb;rw [e] at e';cases e'
  exact ⟨e,f0,f1,f2,d⟩
theorem Inv.unpinned{pins pl:List (Addr × Obj)}{σ:St}{H:Hp}{s:Shared}(I:Inv X (pins++pl) σ H s):Inv X pins σ H s:=I.pins_of λp hp=>I.pin p (List.mem_append_right _ (List.mem_append_left _ hp))
theorem agl{iter:Expr}{body:List Stmt}{wi:TI}{g:TG}{tb:TS}{pos:Pos}(hp:PassesOwn (model X.prog X.w) X.A X.env X.xe)(hc:X.calm=true)(hi:PI X tg iter wi)(hg:PG X tg g)(hb:PSs X body tb)
  (hs:∀ x,foldedSetIterable iter X.env x=pure x:=by intro _;rfl):PS X (.For tg iter body [] pos) (amy wi g tb):=by
 intro pins s σ H D I h
 refine wpAny_For (thn (hi pins s σ H _ I h) λv s1 h1=>thn h1 λitv s2 h2=>?_) hs;obtain ⟨it,fp,tn,J,H2,e,I2,T,st2,f2,W,⟨m0,w0⟩,turn⟩:=h2;subst e;have stat:∀ {H':Hp},(∀ b∈fp,H' b=none)->∀ b∈fp,a6l X pins H' b:=λhn b hb=>⟨hn b hb,(f2 b hb).2⟩;refine codeAny_forLoop_any (λn s'=>∃ i σ' H',Inv X pins σ' H' s'/\tn i s'.heap/\(∀ b∈fp,H' b=none)/\W i n σ' H') ?_ m0 ⟨0,σ,H2,I2,st2,λb hb=>(f2 b hb).1,w0⟩
 rintro n s3 ⟨i,σ3,H3,I3,st3,fr3,w3⟩
 rcases turn i n σ3 H3 w3 with ⟨stop,qn⟩ | ⟨go,N,hN,step⟩
 ·refine wpAny_passesOwn hp (thn (T.done X rfl rfl rfl hc i pins s3 σ3 H3 X.xe I3 (stat fr3) st3 stop) λr s4 ⟨hr,I4⟩=>?_);subst hr;exact wpAny_execs_nil ⟨σ3,H3,I4,qn⟩
 ·refine wpAny_passesOwn hp (thn (T.item X rfl rfl rfl hc i pins s3 σ3 H3 X.xe I3 (stat fr3) st3 go) λr s4 ⟨u,hr,h4⟩=>?_);subst hr;refine wpAny_passesOwn hp (thn h4 λ_ s5 ⟨x,H5,I5,r5,y5,st5,fr5⟩=>?_);have I5':=I5.pinned (stat fr5) (T.obj _ _ st5);refine wpAny_passesOwn hp (thn (hg _ s5 σ3 H5 x u _ I5' r5 (step x H5 y5)) λ_ s6 ⟨σ6,H6,I6,q6⟩=>?_);refine wpAny_passesOwn hp (thn (hb _ s6 σ6 H6 _ I6 q6) λf s7 q7=>?_);have again:∀ {σ7:St} {H7:Hp},Inv X (pins++a2h fp s5.heap) σ7 H7 s7->N σ7 H7->∃ m,m<n/\∃ i σ' H',Inv X pins σ' H' s7/\tn i s7.heap/\(∀ b∈fp,H' b=none)/\W i m σ' H':=λ{σ7 H7} I7 n7=>by
   obtain ⟨m',hm,w7⟩:=hN σ7 H7 n7;refine ⟨m',hm,i+1,σ7,H7,I7.unpinned,T.keep _ _ _ st5 λb hb o e=>(I7.pin (b,o) (List.mem_append_right _ (List.mem_append_right _ (uf hb e)))).1,λb hb=>?_,w7⟩;obtain ⟨o,e,d⟩:=T.obj _ _ st5 b hb;exact (I7.pin (b,o) (List.mem_append_right _ (List.mem_append_right _ (uf hb e)))).2.1
  cases f with
  | next=>obtain ⟨σ7,H7,I7,n7⟩:=q7;exact again I7 n7
  | cont=>obtain ⟨σ7,H7,I7,n7⟩:=q7;exact again I7 n7
  | brk=>obtain ⟨σ7,H7,I7,q7⟩:=q7;exact ⟨σ7,H7,I7.unpinned,q7⟩
  | ret v=>obtain ⟨x7,σ7,H7,I7,r7,q7⟩:=q7;exact ⟨x7,σ7,H7,I7.unpinned,r7,q7⟩
end
abbrev R2:=V->V->Hp->VK->Prop
def OpR(X:Cx)(f:Value->Value->Sem Value)(r:R2):Prop :=
 ∀ (pins:List (Addr × Obj)) (s:Shared) (σ:St) (H:Hp) (x y:V) (v u:Value) (Q:VK),Inv X pins σ H s->RelV x v->RelV y u->r x y H Q->
  wpAny (model X.prog X.w) X.A (f v u) (EP X pins σ Q) X.xe s
def UnR(X:Cx)(f:Value->Sem Value)(r:V->Hp->VK->Prop):Prop :=
 ∀ (pins:List (Addr × Obj)) (s:Shared) (σ:St) (H:Hp) (x:V) (v:Value) (Q:VK),Inv X pins σ H s->RelV x v->r x H Q->
  wpAny (model X.prog X.w) X.A (f v) (EP X pins σ Q) X.xe s
def CallR(X:Cx)(f:Value)(r:List V->Hp->VK->Prop):Prop :=
 ∀ (pins:List (Addr × Obj)) (s:Shared) (σ:St) (H:Hp) (xs:List V) (us:List Value) (Q:VK),Inv X pins σ H s->Vals xs us->r xs H Q->
  wpAny (model X.prog X.w) X.A (call f us) (EP X pins σ Q) X.xe s
def amz(X:Cx)(r:V->Hp->(Bool->Hp->Prop)->Prop):Prop :=
 ∀ (pins:List (Addr × Obj)) (s:Shared) (σ:St) (H:Hp) (x:V) (v:Value) (Q:Bool->Hp->Prop),Inv X pins σ H s->RelV x v->r x H Q->
  wpAny (model X.prog X.w) X.A (truthy v) (TP X pins σ Q) X.xe s
def tOp(r:R2)(ta tb:TE):TE:=λσ H Q=>ta σ H λx H1=>tb σ H1 λy H2=>r x y H2 Q
def tUn(r:V->Hp->VK->Prop)(ta:TE):TE:=λσ H Q=>ta σ H λx H1=>r x H1 Q
def rI(C:Int->Int->Prop)(g:Int->Int->V):R2:=λx y H Q=>∃ i j,x = .int i/\y = .int j/\C i j/\Q (g i j) H
def rI0(g:Int->Int->V):R2:=λx y H Q=>∃ i j,x = .int i/\y = .int j/\Q (g i j) H
def rU(g:Int->V):V->Hp->VK->Prop:=λx H Q=>∃ i,x = .int i/\Q (g i) H
section
variable{X:Cx}{a b c:Expr}{ta tb tc:TE}{pos:Pos}
theorem aka(ha:PE X a ta)(hb:PE X b tb){pins:List (Addr × Obj)}{s:Shared}{σ:St}{H:Hp}{R:V->V->Hp->Prop}(I:Inv X pins σ H s)
  (h:ta σ H λx H1=>tb σ H1 λy H2=>R x y H2) {Q:Value->Shared->Prop} {f:Value->Value->Sem Value}
  (hf:∀ v u s2 x y H2,Inv X pins σ H2 s2->RelV x v->RelV y u->R x y H2->wpAny (model X.prog X.w) X.A (f v u) Q X.xe s2) :
  wpAny (model X.prog X.w) X.A (eval a X.env) (λv s₁=>wpAny (model X.prog X.w) X.A (eval b X.env) (λu s₂=>wpAny (model X.prog X.w) X.A (f v u) Q X.xe s₂) X.xe s₁) X.xe s:=by
 refine thn (ha pins s σ H _ I h) λv s1 ⟨x,H1,I1,r1,q1⟩=>?_;refine thn (hb pins s1 σ H1 _ I1 q1) λu s2 ⟨y,H2,I2,r2,q2⟩=>?_;exact hf v u s2 x y H2 I2 r1 r2 q2
theorem akb{op:Operator}{r:R2}(ho:OpR X (binaryOp op) r)(ha:PE X a ta)(hb:PE X b tb):PE X (.BinOp a op b pos) (tOp r ta tb):=by
 intro pins s σ H Q I h
 exact wpAny_BinOp (aka ha hb I h λv u s2 x y H2 I2 rx ry q=>ho pins s2 σ H2 x y v u Q I2 rx ry q)
theorem akc{op:UnaryOp}{r:V->Hp->VK->Prop}(ho:UnR X (unaryOp op) r)(ha:PE X a ta):PE X (.UnaryOp op a pos) (tUn r ta):=by
 intro pins s σ H Q I h
 exact UnaryOp_ (thn (ha pins s σ H _ I h) λv s1 ⟨x,H1,I1,r1,q1⟩=>ho pins s1 σ H1 x v Q I1 r1 q1)
theorem opI{f:Value->Value->Sem Value}{C:Int->Int->Prop}{g:Int->Int->Int}
  (rule:∀ (i j:Int) (t u:Tok) (s:Shared) (Q:Value->Shared->Prop) (E:Value->Shared->Prop),C i j->Q (.int (g i j) s.toks) { s with toks:=s.toks+1 }->wpAny (model X.prog X.w) X.A (f (.int i t) (.int j u)) Q E s) :
  OpR X f (rI C λi j=>.int (g i j)):=by
 intro pins s σ H x y v u Q I rx ry h
 obtain ⟨i,j,rfl,rfl,hc,q⟩:=h;obtain ⟨t,rfl⟩:=rx;obtain ⟨t',rfl⟩:=ry;exact rule i j t t' s _ _ hc ⟨.int (g i j),H,I.tok _,⟨_,rfl⟩,q⟩
theorem akd{f:Value->Value->Sem Value}{g:Int->Int->Int}
  (rule:∀ (i j:Int) (t u:Tok) (s:Shared) (Q:Value->Shared->Prop) (E:Value->Shared->Prop),Q (.int (g i j) s.toks) { s with toks:=s.toks+1 }->wpAny (model X.prog X.w) X.A (f (.int i t) (.int j u)) Q E s) :
  OpR X f (rI0 λi j=>.int (g i j)):=by
 intro pins s σ H x y v u Q I rx ry h
 obtain ⟨i,j,rfl,rfl,q⟩:=h;obtain ⟨t,rfl⟩:=rx;obtain ⟨t',rfl⟩:=ry;exact rule i j t t' s _ _ ⟨.int (g i j),H,I.tok _,⟨_,rfl⟩,q⟩
theorem ajo{f:Value->Value->Sem Value}{g:Int->Int->Bool}
  (rule:∀ (i j:Int) (t u:Tok) (s:Shared) (Q:Value->Shared->Prop) (E:Value->Shared->Prop),Q (.bool (g i j)) s->wpAny (model X.prog X.w) X.A (f (.int i t) (.int j u)) Q E s) :
  OpR X f (rI0 λi j=>.bl (g i j)):=by
 intro pins s σ H x y v u Q I rx ry h
 obtain ⟨i,j,rfl,rfl,q⟩:=h;obtain ⟨t,rfl⟩:=rx;obtain ⟨t',rfl⟩:=ry;exact rule i j t t' s _ _ ⟨.bl (g i j),H,I,rfl,q⟩
def ake(i j:Int):Prop:=0<j/\j<1073741824
def aln(i j:Int):Prop:=0<=j/\j<=1000000/\i.natAbs<2 ^ 64
def CMul(i j:Int):Prop:=(-(2 ^ 64)<i/\i<2 ^ 64)\/(-(2 ^ 64)<j/\j<2 ^ 64)
theorem CMul.ok{i j:Int}(h:CMul i j):IntMulOk i j:=by
 rcases h with ⟨h1,h2⟩ | ⟨h1,h2⟩
 ·exact .of_left (intBits_le_64 h1 h2)
 ·exact .of_right (intBits_le_64 h1 h2)
theorem agm:OpR X (binaryOp .Add) (rI0 λi j=>.int (i+j)):=akd λ_ _ _ _ _ _ _ q=>add_int q
theorem agn:OpR X (binaryOp .Sub) (rI0 λi j=>.int (i - j)):=akd λ_ _ _ _ _ _ _ q=>sub_int q
theorem ago:OpR X (binaryOp .Mult) (rI CMul λi j=>.int (i*j)):=opI λ_ _ _ _ _ _ _ hc q=>mul_int q hc.ok
theorem adc:OpR X (binaryOp .FloorDiv) (rI ake λi j=>.int (i / j)):=opI λi j _ _ _ _ _ hc q=>by
 have h1:(0:Int)<j:=hc.1;have h2:j<1073741824:=hc.2;exact floordiv_int (by omega) (by rw [Int.fdiv_eq_ediv_of_nonneg i (by omega)];exact q) (.inl (PyProof.noPylong_small (by omega)))
theorem agp:OpR X (binaryOp .Mod) (rI (λ_ j=>0<j) λi j=>.int (i % j)):=opI λi j _ _ _ _ _ hc q=>by
 have h1:(0:Int)<j:=hc;exact mod_int' (by omega) (by rw [Int.fmod_eq_emod_of_nonneg i (by omega)];exact q)
theorem agq:OpR X (binaryOp .Pow) (rI aln λi j=>.int (i ^ j.toNat)):=opI λ_ _ _ _ _ _ _ hc q=>pow_int_small hc.1 hc.2.1 hc.2.2 q
theorem a3o:OpR X (inplaceOp .Add) (rI0 λi j=>.int (i+j)):=akd λ_ _ _ _ _ _ _ q=>iadd_int q
theorem aa5:OpR X (inplaceOp .FloorDiv) (rI ake λi j=>.int (i / j)):=opI λi j _ _ _ _ _ hc q=>by
 have h1:(0:Int)<j:=hc.1;have h2:j<1073741824:=hc.2;exact ifloordiv_int (by omega) (by rw [Int.fdiv_eq_ediv_of_nonneg i (by omega)];exact q) (.inl (PyProof.noPylong_small (by omega)))
theorem unI{f:Value->Sem Value}{g:Int->Int}
  (rule:∀ (i:Int) (t:Tok) (s:Shared) (Q:Value->Shared->Prop) (E:Value->Shared->Prop),Q (.int (g i) s.toks) { s with toks:=s.toks+1 }->wpAny (model X.prog X.w) X.A (f (.int i t)) Q E s) :
  UnR X f (rU λi=>.int (g i)):=by
 intro pins s σ H x v Q I rx h
 obtain ⟨i,rfl,q⟩:=h;obtain ⟨t,rfl⟩:=rx;exact rule i t s _ _ ⟨.int (g i),H,I.tok _,⟨_,rfl⟩,q⟩
theorem agr:UnR X (unaryOp .USub) (rU λi=>.int (-i)):=unI λ_ _ _ _ _ q=>neg_int q
end
section
variable{X:Cx}{a b c:Expr}{ta tb tc:TE}{pos:Pos}
theorem a4w{pins:List (Addr × Obj)}{σ:St}{H:Hp}{s:Shared}{Q:VK}{k k':Bool}(I:Inv X pins σ H s)(q:Q (.bl k) H)(e:k=k'):EP X pins σ Q (.bool k') s:=by
 subst e;exact ⟨.bl k,H,I,rfl,q⟩
theorem a7i:OpR X (compareOp .Lt) (rI0 λi j=>.bl (decide (i<j))):=ajo λ_ _ _ _ _ _ _ q=>lt_int q
theorem ags:OpR X (compareOp .LtE) (rI0 λi j=>.bl (decide (i<=j))):=ajo λ_ _ _ _ _ _ _ q=>le_int q
theorem akf:OpR X (compareOp .Gt) (rI0 λi j=>.bl (decide (j<i))):=ajo λ_ _ _ _ _ _ _ q=>gt_int q
theorem akg:OpR X (compareOp .GtE) (rI0 λi j=>.bl (decide (j<=i))):=ajo λ_ _ _ _ _ _ _ q=>ge_int q
theorem t6:OpR X (compareOp .Lt) (λx y H Q=>∃ i j,x = .str i/\y = .str j/\Q (.bl (decide (i.cps.toList<j.cps.toList))) H):=by
 intro pins s σ H x y v u Q I rx ry h
 obtain ⟨i,j,rfl,rfl,q⟩:=h;obtain ⟨t,rfl⟩:=rx;obtain ⟨t',rfl⟩:=ry;exact lt_str (a4w I q rfl)
theorem a7j:OpR X (compareOp .IsNot) (λx y H Q=>y = .non/\Q (.bl (!decide (x = .non))) H):=by
 intro pins s σ H x y v u Q I rx ry h
 obtain ⟨rfl,q⟩:=h;cases ry
 refine isnot_none_gen (a4w I q ?_)
 cases x<;>first
  | (cases rx;rfl)
  | (obtain ⟨t,rfl⟩:=rx;rfl)
theorem OpR.or{f:Value->Value->Sem Value}{r r':R2}(h:OpR X f r)(h':OpR X f r'):OpR X f (λx y H Q=>r x y H Q\/r' x y H Q):=by
 intro pins s σ H x y v u Q I rx ry q
 rcases q with q | q
 ·exact h pins s σ H x y v u Q I rx ry q
 ·exact h' pins s σ H x y v u Q I rx ry q
theorem jn(b:Expr){op:CmpOp}(h:op≠.In:=by decide)(h2:op≠.NotIn:=by decide):behindInMarks op b=false:=by
 have e1:(op == CmpOp.In)=false:=by cases op<;>first | rfl | exact absurd rfl h
 have e2:(op == CmpOp.NotIn)=false:=by cases op<;>first | rfl | exact absurd rfl h2
 cases b<;>simp [behindInMarks,e1,e2]
theorem ade{op:CmpOp}{r:R2}(ho:OpR X (compareOp op) r)(ha:PE X a ta)(hb:PE X b tb)(hm:behindInMarks op b=false):PE X (.Compare a [op] [b] pos) (tOp r ta tb):=by
 intro pins s σ H Q I h
 exact wpAny_Compare1 (aka ha hb I h λv u s2 x y H2 I2 rx ry q=>ho pins s2 σ H2 x y v u Q I2 rx ry q) hm
def agt(t:TE):TT:=λσ H Q=>t σ H λx H'=>∃ k,x = .bl k/\Q k H'
theorem adf{op:CmpOp}{r:R2}(ho:OpR X (compareOp op) r)(ha:PE X a ta)(hb:PE X b tb)(hm:behindInMarks op b=false):PT X (.Compare a [op] [b] pos) (agt (tOp r ta tb)):=by
 intro pins s σ H Q I h
 refine wpAny_isTrue_Compare1 (thn (ha pins s σ H _ I h) λv s1 ⟨x,H1,I1,r1,q1⟩=>thn (hb pins s1 σ H1 _ I1 q1) λu s2 ⟨y,H2,I2,r2,q2⟩ =>
  thn (ho pins s2 σ H2 x y v u _ I2 r1 r2 q2) λc s3 ⟨z,H3,I3,r3,k,e,q3⟩=>?_) hm
 subst e;cases r3
 exact wpAny_truthy_bool ⟨H3,I3,q3⟩
def abv(r r':R2)(ta tb tc:TE):TE:=λσ H Q=>ta σ H λx H1=>tb σ H1 λy H2=>r x y H2 λz H3=>∃ k,z = .bl k /\
 (if k=true then tc σ H3 λw' H4=>r' y w' H4 Q else Q (.bl false) H3)
theorem aa6{op op':CmpOp}{r r':R2}(ho:OpR X (compareOp op) r)(ho':OpR X (compareOp op') r')(ha:PE X a ta)(hb:PE X b tb)(hc:PE X c tc)
  (hm:lastMarks [op,op'] [b,c]=false:=by with_unfolding_all rfl):PE X (.Compare a [op,op'] [b,c] pos) (abv r r' ta tb tc):=by
 intro pins s σ H Q I h
 refine Compare_chain (thn (ha pins s σ H _ I h) λv s1 ⟨x,H1,I1,r1,q1⟩=>chain_link (thn (hb pins s1 σ H1 _ I1 q1) λu s2 ⟨y,H2,I2,r2,q2⟩ =>
  thn (ho pins s2 σ H2 x y v u _ I2 r1 r2 q2) λd s3 ⟨z,H3,I3,r3,k,e,q3⟩=>?_)) hm
 subst e;cases r3
 refine wpAny_truthy_bool ?_
 cases k with
 | false=>exact ite_ff ⟨.bl false,H3,I3,rfl,q3⟩
 | true=>exact ite_tt (chain_last (thn (hc pins s3 σ H3 _ I3 q3) λw' s4 ⟨z',H4,I4,r4,q4⟩=>ho' pins s4 σ H4 y z' u w' Q I4 r2 r4 q4))
def akh(K:PySem.W.Frag)(x:V)(H:Hp)(k:Bool):Prop :=
 match x with
 | .non=>k=false
 | .bl b=>k=b
 | .int i=>k=(i != 0)
 | .str y=>y.length<=sizeLine/\k=((y.length:Int) != 0)
 | .byt y=>y.size<=sizeLine/\k=((y.size:Int) != 0)
 | .ref p=>(∃ xs,SqL K H p xs/\k = !xs.isEmpty)\/(∃ xs,SqT K H p xs/\k = !xs.isEmpty)\/∃ kvs,H p=some (.dK kvs)/\k = !kvs.isEmpty
 | _=>False
theorem a6o{κ:Type}{kvs:List (κ × V)}{vs:List (κ × Value)}(r:KV kvs vs):(!vs.isEmpty) = !kvs.isEmpty:=by
 cases r<;>rfl
theorem a0f{xs:List V}{its:List Value}(r:Vals xs its):(!its.toArray.isEmpty) = !xs.isEmpty:=by
 cases r<;>simp
theorem yg:(sizeLine:Nat)<2 ^ 63:=by rw [sizeLine_eq];decide
theorem agu:amz X (λx H Q=>∃ k,akh X.K x H k/\Q k H):=by
 intro pins s σ H x v Q I rx h
 obtain ⟨k,e,q⟩:=h;have hl:=yg;have hs:sizeLine=16777216:=sizeLine_eq
 cases x with
 | non =>
  cases rx
  have e':k=false:=e;subst e';exact truthy_none ⟨H,I,q⟩
 | bl b =>
  cases rx
  have e':k=b:=e;subst e';exact wpAny_truthy_bool ⟨H,I,q⟩
 | int i =>
  obtain ⟨t,rfl⟩:=rx;have e':k=(i != 0):=e;subst e';exact PySem.P.truthy_int ⟨H,I,q⟩
 | str y =>
  obtain ⟨t,rfl⟩:=rx;obtain ⟨hy,e'⟩:y.length<=sizeLine/\k=((y.length:Int) != 0):=e;subst e';exact PySem.P.truthy_str (by omega) ⟨H,I.tok _,q⟩
 | byt y =>
  obtain ⟨t,rfl⟩:=rx;obtain ⟨hy,e'⟩:y.size<=sizeLine/\k=((y.size:Int) != 0):=e;subst e';exact PySem.W.truthy_bytes (by omega) ⟨H,I.tok _,q⟩
 | ref p =>
  cases rx
  have e':(∃ xs,SqL X.K H p xs/\k = !xs.isEmpty)\/(∃ xs,SqT X.K H p xs/\k = !xs.isEmpty)\/∃ kvs,H p=some (.dK kvs)/\k = !kvs.isEmpty:=e
  rcases e' with ⟨xs,hx,e'⟩ | ⟨xs,hx,e'⟩ | ⟨kvs,hx,e'⟩
  ·subst e';obtain ⟨its,r,pl,hz⟩:=I.list hx;have hlen:=r.length;exact wpAny_truthy_list pl.isList (by simp only [List.size_toArray];omega) ⟨H,I.tok _,by rw [a0f r];exact q⟩
  ·subst e';obtain ⟨its,r,pl,hz⟩:=I.tuple hx;have hlen:=r.length;exact truthy_tuple pl (by simp only [List.size_toArray];omega) ⟨H,I.tok _,by rw [a0f r];exact q⟩
  ·subst e';obtain ⟨hz,hS,vs,r,m⟩:kvs.length<=sizeLine/\(p == sysModules)=false/\∃ vs,KV kvs vs/\s.heap.DictOf (zj X.prog X.w) p vs:=I.hok p _ hx;have hlen:kvs.length=vs.length:=Paired.length r;exact wpAny_truthy_dict hS m (by omega) ⟨H,I.tok _,by rw [a6o r];exact q⟩
 | _=>exact (show False from e).elim
theorem aa7(ha:PE X a ta)(he:∀ whole,isTrue a X.env whole=(do let v <-whole;standAt a.pos;holding [v] (truthy v))) :
  PT X a (λσ H Q=>ta σ H λx H'=>∃ k,akh X.K x H' k/\Q k H'):=by
 intro pins s σ H Q I h
 exact isTrue_plain (thn (ha pins s σ H _ I h) λv s1 ⟨x,H1,I1,r1,q1⟩=>agu pins s1 σ H1 x v Q I1 r1 q1) (he _)
theorem a6p:OpR X (binaryOp .Add) (λx y H Q=>∃ i j,x = .str i/\y = .str j/\i.length+j.length<=sizeLine/\Q (.str (i++j)) H):=by
 intro pins s σ H x y v u Q I rx ry h
 obtain ⟨i,j,rfl,rfl,hz,q⟩:=h;obtain ⟨t,rfl⟩:=rx;obtain ⟨t',rfl⟩:=ry;exact add_str (λt' tk=>⟨.str (i++j),H,I.tok _,⟨_,rfl⟩,q⟩) hz
theorem uy:OpR X (inplaceOp .Add) (λx y H Q=>∃ i j,x = .str i/\y = .str j/\i.length+j.length<=sizeLine/\Q (.str (i++j)) H):=by
 intro pins s σ H x y v u Q I rx ry h
 obtain ⟨i,j,rfl,rfl,hz,q⟩:=h;obtain ⟨t,rfl⟩:=rx;obtain ⟨t',rfl⟩:=ry;exact iadd_str (λt' tk=>⟨.str (i++j),H,I.tok _,⟨_,rfl⟩,q⟩) hz
theorem vals1{x:V}{us:List Value}(r:Vals [x] us):∃ u,us=[u]/\RelV x u:=by
 cases r with
 | cons r1 r2=>cases r2;exact ⟨_,rfl,r1⟩
theorem vals2{x y:V}{us:List Value}(r:Vals [x,y] us):∃ u w',us=[u,w']/\RelV x u/\RelV y w':=by
 cases r with
 | cons r1 r2 =>
  cases r2 with
  | cons r3 r4=>cases r4;exact ⟨_,_,rfl,r1,r3⟩
theorem aa8:CallR X (.builtin "abs") (λxs H Q=>∃ i,xs=[.int i]/\Q (.int (if i<0 then -i else i)) H):=by
 intro pins s σ H xs us Q I r h
 obtain ⟨i,rfl,q⟩:=h;obtain ⟨u,rfl,t,rfl⟩:=vals1 r;exact call_abs_int λu tk=>⟨.int (if i<0 then -i else i),H,I.tok _,⟨_,rfl⟩,q⟩
theorem a7k(hc:X.calm=true):CallR X (.builtin "min") (λxs H Q=>∃ i j,xs=[.int i, .int j]/\Q (.int (if j<i then j else i)) H):=by
 intro pins s σ H xs us Q I r h
 obtain ⟨i,j,rfl,q⟩:=h;obtain ⟨u,w',rfl,⟨t,rfl⟩,⟨t',rfl⟩⟩:=vals2 r;refine min_two_ints (I.ok.hd hc) λh' tk k=>⟨_,H,I.kept k,?_,q⟩
 by_cases hj:j<i
 ·rw [if_pos hj,if_pos hj];exact ⟨_,rfl⟩
 ·rw [if_neg hj,if_neg hj];exact ⟨_,rfl⟩
theorem a7l:CallR X (.type "int") (λxs H Q=>(∃ i,xs=[.int i]/\Q (.int i) H)\/∃ k,xs=[.bl k]/\Q (.int (if k then 1 else 0)) H):=by
 intro pins s σ H xs us Q I r h
 rcases h with ⟨i,rfl,q⟩ | ⟨k,rfl,q⟩
 ·obtain ⟨u,rfl,t,rfl⟩:=vals1 r;exact call_int_int ⟨.int i,H,I,⟨_,rfl⟩,q⟩
 ·obtain ⟨u,rfl,r1⟩:=vals1 r;cases r1
  exact call_int_bool ⟨.int (if k then 1 else 0),H,I.tok _,⟨_,rfl⟩,q⟩
end
structure ObjM (h:Heap) (x dx C:Addr) (mA:Str->Option Value):Prop where
 obj:h.get? x=some (PySem.W.instObj C dx)
 ns:h.Ns1 dx mA
 ne:dx≠x
theorem a7m{h:Heap}{dx:Addr}{mA:Str->Option Value}(n:h.Ns1 dx mA):∃ od,h.get? dx=some od/\∀ name,PySem.W.lookIn name od=some (mA name):=by
 obtain ⟨o,es,ep,ho,hd,hk,_,hm⟩:=n;refine ⟨o,ho,λname=>?_⟩;have e:=hm name;unfold nsFind findBy at e;rw [<-Array.find?_toList] at e;unfold PySem.W.lookIn;rw [hd];dsimp only
 split
 ·rename_i y q;rw [q] at e;exact congrArg some e
 ·rename_i q;rw [q] at e;have a:es.toList.any (·.refKey)=false:=by
   rw [List.any_eq_false]
   intro y hy
   obtain ⟨z,t,hkey⟩:=hk y (Array.mem_toList_iff.mp hy);simp [DictEntry.refKey,hkey]
  have a':¬ es.toList.any (·.refKey)=true:=by rw [a];exact Bool.false_ne_true
  rw [if_neg a'];exact congrArg some e
theorem ObjM.look{h:Heap}{x dx C:Addr}{mA:Str->Option Value}(I:ObjM h x dx C mA):∃ od,PySem.W.InstAt h x (PySem.W.instObj C dx) C (some od)/\∀ name,PySem.W.lookIn name od=some (mA name) :=
 let ⟨od,ho,hl⟩:=a7m I.ns
 ⟨od,⟨I.obj,rfl,rfl,ho⟩,hl⟩
theorem RelO.some_of{v:V}{o:Option Value}(r:RelO (some v) o):∃ u,o=some u/\RelV v u:=by
 cases o with
 | none=>exact (show False from r).elim
 | some u=>exact ⟨u,rfl,r⟩
section
variable{P:Program}{w:World}{H H':Hp}{h h':Heap}{a C dx:Addr}{fs fs':List (Str × V)}
theorem adg(hok:HOk P w H h)(e:H a=some (.ins C dx fs)):∃ mA,ObjM h a dx C mA/\(∀ f,RelO (fs.lookup f) (mA f))/\PySem.Within mA (fs.map (·.1))/\fs.length<=1000/\H dx=some (.own a):=by
 obtain ⟨d,z,ne,ob,mA,n,r,q⟩:=(show ObjOk P w H h a (.ins C dx fs) from hok a _ e)
 exact ⟨mA,⟨ob,n,ne⟩,r,q,z,d⟩
end
structure Cls (K:PySem.W.Frag) (C:Addr):Prop where
 pg:PySem.W.plainGet K C Str.empty=true
 hd:PySem.W.hasDictIn K C=true
 po:PySem.W.plainOver K C=true
 sa:PySem.W.findIn K (.ref C) "__setattr__" = some (some (.builtin "object.__setattr__"))
theorem Cls.get{K:PySem.W.Frag}{C:Addr}(c:Cls K C)(f:Str):PySem.W.plainGet K C f=true:=c.pg
section
variable{X:Cx}{pins:List (Addr × Obj)}{σ:St}{H:Hp}{s:Shared}{A:Around}{E:Value->Shared->Prop}{Q:Value->Shared->Prop}{c:Value}{b:Bool}
inductive TyOf (K:PySem.W.Frag) (H:Hp):V->Value->Prop where
 | non:TyOf K H .non (.type "NoneType")
 | bl (x:Bool):TyOf K H (.bl x) (.type "bool")
 | int (i:Int):TyOf K H (.int i) (.type "int")
 | str (x:Str):TyOf K H (.str x) (.type "str")
 | flt (x:UInt64):TyOf K H (.flt x) (.type "float")
 | lst {a:Addr} {xs:List V} (e:H a=some (.lst xs)):TyOf K H (.ref a) (.type "list")
 | frz {a:Addr} {o:Obj} {xs:List V} (e:H a=some (.frz o (.lst xs))):TyOf K H (.ref a) (.type "list")
 | tup {a:Addr} {xs:List V} (e:H a=some (.tup xs)):TyOf K H (.ref a) (.type "tuple")
 | dK {a:Addr} {kvs:List (Key × V)} (e:H a=some (.dK kvs)):TyOf K H (.ref a) (.type "dict")
 | dT {a:Addr} {kvs:List (List Key × V)} (e:H a=some (.dT kvs)):TyOf K H (.ref a) (.type "dict")
 | ins {a C dx:Addr} {fs:List (Str × V)} (e:H a=some (.ins C dx fs)) (cl:Cls K C) (ha:PySem.W.findIn K (.ref C) "__class__" = some (some (.builtin "object.__class__")))
   (hn:PySem.W.specialIn K (.builtin "object.__class__") "__get__" = some (some (.builtin "getset_descriptor.__get__"))) (htk:PySem.W.takesIn K (.builtin "object.__class__")=some true)
   (hm:PySem.W.mroIn K C (.type "object")=some true):TyOf K H (.ref a) (.ref C)
theorem a7n{x:V}{u t:Value}(I:Inv X pins σ H s)(rx:RelV x u)(ty:TyOf X.K H x t)(e:PySem.W.kitOne X.K t c=some b)(h:∀ tk,Q (.bool b) { s with toks:=tk }) :
  wpAny (model X.prog X.w) A (call (.builtin "isinstance") [u,c]) Q E s:=by
 cases ty with
 | non=>cases (show u=Value.none from rx);exact PySem.W.kia_one PySem.W.kitx_none I.kIn True.intro e (λz=>nomatch z) h
 | bl y=>cases (show u=Value.bool y from rx);exact PySem.W.kia_one PySem.W.kitx_bool I.kIn True.intro e (λz=>nomatch z) h
 | int i=>obtain ⟨t,q⟩:=(show ∃ t,u=Value.int i t from rx);cases q;exact PySem.W.kia_one PySem.W.kitx_int I.kIn True.intro e (λz=>nomatch z) h
 | str y=>obtain ⟨t,q⟩:=(show ∃ t,u=Value.str y t from rx);cases q;exact PySem.W.kia_one PySem.W.kitx_str I.kIn True.intro e (λz=>nomatch z) h
 | flt y=>obtain ⟨t,q⟩:=(show ∃ t,u=Value.float y t from rx);cases q;exact PySem.W.kia_one PySem.W.kitx_float I.kIn True.intro e (λz=>nomatch z) h
 | @lst a xs ea =>
  cases (show u=Value.ref a from rx)
  obtain ⟨_,_,n,_,h1⟩:=(show ObjOk X.prog X.w H s.heap a (.lst xs) from I.hok a _ ea)
  exact PySem.W.kia_one PySem.W.kitx_list I.kIn ⟨_,h1,rfl⟩ e (λz=>nomatch z) h
 | @frz a ob xs ea =>
  cases (show u=Value.ref a from rx)
  obtain ⟨_,_,_,n,_,h1⟩:=(show ObjOk X.prog X.w H s.heap a (.frz ob (.lst xs)) from I.hok a _ ea)
  exact PySem.W.kia_one PySem.W.kitx_list I.kIn ⟨_,h1,rfl⟩ e (λz=>nomatch z) h
 | @tup a xs ea =>
  cases (show u=Value.ref a from rx)
  obtain ⟨_,_,_,p⟩:=(show ObjOk X.prog X.w H s.heap a (.tup xs) from I.hok a _ ea)
  obtain ⟨o,h1,h2,_⟩:=p;exact PySem.W.kia_one PySem.W.kitx_tuple I.kIn ⟨o,h1,h2⟩ e (λz=>nomatch z) h
 | @dK a kvs ea =>
  cases (show u=Value.ref a from rx)
  obtain ⟨_,_,vs,_,p⟩:=(show ObjOk X.prog X.w H s.heap a (.dK kvs) from I.hok a _ ea)
  obtain ⟨o,es,ep,h1,h2,_⟩:=p;exact PySem.W.kia_one PySem.W.kitx_dict I.kIn ⟨o,h1,h2.1⟩ e (λz=>nomatch z) h
 | @dT a kvs ea =>
  cases (show u=Value.ref a from rx)
  obtain ⟨_,_,xs,_,o,es,ep,h1,h2,_⟩:=(show ObjOk X.prog X.w H s.heap a (.dT kvs) from I.hok a _ ea)
  exact PySem.W.kia_one PySem.W.kitx_dict I.kIn ⟨o,h1,h2.1⟩ e (λz=>nomatch z) h
 | @ins a C dx fs ea cl ha hn htk hm =>
  cases (show u=Value.ref a from rx)
  obtain ⟨mA,O,_⟩:=adg I.hok ea;obtain ⟨od,J,_⟩:=O.look;exact PySem.W.kia_one (PySem.W.kitx_own (cl.get _) cl.hd ha hn htk hm) I.kIn J e (λz=>nomatch z) h
end
structure Room (k:Nat) (A:Around):Prop where
 hd:A.handled=none
 dp:A.depth+3*k+5<recursionLimit
 un:A.units+16*k+200<cLine
 gd:A.guards=some []
theorem Room.mono{j k:Nat}{A:Around}(r:Room k A)(h:j<=k):Room j A:=⟨r.hd,by have:=r.dp;omega,by have:=r.un;omega,r.gd⟩
theorem Room.deeper{k:Nat}{A:Around}(r:Room (k+1) A)(env:Env):Room k (A.deeper env) :=
 ⟨r.hd,by have:=r.dp;show A.depth+1+3*k+5<_;omega,by have:=r.un;show A.units+3+16*k+200<_;omega,r.gd⟩
theorem Room.depth{k:Nat}{A:Around}(r:Room k A):A.depth<recursionLimit:=by have:=r.dp;omega
theorem Room.units{k:Nat}{A:Around}(r:Room k A):A.units+64<cLine:=by have:=r.un;omega
def alo:TA:=λ_ H Q=>Q [] H
def aki(ta:TE)(tr:TA):TA:=λσ H Q=>ta σ H λx H1=>tr σ H1 λxs H2=>Q (x::xs) H2
section
variable{X:Cx}{e:Expr}{es:List Expr}{te:TE}{t:TA}{pos:Pos}
theorem a4x:PA X [] alo:=λ_ _ _ _ H Q I h=>Calls.spliced_nil ⟨[],H,I, .nil,h⟩
theorem t7(ha:PE X e te)(hr:PA X es t)(hs:starEach (e::es) X.env=(false,eval e X.env)::starEach es X.env:=by rfl):PA X (e::es) (aki te t):=by
 intro pos pins s σ H Q I h
 rw [hs];show wpAny _ _ (spliced ((false,eval e X.env)::backTo pos (starEach es X.env))) _ _ s;refine Calls.spliced_cons (thn (ha pins s σ H _ I h) λu s1 ⟨x,H1,I1,r1,q1⟩=>?_);exact thn (hr pos pins s1 σ H1 _ I1 q1) λus s2 ⟨xs,H2,I2,r2,q2⟩=>⟨x::xs,H2,I2, .cons r1 r2,q2⟩
def an0(t:TA):TE:=λσ H Q=>t σ H λxs H1=>xs.length<=sizeLine/\∀ p,H1 p=none->Q (.ref p) (upd H1 p (.tup xs))
def an1(t:TA):TE:=λσ H Q=>t σ H λxs H1=>xs.length<=sizeLine/\∀ p,H1 p=none->Q (.ref p) (upd H1 p (.lst xs))
theorem abw{x1}(h:PA X es t):PE X (.Tuple es x1 pos) (an0 t):=by
 intro pins s σ H Q I hq
 refine wpAny_Tuple_spliced (thn (h pos pins s σ H _ I hq) λus s1 ⟨xs,H1,I1,r,z,q⟩=>⟨by rw [<-r.length];exact z,?_⟩)
 have hf:H1 s1.heap.objs.size=none:=I1.hok.fresh (Nat.le_refl _);refine ⟨.ref s1.heap.objs.size,upd H1 s1.heap.objs.size (.tup xs),I1.laid (t':=s1.toks) (λb u e=>Heap.get?_push_of_some _ e) (Nat.le_refl _) ?_,rfl,q _ hf⟩;exact ⟨z,us,r,⟨_,Heap.get?_push_size _ rfl,rfl,_,rfl⟩⟩
theorem agv(h:PA X es t):PE X (.List es pos) (an1 t):=by
 intro pins s σ H Q I hq
 refine wpAny_List_spliced (thn (h pos pins s σ H _ I hq) λus s1 ⟨xs,H1,I1,r,z,q⟩=>⟨by rw [<-r.length];exact z,?_⟩)
 have hf:H1 s1.heap.objs.size=none:=I1.hok.fresh (Nat.le_refl _);refine ⟨.ref s1.heap.objs.size,upd H1 s1.heap.objs.size (.lst xs),I1.laid (t':=s1.toks) (λb u e=>Heap.get?_push_of_some _ e) (Nat.le_refl _) ?_,rfl,q _ hf⟩;exact ⟨z,us,0,r,Heap.get?_push_size _ rfl⟩
end
abbrev Sp:=List V->Hp->VK->XK->Prop
abbrev CXT:=List Env->Hp->Shared->XK->Value->Shared->Prop
structure Env0 (P:Program) (w:World) (K:PySem.W.Frag) (mg:Str->Option Value) (base:Heap) (A:Around) (outer:List Env) (s:Shared) (H:Hp):Prop where
 frames:A.frames=some outer
 mod:Mod K mg base
 bs:∀ b o,base.get? b=some o->s.heap.get? b=some o/\H b=none
 bsz:base.objs.size<=s.heap.objs.size
 funs:s.heap.FunFrames base outer
 frf:∀ b∈frs outer,H b=none
 hok:HOk P w H s.heap
 bare:AllBare s.gens
def CE(outer:List Env)(P:Program)(w:World)(H:Hp)(s:Shared)(Q:VK)(u:Value)(s':Shared):Prop :=
 ∃ v H',s'.os=s.os/\AllBare s'.gens/\Un (frs outer) [] H H' s.heap s'.heap/\HOk P w H' s'.heap/\RelV v u/\Q v H'
def CR(CX:CXT)(outer:List Env)(P:Program)(w:World)(H:Hp)(s:Shared)(Q:VK)(E:XK)(r:Result)(s':Shared):Prop :=
 match r with
 | .ok (.ret u)=>CE outer P w H s Q u s'
 | .ok _=>False
 | .error e=>CX outer H s E e s'
structure FnOk (P:Program) (w:World) (K:PySem.W.Frag) (mg:Str->Option Value) (base:Heap) (CX:CXT) (k:Nat) (f:Addr) (fd:FuncData) (ps:List Str) (sp:Sp):Prop where
 len:∀ vs H Q E,sp vs H Q E->vs.length=ps.length
 run:∀ (A:Around) (outer:List Env) (s:Shared) (H:Hp) (args:Args) (us:List Value) (vs:List V) (Q:VK) (E:XK),Room k A->Env0 P w K mg base A outer s H->BindsTo s fd args (ps.zip us)->Vals vs us->sp vs H Q E->
  codeAny (model P w) A (.call (.ref f) args) (CR CX outer P w H s Q E) s
theorem FnOk.imp{P:Program}{w:World}{K:PySem.W.Frag}{mg:Str->Option Value}{base:Heap}{CX:CXT}{k:Nat}{f:Addr}{fd:FuncData}{ps:List Str}{sp sp':Sp}(F:FnOk P w K mg base CX k f fd ps sp)
  (h:∀ vs H Q E,sp' vs H Q E->sp vs H Q E):FnOk P w K mg base CX k f fd ps sp' :=
 ⟨λvs H Q E q=>F.len vs H Q E (h _ _ _ _ q),λA outer s H args us vs Q E hr he hb hv hs=>F.run A outer s H args us vs Q E hr he hb hv (h _ _ _ _ hs)⟩
section
variable{X:Cx}{pins:List (Addr × Obj)}{σ:St}{H:Hp}{s s':Shared}
theorem Inv.env0(I:Inv X pins σ H s):Env0 X.prog X.w X.K X.mg X.base X.A X.stack s H :=
 ⟨I.ok.frames,I.ok.mod,I.bs,Nat.le_trans I.ok.bsz I.sz,I.stack,I.stkFree,I.hok,I.bare⟩
theorem Inv.after{Q:VK}{u:Value}(I:Inv X pins σ H s)(h:CE X.stack X.prog X.w H s Q u s'):EP X pins σ Q u s':=by
 obtain ⟨v,H',os,bare,un,hok,r,q⟩:=h;obtain ⟨hh,g,d,t,os'⟩:=s';obtain rfl:os'=s.os:=os;exact ⟨v,H',I.call (h':=hh) (g':=g) (d':=d) (t':=t) (ch:=[]) un hok bare (λb z=>absurd z (by simp)),r,q⟩
end
def agw(sp:Sp)(dvs:List V)(E:XK)(t:TA):TE:=λσ H Q=>t σ H λvs H1=>sp (vs++dvs) H1 Q E
def Binds(K:PySem.W.Frag)(fd:FuncData)(ps:List Str)(ds:List Value):Prop :=
 ∀ (s:Shared) (us:List Value),K.In s.heap->(us++ds).length=ps.length->BindsTo s fd ⟨us,[]⟩ (ps.zip (us++ds))
theorem Binds.all{K:PySem.W.Frag}{fd:FuncData}{ps:List Str}(h:∀ us:List Value,us.length=ps.length->bindArgs fd ⟨us,[]⟩=pure (ps.zip us)):Binds K fd ps []:=λs us _ hl=>by
 rw [List.append_nil] at hl ⊢;exact .of_eq (h us hl)
def a4y(CX:CXT)(X:Cx)(E:XK):Prop:=∀ (pins:List (Addr × Obj)) (σ:St) (H:Hp) (s:Shared) (e:Value) (s':Shared),Inv X pins σ H s->CX X.stack H s E e s'->X.xe e s'
section
variable{X:Cx}{CX:CXT}{k:Nat}{f C:Addr}{fd:FuncData}{ps:List Str}{sp:Sp}{dvs:List V}{ds:List Value}{E:XK}{x m:Str}{p pos apos:Pos}{e o:Expr}{es:List Expr}{ta:TE}{t:TA}
theorem abx{pins:List (Addr × Obj)}{σ:St}{H:Hp}{s:Shared}{Q:VK}{us:List Value}{vs:List V}(F:FnOk X.prog X.w X.K X.mg X.base CX k f fd ps sp)(hr:Room k X.A)(hb:Binds X.K fd ps ds)(hd:Vals dvs ds)(hx:a4y CX X E)
  (I:Inv X pins σ H s) (r:Vals vs us) (h:sp (vs++dvs) H Q E):wpAny (model X.prog X.w) X.A (call (.ref f) us) (EP X pins σ Q) X.xe s:=by
 have r2:Vals (vs++dvs) (us++ds):=r.append hd;have hl:(us++ds).length=ps.length:=by rw [<-r2.length];exact F.len _ _ _ _ h
 refine wpAny_call (codeAny_mono (F.run X.A X.stack s H ⟨us,[]⟩ (us++ds) (vs++dvs) Q E hr I.env0 (hb s us I.kIn hl) r2 h) λr s' hq=>?_)
 cases r with
 | error e=>exact hx pins σ H s e s' I hq
 | ok fl =>
  cases fl with
  | ret u=>exact I.after hq
  | next=>exact False.elim hq
  | brk=>exact False.elim hq
  | cont=>exact False.elim hq
theorem a7o(F:FnOk X.prog X.w X.K X.mg X.base CX k f fd ps sp)(hr:Room k X.A)(hg:Gl X x)(hm:X.mg x=some (.ref f))(hk:PySem.W.keepIn X.K (.ref f)=true)(hb:Binds X.K fd ps ds)(hd:Vals dvs ds)(hx:a4y CX X E)
  (ha:PA X (e::es) t) (hdb:(x == ("__debug__" : Str))=false:=by decide) (he:starEach (e::es) X.env=(false,eval e X.env)::starEach es X.env:=by rfl) (hpl:(backTo pos (starEach es X.env)).any (·.1)=false:=by rfl) :
  PE X (.Call (.Name x p) (e::es) [] pos) (agw sp dvs E t):=by
 intro pins s σ H Q I h
 refine wpAny_Call_Name_kw (ww I hg hm ?_ hdb);refine PySem.W.callWith_K (h₀:=X.base) I.ok.mod.kin hk (thn (ha pos pins s σ H _ I h) λus s1 ⟨vs,H1,I1,r,q⟩=>⟨I1.kIn,?_⟩) he hpl;exact abx F hr hb hd hx I1 r q
theorem aa9(F:FnOk X.prog X.w X.K X.mg X.base CX k f fd ps sp)(hr:Room k X.A)(hg:Gl X x)(hm:X.mg x=some (.ref f))(hk:PySem.W.keepIn X.K (.ref f)=true)(hb:Binds X.K fd ps ds)(hd:Vals dvs ds)(hx:a4y CX X E)
  (hdb:(x == ("__debug__" : Str))=false:=by decide):PE X (.Call (.Name x p) [] [] pos) (agw sp dvs E alo):=by
 intro pins s σ H Q I h
 refine wpAny_Call_Name_kw (ww I hg hm ?_ hdb);exact PySem.W.callWith_K0 I.kIn hk (abx (us:=[]) F hr hb hd hx I .nil h)
end
structure FnScope (N P:List Str) (sc:Scope):Prop where
 kind:sc.kind = .function
 co:sc.isCoroutine=false
 gen:sc.isGenerator=false
 nd:N.Nodup
 pre:N.take P.length=P
 par:∀ x∈P,sc.names.lookup x=some .local\/sc.names.lookup x=some .cell
 nofree:∀ y∈sc.names,y.2≠.free
theorem a2i{kindOf:Str->Option NameKind}{x:Str}:∀ {binds:List (Str × Value)} {m:Str->Option Value},(∀ v,(x,v) ∉ binds)->bindL kindOf binds m x=m x
 | [],_,_=>rfl
 | (n,v)::r,m,h=>by
  unfold bindL;rw [a2i λw hw=>h w (List.mem_cons_of_mem _ hw)]
  split
  ·have:x≠n:=by rintro rfl;exact h v List.mem_cons_self
   simp [this]
  ·rfl
theorem a2j{kindOf:Str->Option NameKind}{x:Str}:∀ {binds:List (Str × Value)} {m:Str->Option Value},(∀ v,(x,v) ∉ binds)->bindC kindOf binds m x=m x
 | [],_,_=>rfl
 | (n,v)::r,m,h=>by
  unfold bindC;rw [a2j λw hw=>h w (List.mem_cons_of_mem _ hw)]
  split
  ·rfl
  ·have:x≠n:=by rintro rfl;exact h v List.mem_cons_self
   simp [this]
theorem a2k{kindOf:Str->Option NameKind}{x:Str}{v:Value}:∀ {P:List Str} {vs:List Value} {i:Nat} {m:Str->Option Value},P.Nodup->P[i]? = some x->vs[i]? = some v->kindOf x=some .local->
  bindL kindOf (P.zip vs) m x=some v
 | [],_,_,_,_,h,_,_=>by simp at h
 | _::_,[],_,_,_,_,h,_=>by simp at h
 | p::P,w::vs,0,m,nd,h1,h2,hk=>by
  simp at h1 h2;subst h1;subst h2
  show bindL kindOf ((p,w)::P.zip vs) m p=_;unfold bindL;rw [a2i λv hv=>(List.nodup_cons.mp nd).1 (List.of_mem_zip hv).1,if_pos hk];simp
 | p::P,w::vs,i+1,m,nd,h1,h2,hk=>by
  show bindL kindOf ((p,w)::P.zip vs) m x=_;unfold bindL;exact a2k (i:=i) (List.nodup_cons.mp nd).2 (by simpa using h1) (by simpa using h2) hk
theorem a2l{kindOf:Str->Option NameKind}{x:Str}{v:Value}:∀ {P:List Str} {vs:List Value} {i:Nat} {m:Str->Option Value},P.Nodup->P[i]? = some x->vs[i]? = some v->kindOf x≠some .local->
  bindC kindOf (P.zip vs) m x=some v
 | [],_,_,_,_,h,_,_=>by simp at h
 | _::_,[],_,_,_,_,h,_=>by simp at h
 | p::P,w::vs,0,m,nd,h1,h2,hk=>by
  simp at h1 h2;subst h1;subst h2
  show bindC kindOf ((p,w)::P.zip vs) m p=_;unfold bindC;rw [a2j λv hv=>(List.nodup_cons.mp nd).1 (List.of_mem_zip hv).1,if_neg hk];simp
 | p::P,w::vs,i+1,m,nd,h1,h2,hk=>by
  show bindC kindOf ((p,w)::P.zip vs) m x=_;unfold bindC;exact a2l (i:=i) (List.nodup_cons.mp nd).2 (by simpa using h1) (by simpa using h2) hk
def start(N:List Str)(vs:List V):St:=vs.map some++List.replicate (N.length - vs.length) none
def zm(CX:CXT)(P:Program)(w:World)(K:PySem.W.Frag)(mg:Str->Option Value)(base:Heap)(N:List Str)(qual:Str)(scope:Scope)(f:Addr)(cd:Value)(A:Around)(outer:List Env)(s:Shared)(H:Hp)(E:XK):Cx where
 prog:=P
 w:=w
 K:=K
 mg:=mg
 base:=base
 A:=A.deeper (envOfC qual scope s.heap.objs.size f cd)
 N:=N
 s₀:=s
 H₀:=H
 env:=envOfC qual scope s.heap.objs.size f cd
 outer:=outer
 stack:=envOfC qual scope s.heap.objs.size f cd::outer
 ex:=[]
 calm:=true
 fn:=λ_=>true
 pn:=[]
 xe:=λe s'=>wpAny (model P w) (A.deeper (envOfC qual scope s.heap.objs.size f cd)) (leaving (envOfC qual scope s.heap.objs.size f cd) e) (λ_ s''=>CX outer H s E e s'') (λe' s''=>CX outer H s E e' s'') s'
theorem a4z{sc:Scope}{n:Nat}{x:Str}(h:sc.names.lookup x=some .cell):∃ c,(cellsFrom n sc.names []).lookup x=some c:=by
 have q:=PySem.W.cellsFrom_some sc.names n [] (.inl h);exact Option.isSome_iff_exists.mp q
theorem a7p{CX:CXT}{P:Program}{w:World}{K:PySem.W.Frag}{mg:Str->Option Value}{base:Heap}{N ps:List Str}{qual:Str}{scope:Scope}{f:Addr}{cd:Value}{A:Around}{outer:List Env}{s s1:Shared}{H:Hp}{E:XK}{us:List Value}{vs:List V}
  (S:FnScope N ps scope) (hd:A.handled=none) (e0:Env0 P w K mg base A outer s H) (hl:vs.length=ps.length) (r:Vals vs us)
  (x:InCallC s s.heap.objs.size (bindL (envOfC qual scope s.heap.objs.size f cd).kindOf (ps.zip us) λ_=>none) (cellsFrom (s.heap.objs.size+1) scope.names []) (bindC (envOfC qual scope s.heap.objs.size f cd).kindOf (ps.zip us) λ_=>none) s1) :
  Inv (zm CX P w K mg base N qual scope f cd A outer s H E) [] (start N vs) H s1:=by
 have hpl:ps.length<=N.length:=by have:=congrArg List.length S.pre;rw [List.length_take] at this;omega
 obtain ⟨h1,tk,rfl,hk⟩:=x.done;have noA:∀ b:Addr,b ∉ (zm CX P w K mg base N qual scope f cd A outer s H E).ex:=λb z=>absurd (show b∈([]:List Addr) from z) (by simp)
 refine ⟨⟨e0.mod,S.kind,rfl,rfl,Nat.le_refl _,λy z c h1 h2=>?_,λy hy=>?_,λy c _ h=>?_,λ_=>hd,Around.frames_deeper e0.frames, .inr ⟨rfl,rfl⟩,λb z=>absurd z (noA b),e0.bs,e0.bsz,λb _ _=>noA b,λb z=>absurd z (noA b),e0.funs,e0.frf⟩,
  rfl,e0.bare,Un.kept hk,⟨_,x.toInCall.ns,λi y v h1 h2 h3=>?_⟩,λy c h=>⟨_,x.cell y c h⟩,e0.hok.fresh (Nat.le_refl _),λy c h=>?_,λp hp=>absurd (show p∈([]:List (Addr × Obj)) from hp) (by simp),e0.hok.kept hk,?_⟩
 ·exact name_of_addr x.apart (PySem.mem_of_lookup h1) (PySem.mem_of_lookup h2)
 ·have hy:scope.names.lookup y=some .cell\/scope.names.lookup y=some .free:=hy
  rcases hy with hy | hy
  ·exact a4z hy
  ·exact absurd rfl (S.nofree _ (PySem.mem_of_lookup hy))
 ·exact Nat.le_of_lt (x.above y c (PySem.mem_of_lookup h))
 ·have hi:i<vs.length:=by
   unfold start at h2
   by_cases hi:i<vs.length
   ·exact hi
   ·rw [List.getElem?_append_right (by simpa using hi)] at h2
    rw [List.getElem?_replicate] at h2
    split at h2<;>cases h2
  have ha:vs[i]? = some v:=by
   unfold start at h2;rw [List.getElem?_append_left (by simpa using hi),List.getElem?_map] at h2
   cases e:vs[i]? with
   | none=>rw [e] at h2;cases h2
   | some a=>rw [e] at h2;cases h2;rfl
  obtain ⟨u,hu,rv⟩:=r.get ha;have hp:ps[i]? = some y:=by
   rw [<-S.pre,List.getElem?_take_of_lt (by omega)];exact h1
  have ndP:ps.Nodup:=by rw [<-S.pre];exact S.nd.sublist (List.take_sublist _ _)
  refine ⟨u,rv,?_⟩
  rcases S.par y (List.mem_of_getElem? hp) with k | k
  ·exact .inl ⟨k,a2k ndP hp hu k⟩
  ·obtain ⟨c,e⟩:=a4z (n:=s.heap.objs.size+1) k;refine .inr ⟨.inl k,c,e,?_⟩;have q:=x.cell y c e;rw [a2l ndP hp hu (by show scope.names.lookup y≠_;rw [k];decide)] at q
   exact q
 ·exact e0.hok.fresh (Nat.le_of_lt (x.above y c (PySem.mem_of_lookup h)))
 ·unfold start;show _=N.length;rw [List.length_append,List.length_map,List.length_replicate];omega
theorem agx{CX:CXT}{P:Program}{w:World}{K:PySem.W.Frag}{mg:Str->Option Value}{base:Heap}{k:Nat}{f:Addr}{name qual:Str}{params:Arguments}{body:List Stmt}{scope:Scope}{dV kV doc pm cdv ct oc:Value}{an od:Option Addr}
  {osl:Array (Option Value)} {N ps:List Str} {sp:Sp} (lk:K.lookup f=some ⟨oc,od, .func (PySem.W.fnOf name qual params body scope dV kV doc pm an cdv ct),osl⟩) (hcd:PySem.W.codeIn K cdv qual=true) (S:FnScope N ps scope)
  (len:∀ vs H Q E,sp vs H Q E->vs.length=ps.length)
  (hbody:∀ (A:Around) (outer:List Env) (s:Shared) (H:Hp) (vs:List V) (Q:VK) (E:XK),Room k (A.deeper (envOfC qual scope s.heap.objs.size f cdv))->sp vs H Q E->
   ∃ t,PSs (zm CX P w K mg base N qual scope f cdv A outer s H E) body t/\t { nx:=λ_ H'=>Q .non H',rt:=Q } (start N vs) H) :
  FnOk P w K mg base CX (k+1) f (PySem.W.fnOf name qual params body scope dV kV doc pm an cdv ct) ps sp:=by
 refine ⟨len,λA outer s H args us vs Q E hr e0 hb r hsp=>?_⟩;have hl:=len _ _ _ _ hsp;have KX:K.In s.heap:=e0.mod.kin.keeps λb o e=>(e0.bs b o e).1;have lim:s.heap.NoLimit:=e0.mod.nolimit.keeps λb o e=>(e0.bs b o e).1;have hkind:∀ y∈ps.zip us,scope.names.lookup y.1=some .local\/(scope.names.lookup y.1=some .cell/\((cellsFrom (s.heap.objs.size+1) scope.names []).lookup y.1).isSome=true):=λ⟨n,v⟩ hy=>by
  rcases S.par n (List.of_mem_zip hy).1 with q | q
  ·exact .inl q
  ·exact .inr ⟨q,PySem.W.cellsFrom_some _ _ _ (.inl q)⟩
 refine codeAny_call_function hr.depth (KX _ _ lk) rfl S.co S.gen rfl (PySem.W.codeRec_of KX hcd) (hb _ _ _ _ ?_);refine wpAny_newFunctionEnv_cells S.kind hkind λenv he s1 x=>?_;subst he;refine ⟨lim.keeps x.toInCall.keep,codeAny_func ?_⟩;obtain ⟨t,ht,hq⟩:=hbody A outer s H vs Q E (hr.deeper _) hsp;have I:Inv (zm CX P w K mg base N qual scope f cdv A outer s H E) [] (start N vs) H s1:=a7p S hr.hd e0 hl r x;refine wpAny_mono (ht [] s1 (start N vs) H _ I hq) (λfl s' hs=>?_) λe s' hs=>hs;have fin:∀ {σ':St} {H':Hp} {v:V} {u:Value},Inv (zm CX P w K mg base N qual scope f cdv A outer s H E) [] σ' H' s'->RelV v u->Q v H'->CE outer P w H s Q u s' :=
  λ{σ' H' v u} J rv q=>⟨v,H',J.os,J.bare,J.base,J.hok,rv,q⟩
 cases fl with
 | ret u =>
  obtain ⟨v,σ',H',J,rv,q⟩:=hs;exact fin J rv q
 | next =>
  obtain ⟨σ',H',J,q⟩:=hs;exact fin (v:=V.non) (u:=Value.none) J rfl q
 | brk =>
  obtain ⟨_,_,_,q⟩:=hs;exact False.elim q
 | cont =>
  obtain ⟨_,_,_,q⟩:=hs;exact False.elim q
section
variable{X:Cx}{x:Str}{p pos:Pos}{e:Expr}{es:List Expr}{t:TA}{id T:String}{r:List V->Hp->VK->Prop}
def tCB(r:List V->Hp->VK->Prop)(t:TA):TE:=λσ H Q=>t σ H λvs H1=>r vs H1 Q
theorem a0z(hc:CallR X (.builtin id) r)(hg:Gl X x)(hm:X.mg x=none)(hv:bootBuiltins x=some (.builtin id))(ha:PA X (e::es) t)(hn:x ≠ "__name__":=by decide)(hdb:(x == ("__debug__" : Str))=false:=by decide)
  (he:starEach (e::es) X.env=(false,eval e X.env)::starEach es X.env:=by rfl) (hpl:(backTo pos (starEach es X.env)).any (·.1)=false:=by rfl):PE X (.Call (.Name x p) (e::es) [] pos) (tCB r t):=by
 intro pins s σ H Q I h
 refine wpAny_Call_Name_kw (a4u I hg hm hv ?_ hn hdb);exact PyProof.Rows.callWith_builtin1 (thn (ha pos pins s σ H _ I h) λus s1 ⟨vs,H1,I1,r1,q1⟩=>hc pins s1 σ H1 vs us Q I1 r1 q1) he hpl
theorem a7q(hc:CallR X (.type T) r)(hg:Gl X x)(hm:X.mg x=none)(hv:bootBuiltins x=some (.type T))(ha:PA X (e::es) t)(hn:x ≠ "__name__":=by decide)(hdb:(x == ("__debug__" : Str))=false:=by decide)
  (he:starEach (e::es) X.env=(false,eval e X.env)::starEach es X.env:=by rfl) (hpl:(backTo pos (starEach es X.env)).any (·.1)=false:=by rfl):PE X (.Call (.Name x p) (e::es) [] pos) (tCB r t):=by
 intro pins s σ H Q I h
 refine wpAny_Call_Name_kw (a4u I hg hm hv ?_ hn hdb);exact PyProof.Rows.callWith_type1 (thn (ha pos pins s σ H _ I h) λus s1 ⟨vs,H1,I1,r1,q1⟩=>hc pins s1 σ H1 vs us Q I1 r1 q1) he hpl
end
end L2
namespace HT
open PySem PyProof.Rows
section
variable{prog:Program}{w:World}{A:Around}{E:Value->Shared->Prop}{s:Shared}
theorem adh{t b:Addr}{vs ws:List Value}{Q:Value->Shared->Prop}(ht:IsTup s.heap t vs.toArray)(hb:IsTup s.heap b ws.toArray)(hv:vs≠[])
  (h1:ws=[]->Q (.ref t) s) (h2:ws≠[]->Q (.ref s.heap.objs.size) { s with heap:=s.heap.push { cls:=.type "tuple",data:=.seq (vs++ws).toArray } })
  (hsz:vs.length+ws.length<=sizeLine):wpAny (model prog w) A (binaryOp .Add (.ref t) (.ref b)) Q E s:=by
 obtain ⟨⟨cls,dd,data,sl⟩,ho,hc,n,hd⟩:=id ht;obtain ⟨⟨cls2,dd2,data2,sl2⟩,ho2,hc2,n2,hd2⟩:=id hb;simp only at hc hd hc2 hd2;subst hc hd hc2 hd2;have e:vs.toArray++ws.toArray=(vs++ws).toArray:=by simp
 by_cases hw:ws=[]
 ·exact concat_meets ⟨_,ho,rfl⟩ ⟨_,ho2,rfl⟩ noFill_tuple_add seq_tuple_add PySem.F.slot_tuple_add PySem.F.entry_tuple_add (PySem.F.args_tuple_add_2 _ _)
   (tuple_addW1 t b vs.toArray ws.toArray n n2 dd dd2 sl sl2 (by simpa using hv) (by simp [hw])) ⟨ho,ho2,h1 hw⟩
 ·refine concat_meets ⟨_,ho,rfl⟩ ⟨_,ho2,rfl⟩ noFill_tuple_add seq_tuple_add PySem.F.slot_tuple_add PySem.F.entry_tuple_add (PySem.F.args_tuple_add_2 _ _)
   (tuple_addW2 t b vs.toArray ws.toArray n n2 dd dd2 sl sl2 (by simpa using hv) (by simpa using hw) (by rw [List.size_toArray,List.size_toArray];exact hsz)) ⟨ho,ho2,?_⟩
  rw [e];exact h2 hw
def sIx(n d:Nat):Option Int->Nat
 | none=>d
 | some v=>if v<0 then (v+(n:Int)).toNat else min v.toNat n
theorem aaa(n d:Nat):sIx n d none=d:=rfl
theorem adi(n d k:Nat):sIx n d (some (k:Int))=min k n:=by
 show (if (k:Int)<0 then ((k:Int)+(n:Int)).toNat else min (k:Int).toNat n)=min k n
 rw [if_neg (by omega),Int.toNat_natCast]
theorem a7r(n d:Nat)(hd:d<=n)(o:Option Int):sIx n d o<=n:=by
 cases o with
 | none=>exact hd
 | some v =>
  show (if v<0 then (v+(n:Int)).toNat else min v.toNat n)<=n
  by_cases hv:v<0
  ·rw [if_pos hv];omega
  ·rw [if_neg hv];exact Nat.min_le_right _ _
theorem a7s(v:Int)(n d:Nat):(if v<0 then max (v+(n:Int)) 0 else min v (n:Int))=((sIx n d (some v):Nat):Int):=by
 show (if v<0 then max (v+(n:Int)) 0 else min v (n:Int))=(((if v<0 then (v+(n:Int)).toNat else min v.toNat n):Nat):Int)
 by_cases hv:v<0
 ·simp only [if_pos hv];omega
 ·simp only [if_neg hv];omega
theorem a6q(lo hi:Option Int)(n:Nat):Builtin.Slice.sliceAdjust lo hi 1 (n:Int)=(((sIx n 0 lo:Nat):Int),((sIx n n hi:Nat):Int)):=by
 have h1:¬ ((1:Int)<0):=by omega
 unfold Builtin.Slice.sliceAdjust;simp only [h1,if_false];refine Prod.ext ?_ ?_
 ·cases lo with
  | none=>rfl
  | some v=>exact a7s v n 0
 ·cases hi with
  | none=>rfl
  | some v=>exact a7s v n n
theorem a6r(i j:Nat):Builtin.Slice.slicePlaces (i:Int) (j:Int) 1=j - i:=by
 unfold Builtin.Slice.slicePlaces;have h1:(1:Int) > 0:=by omega
 simp only [h1,if_true,Int.ediv_one]
 split<;>omega
theorem a0g{v:Value}{o:Option Int}{Q:Option Int->Shared->Prop}(p:IsPart v o)(h:Q o s):wpAny (model prog w) A (Builtin.Slice.slicePartIndex v) Q E s:=by
 cases p with
 | none=>exact slicePart_none h
 | int i t=>exact slicePart_int h
theorem rm{sl:Addr}{vl vu:Value}{lo hi:Option Int}{n:Nat}{Q:Int × Int × Nat->Shared->Prop}(hs:s.heap.IsSliceOf sl vl vu .none)(pl:IsPart vl lo)(pu:IsPart vu hi)
  (h:Q (((sIx n 0 lo:Nat):Int),1,sIx n n hi - sIx n 0 lo) s):wpAny (model prog w) A (Builtin.Slice.sliceApplied (.ref sl) (pure (n:Int))) Q E s:=by
 obtain ⟨os,hos,hcs,hds⟩:=id hs;unfold Builtin.Slice.sliceApplied Builtin.Slice.sliceFields;refine wpAny_bind (wpAny_bind (wpAny_field hos hds (x:=vl) rfl (wpAny_bind (wpAny_field hos hds (x:=vu) rfl (wpAny_bind (wpAny_field hos hds (x:=.none) rfl (wpAny_pure ?_)))))));refine wpAny_bind (slicePart_none ?_);show wpAny _ _ (if ((1:Int) == 0)=true then _ else _) _ _ s
 rw [if_neg (by decide)]
 refine wpAny_bind (a0g pl (wpAny_bind (a0g pu (wpAny_bind (wpAny_pure ?_)))));show wpAny _ _ (match Builtin.Slice.sliceAdjust lo hi 1 (n:Int) with | (lo,hi)=>pure (lo,(1:Int),Builtin.Slice.slicePlaces lo hi 1)) _ _ s
 rw [a6q lo hi n];show wpAny _ _ (pure (((sIx n 0 lo:Nat):Int),(1:Int),Builtin.Slice.slicePlaces ((sIx n 0 lo:Nat):Int) ((sIx n n hi:Nat):Int) 1)) _ _ s;rw [a6r];exact wpAny_pure h
theorem aab(xs:Array Value)(i k:Nat):((List.range k).filterMap λ(m:Nat)=>xs[((i:Int)+(m:Int)*1).toNat]?).toArray=((xs.toList.drop i).take k).toArray:=by
 have e:(λ(m:Nat)=>xs[((i:Int)+(m:Int)*1).toNat]?)=λm=>xs[i+m]?:=by
  funext m
  have:((i:Int)+(m:Int)*1).toNat=i+m:=by omega
  rw [this]
 rw [e];have:=pick_run xs i k;rw [List.filterMap_map] at this;have e2:((λx=>xs[x]?) ∘ λx=>i+x)=λm=>xs[i+m]?:=rfl;rw [e2] at this;rw [this]
theorem wz{t sl:Addr}{items:Array Value}{vl vu:Value}{lo hi:Option Int}{Q:Value->Shared->Prop}(ht:IsTup s.heap t items)(hs:s.heap.IsSliceOf sl vl vu .none)(pl:IsPart vl lo)(pu:IsPart vu hi)
  (hw:¬ (sIx items.size 0 lo=0/\sIx items.size items.size hi=items.size))
  (h:Q (.ref s.heap.objs.size) { s with heap:=s.heap.push { cls:=.type "tuple",data:=.seq ((items.toList.drop (sIx items.size 0 lo)).take (sIx items.size items.size hi - sIx items.size 0 lo)).toArray } })
  (hsz:items.size<=sizeLine):wpAny (model prog w) A (getItem (.ref t) (.ref sl)) Q E s:=by
 have htake:sizeOk (.seq ((items.toList.drop (sIx items.size 0 lo)).take (sIx items.size items.size hi - sIx items.size 0 lo)).toArray):=by
  show ((items.toList.drop (sIx items.size 0 lo)).take (sIx items.size items.size hi - sIx items.size 0 lo)).toArray.size<=sizeLine;rw [List.size_toArray,List.length_take,List.length_drop,Array.length_toList];omega
 have hj:sIx items.size items.size hi<=items.size:=a7r _ _ (Nat.le_refl _) hi;obtain ⟨os,hos,hcs,hds⟩:=id hs;have hTs:s.TypeIs (.ref sl) "slice":=⟨os,hos,hcs⟩;unfold getItem
 try with_reducible refine wpAny_holding ?_
 first | refine wpAny_bind (wpAny_pure ?_) | skip
 refine wpAny_bind (wpAny_sequenceKey ht.typeIs (by decide) ?_)
 refine wpAny_bind (wpAny_callSpecial?_slot (name:=Str.ofString "__getitem__") ht.typeIs PyProof.Rows.slot_tuple_getitem
  (wpAny_call_entry PyProof.Rows.slot_tuple_getitem ht.typeIs entry_tuple_getitem ?_ (args_tuple_getitem _ _)))
 show wpAny _ _ (Builtin.Tuple.tupleItemsOf (.ref t)>>=_) _ _ s;refine wpAny_bind (tupleItemsOf_ ht ?_);refine wpAny_bind (wpAny_typeOf hTs ?_);rw [if_pos (by decide)]
 refine wpAny_bind (rm hs pl pu ?_);have hno:¬ ((((sIx items.size 0 lo:Nat):Int) == 0 && (1:Int) == 1 && (sIx items.size items.size hi - sIx items.size 0 lo) == items.size)=true):=by
  intro q
  rw [Bool.and_eq_true,Bool.and_eq_true] at q;have q1:((sIx items.size 0 lo:Nat):Int)=0:=eq_of_beq q.1.1;have q2:sIx items.size items.size hi - sIx items.size 0 lo=items.size:=eq_of_beq q.2;exact hw ⟨by omega,by omega⟩
 show wpAny _ _ (if (((sIx items.size 0 lo:Nat):Int) == 0 && (1:Int) == 1 && (sIx items.size items.size hi - sIx items.size 0 lo) == items.size)=true then _ else _) _ _ s
 rw [if_neg hno,aab]
 first
  | exact wpAny_bind (m:=Builtin.Tuple.tupleExact _) (wpAny_newObj_type (wpAny_pure ⟨_,rfl,wpAny_pure h⟩) htake)
  | exact wpAny_bind (m:=Builtin.Tuple.tupleExact _) (wpAny_newObj_type (wpAny_bind (wpAny_pure (wpAny_pure ⟨_,rfl,wpAny_pure h⟩))) htake)
  | exact wpAny_bind (wpAny_bind (m:=Builtin.Tuple.tupleExact _) (wpAny_newObj_type (wpAny_pure (wpAny_pure ⟨_,rfl,wpAny_pure h⟩)) htake))
  | exact wpAny_bind (wpAny_bind (m:=Builtin.Tuple.tupleExact _) (wpAny_newObj_type (wpAny_pure ⟨_,rfl,wpAny_pure h⟩) htake))
end
end HT
namespace L2
open PySem PySem.Spec PyProof.Rows
abbrev TO:=St->Hp->(Option Int->Hp->Prop)->Prop
def PO(X:Cx)(e:Option Expr)(t:TO):Prop :=
 ∀ (pins:List (Addr × Obj)) (s:Shared) (σ:St) (H:Hp) (Q:Option Int->Hp->Prop),Inv X pins σ H s->t σ H Q->
  wpAny (model X.prog X.w) X.A (evalPart e X.env) (λu s'=>∃ o H',Inv X pins σ H' s'/\IsPart u o/\Q o H') X.xe s
def adk:TO:=λ_ H Q=>Q none H
def akj(t:TE):TO:=λσ H Q=>t σ H λx H1=>∃ i,x = .int i/\Q (some i) H1
theorem intsAre_of{ns:List Int}:∀ {us:List Value},Vals (ns.map V.int) us->IntsAre us ns:=by
 induction ns with
 | nil=>intro us r;rw [List.map_nil] at r;cases r;exact .nil
 | cons n ns ih =>
  intro us r
  rw [List.map_cons] at r
  cases r with
  | cons r1 r2 =>
   obtain ⟨t,e⟩:=r1;subst e;exact .cons n t (ih r2)
section
variable{X:Cx}{e:Expr}{te:TE}{lo hi:Option Expr}{tl th:TO}{pos p2:Pos}
theorem adl:PO X none adk:=by
 intro pins s σ H Q I h
 rw [evalPart_none];exact wpAny_pure ⟨none,H,I, .none,h⟩
theorem adm(h:PE X e te):PO X (some e) (akj te):=by
 intro pins s σ H Q I hw
 rw [evalPart_some];refine thn (h pins s σ H _ I hw) λu s1 ⟨x,H1,I1,r1,q1⟩=>?_;obtain ⟨i,rfl,q⟩:=q1;obtain ⟨t,rfl⟩:=r1;exact ⟨some i,H1,I1, .int i t,q⟩
def SlR(X:Cx)(r:V->Option Int->Option Int->Hp->VK->Prop):Prop :=
 ∀ (pins:List (Addr × Obj)) (s:Shared) (σ:St) (H:Hp) (x:V) (v vl vu:Value) (lo hi:Option Int) (sl:Addr) (Q:VK),Inv X pins σ H s->RelV x v->s.heap.IsSliceOf sl vl vu .none->IsPart vl lo->IsPart vu hi->r x lo hi H Q->
  ∃ T id,typeLookup (.type T) "__getitem__" = pure (some (.builtin id))/\s.TypeIs v T/\wpAny (model X.prog X.w) X.A (getItem v (.ref sl)) (EP X pins σ Q) X.xe s
theorem SlR.or{r r':V->Option Int->Option Int->Hp->VK->Prop}(h:SlR X r)(h':SlR X r'):SlR X (λx lo hi H Q=>r x lo hi H Q\/r' x lo hi H Q):=by
 intro pins s σ H x v vl vu lo hi sl Q I rx hs pl pu q
 rcases q with q | q
 ·exact h pins s σ H x v vl vu lo hi sl Q I rx hs pl pu q
 ·exact h' pins s σ H x v vl vu lo hi sl Q I rx hs pl pu q
def tSl(r:V->Option Int->Option Int->Hp->VK->Prop)(te:TE)(tl th:TO):TE:=λσ H Q=>te σ H λx H1=>tl σ H1 λl H2=>th σ H2 λu H3=>r x l u H3 Q
theorem aac{r:V->Option Int->Option Int->Hp->VK->Prop}(hr:SlR X r)(he:PE X e te)(hl:PO X lo tl)(hu:PO X hi th):PE X (.Subscript e (.Slice lo hi none p2) pos) (tSl r te tl th):=by
 intro pins s σ H Q I h
 refine Subscript_ (thn (he pins s σ H _ I h) λv s1 ⟨x,H1,I1,r1,q1⟩=>?_);refine wpAny_Slice (thn (hl pins s1 σ H1 _ I1 q1) λvl s2 ⟨l,H2,I2,pl,q2⟩=>thn (hu pins s2 σ H2 _ I2 q2) λvu s3 ⟨u,H3,I3,pu,q3⟩=>?_);rw [evalPart_none];refine wpAny_pure ?_;have I4:Inv X pins σ H3 { s3 with heap:=s3.heap.push { cls:=.type "slice",data:=.fields #[vl,vu, .none] } }:=I3.kept (t':=s3.toks) λb ob q=>Heap.get?_push_of_some _ q
 obtain ⟨T,id,hT,ht,hg⟩:=hr pins { s3 with heap:=s3.heap.push { cls:=.type "slice",data:=.fields #[vl,vu, .none] } } σ H3 x v vl vu l u s3.heap.objs.size Q I4 r1 (Heap.IsSliceOf.new ..) pl pu q3
 show wpAny (model X.prog X.w) X.A (subscriptTail e (.Slice lo hi none p2) v (.ref s3.heap.objs.size)) (EP X pins σ Q) X.xe { s3 with heap:=s3.heap.push { cls:=.type "slice",data:=.fields #[vl,vu, .none] } }
 exact tail_any (ops:=[.ref s3.heap.objs.size,v]) ht hT hg (by with_unfolding_all rfl)
def aby(xs:List V)(lo hi:Option Int):List V:=(xs.drop (HT.sIx xs.length 0 lo)).take (HT.sIx xs.length xs.length hi - HT.sIx xs.length 0 lo)
theorem zp(xs:List V)(lo hi:Option Int):(aby xs lo hi).length<=xs.length:=by
 unfold aby;rw [List.length_take,List.length_drop];omega
def akk(K:PySem.W.Frag):V->Option Int->Option Int->Hp->VK->Prop:=λx lo hi H Q=>∃ a xs,x = .ref a/\SqT K H a xs /\
 ¬ (HT.sIx xs.length 0 lo=0/\HT.sIx xs.length xs.length hi=xs.length)/\∀ p,H p=none->Q (.ref p) (upd H p (.tup (aby xs lo hi)))
theorem agy:SlR X (akk X.K):=by
 intro pins s σ H x v vl vu lo hi sl Q I rx hs pl pu h
 obtain ⟨a,xs,rfl,hx,hw,q⟩:=h;cases rx
 obtain ⟨its,r,ht,hz⟩:=I.tuple hx;have hlen:its.toArray.size=xs.length:=by rw [List.size_toArray];exact r.length.symm
 refine ⟨"tuple",_,PyProof.Rows.slot_tuple_getitem.lookup,ht.typeIs,?_⟩;refine HT.wz ht hs pl pu (by rw [hlen];exact hw) ?_ (by rw [hlen];exact hz)
 rw [hlen];refine ⟨.ref s.heap.objs.size,_,I.laid (t':=s.toks) (o:=.tup (aby xs lo hi)) (λb ob q=>Heap.get?_push_of_some _ q) (Nat.le_refl _) ?_,rfl,q _ (I.hok.fresh (Nat.le_refl _))⟩;exact ⟨Nat.le_trans (zp xs lo hi) hz,_,(r.drop (HT.sIx xs.length 0 lo)).take (HT.sIx xs.length xs.length hi - HT.sIx xs.length 0 lo),IsTup.new _ _⟩
def agz(K:PySem.W.Frag):R2:=λx y H Q=>∃ a b xs ys,x = .ref a/\y = .ref b/\SqT K H a xs/\SqT K H b ys/\xs≠[]/\xs.length+ys.length<=sizeLine /\
 (ys=[]->Q (.ref a) H)/\(ys≠[]->∀ p,H p=none->Q (.ref p) (upd H p (.tup (xs++ys))))
theorem Vals.nil_iff{xs:List V}{us:List Value}(r:Vals xs us):us=[]↔xs=[]:=by
 cases r with
 | nil=>simp
 | cons _ _=>simp
theorem adn:OpR X (binaryOp .Add) (agz X.K):=by
 intro pins s σ H x y v u Q I rx ry h
 obtain ⟨a,b,xs,ys,rfl,rfl,ha,hb,hx,hz,q1,q2⟩:=h;cases rx
 cases ry
 obtain ⟨its,r1,p1,_⟩:=I.tuple ha;obtain ⟨its2,r2,p2,_⟩:=I.tuple hb;refine HT.adh p1 p2 (λz=>hx (r1.nil_iff.mp z)) (λz=>⟨.ref a,H,I,rfl,q1 (r2.nil_iff.mp z)⟩) (λz=>?_) (by rw [<-r1.length,<-r2.length];exact hz)
 refine ⟨.ref s.heap.objs.size,_,I.laid (t':=s.toks) (o:=.tup (xs++ys)) (λb ob q=>Heap.get?_push_of_some _ q) (Nat.le_refl _) ?_,rfl,q2 (λw=>z (r2.nil_iff.mpr w)) _ (I.hok.fresh (Nat.le_refl _))⟩;exact ⟨by rw [List.length_append];exact hz,_,r1.append r2,IsTup.new _ _⟩
end
def ixN(n:Nat)(i:Int):Option Nat:=if 0<=i then (if i<n then some i.toNat else none) else if -(n:Int)<=i then some (i+n).toNat else none
def atI{α:Type}(xs:List α)(i:Int):Option α:=(ixN xs.length i).bind λj=>xs[j]?
theorem a3p{n:Nat}{i:Int}{j:Nat}(h:ixN n i=some j):seqIndex? i n=some j/\j<n /\ -(n:Int)<=i/\i<n:=by
 unfold ixN at h
 by_cases h0:0<=i
 ·rw [if_pos h0] at h
  by_cases h1:i<n
  ·rw [if_pos h1] at h;have e:i.toNat=j:=Option.some.inj h;exact ⟨by rw [seqIndex_of h0 h1,e],by omega,by omega,h1⟩
  ·rw [if_neg h1] at h;cases h
 ·rw [if_neg h0] at h
  by_cases h1 : -(n:Int)<=i
  ·rw [if_pos h1] at h;have e:(i+n).toNat=j:=Option.some.inj h;exact ⟨by rw [seqIndex_neg (by omega) h1,e],by omega,h1,by omega⟩
  ·rw [if_neg h1] at h;cases h
theorem a1a{α:Type}{xs:List α}{i:Int}{v:α}(h:atI xs i=some v):∃ j,seqIndex? i xs.length=some j/\xs[j]? = some v/\j<xs.length /\ -(xs.length:Int)<=i/\i<xs.length:=by
 unfold atI at h
 cases e:ixN xs.length i with
 | none=>rw [e] at h;cases h
 | some j =>
  rw [e] at h;obtain ⟨h1,h2,h3,h4⟩:=a3p e;exact ⟨j,h1,h,h2,h3,h4⟩
theorem kh{α:Type}{xs:List α}{j:Nat}{v:α}(h:xs[j]? = some v):atI xs (j:Int)=some v:=by
 have hj:j<xs.length:=(List.getElem?_eq_some_iff.mp h).1;have e:ixN xs.length (j:Int)=some j:=by
  unfold ixN;rw [if_pos (by omega),if_pos (by omega)];simp
 unfold atI;rw [e];exact h
def a3q(b:Expr):Prop:=∀ o i,subscripted b false o i=operate [o,i] (getItem o i)
def IxR(X:Cx)(r:R2):Prop :=
 ∀ (value slice:Expr) (pins:List (Addr × Obj)) (s:Shared) (σ:St) (H:Hp) (x y:V) (v u:Value) (Q:VK),Inv X pins σ H s->RelV x v->RelV y u->r x y H Q->
  subscripted slice false v u=operate [v,u] (getItem v u)->wpAny (model X.prog X.w) X.A (subscriptTail value slice v u) (EP X pins σ Q) X.xe s
def MtR(X:Cx)(id:String)(r:V->List V->Hp->VK->Prop):Prop :=
 ∀ (pins:List (Addr × Obj)) (s:Shared) (σ:St) (H:Hp) (x:V) (xs:List V) (v:Value) (us:List Value) (Q:VK),Inv X pins σ H s->RelV x v->Vals xs us->r x xs H Q->
  wpAny (model X.prog X.w) X.A (call (.builtin id) (v::us)) (EP X pins σ Q) X.xe s
section
variable{X:Cx}{a b:Expr}{ta tb:TE}{pos:Pos}
theorem IxR.or{r r':R2}(h:IxR X r)(h':IxR X r'):IxR X (λx y H Q=>r x y H Q\/r' x y H Q):=by
 intro value slice pins s σ H x y v u Q I rx ry q hs
 rcases q with q | q
 ·exact h value slice pins s σ H x y v u Q I rx ry q hs
 ·exact h' value slice pins s σ H x y v u Q I rx ry q hs
theorem akl{r:R2}(hr:IxR X r)(ha:PE X a ta)(hb:PE X b tb)(hs:a3q b):PE X (.Subscript a b pos) (tOp r ta tb):=by
 intro pins s σ H Q I h
 exact Subscript_ (aka ha hb I h λv u s2 x y H2 I2 rx ry q=>hr a b pins s2 σ H2 x y v u Q I2 rx ry q (hs _ _))
def ajp(K:PySem.W.Frag):R2:=λx y H Q=>∃ p xs i v,x = .ref p/\y = .int i/\SqL K H p xs/\atI xs i=some v/\Q v H
def alp(K:PySem.W.Frag):R2:=λx y H Q=>∃ p xs i v,x = .ref p/\y = .int i/\SqT K H p xs/\atI xs i=some v/\Q v H
def alq:R2:=λx y H Q=>∃ z i c,x = .str z/\y = .int i/\z.length<=sizeLine/\atI z.cps.toList i=some c/\Q (.str ⟨#[c]⟩) H
theorem ado:IxR X (ajp X.K):=by
 intro value slice pins s σ H x y v u Q I rx ry h hs
 obtain ⟨p,xs,i,z,rfl,rfl,hq,he,q⟩:=h;cases rx
 obtain ⟨t,rfl⟩:=ry;obtain ⟨its,r,pl,hz⟩:=I.list hq;obtain ⟨j,h1,h2,h3,h4,h5⟩:=a1a he;obtain ⟨w,ew,rw'⟩:=r.get h2;have hl:=r.length;have hn:=yg;have fin:EP X pins σ Q w s:=⟨z,H,I,rw',q⟩
 by_cases h0:0<=i
 ·have hj:i.toNat=j:=by
   rw [seqIndex_of h0 h5] at h1;exact Option.some.inj h1
  exact item_listR pl.isList h0 (by omega) (by rw [hj];simpa using ew) fin hs
 ·have hj:(i+(its.toArray.size:Int)).toNat=j:=by
   rw [seqIndex_neg (by omega) h4] at h1
   rw [List.size_toArray,<-hl];exact Option.some.inj h1
  exact subscriptTail_builtinR (x:=w) pl.isList.typeIs slot_list_getitem.lookup
   (wpAny_getItem_list_neg (Q:=λr s'=>r=w/\EP X pins σ Q r s') pl.isList (by omega) (by rw [List.size_toArray]<;>omega) (by omega) (by rw [hj];simpa using ew) ⟨rfl,fin⟩) hs
theorem a2m:IxR X (alp X.K):=by
 intro value slice pins s σ H x y v u Q I rx ry h hs
 obtain ⟨p,xs,i,z,rfl,rfl,hq,he,q⟩:=h;cases rx
 obtain ⟨t,rfl⟩:=ry;obtain ⟨its,r,pl,hz⟩:=I.tuple hq;obtain ⟨j,h1,h2,h3,h4,h5⟩:=a1a he;obtain ⟨w,ew,rw'⟩:=r.get h2;have hl:=r.length;have hn:=yg;have fin:EP X pins σ Q w s:=⟨z,H,I,rw',q⟩;exact subscriptTail_builtinR (x:=w) pl.typeIs slot_tuple_getitem.lookup
  (getItem_tuple (j:=j) (Q:=λr s'=>r=w/\EP X pins σ Q r s') pl (by omega) (by omega) (by rw [List.size_toArray,<-hl];exact h1) (by simpa using ew) ⟨rfl,fin⟩) hs
theorem ah0:IxR X alq:=by
 intro value slice pins s σ H x y v u Q I rx ry h hs
 obtain ⟨z,i,c,rfl,rfl,hz,he,q⟩:=h;obtain ⟨t,rfl⟩:=rx;obtain ⟨t',rfl⟩:=ry;obtain ⟨j,h1,h2,h3,h4,h5⟩:=a1a he;have hl:z.cps.toList.length=z.length:=by simp [Str.length]
 rw [hl] at h1 h4 h5;have hn:=yg;exact tail_any (typeIs_str s z t) slot_str_getitem.lookup (getItem_str (c:=c) (by
  have e1:decide (i < -(2 ^ 63:Int))=false:=decide_eq_false (by omega)
  have e2:decide (i≥2 ^ 63)=false:=decide_eq_false (by omega)
  rw [e1,e2,Bool.or_false]) (by rw [h1];simpa using h2) ⟨.str ⟨#[c]⟩,H,I.tok _,⟨_,rfl⟩,q⟩) hs
def rIx(K:PySem.W.Frag):R2:=λx y H Q=>ajp K x y H Q\/alp K x y H Q\/alq x y H Q
theorem ah1:IxR X (rIx X.K):=ado.or (a2m.or ah0)
theorem a6s(its:List Value)(n j:Nat)(u:Value):Obj.mapSeq (·.setIfInBounds j u) { cls:=.type "list",data:=.seq its.toArray n }={ cls:=.type "list",data:=.seq (its.set j u).toArray n }:=by
 simp [Obj.mapSeq]
theorem Inv.lst{pins:List (Addr × Obj)}{σ:St}{H:Hp}{s:Shared}{p:Addr}{xs:List V}(I:Inv X pins σ H s)(h:H p=some (.lst xs)) :
  ∃ (its:List Value) (n:Nat),Vals xs its/\s.heap.get? p=some { cls:=.type "list",data:=.seq its.toArray n }/\xs.length<=sizeLine:=by
 obtain ⟨z,its,n,r,e⟩:=I.hok p _ h;exact ⟨its,n,r,e,z⟩
theorem Inv.lstUpd{pins:List (Addr × Obj)}{σ:St}{H:Hp}{s:Shared}{p:Addr}{xs ys:List V}{its its':List Value}{n n':Nat}{f:Obj->Obj}(I:Inv X pins σ H s)(h:H p=some (.lst xs))
  (ho:s.heap.get? p=some { cls:=.type "list",data:=.seq its.toArray n }) (hf:f { cls:=.type "list",data:=.seq its.toArray n }={ cls:=.type "list",data:=.seq its'.toArray n' }) (r:Vals ys its') (hz:ys.length<=sizeLine) (t:Nat) :
  Inv X pins σ (upd H p (.lst ys)) { s with heap:=s.heap.update p f,toks:=t }:=by
 have e:(s.heap.update p f).get? p=some { cls:=.type "list",data:=.seq its'.toArray n' }:=by
  rw [Heap.get?_update_self f ho (by rw [hf]<;>rfl),hf]
 refine I.write (x:=p) (e:=p) (by rw [h];trivial) (.inl rfl) (λb u hb q=>(Heap.get?_update_other _ _ (Ne.symm hb)).trans q) ⟨_,e⟩ ?_
 exact ⟨hz,its',n',r,e⟩
def ah2:V->V->V->Hp->(Hp->Prop)->Prop:=λo i v H Q=>∃ p xs k j,o = .ref p/\i = .int k/\H p=some (.lst xs)/\ixN xs.length k=some j/\Q (upd H p (.lst (xs.set j v)))
theorem set_list:ak4 X ah2:=by
 intro pins s σ H o i v ov iv u Q I ro ri rv h
 obtain ⟨p,xs,k,j,rfl,rfl,hp,hj,q⟩:=h;cases ro
 obtain ⟨t,rfl⟩:=ri;obtain ⟨its,n,r,ho,hz⟩:=I.lst hp;obtain ⟨h1,h2,h3,h4⟩:=a3p hj;have hl:=r.length;have hn:=yg;have I':Inv X pins σ (upd H p (.lst (xs.set j v))) { s with heap:=s.heap.update p (Obj.mapSeq (·.setIfInBounds j u)) } :=
  I.lstUpd hp ho (a6s its n j u) (r.set rv j) (by rw [List.length_set];exact hz) s.toks
 by_cases h0:0<=k
 ·have hk:k.toNat=j:=by
   rw [seqIndex_of h0 h4] at h1;exact Option.some.inj h1
  exact PySem.W.ki_setAt ho h0 (by omega) (by rw [List.size_toArray,<-hl];exact h4) (by rw [hk];exact ⟨_,I',q⟩)
 ·have hk:(k+(its.toArray.size:Int)).toNat=j:=by
   rw [seqIndex_neg (by omega) h3] at h1
   rw [List.size_toArray,<-hl];exact Option.some.inj h1
  exact PySem.W.ki_setBack ho (by omega) (by rw [List.size_toArray,<-hl];exact h3) (by omega) (by rw [hk];exact ⟨_,I',q⟩)
theorem a2n(lo hi:Option Int)(n:Nat):(sliceBounds lo hi none n).1=((HT.sIx n 0 lo:Nat):Int)/\(sliceBounds lo hi none n).2.1=((HT.sIx n n hi:Nat):Int)/\(sliceBounds lo hi none n).2.2=1:=by
 refine ⟨?_,?_,rfl⟩
 ·cases lo with
  | none=>simp [sliceBounds,HT.sIx]
  | some i =>
   simp only [sliceBounds,HT.sIx,Option.getD_none,show (1:Int) > 0 by decide,if_true]
   by_cases h:i<0
   ·simp only [h,if_true]<;>omega
   ·simp only [h,if_false]<;>omega
 ·cases hi with
  | none=>simp [sliceBounds,HT.sIx]
  | some i =>
   simp only [sliceBounds,HT.sIx,Option.getD_none,show (1:Int) > 0 by decide,if_true]
   by_cases h:i<0
   ·simp only [h,if_true]<;>omega
   ·simp only [h,if_false]<;>omega
theorem a1b(its:List Value)(lo hi:Option Int):slicePick its.toArray lo hi none=((its.drop (HT.sIx its.length 0 lo)).take (HT.sIx its.length its.length hi - HT.sIx its.length 0 lo)).toArray:=by
 obtain ⟨h1,h2,h3⟩:=a2n lo hi its.toArray.size;unfold slicePick;rw [h1,h2,h3];simp only [sliceRange_one,pick_run,List.size_toArray]<;>rfl
def akm(K:PySem.W.Frag):V->Option Int->Option Int->Hp->VK->Prop:=λx lo hi H Q=>∃ a xs,x = .ref a/\SqL K H a xs/\∀ p,H p=none->Q (.ref p) (upd H p (.lst (aby xs lo hi)))
theorem adp:SlR X (akm X.K):=by
 intro pins s σ H x v vl vu lo hi sl Q I rx hs pl pu h
 obtain ⟨a,xs,rfl,hx,q⟩:=h;cases rx
 obtain ⟨its,r,ht,hz⟩:=I.list hx;have hlen:=r.length;refine ⟨"list",_,slot_list_getitem.lookup,ht.isList.typeIs,?_⟩;refine wpAny_getItem_list_slice ht.isList hs pl pu .none (by simp) ?_ (by rw [List.size_toArray]<;>omega)
 rw [a1b,<-hlen];refine ⟨.ref s.heap.objs.size,_,I.laid (t':=s.toks) (o:=.lst (aby xs lo hi)) (λb ob q=>Heap.get?_push_of_some _ q) (Nat.le_refl _) ?_,rfl,q _ (I.hok.fresh (Nat.le_refl _))⟩;exact ⟨Nat.le_trans (zp xs lo hi) hz,_,0,(r.drop (HT.sIx xs.length 0 lo)).take (HT.sIx xs.length xs.length hi - HT.sIx xs.length 0 lo),Heap.get?_push_size _ rfl⟩
def a3r:V->Bool
 | .non=>true
 | .bl _=>true
 | .int _=>true
 | .str _=>true
 | _=>false
def eqV:V->V->Bool
 | .non, .non=>true
 | .bl a, .bl b=>a == b
 | .bl a, .int b=>(if a then 1 else 0) == b
 | .int a, .bl b=>a == (if b then 1 else 0)
 | .int a, .int b=>a == b
 | .str a, .str b=>a == b
 | _,_=>false
theorem abz{A:Around}{s:Shared}{y x:V}{u v:Value}(ry:RelV y u)(rx:RelV x v)(fy:a3r y=true)(fx:a3r x=true):SeqAt.EqAt A s u v (eqV y x):=by
 cases y with
 | non =>
  cases ry
  cases x with
  | non=>cases rx;exact SeqAt.EqAt.same _
  | bl b=>cases rx;exact SeqAt.EqAt.none_bool b
  | int b=>obtain ⟨t,rfl⟩:=rx;exact SeqAt.EqAt.none_int b t
  | str b=>obtain ⟨t,rfl⟩:=rx;exact SeqAt.EqAt.none_str b t
  | _=>exact absurd (show false=true from fx) Bool.false_ne_true
 | bl a =>
  cases ry
  cases x with
  | non=>cases rx;exact SeqAt.EqAt.bool_none a
  | bl b=>cases rx;exact SeqAt.EqAt.bool_bool a b
  | int b=>obtain ⟨t,rfl⟩:=rx;exact SeqAt.EqAt.bool_int a b t
  | str b=>obtain ⟨t,rfl⟩:=rx;exact SeqAt.EqAt.bool_str a b t
  | _=>exact absurd (show false=true from fx) Bool.false_ne_true
 | int a =>
  obtain ⟨t',rfl⟩:=ry
  cases x with
  | non=>cases rx;exact SeqAt.EqAt.int_none a t'
  | bl b=>cases rx;exact SeqAt.EqAt.int_bool a t' b
  | int b=>obtain ⟨t,rfl⟩:=rx;exact SeqAt.EqAt.int_int a t' b t
  | str b=>obtain ⟨t,rfl⟩:=rx;exact SeqAt.EqAt.int_str a t' b t
  | _=>exact absurd (show false=true from fx) Bool.false_ne_true
 | str a =>
  obtain ⟨t',rfl⟩:=ry
  cases x with
  | non=>cases rx;exact SeqAt.EqAt.str_none a t'
  | bl b=>cases rx;exact SeqAt.EqAt.str_bool a t' b
  | int b=>obtain ⟨t,rfl⟩:=rx;exact SeqAt.EqAt.str_int a t' b t
  | str b=>obtain ⟨t,rfl⟩:=rx;exact SeqAt.EqAt.str_str a t' b t
  | _=>exact absurd (show false=true from fx) Bool.false_ne_true
 | _=>exact absurd (show false=true from fy) Bool.false_ne_true
theorem du:CallR X (.builtin "len") (λxs H Q=>∃ p ys,xs=[.ref p]/\(SqL X.K H p ys\/SqT X.K H p ys)/\Q (.int ys.length) H):=by
 intro pins s σ H xs us Q I r h
 obtain ⟨p,ys,rfl,hq,q⟩:=h;obtain ⟨u,rfl,rx⟩:=vals1 r;cases rx
 have hn:=yg
 rcases hq with hq | hq
 ·obtain ⟨its,r',pl,hz⟩:=I.list hq;have hlen:=r'.length;exact Calls.call_len_list pl.isList (by simp only [List.size_toArray]<;>omega) ⟨.int ys.length,H,I.tok _,⟨s.toks+1,by rw [List.size_toArray,hlen]⟩,q⟩
 ·obtain ⟨its,r',pl,hz⟩:=I.tuple hq;have hlen:=r'.length;exact len_tuple pl (by simp only [List.size_toArray]<;>omega) ⟨.int ys.length,H,I.tok _,⟨s.toks+1,by rw [List.size_toArray,hlen]⟩,q⟩
theorem dw:CallR X (.builtin "len") (λxs H Q=>∃ z,xs=[.str z]/\z.length<=sizeLine/\Q (.int z.length) H):=by
 intro pins s σ H xs us Q I r h
 obtain ⟨z,rfl,hz,q⟩:=h;obtain ⟨u,rfl,t,rfl⟩:=vals1 r;have hn:=yg;exact len_str (by omega) ⟨.int z.length,H,I.tok _,⟨_,rfl⟩,q⟩
theorem CallR.or{f:Value}{r r':List V->Hp->VK->Prop}(h:CallR X f r)(h':CallR X f r'):CallR X f (λxs H Q=>r xs H Q\/r' xs H Q):=by
 intro pins s σ H xs us Q I rs q
 rcases q with q | q
 ·exact h pins s σ H xs us Q I rs q
 ·exact h' pins s σ H xs us Q I rs q
theorem t8:CallR X (.type "list") (λxs H Q=>∃ p ys,xs=[.ref p]/\(SqL X.K H p ys\/SqT X.K H p ys)/\∀ l,H l=none->Q (.ref l) (upd H l (.lst ys))):=by
 intro pins s σ H xs us Q I r h
 obtain ⟨p,ys,rfl,hq,q⟩:=h;obtain ⟨u,rfl,rx⟩:=vals1 r;cases rx
 have fin:∀ (its:List Value),Vals ys its->ys.length<=sizeLine->∀ (h':Heap) (c':Nat),(∀ b o',s.heap.get? b=some o'->h'.get? b=some o')->
   h'.get? s.heap.objs.size=some { cls:=.type "list",dict:=none,data:=.seq its.toArray c',slots := #[] }->EP X pins σ Q (.ref s.heap.objs.size) { s with heap:=h' }:=λits r' hz h' c' kp e =>
  ⟨.ref s.heap.objs.size,_,I.laid (t':=s.toks) kp (Nat.le_refl _) (show ObjOk X.prog X.w _ h' _ (.lst ys) from ⟨hz,its,c',r',e⟩),rfl,q _ (I.hok.fresh (Nat.le_refl _))⟩
 rcases hq with hq | hq
 ·obtain ⟨its,r',pl,hz⟩:=I.list hq;have hlen:=r'.length;obtain ⟨o,ho,hc,n,hd⟩:=pl.isList;exact call_list_seq p (.inl rfl) ho hc hd (λh' c' kp e=>fin its r' hz h' c' kp e) (by simp only [List.size_toArray]<;>omega)
 ·obtain ⟨its,r',pl,hz⟩:=I.tuple hq;have hlen:=r'.length;obtain ⟨o,ho,hc,n,hd⟩:=pl;exact call_list_seq p (.inr rfl) ho hc hd (λh' c' kp e=>fin its r' hz h' c' kp e) (by simp only [List.size_toArray]<;>omega)
def tyV(K:PySem.W.Frag)(T:String)(x:V)(H:Hp):Prop:=match x with
 | .str _=>T = "str"
 | .int _=>T = "int"
 | .ref p=>(T = "list"/\∃ xs,SqL K H p xs)\/(T = "tuple"/\∃ o,K.lookup p=some o/\o.cls = .type "tuple"/\o.dict=none) \/
   (T = "dict"/\((∃ kvs,H p=some (.dK kvs))\/∃ kvs,H p=some (.dT kvs)))\/(T = "set"/\∃ S n,H p=some (.set S n))
 | _=>False
theorem ac0{pins:List (Addr × Obj)}{σ:St}{H:Hp}{s:Shared}{T:String}{x:V}{v:Value}(I:Inv X pins σ H s)(r:RelV x v)(ty:tyV X.K T x H) :
  s.TypeIs v T/\∀ a,v = .ref a->∃ ob,s.heap.get? a=some ob/\ob.dict=none:=by
 cases x with
 | str z =>
  obtain ⟨t,rfl⟩:=r
  cases (show T = "str" from ty)
  exact ⟨typeIs_str s z t,λ_ e=>nomatch e⟩
 | int i =>
  obtain ⟨t,rfl⟩:=r
  cases (show T = "int" from ty)
  exact ⟨typeIs_int s i t,λ_ e=>nomatch e⟩
 | ref p =>
  cases r
  rcases ty with ⟨rfl,xs,hq⟩ | ⟨rfl,o,hk,hc,hd⟩ | ⟨rfl,hk⟩ | ⟨rfl,S,n,hk⟩
  ·obtain ⟨its,_,pl,_⟩:=I.list hq;refine ⟨pl.isList.typeIs,λa e=>?_⟩;cases e
   obtain ⟨o,n,e,c,hd,_⟩:=pl;exact ⟨o,e,hd⟩
  ·refine ⟨⟨o,I.kIn p o hk,hc⟩,λa e=>?_⟩;cases e
   exact ⟨o,I.kIn _ o hk,hd⟩
  ·have z:∃ o,s.heap.get? p=some o/\o.ExactDict:=by
    rcases hk with ⟨kvs,hk⟩ | ⟨kvs,hk⟩
    ·obtain ⟨_,_,_,_,o,_,_,e,ex,_⟩:=I.hok p _ hk;exact ⟨o,e,ex⟩
    ·obtain ⟨_,_,_,_,o,_,_,e,ex,_⟩:=I.hok p _ hk;exact ⟨o,e,ex⟩
   obtain ⟨o,e,ex⟩:=z;refine ⟨⟨o,e,ex.1⟩,λa e2=>?_⟩;cases e2
   exact ⟨o,e,ex.2.1⟩
  ·obtain ⟨o,_,_,_,e,ex,_⟩:=I.hok p _ hk;refine ⟨⟨o,e,ex.1⟩,λa e2=>?_⟩;cases e2
   exact ⟨o,e,ex.2.1⟩
 | _=>exact False.elim ty
def tBM(K:PySem.W.Frag)(T:String)(r:V->List V->Hp->VK->Prop)(to:TE)(t:TA):TE:=λσ H Q=>to σ H λx H1=>tyV K T x H1/\t σ H1 λxs H2=>r x xs H2 Q
variable{o e:Expr}{es:List Expr}{to:TE}{t:TA}{name:Str}{apos cpos:Pos}{T id:String}{r:V->List V->Hp->VK->Prop}
theorem akn(pa:PlainAttrs T)(slot:Slot T name id)(hty:typeOf (.builtin id)=pure (.type "method_descriptor"))(hm:MtR X id r)(ho:PE X o to)(ha:PA X (e::es) t)
  (hbase:attributeBase o name X.env (eval o X.env)=eval o X.env:=by rfl)
  (hfew:((backTo cpos (starEach (e::es) X.env)).all (λx => !x.1) && (backToKw cpos (keywordEach [] X.env)).all (λx=>x.1.isSome)
   && decide ((e::es).length+([]:List Keyword).length+(if ([]:List Keyword).isEmpty then 0 else 1)<30))=true:=by rfl)
  (hline:(apos.endLine == cpos.line)=true:=by rfl) (hs:starEach (e::es) X.env=(false,eval e X.env)::starEach es X.env:=by rfl) (hplain:(backTo cpos (starEach es X.env)).any (·.1)=false:=by rfl) :
  PE X (.Call (.Attribute o name apos) (e::es) [] cpos) (tBM X.K T r to t):=by
 intro pins s σ H Q I h
 refine wpAny_Call_method_late hbase hfew hline rfl (thn (ho pins s σ H _ I h) λv s1 ⟨x,H1,I1,r1,ty,q1⟩=>?_);obtain ⟨h1,h2⟩:=ac0 I1 r1 ty;refine ⟨T,id,pa,slot,hty,h1,h2,?_⟩;have hA:=ha cpos pins s1 σ H1 _ I1 q1;rw [hs] at hA ⊢;refine Calls.callWith_builtin (by show (false || (backTo cpos (starEach es X.env)).any (·.1))=false;rw [hplain]<;>rfl) (Calls.evalArgs_plain ?_)
 exact thn hA λus s2 ⟨vs,H2,I2,r2,q2⟩=>hm pins s2 σ H2 x vs v us Q I2 r1 r2 q2
end
def MtM(X:Cx)(id:String)(r:V->List V->Hp->VK->Prop):Prop :=
 ∀ (pins:List (Addr × Obj)) (s:Shared) (σ:St) (H:Hp) (x:V) (xs:List V) (v:Value) (us:List Value) (Q:VK),Inv X pins σ H s->RelV x v->Vals xs us->r x xs H Q->
  wpAny (model X.prog X.w) X.A (call (.builtin id) (v::us)) (EP X pins σ Q) X.xe s
theorem Vals.one:∀ {x:V} {us:List Value},Vals [x] us->∃ u,us=[u]/\RelV x u
 | _,_, .cons r .nil=>⟨_,rfl,r⟩
theorem Vals.eraseIdx:∀ {xs:List V} {us:List Value} (i:Nat),Vals xs us->Vals (xs.eraseIdx i) (us.eraseIdx i)
 | _,_,_, .nil=>.nil
 | _,_,0, .cons _ t=>t
 | _,_,i+1, .cons r t=>.cons r (Vals.eraseIdx i t)
theorem Vals.rep{xs:List V}{us:List Value}(h:Vals xs us):∀ k:Nat,Vals (List.replicate k xs).flatten (List.replicate k us).flatten
 | 0=>.nil
 | k+1=>by
  rw [List.replicate_succ,List.replicate_succ,List.flatten_cons,List.flatten_cons];exact Vals.append h (Vals.rep h k)
theorem a2o{α:Type}:∀ (l:List α) (i:Nat),(l.eraseIdx i).length<=l.length
 | [],_=>Nat.le_refl _
 | _::_,0=>Nat.le_succ _
 | _::r,i+1=>Nat.succ_le_succ (a2o r i)
theorem foldl_rep(its:List Value):∀ (k:Nat) (acc:List Value),
  List.foldl (λx1 x2=>x1++x2) acc.toArray (List.replicate k its.toArray)=(acc++(List.replicate k its).flatten).toArray
 | 0,acc=>by simp
 | k+1,acc=>by
  have e:acc.toArray++its.toArray=(acc++its).toArray:=by simp
  have e2:(acc++its)++(List.replicate k its).flatten=acc++(List.replicate (k+1) its).flatten:=by
   rw [List.replicate_succ,List.flatten_cons,List.append_assoc]
  rw [<-e2,<-foldl_rep its k (acc++its),<-e,List.replicate_succ,List.foldl_cons]
section
variable{X:Cx}{pins:List (Addr × Obj)}{σ:St}{H:Hp}{s:Shared}{l b:Addr}{xs ys zs:List V}
theorem Inv.lset{its its':List Value}{n:Nat}{f:Array Value->Array Value}{t':Nat}(I:Inv X pins σ H s)(hH:H l=some (.lst xs))
  (e:s.heap.get? l=some { cls:=.type "list",data:=.seq its.toArray n }) (hf:f its.toArray=its'.toArray) (hv:Vals ys its') (hz:ys.length<=sizeLine) :
  Inv X pins σ (upd H l (.lst ys)) { s with heap:=s.heap.update l (Obj.mapSeq f),toks:=t' }:=by
 have q:=PySem.IsL.update e f;rw [hf] at q;refine I.write (x:=l) (e:=l) (by rw [hH];exact trivial) (.inl rfl) (λb' u hb hu=>(Heap.get?_update_other s.heap (Obj.mapSeq f) (Ne.symm hb)).trans hu) ⟨_,q⟩ ?_
 exact ⟨hz,its',_,hv,q⟩
theorem Inv.lnew{its:List Value}{t':Nat}(I:Inv X pins σ H s)(hv:Vals ys its)(hz:ys.length<=sizeLine) :
  Inv X pins σ (upd H s.heap.objs.size (.lst ys)) { s with heap:=s.heap.push { cls:=.type "list",data:=.seq its.toArray },toks:=t' } :=
 I.laid (λ_ _ q=>Heap.get?_push_of_some _ q) (Nat.le_refl _) ⟨hz,its,0,hv,Heap.get?_push_size _ rfl⟩
theorem Inv.fresh(I:Inv X pins σ H s):H s.heap.objs.size=none:=I.hok.fresh (Nat.le_refl _)
theorem Inv.lstM(I:Inv X pins σ H s)(hH:H l=some (.lst xs)):xs.length<=sizeLine/\∃ (its:List Value) (n:Nat),Vals xs its/\xs.length=its.length/\s.heap.get? l=some { cls:=.type "list",data:=.seq its.toArray n }:=by
 obtain ⟨z,its,n,r,e⟩:=I.hok l _ hH;exact ⟨z,its,n,r,r.length,e⟩
theorem aad{n:Nat}(h:n<=sizeLine):Builtin.List.listTooLong n=false:=by
 unfold Builtin.List.listTooLong;exact decide_eq_false (by omega)
end
section
variable{X:Cx}
def a7t:V->List V->Hp->VK->Prop:=λx vs H Q=>∃ l xs y,x = .ref l/\vs=[y]/\H l=some (.lst xs)/\xs.length<sizeLine/\Q .non (upd H l (.lst (xs++[y])))
theorem zq:MtM X "list.append" a7t:=by
 intro pins s σ H x vs v us Q I rx rv h
 obtain ⟨l,xs,y,rfl,rfl,hH,hz,q⟩:=h;cases rx
 obtain ⟨u,rfl,ru⟩:=rv.one;obtain ⟨z,its,n,r,hl,e⟩:=I.lstM hH;refine call_meets F.slot_list_append ⟨_,e,rfl⟩ F.entry_list_append (F.args_list_append_2 _ _) (PySem.list_append l its.toArray n u (by rw [List.size_toArray];omega)) ⟨e,?_⟩
 refine ⟨.non,_,I.lset (its':=its++[u]) hH e (by simp) (r.append (.cons ru .nil)) ?_,rfl,q⟩
 rw [List.length_append,List.length_singleton];omega
def ac1:V->List V->Hp->VK->Prop:=λx vs H Q=>∃ l xs i k y,x = .ref l/\vs=[.int i]/\H l=some (.lst xs) /\ -(2 ^ 63)<=i/\i<2 ^ 63/\seqIndex? i xs.length=some k/\xs[k]? = some y/\Q y (upd H l (.lst (xs.eraseIdx k)))
theorem aae:MtM X "list.pop" ac1:=by
 intro pins s σ H x vs v us Q I rx rv h
 obtain ⟨l,xs,i,k,y,rfl,rfl,hH,h1,h2,hk,hy,q⟩:=h;cases rx
 obtain ⟨u,rfl,ru⟩:=rv.one;obtain ⟨t,rfl⟩:=ru;obtain ⟨z,its,n,r,hl,e⟩:=I.lstM hH;obtain ⟨w,hw,rw'⟩:=r.get hy;refine call_meets F.slot_list_pop ⟨_,e,rfl⟩ F.entry_list_pop (F.args_list_pop_2 _ _)
  (MeetsSeq.list_pop_at l its.toArray n i t k w (fitsIndex_both h1 h2) (by rw [List.size_toArray,<-hl];exact hk) (by rw [<-Array.getElem?_toList];exact hw) (by rw [List.size_toArray];omega)) ⟨e,?_⟩
 refine ⟨y,_,I.lset (its':=its.eraseIdx k) hH e ?_ (r.eraseIdx k) ?_,rw',q⟩
 ·show its.toArray.eraseIdxIfInBounds k=(its.eraseIdx k).toArray;rw [List.eraseIdxIfInBounds_toArray]
 ·have:=a2o xs k
  omega
theorem len_rep{α:Type}(xs:List α)(k:Nat):(List.replicate k xs).flatten.length=k*xs.length:=by
 induction k with
 | zero=>simp
 | succ k ih=>rw [List.replicate_succ,List.flatten_cons,List.length_append,ih,Nat.succ_mul,Nat.add_comm]
end
end L2
namespace Att
open PySem PySem.W PySem.Calls PyProof.Rows
theorem zr{P:Params}{h:Heap}:∀ (ns:List Int) (vs:List Value),WellAll P h vs (ns.map WData.int)->IntsAre vs ns:=by
 intro ns
 induction ns with
 | nil =>
  intro vs w
  rw [List.map_nil] at w;cases w
  exact .nil
 | cons n ns ih =>
  intro vs w
  rw [List.map_cons] at w
  cases w with
  | cons a b =>
   cases a
   exact .cons _ _ (ih _ b)
theorem a7u{l:OpenLaw}{n:Nat}(hn:l.most=some n){P:Params}{h:Heap}{args:List WData}{vals:List Value}
  (hpre:l.row.toRowW.claim.pre args=true) (hwl:WellAll P h vals args) :
  ∃ a vs ns,vals=[Value.ref a]/\args=[WData.list (ns.map WData.int)]/\h.get? a=some { cls:=.type "list",data:=.seq vs.toArray }/\IntsAre vs ns/\ns.length<=n:=by
 have hsh:WShape.hasAll [] args [.list .int]=true:=(pre_splitW hpre).1;have hc:l.pre.holds [] { args:=args }=true:=(pre_splitW hpre).2;obtain ⟨d,r,rfl,h1,h2⟩:=hasAllW_cons hsh;obtain rfl:=hasAllW_nil h2;obtain ⟨xs,rfl,h3⟩:=hasW_list h1;obtain ⟨ns,rfl⟩:=items_int h3;have hlen:ns.length<=n:=by
  unfold OpenLaw.pre at hc;have h4:(WTm.not (.lt (.lit (.int (n:Int))) (.len (.arg 0)))).holds [] { args:=[.list (ns.map .int)] }=true:=by
   have h4:=(holds_andW hc).1;rw [hn] at h4;exact h4
  have h5:=condW_of h4 (w_not (w_lt w_lit (w_len_list (w_arg rfl))));rw [List.length_map] at h5;refine Nat.le_of_not_lt λq=>?_;have q':(n:Int)<((ns.length:Nat):Int):=by omega
  first
   | (rw [decide_eq_true q'] at h5;exact absurd h5 (by decide))
   | (simp at h5;omega)
 cases hwl with
 | cons w1 w2 =>
  cases w2
  cases w1 with
  | list ho hall=>exact ⟨_,_,ns,rfl,rfl,ho,zr ns _ hall,hlen⟩
theorem a7v(l:OpenLaw)(args:List WData):l.row.toRowW.claim.post args (.bool true) args=true :=
 postW_of (r:=l.row.toRowW) (X:=(true == true))
  (show WShape.has [] (.bool true) .bool=true by first | rfl | decide | simp [WShape.has,WShape.arms,WShape.armsAll])
  (show (WTm.eq .res (.lit (.bool true))).value [] { args:=args,res:=some (.bool true),after:=args }=some (.bool (true == true)) from w_eq_bool (w_res rfl) w_lit) rfl
theorem a3s{l:OpenLaw}{n:Nat}{q:Program}{loose:List Str}{XP:(Str->Option Value)->Heap->Prop}{YP:World->Heap->Prop}{d:DefRec}
  (hn:l.most=some n) (hdf:d.params.defaults=[])
  (call:∀ (w:World) (s₀ s₁:Shared) (mg mb:Str->Option Value) (fa:Addr) (o:Obj) (pm cd doc:Value) (a:Addr) (vs:List Value) (ns:List Int),
   Ground q loose [] XP w s₀ mg mb s₁.heap->YP w s₁.heap->
   s₁.heap.get? fa=some o->o.data = .func (docDef d.name d.params d.body d.scope pm cd doc)->s₁.heap.CodeRec cd d.name->mg d.name=some (.ref fa)->
   s₁.heap.get? a=some { cls:=.type "list",data:=.seq vs.toArray }->IntsAre vs ns->ns.length<=n->s₁.gens = #[]->
   codeAny (model l.prog w) callerA (.call (.ref fa) ⟨[.ref a],[]⟩) (λr s'=>r = .ok (.ret (.bool true))/\OldK s₁.heap s'.heap/\s'.os=s₁.os/\AllBare s'.gens) s₁) :
  WalkO q loose XP YP l.row.toRowW d [] (λf vs=>PySem.call f vs):=by
 intro w s₀ s₁ mg mb G Y fa o pm cd doc dV kV ho hd hcd hD hmg hg args vals as hpre hlay hrd hwl hlo
 obtain rfl:dV = .none:=Dflts.none hD hdf
 obtain rfl:kV = .none:=Dflts.noKw hD
 obtain ⟨a,vs,ns,rfl,rfl,hobj,hints,hlen⟩:=a7u hn hpre hwl;refine enter_call (codeAny_mono (call w s₀ s₁ mg mb fa o pm cd doc a vs ns G Y ho (fd_plain hd) hcd hmg hobj hints hlen hg) λr s' hq=>?_);obtain ⟨rfl,h2,h3,h4⟩:=hq;exact ⟨.inl ⟨.bool true, .bool true,[],rfl,λ_=>rfl, .bool true,a7v l _,λ_=>⟨List.Pairwise.nil,λ_ hm=>(nomatch hm)⟩⟩,h2,h3,h4⟩
end Att
namespace L2
open PySem PySem.Spec PyProof.Rows
theorem a2p:∀ {vs:List Value} {ns:List Int},IntsAre vs ns->Vals (ns.map V.int) vs
 | _,_, .nil=>.nil
 | _,_, .cons n t h=>.cons ⟨t,rfl⟩ (a2p h)
def Only(H:Hp):Prop:=∀ b,H b=none\/∃ o xs,H b=some (.frz o (.lst xs))
theorem aaf{P:Program}{w:World}{K:PySem.W.Frag}{mg mb:Str->Option Value}{CX:CXT}{k:Nat}{fa a:Addr}{fd:FuncData}{x:Str}{sp:Sp}{s₁:Shared}{vs:List Value}{ns:List Int}
  (KX:K.In s₁.heap) (hns:s₁.heap.Ns mainGlobals mg) (hb:s₁.heap.Ns builtinsNs mb) (hbb:∀ x:Str,x ≠ "__name__"->mb x=bootBuiltins x) (hlim:s₁.heap.NoLimit) (hg:s₁.gens = #[])
  (ha:s₁.heap.get? a=some { cls:=.type "list",data:=.seq vs.toArray }) (hi:IntsAre vs ns) (hl:ns.length<=sizeLine) (hr:Room k callerA)
  (F:∀ base:Heap,K.In base->base.Ns mainGlobals mg->FnOk P w K mg base CX k fa fd [x] sp) (hbind:∀ (s:Shared) (u:Value),BindsTo s fd ⟨[u],[]⟩ [(x,u)])
  (hsp:∀ H:Hp,Only H->SqL K H a (ns.map V.int)->sp [.ref a] H (λv _=>v = .bl true) λ_ _ _=>False)
  (hCX:∀ H e s',CX [] H s₁ (λ_ _ _=>False) e s'->False) :
  codeAny (model P w) callerA (.call (.ref fa) ⟨[.ref a],[]⟩) (λr s'=>r = .ok (.ret (.bool true))/\OldK s₁.heap s'.heap/\s'.os=s₁.os/\AllBare s'.gens) s₁:=by
 have rv:=a2p hi;have lenV:=hi.length;have core:∀ H:Hp,Only H->SqL K H a (ns.map V.int)->HOk P w H s₁.heap->(∀ b,H b≠none->b=a)->(H a≠none->K.lookup a=none)->
   codeAny (model P w) callerA (.call (.ref fa) ⟨[.ref a],[]⟩) (λr s'=>r = .ok (.ret (.bool true))/\OldK s₁.heap s'.heap/\s'.os=s₁.os/\AllBare s'.gens) s₁:=by
  intro H hO hS hok hA hK
  have base_of:∀ {b:Addr} {o:Obj},s₁.heap.get? b=some o->H b=none->(a9y s₁.heap H).get? b=some o:=λe n=>a9z e n;have noA:∀ {b:Addr} {o:Obj} {es:Array DictEntry} {ep:Nat},s₁.heap.get? b=some o->o.data = .dict es ep->H b=none:=λ{b o es ep} e d=>by
   cases q:H b with
   | none=>rfl
   | some u =>
    have e':b=a:=hA b (by rw [q];simp)
    subst e';rw [ha] at e;cases e
    have d':Data.seq vs.toArray _=Data.dict es ep:=d
    cases d'
  have nsK:∀ {b:Addr} {m:Str->Option Value},s₁.heap.Ns b m->(a9y s₁.heap H).Ns b m:=λ{b m} ⟨o,es,ep,e,d,r⟩=>⟨o,es,ep,base_of e (noA e d),d,r⟩;have hKb:K.In (a9y s₁.heap H):=λb o e=>base_of (KX b o e) (by
   cases q:H b with
   | none=>rfl
   | some u =>
    have e':b=a:=hA b (by rw [q];simp)
    subst e';rw [hK (by rw [q];simp)] at e;cases e)
  have hM:Mod K mg (a9y s₁.heap H):=⟨hKb,nsK hns,⟨mb,nsK hb,hbb⟩,let ⟨mc,h1,h2⟩:=hlim; ⟨mc,nsK h1,h2⟩⟩;have e0:Env0 P w K mg (a9y s₁.heap H) callerA [] s₁ H:=⟨rfl,hM,λb o e=>ad5 e,Nat.le_of_eq (a7b _ _),trivial,λb hb=>absurd (show b∈([]:List Addr) from hb) (by simp),hok, .of_eq hg⟩
  refine codeAny_mono ((F _ hKb (nsK hns)).run callerA [] s₁ H ⟨[.ref a],[]⟩ [.ref a] [.ref a] _ _ hr e0 (hbind s₁ (.ref a)) (.cons rfl .nil) (hsp H hO hS)) λr s' h=>?_
  cases r with
  | error e=>exact (hCX H e s' h).elim
  | ok fl =>
   cases fl with
   | next=>exact False.elim h
   | brk=>exact False.elim h
   | cont=>exact False.elim h
   | ret u =>
    obtain ⟨v,H',os,bare,un,hok',r',q⟩:=h;have q':v = .bl true:=q;subst q';obtain rfl:u=Value.bool true:=r';refine ⟨rfl,OldK.of_keep λb o e=>?_,os,bare⟩
    cases q:H b with
    | none=>exact un.keep b o e q (by intro z;exact absurd (show b∈([]:List Addr) from z) (by simp)) (by simp)
    | some u =>
     rcases hO b with z | ⟨ob,xs,z⟩
     ·rw [q] at z;cases z
     ·have z2:=un.frzs b ob _ z;obtain ⟨e1,_⟩:=hok b _ z;obtain ⟨e2,_⟩:=hok' b _ z2;rw [e] at e1;cases e1
      exact e2
 cases hk:K.lookup a with
 | some o =>
  have e:=KX a o hk;rw [ha] at e;cases e
  refine core (λ_=>none) (λ_=>.inl rfl) (.inr ⟨_,vs.toArray,_,hk,rfl,rfl,rfl,by rw [List.size_toArray,lenV];exact hl,by simpa using rv⟩) (λb u z=>by have z':(none:Option HO)=some u:=z;cases z') (λb z=>absurd rfl z) λz=>absurd rfl z
 | none =>
  refine core (λb=>if b=a then some (.frz { cls:=.type "list",data:=.seq vs.toArray } (.lst (ns.map V.int))) else none) (λb=>?_) (.inl (.inr ⟨{ cls:=.type "list",data:=.seq vs.toArray },if_pos rfl⟩)) (λb u z=>?_) (λb z=>?_) λ_=>hk
  ·by_cases hb:b=a
   ·exact .inr ⟨_,_,if_pos hb⟩
   ·exact .inl (if_neg hb)
  ·by_cases hb:b=a
   ·have z':=(if_pos hb).symm.trans z
    cases z'
    subst hb;exact ⟨ha,by rw [List.length_map];exact hl,vs,_,rv,ha⟩
   ·have z':=(if_neg hb).symm.trans z
    cases z'
  ·by_cases hb:b=a
   ·exact hb
   ·exact absurd (if_neg hb) z
theorem adq{l:PySem.W.OpenLaw}{n k:Nat}{q:Program}{loose:List Str}{XP:(Str->Option Value)->Heap->Prop}{YP:World->Heap->Prop}{d:DefRec}{K:Params->PySem.W.Frag}{CX:World->CXT}{sp:World->Sp}{x:Str}
  (hn:l.most=some n) (hn2:n<=sizeLine) (hdf:d.params.defaults=[]) (hr:Room k callerA)
  (hY:∀ (w:World) (h:Heap),YP w h->(K w.params).In h)
  (F:∀ (w:World) (mg:Str->Option Value) (fa:Addr) (h:Heap),(K w.params).In h->h.Ns mainGlobals mg->mg d.name=some (.ref fa)->
   ∃ fd:FuncData,(∀ (s:Shared) (u:Value),BindsTo s fd ⟨[u],[]⟩ [(x,u)]) /\
    ∀ base:Heap,(K w.params).In base->base.Ns mainGlobals mg->FnOk l.prog w (K w.params) mg base (CX w) k fa fd [x] (sp w))
  (hsp:∀ (w:World) (H:Hp) (a:Addr) (ns:List Int),ns.length<=n->Only H->SqL (K w.params) H a (ns.map V.int)->sp w [.ref a] H (λv _=>v = .bl true) λ_ _ _=>False)
  (hCX:∀ (w:World) (H:Hp) (s:Shared) (e:Value) (s':Shared),CX w [] H s (λ_ _ _=>False) e s'->False) :
  PySem.W.WalkO q loose XP YP l.row.toRowW d [] (λf vs=>PySem.call f vs):=by
 refine Att.a3s hn hdf λw s₀ s₁ mg mb fa o pm cd doc a vs ns G Y ho hd hcd hmg hobj hints hlen hg=>?_;have KX:=hY w _ Y;obtain ⟨fd,hb,hF⟩:=F w mg fa _ KX G.T.g hmg;exact aaf KX G.T.g G.T.b G.T.builtins G.T.nolimit hg hobj hints (Nat.le_trans hlen hn2) hr hF hb (λH hO hS=>hsp w H a ns hlen hO hS) λH e s'=>hCX w H s₁ e s'
def xf(s:Stmt):Arguments:=match s with
 | .FunctionDef _ a _ _ _ _ _ _ _ _=>a
 | _=>{ posonlyargs:=[],args:=[],vararg:=none,kwonlyargs:=[],kw_defaults:=[],kwarg:=none,defaults:=[] }
def gq(s:Stmt):List Stmt:=match s with
 | .FunctionDef _ _ b _ _ _ _ _ _ _=>b
 | _=>[]
def aq(s:Stmt):Scope:=match s with
 | .FunctionDef _ _ _ _ _ _ sc _ _ _=>sc
 | _=>{ kind:=.function,names:=[],isGenerator:=false,isCoroutine:=false }
abbrev CX0:CXT:=λ_ _ _ _ _ _=>False
abbrev E0:XK:=λ_ _ _=>False
theorem adt{X:Cx}:a4y CX0 X E0:=λ_ _ _ _ _ _ _ h=>h.elim
structure Fun (K:PySem.W.Frag) (x qual:Str) (st:Stmt) (f:Addr) (fd:FuncData):Prop where
 ex:∃ (oc:Value) (od:Option Addr) (kV doc pm:Value) (an:Option Addr) (cdv ct:Value) (osl:Array (Option Value)),
  fd=PySem.W.fnOf x qual (xf st) (gq st) (aq st) .none kV doc pm an cdv ct/\K.lookup f=some ⟨oc,od, .func fd,osl⟩/\PySem.W.codeIn K cdv qual=true
 kp:PySem.W.keepIn K (.ref f)=true
section
variable{P:Program}{w:World}{K:PySem.W.Frag}{mg:Str->Option Value}{base:Heap}
theorem Fun.ok{x qual:Str}{st:Stmt}{f:Addr}{fd:FuncData}{N ps:List Str}{k:Nat}{sp:Sp}(F:Fun K x qual st f fd)(S:FnScope N ps (aq st))(len:∀ vs H Q E,sp vs H Q E->vs.length=ps.length)
  (hbody:∀ (cdv:Value) (A:Around) (outer:List Env) (s:Shared) (H:Hp) (vs:List V) (Q:VK) (E:XK),Room k (A.deeper (envOfC qual (aq st) s.heap.objs.size f cdv))->sp vs H Q E->
   ∃ t,PSs (zm CX0 P w K mg base N qual (aq st) f cdv A outer s H E).nox (gq st) t/\t { nx:=λ_ H'=>Q .non H',rt:=Q } (start N vs) H):FnOk P w K mg base CX0 (k+1) f fd ps sp:=by
 obtain ⟨oc,od,kV,doc,pm,an,cdv,ct,osl,rfl,lk,hcd⟩:=F.ex;refine agx lk hcd S len λA outer s H vs Q E hr hsp=>?_;obtain ⟨t,h,q⟩:=hbody cdv A outer s H vs Q E hr hsp;exact ⟨t,h.nox,q⟩
theorem Fun.binds{x qual:Str}{st:Stmt}{f:Addr}{fd:FuncData}{ps:List Str}(F:Fun K x qual st f fd)
  (h:∀ (kV doc pm:Value) (an:Option Addr) (cdv ct:Value) (us:List Value),us.length=ps.length->bindArgs (PySem.W.fnOf x qual (xf st) (gq st) (aq st) .none kV doc pm an cdv ct) ⟨us,[]⟩=pure (ps.zip us)):Binds K fd ps []:=by
 obtain ⟨oc,od,kV,doc,pm,an,cdv,ct,osl,rfl,lk,hcd⟩:=F.ex;exact .all (h kV doc pm an cdv ct)
theorem ah3{x qual:Str}{st:Stmt}{f:Addr}{oc:Value}{od an:Option Addr}{osl:Array (Option Value)}{kV doc pm cdv ct:Value}(l:K.lookup f=some ⟨oc,od, .func (PySem.W.fnOf x qual (xf st) (gq st) (aq st) .none kV doc pm an cdv ct),osl⟩)
  (c:PySem.W.codeIn K cdv qual=true) (k:PySem.W.keepIn K (.ref f)=true):Fun K x qual st f (PySem.W.fnOf x qual (xf st) (gq st) (aq st) .none kV doc pm an cdv ct):=⟨⟨oc,od,kV,doc,pm,an,cdv,ct,osl,rfl,l,c⟩,k⟩
end
section
variable{κ:Type}[DecidableEq κ]
theorem RelO.getD{o:Option V}{u:Option Value}{d:V}{d':Value}(r:RelO o u)(rd:RelV d d'):RelV (o.getD d) (u.getD d'):=by
 cases o with
 | none=>cases u with
  | none=>exact rd
  | some _=>exact (show False from r).elim
 | some _=>cases u with
  | none=>exact (show False from r).elim
  | some _=>exact r
end
section
variable{X:Cx}{pins:List (Addr × Obj)}{σ:St}{H:Hp}{s:Shared}{a:Addr}{y v:V}{u r:Value}{o:Option V}{A:Around}{E:Value->Shared->Prop}
theorem Inv.big(I:Inv X pins σ H s):sysModules<s.heap.objs.size:=by
 have h:mainGlobals<s.heap.objs.size:=(I.mod.glob.keeps I.bk).lt;exact Nat.lt_trans (by decide) h
end
theorem aag{P:Program}{w:World}{H:Hp}(h:Heap)(hb:sysModules<h.objs.size):ObjOk P w H (h.push { cls:=.type "dict",data:=.dict #[] }) h.objs.size (.dK []) :=
 ⟨Nat.zero_le _,beq_eq_false_iff_ne.mpr (Ne.symm (Nat.ne_of_lt hb)),[], .nil,Heap.DictOf.new h⟩
def ah4:TE:=λ_ H Q=>∀ p,H p=none->Q (.ref p) (upd H p (.dK []))
section
variable{X:Cx}{pos:Pos}
theorem aah:PE X (.Dict [] [] pos) ah4:=λpins s σ H Q I h =>
 wpAny_Dict_empty ⟨.ref s.heap.objs.size,_,I.laid (a:=s.heap.objs.size) (o:=.dK []) (t':=s.toks) (λ_ _ q=>Heap.get?_push_of_some _ q) (Nat.le_refl _) (aag s.heap I.big),rfl,h _ (I.hok.fresh (Nat.le_refl _))⟩
end
end L2
set_option maxHeartbeats 4000000
namespace L2
open PySem PySem.Spec PyProof.Rows
section
variable{X:Cx}
theorem zu:OpR X (compareOp .IsNot) (λx y H Q=>∃ i j,x = .bl i/\y = .bl j/\Q (.bl (i != j)) H):=by
 intro pins s σ H x y v u Q I rx ry h
 obtain ⟨i,j,rfl,rfl,q⟩:=h;cases rx
 cases ry
 exact isnot_bool (a4w I q rfl)
theorem a2q:OpR X (compareOp .LtE) (λx y H Q=>∃ i j,x = .str i/\y = .str j/\Q (.bl (!decide (j.cps.toList<i.cps.toList))) H):=by
 intro pins s σ H x y v u Q I rx ry h
 obtain ⟨i,j,rfl,rfl,q⟩:=h;obtain ⟨t,rfl⟩:=rx;obtain ⟨t',rfl⟩:=ry;exact PySem.P.le_str (a4w I q rfl)
def a2f{α:Type}(xs:List α)(lo hi:Option Int):List α:=(xs.drop (HT.sIx xs.length 0 lo)).take (HT.sIx xs.length xs.length hi - HT.sIx xs.length 0 lo)
def ako:V->Option Int->Option Int->Hp->VK->Prop:=λx lo hi H Q=>∃ z,x = .str z/\z.length<=sizeLine/\Q (.str ⟨(a2f z.cps.toList lo hi).toArray⟩) H
theorem ah5(lo hi:Option Int)(n:Nat):Builtin.Str.strSliceIndices lo hi 1 n=(List.range (HT.sIx n n hi - HT.sIx n 0 lo)).map λk=>HT.sIx n 0 lo+k:=by
 have e1:Builtin.Str.strSliceIndices lo hi 1 n=sliceRange ((HT.sIx n 0 lo:Nat):Int) ((HT.sIx n n hi:Nat):Int) 1:=by
  unfold Builtin.Str.strSliceIndices;dsimp only
  congr 1
  ·cases lo with
   | none=>simp [HT.sIx]
   | some i=>simp only [HT.sIx,show (1:Int) > 0 by decide,if_true];split<;>omega
  ·cases hi with
   | none=>simp [HT.sIx]
   | some i=>simp only [HT.sIx,show (1:Int) > 0 by decide,if_true];split<;>omega
 rw [e1];exact sliceRange_one _ _
theorem ah6{α:Type}(xs:List α)(a:Nat):∀ k,a+k<=xs.length->((List.range k).map λj=>a+j).filterMap (xs[·]?)=(xs.drop a).take k
 | 0,_=>by simp
 | k+1,h=>by
  rw [List.range_succ,List.map_append,List.filterMap_append,ah6 xs a k (by omega)]
  have hk:a+k<xs.length:=by omega
  rw [List.take_succ]
  congr 1
  simp [List.getElem?_drop,hk]
theorem ah7:SlR X ako:=by
 intro pins s σ H x v vl vu lo hi sl Q I rx hs pl pu h
 obtain ⟨z,rfl,hz,q⟩:=h;obtain ⟨t,rfl⟩:=rx;refine ⟨"str",_,PyProof.Rows.slot_str_getitem.lookup,typeIs_str s z t,?_⟩;have hl:z.cps.toList.length=z.length:=by simp [Str.length]
 have fin:∀ (l u:Option (Int × Tok)),vl=partValue l->vu=partValue u->l.map (·.1)=lo->u.map (·.1)=hi->wpAny (model X.prog X.w) X.A (getItem (.str z t) (.ref sl)) (EP X pins σ Q) X.xe s:=by
  intro l u e1 e2 e3 e4
  subst e1 e2;refine wpAny_getItem_str_slice (l:=l) (u:=u) (st:=none) hs rfl ?_;have hp:slicePicked z l u none=(List.range (HT.sIx z.length z.length hi - HT.sIx z.length 0 lo)).map λk=>HT.sIx z.length 0 lo+k:=by
   unfold slicePicked;rw [e3,e4];exact ah5 lo hi z.length
  have hb1:HT.sIx z.length z.length hi<=z.length:=HT.a7r _ _ (Nat.le_refl _) _;have hb2:HT.sIx z.length 0 lo<=z.length:=HT.a7r _ _ (Nat.zero_le _) _;unfold sliceMade
  split
  ·rename_i c;simp only [Bool.and_eq_true,beq_iff_eq] at c;obtain ⟨_,c⟩:=c;rw [hp,List.length_map,List.length_range] at c;have e:(⟨(a2f z.cps.toList lo hi).toArray⟩:Str)=z:=by
    unfold a2f;rw [hl];have z1:HT.sIx z.length 0 lo=0:=by omega
    have z2:HT.sIx z.length z.length hi=z.length:=by omega
    rw [z1,z2,List.drop_zero,Nat.sub_zero,List.take_of_length_le (by omega)]
   rw [e] at q;exact ⟨.str z,H,I,⟨_,rfl⟩,q⟩
  ·have e:(⟨(a2f z.cps.toList lo hi).toArray⟩:Str)=⟨((slicePicked z l u none).filterMap (z.cps[·]?)).toArray⟩:=by
    rw [hp];unfold a2f;rw [hl]
    by_cases hc:HT.sIx z.length 0 lo<=HT.sIx z.length z.length hi
    ·rw [<-ah6 z.cps.toList _ _ (by omega)]
     simp only [Array.getElem?_toList]
    ·rw [show HT.sIx z.length z.length hi - HT.sIx z.length 0 lo=0 by omega]
     simp
   rw [e] at q;refine ⟨?_, .str _,H,I.tok _,⟨_,rfl⟩,q⟩;rw [<-e];show (a2f z.cps.toList lo hi).toArray.size<=sizeLine;rw [List.size_toArray];unfold a2f;rw [List.length_take,List.length_drop,hl];omega
 cases pl with
 | none=>cases pu with
  | none=>exact fin none none rfl rfl rfl rfl
  | int j t'=>exact fin none (some (j,t')) rfl rfl rfl rfl
 | int i t'=>cases pu with
  | none=>exact fin (some (i,t')) none rfl rfl rfl rfl
  | int j t''=>exact fin (some (i,t')) (some (j,t'')) rfl rfl rfl rfl
theorem jk:CallR X (.builtin "isinstance") (λxs H Q=>∃ x T t b,xs=[x, .ty T]/\TyOf X.K H x t/\PySem.W.kitOne X.K t (.type T)=some b/\Q (.bl b) H):=by
 intro pins s σ H xs us Q I r h
 obtain ⟨x,T,t,b,rfl,ty,e,q⟩:=h;obtain ⟨u,w',rfl,rx,rt⟩:=vals2 r;cases rt
 exact a7n I rx ty e λtk=>⟨.bl b,H,I.tok tk,rfl,q⟩
def zx(x:Str):List V:=x.cps.toList.map λc=>V.str ⟨#[c]⟩
theorem a6t{x:Str}{acc:Array Value}(h:ItemsOf (SignAt x) acc x.cps.size):Vals (zx x) acc.toList:=by
 obtain ⟨hs,ha⟩:=h;have key:∀ (cs:List Nat) (us:List Value),us.length=cs.length->(∀ (j:Nat) (v:Value),us[j]? = some v->∃ c u,cs[j]? = some c/\v = .str ⟨#[c]⟩ u)->Vals (cs.map λc=>V.str ⟨#[c]⟩) us:=by
  intro cs
  induction cs with
  | nil=>intro us hl _;cases us with | nil=>exact .nil | cons _ _=>simp at hl
  | cons c cs ih =>
   intro us hl hp
   cases us with
   | nil=>simp at hl
   | cons u us =>
    refine .cons ?_ (ih us (by simpa using hl) λj v e=>hp (j+1) v (by simpa using e))
    obtain ⟨c',t,e1,e2⟩:=hp 0 u rfl;simp at e1;subst e1;exact ⟨t,e2⟩
 refine key _ _ (by simp [hs]) λj v e=>?_
 obtain ⟨c,u,e1,e2⟩:=ha j v (by simpa using e)
 exact ⟨c,u,by simpa using e1,e2⟩
theorem uz(hc:X.calm=true):CallR X (.type "list") (λxs H Q=>∃ z,xs=[.str z]/\z.length<=sizeLine/\∀ l,H l=none->Q (.ref l) (upd H l (.lst (zx z)))):=by
 intro pins s σ H xs us Q I r h
 obtain ⟨z,rfl,hz,q⟩:=h;obtain ⟨u,rfl,t,rfl⟩:=vals1 r;refine PySem.call_list_str (I.ok.hd hc) z t (λh' tk acc c kp e hi=>?_) (by simpa [Str.length] using hz)
 refine ⟨.ref s.heap.objs.size,_,I.laid (t':=tk) kp (Nat.le_refl _) (show ObjOk X.prog X.w _ h' _ (.lst (zx z)) from ⟨by simpa [zx,Str.length] using hz,acc.toList,c,a6t hi,by simpa using e⟩),rfl,q _ (I.hok.fresh (Nat.le_refl _))⟩
end
def Its(x:Str):It:=⟨λi _=>i<x.cps.size,λi H v H'=>H'=H/\∃ c,x.cps.toList[i]? = some c/\v = .str ⟨#[c]⟩,λi _=>i=x.cps.size⟩
theorem a5a{P:Program}{w:World}{K:PySem.W.Frag}{tg:Expr}(it:Addr)(x:Str)(t:Tok)(ty:String)
  (hty:["enumerate", "zip", "dict_itemiterator", "dict_reverseitemiterator", "odict_iterator", "itertools.zip_longest", "itertools.pairwise"].contains ty=false)
  (W:∀ A':Around,A'.handled=none->Walks P w A' it [it] [it] x.cps.size (SignAt x) (λi h=>h.IsStrIter it ty x t i))
  (slf:∀ (A:Around) (i:Nat) (s:Shared) (Q:Value->Shared->Prop) (E:Value->Shared->Prop),s.heap.IsStrIter it ty x t i->Q (.ref it) s->wpAny (model P w) A (pyIter (.ref it)) Q E s) :
  Turn P w K tg (Its x) [it] it (λi h=>h.IsStrIter it ty x t i) where
 mem:=by simp
 obj:=λi h st b hb=>by
  have e:b=it:=by simpa using hb
  subst e;obtain ⟨o,e,c,d⟩:=st;exact ⟨o,e,λv z=>by rw [d] at z;cases z⟩
 keep:=λi h h' st k=>by
  obtain ⟨o,e,c,d⟩:=st;exact ⟨o,k it (by simp) o e,c,d⟩
 item:=by
  intro X hP hw hK hc i pins s σ H E I hf st hg
  subst hP hw hK;obtain ⟨f0,f1,f2,f3,f4,f5⟩:=hf it (by simp)
  refine (W X.A (I.ok.hd hc)).item i s _ _ hg st λv h' tk hv st' kk=>?_;obtain ⟨c,u,hx,rfl⟩:=hv;have I1:Inv X pins σ H { s with heap:=h',toks:=tk }:=I.turned (λb o hb e=>kk b o (by simpa using hb) e) f0 f1 f3 f4 f5
  obtain ⟨o,e,oc,d⟩:=id st';exact ⟨_,rfl,aa3 (s:={ s with heap:=h',toks:=tk }) e oc d hty ⟨.str ⟨#[c]⟩,H,I1,⟨_,rfl⟩,⟨rfl,c,by simpa using hx,rfl⟩,st',λb hb=>(hf b hb).1⟩⟩
 done:=by
  intro X hP hw hK hc i pins s σ H E I hf st hg
  subst hP hw hK;obtain ⟨f0,f1,f2,f3,f4,f5⟩:=hf it (by simp)
  have hg':i=x.cps.size:=hg;subst hg';exact (W X.A (I.ok.hd hc)).done s _ _ st λh' tk eb=>⟨rfl,I.turned (λb o hb e=>eb b o (by simpa using hb) e) f0 f1 f3 f4 f5⟩
 self:=slf
section
variable{X:Cx}{tg:Expr}
def an2(tl:TE):TI:=λσ H R=>tl σ H λx H1=>∃ z,x = .str z/\R (Its z) H1
theorem ac2{l:Expr}{tl:TE}(hl:PE X l tl):PI X tg l (an2 tl):=by
 intro pins s σ H R I h
 refine thn (hl pins s σ H _ I h) λv s1 ⟨x,H1,I1,r1,q1⟩=>?_;obtain ⟨z,e,q⟩:=q1;subst e;obtain ⟨t,rfl⟩:=r1;have fp:∀ b∈[s1.heap.objs.size],a6l X pins H1 b:=λb hb=>by
  have e:b=s1.heap.objs.size:=by simpa using hb
  subst e;exact I1.fpOk (Nat.le_refl _) (I1.hok.fresh (Nat.le_refl _))
 cases ha:z.cps.all (· < 128)
 ·exact wpAny_pyIter_wide ha ⟨s1.heap.objs.size,[s1.heap.objs.size],_,_,H1,rfl,I1.kept (t':=s1.toks) λb o e=>Heap.get?_push_of_some _ e,
   a5a _ z t "str_iterator" (by decide) (λA' hA=>Walks.strWide hA _ z t) (λ_ _ _ _ _ st h=>wpAny_pyIter_striter_wide st h),⟨_,Heap.get?_push_size _ rfl,rfl,rfl⟩,fp,q⟩
 ·exact wpAny_pyIter_ascii ha ⟨s1.heap.objs.size,[s1.heap.objs.size],_,_,H1,rfl,I1.kept (t':=s1.toks) λb o e=>Heap.get?_push_of_some _ e,
   a5a _ z t "str_ascii_iterator" (by decide) (λA' hA=>Walks.strAscii hA _ z t) (λ_ _ _ _ _ st h=>wpAny_pyIter_striter_ascii st h),⟨_,Heap.get?_push_size _ rfl,rfl,rfl⟩,fp,q⟩
end
def cxC(X:Cx)(N:List Str)(scope:Scope)(cl:List (Str × Addr))(C:Addr)(fp:List Addr)(s:Shared)(H:Hp):Cx where
 prog:=X.prog
 w:=X.w
 K:=X.K
 mg:=X.mg
 base:=X.base
 A:=X.A
 N:=N
 s₀:=s
 H₀:=H
 env:=compEnvC scope cl C X.env
 outer:=X.stack
 stack:=X.stack
 ex:=fp
 fn:=λ_=>false
 calm:=X.calm
 pn:=[]
 xe:=λ_ _=>False
structure CSc (X:Cx) (scope:Scope) (cl:List (Str × Addr)) (ts fr:List Str) (ix:List Nat):Prop where
 clos:closureFor scope X.env=pure cl
 kind:scope.kind = .function
 nocell:∀ y∈scope.names,y.2≠.cell
 names:∀ y∈scope.names,y.2 = .local->scope.names.lookup y.1=some .local
 sub:∀ y c,cl.lookup y=some c->X.env.cells.lookup y=some c
 has:∀ y,((relabel scope X.env).names.lookup y=some .cell\/(relabel scope X.env).names.lookup y=some .free)->∃ c,cl.lookup y=some c
 nofn:∀ y∈ts,(relabel scope X.env).names.lookup y=some .local
 len:ix.length=fr.length
 vis:∀ (j:Nat) (y:Str),fr[j]? = some y->∃ i:Nat,ix[j]? = some i/\X.N[i]? = some y/\(X.env.kindOf y=some .cell\/X.env.kindOf y=some .free)/\((relabel scope X.env).names.lookup y=some .cell\/(relabel scope X.env).names.lookup y=some .free)
def Ext(a b:St):Prop:=b.length=a.length/\∀ (i:Nat) v,a[i]? = some (some v)->b[i]? = some (some v)
def pq(nt:Nat)(ix:List Nat)(σ:St):St:=List.replicate nt none++ix.map λi=>(σ[i]?).join
def ah8(J:It)(s0:St)(g:TG)(te:TE)(Q:VK)(H1:Hp):Prop:=∃ W:Nat->Nat->List V->Hp->Prop,(∃ m,W 0 m [] H1)/\∀ i m ys H,W i m ys H->
 (J.stop i H/\∀ p,H p=none->Q (.ref p) (upd H p (.lst ys))) \/
 (J.go i H/\ys.length<sizeLine/\∀ x H',J.yld i H x H'->g x s0 H' λσ2 H2=>Ext s0 σ2/\te σ2 H2 λy H3=>∃ m',m'<m/\W (i+1) m' (ys++[y]) H3)
def aai(wi:TI)(s0:St->St)(g:TG)(te:TE):TE:=λσ H Q=>wi σ H λJ H1=>ah8 J (s0 σ) g te Q H1
theorem a7w{prog:Program}{w:World}{A:Around}{R:Result->Shared->Prop}{s:Shared}{elt target iter:Expr}{scope:Scope}{pos:Pos}{it acc:Value}{env:Env}(J:Nat->Shared->Prop)
  (step:∀ m z,J m z->wpAny (model prog w) A (pyNext it) (λgot z1=>match got with
   | none=>R (.ok .next) z1
   | some v=>wpAny (model prog w) A (letOwnedTupleGo target it v) (λ_ z2=>wpAny (model prog w) A (assign target env v) (λ_ z3=>wpAny (model prog w) A (eval elt env) (λx z4 =>
     wpAny (model prog w) A (call (.builtin "list.append") [acc,x]) (λ_ z5=>∃ m',m'<m/\J m' z5) (λ_ _=>False) z4)
     (λ_ _=>False) z3) (λ_ _=>False) z2) (λ_ _=>False) z1) (λ_ _=>False) z)
  (m:Nat) (j0:J m s):codeAny (model prog w) A (.compLoop (.ListComp elt [⟨target,iter,[],0⟩] scope pos) 0 it acc env) R s:=by
 refine codeAny_loop rfl J (λm z hj=>(wpAny_noted ?_:wpAny _ _ ((compTurn (.ListComp elt [⟨target,iter,[],0⟩] scope pos) 0 it acc env).onRaise _) _ _ z)) m j0;rw [compTurn_list1];refine wpAny_bind (wpAny_standAt (wpAny_bind (wpAny_mono (step m z hj) (λgot z1 h1=>?_) λ_ _ no=>no.elim)))
 match got,h1 with
 | none,h1=>exact wpAny_pure h1
 | some v,h1 =>
  refine wpAny_bind (wpAny_mono h1 (λ_ z2 h2=>wpAny_bind (wpAny_mono h2 (λ_ z3 h3=>?_) λ_ _ no=>no.elim)) λ_ _ no=>no.elim);refine wpAny_bind (wpAny_bind (wpAny_mono h3 (λx z4 h4=>?_) λ_ _ no=>no.elim));exact wpAny_bind (wpAny_mono h4 (λ_ z5 h5=>wpAny_pure (wpAny_pure ⟨rfl,h5⟩)) λ_ _ no=>no.elim)
section
variable{X:Cx}
theorem a7x{pins:List (Addr × Obj)}{σ:St}{H:Hp}{s:Shared}{scope:Scope}{cl:List (Str × Addr)}{ts fr:List Str}{ix:List Nat}{C:Addr}{fp:List Addr}(S:CSc X scope cl ts fr ix)(I:Inv X pins σ H s)
  (hf:∀ b∈fp,a6l X pins H b) (hb:∀ b∈fp,b<s.heap.objs.size) (hC:s.heap.objs.size<=C):(cxC X (ts++fr) scope cl C fp s H).Ok where
 mod:=I.ok.mod
 kind:=S.kind
 glob:=I.ok.glob
 blt:=I.ok.blt
 above:=hC
 inj:=λx y c h1 h2=>I.ok.inj x y c (S.sub x c h1) (S.sub y c h2)
 has:=S.has
 cab:=λ_ _ z=>nomatch z
 hd:=I.ok.hd
 frames:=I.ok.frames
 stk:=.inl rfl
 exf:=λb hb'=>⟨Nat.ne_of_lt (Nat.lt_of_lt_of_le (hb b hb') hC),λx c e=>(hf b hb').2.2.2.2.1 x c (S.sub x c e)⟩
 bs:=λb o e=>I.bs b o e
 bsz:=Nat.le_trans I.ok.bsz I.sz
 noex:=λb o e hb'=>by
  rcases (hf b hb').2.2.2.1 with z | z
  ·exact I.ok.noex b o e z
  ·exact absurd (Nat.lt_of_lt_of_le (Heap.lt_size e) (Nat.le_trans I.ok.bsz z)) (Nat.lt_irrefl _)
 exfs:=λb hb' z=>by
  rcases List.mem_cons.mp (I.stkSub b z) with e | e
  ·exact (hf b hb').2.1 e
  ·exact (hf b hb').2.2.1 e
 funs:=I.stack
 frf:=λb hb'=>I.stkFree b hb'
theorem a6u{nt:Nat}{ix:List Nat}{σ:St}:(pq nt ix σ).length=nt+ix.length:=by
 unfold pq;rw [List.length_append,List.length_replicate,List.length_map]
theorem adu{pins:List (Addr × Obj)}{σ:St}{H:Hp}{s s4:Shared}{scope:Scope}{cl:List (Str × Addr)}{ts fr:List Str}{ix:List Nat}{C:Addr}{fp:List Addr}{m:Str->Option Value}(S:CSc X scope cl ts fr ix)(I:Inv X pins σ H s)
  (hf:∀ b∈fp,a6l X pins H b) (hb:∀ b∈fp,b<s.heap.objs.size) (hC:s.heap.objs.size<=C)
  (k:∀ b o,s.heap.get? b=some o->s4.heap.get? b=some o) (hn:s4.heap.Ns C m) (ho:s4.os=s.os) (hg:s4.gens=s.gens) :
  Inv (cxC X (ts++fr) scope cl C fp s H) [] (pq ts.length ix σ) H s4 where
 ok:=a7x S I hf hb hC
 os:=ho
 bare:=by rw [hg];exact I.bare
 base:=Un.kept k
 loc:=by
  refine ⟨m,hn,λi x v e1 e2 e3=>?_⟩;have e1:(ts++fr)[i]? = some x:=e1
  by_cases hi:i<ts.length
  ·unfold pq at e2;rw [List.getElem?_append_left (by simpa using hi),List.getElem?_replicate,if_pos hi] at e2
   cases e2
  ·rw [List.getElem?_append_right (by omega)] at e1
   unfold pq at e2;rw [List.getElem?_append_right (by simpa using hi),List.length_replicate,List.getElem?_map] at e2
   obtain ⟨j,h1,h2,h3,h4⟩:=S.vis _ x e1;rw [h1] at e2;have e2':(σ[j]?).join=some v:=Option.some.inj e2;have e5:σ[j]? = some (some v):=by
    cases q:σ[j]? with
    | none=>rw [q] at e2';cases e2'
    | some o=>rw [q] at e2';simp at e2';rw [e2']
   obtain ⟨m0,_,hl⟩:=I.loc;have vis:Vis X.env.scope x:=h3.elim (λz=>.inr (.inl z)) λz=>.inr (.inr z);obtain ⟨u,ru,l⟩:=hl j x v h2 e5 vis;refine ⟨u,ru,?_⟩
   rcases l with ⟨z,_⟩ | ⟨_,c,hc,hcell⟩
   ·rcases h3 with h3 | h3<;>rw [h3] at z<;>cases z
   ·obtain ⟨c',hc'⟩:=S.has x h4;have e6:c'=c:=Option.some.inj ((S.sub x c' hc').symm.trans hc);subst e6;obtain ⟨o,ho,hd⟩:=hcell;exact .inr ⟨h4,c',hc',o,k _ _ ho,hd⟩
 cell:=λx c e=>by
  obtain ⟨v,o,ho,hd⟩:=I.cell x c (S.sub x c e);exact ⟨v,o,k _ _ ho,hd⟩
 free:=I.hok.fresh hC
 freeC:=λx c e=>I.freeC x c (S.sub x c e)
 pin:=λp hp=>absurd (show p∈([]:List (Addr × Obj)) from hp) (by simp)
 hok:=I.hok.kept k
 len:=by
  rw [a6u];show _=(ts++fr).length;rw [List.length_append,S.len]
theorem Inv.unpinned'{pins:List (Addr × Obj)}{σ:St}{H:Hp}{s:Shared}(I:Inv X pins σ H s):Inv X [] σ H s:=I.pins_of λ_ hp=>nomatch hp
theorem comp_back{pins:List (Addr × Obj)}{σ σ':St}{H H':Hp}{s s':Shared}{scope:Scope}{cl:List (Str × Addr)}{N:List Str}{C acc:Addr}{fp:List Addr}{h':Heap}{ys:List V}{its:List Value}{n:Nat}(I:Inv X pins σ H s)
  (hf:∀ b∈fp,a6l X pins H b) (hC:s.heap.objs.size<=C) (hacc:s.heap.objs.size<=acc) (hCa:C≠acc)
  (J:Inv (cxC X N scope cl C fp s H) [] σ' H' s') (hn:H' acc=none) (ha:s'.heap.get? acc=some { cls:=.type "list",data:=.seq its.toArray n }) (rv:Vals ys its) (hz:ys.length<=sizeLine) (sb:Heap.SameBut C s'.heap h') :
  Inv X pins σ (upd H' acc (.lst ys)) { s' with heap:=h' }:=by
 have k:∀ b o,b≠C->s'.heap.get? b=some o->h'.get? b=some o:=λb o hb e=>sb.extBut b o hb e;have old:∀ b o,s.heap.get? b=some o->b≠C/\b≠acc:=λb o e=>⟨Nat.ne_of_lt (Nat.lt_of_lt_of_le (Heap.lt_size e) hC),Nat.ne_of_lt (Nat.lt_of_lt_of_le (Heap.lt_size e) hacc)⟩;have u0:Un (frs X.stack) fp H H' s.heap s'.heap:=J.base;have fC:H' C=none:=J.free;have u:Un (frs X.stack) fp H (upd H' acc (.lst ys)) s.heap h':=by
  refine ⟨λb o e n' hb hx=>k b o (old b o e).1 (u0.keep b o e n' hb hx),λb o e n' hb hx=>?_,λb o e n' hx=>?_,λb o e hx=>?_,λb xs e=>?_,λb o v e=>?_,λb ps e=>?_⟩
  ·obtain ⟨sl,e1⟩:=u0.slot b o e n' hb hx;exact ⟨sl,k b _ (old b o e).1 e1⟩
  ·rw [gh (old b o e).2];exact u0.free b o e n' hx
  ·obtain ⟨o',e1⟩:=u0.there b o e hx;exact ⟨o',k b _ (old b o e).1 e1⟩
  ·rw [gh (dz (u0.tups b xs e) hn)];exact u0.tups b xs e
  ·rw [gh (dz (u0.frzs b o v e) hn)];exact u0.frzs b o v e
  ·obtain ⟨more,e1⟩:=u0.tbls b ps e;exact ⟨more,by rw [gh (dz e1 hn)];exact e1⟩
 have hok:HOk X.prog X.w (upd H' acc (.lst ys)) h':=λb o e=>by
  by_cases hb:b=acc
  ·subst hb;rw [jh] at e;cases e
   exact ⟨hz,its,n,rv,k _ _ (Ne.symm hCa) ha⟩
  ·rw [gh hb] at e;refine (J.hok b o e).stay (λc v hc q=>k c v ?_ q) (λc q=>by rw [gh (dz q hn)];exact q) λc xs q=>by rw [gh (dz q hn)];exact q
   rcases hc with z | z
   ·rw [z];exact dz e fC
   ·exact dz z fC
 have J':=I.call (g':=s'.gens) (t':=s'.toks) (d':=s'.drawn) (ch:=fp) u hok J.bare λb hb=>⟨(hf b hb).2.2.2.1,(hf b hb).2.1,(hf b hb).2.2.2.2.1,(hf b hb).2.2.2.2.2⟩;have eo:s'.os=s.os:=J.os;obtain ⟨hp,g,d,t,o⟩:=s';have eo':o=s.os:=eo;subst eo';exact J'
def a3t(X:Cx)(pins:List (Addr × Obj))(σ:St)(use:Option (Value->Sem Unit))(Q:VK)(Qf:Value->Shared->Prop):Prop :=
 ∀ (acc C:Addr) (s6:Shared) (H6:Hp) (m6:Str->Option Value),s6.heap.Ns C m6->a6l X pins H6 C->(∀ h',Heap.SameBut C s6.heap h'->Inv X pins σ H6 { s6 with heap:=h' })->Q (.ref acc) H6->
  compPost (model X.prog X.w) X.A X.xe use Qf (.ref acc) C (.ok .next) s6
theorem aaj{pins:List (Addr × Obj)}{σ:St}{Q:VK}:a3t X pins σ none Q (EP X pins σ Q):=λacc C s6 H6 m6 hn _ k q=>⟨m6,hn,λh' sb=>⟨.ref acc,H6,k h' sb,rfl,q⟩⟩
theorem aak{pins:List (Addr × Obj)}{σ:St}{D:Ends}{i:Nat}{x:Str}{pos':Pos}(hN:X.N.Nodup)(hi:X.N[i]? = some x)(hx:Loc X.env.scope x)(hf:X.fn x=true\/X.env.scope.names.lookup x=some .local) :
  a3t X pins σ (some (assign (.Name x pos') X.env)) (λv H1=>a08 i v σ H1 D.nx) (λ_ s'=>SP X pins D .next s'):=by
 intro acc C s6 H6 m6 hn fp k q
 obtain ⟨f1,f2,f3,f4,f5,f6⟩:=fp;have I6:Inv X pins σ H6 s6:=k s6.heap (Heap.SameBut.refl _ _);refine wpAny_assign_Name (a2g (v:=.ref acc) I6 hN hi hx rfl (λs' I' ⟨a,sb,ha⟩=>⟨m6,hn.sameBut sb ?_,λh' sb'=>⟨_,H6,I'.turned (t':=s'.toks) (it:=C) (λb o hb e=>sb'.extBut b o hb e) f1 f2 f4 f5 f6,q⟩⟩) hf)
 rcases ha with ha | ha
 ·rw [ha];exact f2
 ·exact λz=>f5 x a ha z.symm
theorem a2r{elt tg iter:Expr}{scope:Scope}{pos ppos:Pos}{cl:List (Str × Addr)}{ts fr:List Str}{ix:List Nat}{wi:TI}{g:TG}{te:TE}(hc:X.calm=true)(S:CSc X scope cl ts fr ix)(hi:PI X tg iter wi)
  (hg:∀ C fp s H,PG (cxC X (ts++fr) scope cl C fp s H) tg g) (he:∀ C fp s H,PE (cxC X (ts++fr) scope cl C fp s H) elt te) (hs:∀ x,foldedSetIterable iter X.env x=pure x)
  (use:Option (Value->Sem Unit)) {pins:List (Addr × Obj)} {s:Shared} {σ:St} {H:Hp} {Q:VK} {Qf:Value->Shared->Prop} (I:Inv X pins σ H s) (h:aai wi (pq ts.length ix) g te σ H Q) (fin:a3t X pins σ use Q Qf) :
  wpAny (model X.prog X.w) X.A (comprehension (.ListComp elt [⟨tg,iter,[],0⟩] scope pos) scope X.env ppos (newList []) false (eval iter X.env) use) Qf X.xe s:=by
 refine wpAny_comprehension_free (use:=use) rfl hs S.clos S.kind S.names (thn (hi pins s σ H _ I h) λv s1 h1=>thn h1 λitv s2 h2=>?_);obtain ⟨it,fp,tn,J,H2,e,I2,T,st2,f2,W,⟨m0,w0⟩,turn⟩:=h2;subst e;have hob:∀ b∈fp,b<s2.heap.objs.size:=λb hb=>let ⟨o,e,_⟩:=T.obj _ _ st2 b hb;Heap.lt_size e;refine wpAny_newObj_type (wpAny_newFunctionEnv S.nocell (by intro y hy;simp at hy) (λh4 hns4 hsb4=>?_) S.kind)
 dsimp only at hns4 hsb4 ⊢
 generalize hH2:s2.heap.push { cls:=.type "list",dict:=none,data:=.seq ([]:List Value).toArray }=G at hns4 hsb4 ⊢
 have hCs:G.objs.size=s2.heap.objs.size+1:=by rw [<-hH2,Heap.size_push]
 have hCle:s2.heap.objs.size<=G.objs.size:=by omega
 have hne:G.objs.size≠s2.heap.objs.size:=by omega
 have old:∀ b o,s2.heap.get? b=some o->h4.get? b=some o:=λb o e=>by
  have hlt:=Heap.lt_size e;exact hsb4.extBut b o (Nat.ne_of_lt (Nat.lt_of_lt_of_le hlt hCle)) (Heap.get?_push_of_some _ (hH2 ▸ Heap.get?_push_of_some _ e))
 have hacc:h4.get? s2.heap.objs.size=some { cls:=.type "list",data:=.seq ([]:List Value).toArray 0 } :=
  hsb4.extBut _ _ (Ne.symm hne) (Heap.get?_push_of_some _ (hH2 ▸ Heap.get?_push_size _ rfl))
 have K0:Inv (cxC X (ts++fr) scope cl G.objs.size fp s2 H2) [] (pq ts.length ix σ) H2 { s2 with heap:=h4,toks:=s2.toks+([]:List (Str × Value)).length } :=
  adu S I2 f2 hob hCle old hns4 rfl rfl
 have st4:tn 0 h4:=T.keep _ _ _ st2 λb _ o e=>old b o e;have accF:s2.heap.objs.size ∉ fp:=λz=>Nat.lt_irrefl _ (hob _ z);have stat:∀ {H':Hp},(∀ b∈fp,H' b=none)->∀ b∈fp,a6l (cxC X (ts++fr) scope cl G.objs.size fp s2 H2) [] H' b:=λhn b hb =>
  ⟨hn b hb,λz=>by have h1:=hob b hb;have z':b=G.objs.size:=z;exact Nat.ne_of_lt (Nat.lt_of_lt_of_le h1 hCle) z',λz=>(a7x S I2 f2 hob hCle).exfs b hb z, .inl hb,λx c e=>(f2 b hb).2.2.2.2.1 x c (S.sub x c e),λp hp=>absurd (show p∈([]:List (Addr × Obj)) from hp) (by simp)⟩
 have statA:∀ {H':Hp},H' s2.heap.objs.size=none->a6l (cxC X (ts++fr) scope cl G.objs.size fp s2 H2) [] H' s2.heap.objs.size:=λhn =>
  ⟨hn,λz=>hne (show G.objs.size=s2.heap.objs.size from z.symm),λz=>by
   obtain ⟨_,o,ho,_⟩:=(a7x S I2 f2 hob hCle).funs.mem z;exact Nat.lt_irrefl _ (Heap.lt_size ho), .inr (Nat.le_refl _),λx c e z=>by
   obtain ⟨v,o,ho,_⟩:=I2.cell x c (S.sub x c e);rw [z] at ho;exact Nat.lt_irrefl _ (Heap.lt_size ho),λp hp=>absurd (show p∈([]:List (Addr × Obj)) from hp) (by simp)⟩
 have loop:∀ s4:Shared,s4={ s2 with heap:=h4,toks:=s2.toks+([]:List (Str × Value)).length }->
   codeAny (model X.prog X.w) X.A (.compLoop (.ListComp elt [⟨tg,iter,[],0⟩] scope pos) 0 (.ref it) (.ref s2.heap.objs.size) (compEnvC scope cl G.objs.size X.env))
    (compPost (model X.prog X.w) X.A X.xe use Qf (.ref s2.heap.objs.size) G.objs.size) s4:=by
  rintro s4 rfl
  refine a7w (λn s'=>∃ i σ' H' ys its k,Inv (cxC X (ts++fr) scope cl G.objs.size fp s2 H2) [] σ' H' s'/\Ext (pq ts.length ix σ) σ'/\tn i s'.heap/\(∀ b∈fp,H' b=none)/\H' s2.heap.objs.size=none /\
   s'.heap.get? s2.heap.objs.size=some { cls:=.type "list",data:=.seq its.toArray k }/\Vals ys its/\ys.length<=sizeLine/\W i n ys H') ?_ m0
   ⟨0,_,H2,[],[],0,K0,⟨rfl,λ_ _ z=>z⟩,st4,λb hb=>(f2 b hb).1,I2.hok.fresh (Nat.le_refl _),hacc, .nil,Nat.zero_le _,w0⟩
  rintro n s5 ⟨i,σ5,H5,ys,its,k5,I5,x5,st5,fr5,fa5,ac5,rv5,hz5,w5⟩
  have I5':Inv (cxC X (ts++fr) scope cl G.objs.size fp s2 H2) [] (pq ts.length ix σ) H5 s5:=I5.weak x5.1.symm x5.2
  rcases turn i n ys H5 w5 with ⟨stop,qn⟩ | ⟨go,hlt,step⟩
  ·refine thn (T.done (cxC X (ts++fr) scope cl G.objs.size fp s2 H2) rfl rfl rfl hc i [(s2.heap.objs.size,{ cls:=.type "list",data:=.seq its.toArray k5 })] s5 _ H5 _ (I5'.pins_of λp hp=>?_) (λb hb=>?_) st5 stop) λr s6 ⟨hr,I6⟩=>?_
   ·have e:p=(s2.heap.objs.size,{ cls:=.type "list",data:=.seq its.toArray k5 }):=by simpa using hp
    subst e;obtain ⟨a0,a1,a2,_⟩:=statA fa5;exact ⟨ac5,a0,a1,a2,λv z=>by cases z⟩
   ·obtain ⟨b0,b1,b2,b3,b4,b5⟩:=stat fr5 b hb;refine ⟨b0,b1,b2,b3,b4,λp hp=>?_⟩;have e:p=(s2.heap.objs.size,{ cls:=.type "list",data:=.seq its.toArray k5 }):=by
     have hp':p∈[(s2.heap.objs.size,_)]:=hp;simpa using hp'
    subst e;exact λz=>accF (by have z':s2.heap.objs.size=b:=z;rw [z'];exact hb)
   ·subst hr;have e6:=(I6.pin (s2.heap.objs.size,{ cls:=.type "list",data:=.seq its.toArray k5 }) (by show _∈[]++[_];simp)).1
    obtain ⟨m6,hn6,_⟩:=I6.loc;exact fin _ _ s6 _ m6 hn6 (I2.fpOk hCle (by rw [gh hne];exact I6.free)) (λh' sb=>comp_back I2 f2 hCle (Nat.le_refl _) hne I6.unpinned' fa5 e6 rv5 hz5 sb) (qn _ fa5)
  ·refine thn (T.item (cxC X (ts++fr) scope cl G.objs.size fp s2 H2) rfl rfl rfl hc i [(s2.heap.objs.size,{ cls:=.type "list",data:=.seq its.toArray k5 })] s5 _ H5 _ (I5'.pins_of λp hp=>?_) (λb hb=>?_) st5 go) λr s6 ⟨u,hr,h6⟩=>?_
   ·have e:p=(s2.heap.objs.size,{ cls:=.type "list",data:=.seq its.toArray k5 }):=by simpa using hp
    subst e;obtain ⟨a0,a1,a2,_⟩:=statA fa5;exact ⟨ac5,a0,a1,a2,λv z=>by cases z⟩
   ·obtain ⟨b0,b1,b2,b3,b4,b5⟩:=stat fr5 b hb;refine ⟨b0,b1,b2,b3,b4,λp hp=>?_⟩;have e:p=(s2.heap.objs.size,{ cls:=.type "list",data:=.seq its.toArray k5 }):=by
     have hp':p∈[(s2.heap.objs.size,_)]:=hp;simpa using hp'
    subst e;exact λz=>accF (by have z':s2.heap.objs.size=b:=z;rw [z'];exact hb)
   ·subst hr;refine thn h6 λ_ s7 ⟨x,H7,I7,r7,y7,st7,fr7⟩=>?_;have fa7:H7 s2.heap.objs.size=none:=(I7.pin (s2.heap.objs.size,{ cls:=.type "list",data:=.seq its.toArray k5 }) (by show _∈[]++[_];simp)).2.1
    have ac7:=(I7.pin (s2.heap.objs.size,{ cls:=.type "list",data:=.seq its.toArray k5 }) (by show _∈[]++[_];simp)).1
    have I7':Inv (cxC X (ts++fr) scope cl G.objs.size fp s2 H2) ([]++a2h (s2.heap.objs.size::fp) s7.heap) (pq ts.length ix σ) H7 s7:=by
     refine Inv.pinned I7.unpinned' (λb hb=>?_) λb hb=>?_
     ·rcases List.mem_cons.mp hb with e | e
      ·subst e;exact statA fa7
      ·exact stat fr7 b e
     ·rcases List.mem_cons.mp hb with e | e
      ·subst e;exact ⟨_,ac7,λv z=>by cases z⟩
      ·exact T.obj _ _ st7 b e
    refine thn (hg G.objs.size fp s2 H2 _ s7 _ H7 x u _ I7' r7 (step x H7 y7)) λ_ s8 ⟨σ8,H8,I8,x8,q8⟩=>?_;refine thn (he G.objs.size fp s2 H2 _ s8 _ H8 _ I8 q8) λyv s9 ⟨y,H9,I9,r9,m',hm',w9⟩=>?_;obtain ⟨ac9,fa9,_⟩:=I9.pin (s2.heap.objs.size,{ cls:=.type "list",data:=.seq its.toArray k5 }) (by show _∈[]++([]++_);simp;exact uf List.mem_cons_self ac7)
    have keep9:∀ b∈fp,∀ o,s7.heap.get? b=some o->s9.heap.get? b=some o/\H9 b=none:=λb hb o e=>by
     obtain ⟨z1,z2,_⟩:=I9.pin (b,o) (by show _∈[]++([]++_);simp;exact uf (List.mem_cons_of_mem _ hb) e)
     exact ⟨z1,z2⟩
    have hl:=rv5.length;refine call_meets F.slot_list_append ⟨_,ac9,rfl⟩ F.entry_list_append (F.args_list_append_2 _ _) (PySem.list_append s2.heap.objs.size its.toArray k5 yv (by rw [List.size_toArray];omega)) ⟨ac9,?_⟩
    have q:=PySem.IsL.update ac9 (λa=>a.push yv);have qo:∀ b o,b≠s2.heap.objs.size->s9.heap.get? b=some o->(s9.heap.update s2.heap.objs.size (Obj.mapSeq (λa=>a.push yv))).get? b=some o:=λb o hb e=>(Heap.get?_update_other s9.heap _ (Ne.symm hb)).trans e;have q':∃ k,(s9.heap.update s2.heap.objs.size (Obj.mapSeq (λa=>a.push yv))).get? s2.heap.objs.size=some { cls:=.type "list",data:=.seq (its++[yv]).toArray k }:=⟨_,by rw [q];simp;rfl⟩
    obtain ⟨k9,q9⟩:=q';obtain ⟨a0,a1,a2,a3,a4,a5⟩:=statA (show H9 s2.heap.objs.size=none from fa9)
    refine ⟨m',hm',i+1,σ8,H9,ys++[y],its++[yv],k9,(I9.unpinned').turned qo a0 a1 a3 a4 a5,x8,?_,?_,fa9,q9,rv5.append (.cons r9 .nil),?_,w9⟩
    ·refine T.keep _ _ _ st7 λb hb o e=>qo b o (λz=>accF (z ▸ hb)) (keep9 b hb o e).1
    ·intro b hb
     obtain ⟨o,e,_⟩:=T.obj _ _ st7 b hb;exact (keep9 b hb o e).2
    ·rw [List.length_append,List.length_singleton];omega
 exact codeAny_compStart_list (loop _ rfl) (T.self _ 0 _ _ _ st4 (loop _ rfl))
theorem aal{elt tg iter:Expr}{scope:Scope}{pos:Pos}{cl:List (Str × Addr)}{ts fr:List Str}{ix:List Nat}{wi:TI}{g:TG}{te:TE}(hc:X.calm=true)(S:CSc X scope cl ts fr ix)(hi:PI X tg iter wi)
  (hg:∀ C fp s H,PG (cxC X (ts++fr) scope cl C fp s H) tg g) (he:∀ C fp s H,PE (cxC X (ts++fr) scope cl C fp s H) elt te)
  (hs:∀ x,foldedSetIterable iter X.env x=pure x:=by intro _;rfl) :
  PE X (.ListComp elt [⟨tg,iter,[],0⟩] scope pos) (aai wi (pq ts.length ix) g te):=by
 intro pins s σ H Q I h
 rw [eval_ListComp];exact a2r hc S hi hg he hs none I h aaj
theorem aam{elt tg iter:Expr}{scope:Scope}{pos:Pos}{cl:List (Str × Addr)}{ts fr:List Str}{ix:List Nat}{wi:TI}{g:TG}{te:TE}{i:Nat}{x:Str}{pos' spos:Pos}(hN:X.N.Nodup)(hi':X.N[i]? = some x)(hx:Loc X.env.scope x)(hc:X.calm=true)(S:CSc X scope cl ts fr ix)(hi:PI X tg iter wi)
  (hg:∀ C fp s H,PG (cxC X (ts++fr) scope cl C fp s H) tg g) (he:∀ C fp s H,PE (cxC X (ts++fr) scope cl C fp s H) elt te)
  (hs:∀ x,foldedSetIterable iter X.env x=pure x:=by intro _;rfl) (hsw:swapsWith (.ListComp elt [⟨tg,iter,[],0⟩] scope pos) (some (.Name x pos')) spos.line X.env=pure true:=by rfl) (hf:X.fn x=true\/X.env.scope.names.lookup x=some .local:=by first | exact .inl rfl | exact .inr rfl | assumption) :
  PS X (.Assign [.Name x pos'] (.ListComp elt [⟨tg,iter,[],0⟩] scope pos) spos) (ak6 (aai wi (pq ts.length ix) g te) (a08 i)):=by
 intro pins s σ H D I h
 rw [exec_Assign_Name_used _ _ _ _ hsw];refine wpAny_bind (wpAny_standAt (wpAny_bind ?_));refine wpAny_bind (wpAny_mono (a2r hc S hi hg he hs (some (assign (.Name x pos') X.env)) I h (aak hN hi' hx hf)) (λ_ s' hq=>wpAny_pure (wpAny_pure hq)) λ_ _ e=>e)
end
end L2
namespace L2
open PySem PySem.Spec
theorem o6:bootBuiltins "len" = some (.builtin "len"):=PySem.boot_len
theorem gj:bootBuiltins "isinstance" = some (.builtin "isinstance"):=by first | exact PySem.boot_isinstance | exact PyProof.Rows.boot_isinstance
theorem ah9:bootBuiltins "abs" = some (.builtin "abs"):=by first | exact PySem.boot_abs | exact PyProof.Rows.boot_abs
theorem a7y:bootBuiltins "int" = some (.type "int"):=by first | exact PySem.boot_int | exact PyProof.Rows.boot_int
theorem a1c:bootBuiltins "list" = some (.type "list"):=by first | exact PySem.boot_list | exact PyProof.Rows.boot_list
theorem a5b:bootBuiltins "tuple" = some (.type "tuple"):=by first | exact PySem.boot_tuple | exact PyProof.Rows.boot_tuple
structure Dn (P:Program) (w:World) (K:PySem.W.Frag) (mg:Str->Option Value) (base:Heap) (k:Nat) (x:Str) (ps:List Str) (sp:Sp) (f:Addr) (fd:FuncData):Prop where
 ok:FnOk P w K mg base CX0 k f fd ps sp
 m:mg x=some (.ref f)
 kp:PySem.W.keepIn K (.ref f)=true
 b:Binds K fd ps []
theorem akp:sizeLine=16777216:=sizeLine_eq
theorem a3u{n:Nat}(h:n<=16777216):n<=sizeLine:=by rw [sizeLine_eq];exact h
theorem CSc.noFree{X:Cx}{scope:Scope}{ts:List Str}(kind:scope.kind = .function)(h:∀ y∈scope.names,y.2≠.cell/\y.2≠.free)(names:∀ y∈scope.names,y.2 = .local->scope.names.lookup y.1=some .local)
  (ht:∀ y∈ts,scope.names.lookup y=some .local):CSc X scope [] ts [] []:=by
 have e:(relabel scope X.env).names=scope.names:=by
  show scope.names.map _=_;refine map_eq_self λy hy=>?_;obtain ⟨n,k⟩:=y;have:(k == NameKind.free)=false:=by simpa using (h _ hy).2
  simp [this]
 refine ⟨closureFor_none λy hy=>(h y hy).2,kind,λy hy=>(h y hy).1,names,(λ_ _ z=>nomatch z),λy z=>?_,λy hy=>by rw [e];exact ht y hy,rfl,(λ_ _ z=>by simp at z)⟩
 rw [e] at z
 rcases z with z | z
 ·exact absurd rfl (h _ (PySem.mem_of_lookup z)).1
 ·exact absurd rfl (h _ (PySem.mem_of_lookup z)).2
theorem akq(x y:Str):(x++y).cps.toList=x.cps.toList++y.cps.toList:=by
 show (x.cps++y.cps).toList=_;simp
theorem a3v{α:Type}(xs:List α)(k:Nat):a2f xs none (some (k:Int))=xs.take k:=by
 unfold a2f;rw [HT.aaa,HT.adi,List.drop_zero,Nat.sub_zero]
 by_cases h:k<=xs.length
 ·rw [Nat.min_eq_left h]
 ·rw [Nat.min_eq_right (by omega),List.take_of_length_le (Nat.le_refl _),List.take_of_length_le (by omega)]
end L2
namespace L2
open PySem PySem.Spec PyProof.Rows
theorem CSc.of{X:Cx}{scope:Scope}{cl:List (Str × Addr)}{ts fr:List Str}{ix:List Nat}(clos:closureFor scope X.env=pure cl)(kind:scope.kind = .function)
  (nocell:(scope.names.all λp=>p.2 != .cell)=true) (names:(scope.names.all λp=>p.2 != .local || scope.names.lookup p.1 == some .local)=true) (sub:∀ p∈cl,X.env.cells.lookup p.1=some p.2)
  (has:((relabel scope X.env).names.all λp => !(p.2 == .cell || p.2 == .free) || (cl.lookup p.1).isSome)=true) (nofn:(ts.all λy=>(relabel scope X.env).names.lookup y == some .local)=true)
  (len:ix.length=fr.length) (vis:((fr.zip ix).all λp=>X.N[p.2]? == some p.1 && (X.env.kindOf p.1 == some .cell || X.env.kindOf p.1 == some .free) && ((relabel scope X.env).names.lookup p.1 == some .cell || (relabel scope X.env).names.lookup p.1 == some .free))=true) :
  CSc X scope cl ts fr ix:=by
 refine ⟨clos,kind,λy hy=>?_,λy hy e=>?_,λy c e=>sub _ (PySem.mem_of_lookup e),λy z=>?_,λy hy=>?_,len,λj y e=>?_⟩
 ·have:=List.all_eq_true.mp nocell y hy
  simpa using this
 ·have:=List.all_eq_true.mp names y hy
  rw [e] at this;simpa using this
 ·have key:∀ k,(relabel scope X.env).names.lookup y=some k->(k == .cell || k == .free)=true->∃ c,cl.lookup y=some c:=λk e hk=>by
   have:=List.all_eq_true.mp has _ (PySem.mem_of_lookup e)
   rw [hk] at this;exact Option.isSome_iff_exists.mp (by simpa using this)
  rcases z with z | z
  ·exact key _ z rfl
  ·exact key _ z rfl
 ·have:=List.all_eq_true.mp nofn y hy
  simpa using this
 ·obtain ⟨hj,_⟩:=List.getElem?_eq_some_iff.mp e;have hj2:j<ix.length:=by omega
  have hm:(y,ix[j])∈fr.zip ix:=by
   rw [List.mem_iff_getElem?];exact ⟨j,by rw [List.getElem?_zip_eq_some];exact ⟨e,List.getElem?_eq_getElem hj2⟩⟩
  have:=List.all_eq_true.mp vis _ hm
  simp only [Bool.and_eq_true,Bool.or_eq_true,beq_iff_eq] at this;exact ⟨ix[j],List.getElem?_eq_getElem hj2,this.1.1,this.1.2,this.2⟩
end L2
namespace HT
open PySem PySem.Spec PyProof.Rows
end HT
namespace L2
open PySem PySem.Spec PyProof.Rows
def tSM(r:V->List V->Hp->VK->Prop)(to:TE)(t:TA):TE:=λσ H Q=>to σ H λx H1=>(∃ z,x = .str z)/\t σ H1 λxs H2=>r x xs H2 Q
theorem akr{X:Cx}{o e:Expr}{es:List Expr}{to:TE}{t:TA}{name:Str}{apos cpos:Pos}{id:String}{r:V->List V->Hp->VK->Prop}(slot:Slot "str" name id)(hty:typeOf (.builtin id)=pure (.type "method_descriptor"))(hm:MtR X id r)(ho:PE X o to)(ha:PA X (e::es) t)
  (hbase:attributeBase o name X.env (eval o X.env)=eval o X.env:=by rfl)
  (hfew:((backTo cpos (starEach (e::es) X.env)).all (λx => !x.1) && (backToKw cpos (keywordEach [] X.env)).all (λx=>x.1.isSome)
   && decide ((e::es).length+([]:List Keyword).length+(if ([]:List Keyword).isEmpty then 0 else 1)<30))=true:=by rfl)
  (hline:(apos.endLine == cpos.line)=true:=by rfl) (hs:starEach (e::es) X.env=(false,eval e X.env)::starEach es X.env:=by rfl) (hplain:(backTo cpos (starEach es X.env)).any (·.1)=false:=by rfl) :
  PE X (.Call (.Attribute o name apos) (e::es) [] cpos) (tSM r to t):=by
 intro pins s σ H Q I h
 refine wpAny_Call_method_late hbase hfew hline rfl (thn (ho pins s σ H _ I h) λv s1 ⟨x,H1,I1,r1,⟨z,hz⟩,q1⟩=>?_);subst hz;obtain ⟨h1,h2⟩:=ac0 (T := "str") I1 r1 rfl;refine ⟨"str",id,PySem.F.plainAttrs_str,slot,hty,h1,h2,?_⟩;have hA:=ha cpos pins s1 σ H1 _ I1 q1;rw [hs] at hA ⊢;refine Calls.callWith_builtin (by show (false || (backTo cpos (starEach es X.env)).any (·.1))=false;rw [hplain]<;>rfl) (Calls.evalArgs_plain ?_)
 exact thn hA λus s2 ⟨vs,H2,I2,r2,q2⟩=>hm pins s2 σ H2 _ vs v us Q I2 r1 r2 q2
section
variable{X:Cx}
theorem a0h(hc:X.calm=true):CallR X (.builtin "sum") (λxs H Q=>∃ (p:Addr) (ns:List Int),xs=[.ref p]/\SqL X.K H p (ns.map V.int)/\Q (.int ns.sum) H):=by
 intro pins s σ H xs us Q I r h
 obtain ⟨p,ns,rfl,hq,q⟩:=h;obtain ⟨u,rfl,rx⟩:=vals1 r;cases rx
 obtain ⟨its,r',pl,hz⟩:=I.list hq;have hInts:IntsAre its ns:=intsAre_of r';obtain ⟨prs,ep⟩:=hInts.allInts.items;refine sum_intListG (xs:=prs) (I.ok.hd hc) (ep ▸ pl.isList) λh' tk t' hk=>⟨.int ns.sum,H,I.kept hk,⟨t',?_⟩,q⟩;have nums:prs.toList.map (·.1)=ns:=by
  rw [<-nums_intItems,<-ep];exact hInts.numsOf
 have tot:preSum (numAt prs) prs.size=ns.sum:=by
  rw [preSum_eq,<-nums]
  congr 1
  exact List.take_of_length_le (by simp)
 rw [tot]
end
end L2
namespace SHP
open PySem L2
end SHP
namespace L2
open PySem PySem.Spec PyProof.Rows
def mxI:List Int->Int
 | []=>0
 | [a]=>a
 | a::b::r=>if mxI (b::r)<=a then a else mxI (b::r)
theorem a7z:∀ {l:List Int},l≠[]->mxI l∈l/\∀ x∈l,x<=mxI l
 | [],h=>absurd rfl h
 | [a],_=>⟨List.mem_singleton.mpr rfl,λx hx=>by rw [List.mem_singleton.mp hx];exact Int.le_refl a⟩
 | a::b::r,_=>by
  obtain ⟨i,m⟩:=a7z (l:=b::r) (by simp)
  unfold mxI
  split
  ·rename_i h;refine ⟨List.mem_cons_self,λx hx=>?_⟩
   rcases List.mem_cons.mp hx with rfl | hx
   ·exact Int.le_refl _
   ·exact Int.le_trans (m x hx) h
  ·rename_i h;refine ⟨List.mem_cons_of_mem _ i,λx hx=>?_⟩
   rcases List.mem_cons.mp hx with rfl | hx
   ·omega
   ·exact m x hx
theorem aha{l:List Int}{k:Int}(h1:k∈l)(h2:∀ x∈l,x<=k):k=mxI l:=by
 obtain ⟨a,b⟩:=a7z (l:=l) (by intro z;subst z;cases h1)
 have:=b k h1
 have:=h2 _ a
 omega
section
variable{X:Cx}
theorem a6v(hc:X.calm=true):CallR X (.builtin "max") (λxs H Q=>∃ (p:Addr) (ns:List Int),xs=[.ref p]/\SqL X.K H p (ns.map V.int)/\ns≠[]/\Q (.int (mxI ns)) H):=by
 intro pins s σ H xs us Q I r h
 obtain ⟨p,ns,rfl,hq,hn,q⟩:=h;obtain ⟨u,rfl,rx⟩:=vals1 r;cases rx
 obtain ⟨its,r',pl,hz⟩:=I.list hq;have hInts:IntsAre its ns:=intsAre_of r';obtain ⟨prs,ep⟩:=hInts.allInts.items;have nums:prs.toList.map (·.1)=ns:=by
  rw [<-nums_intItems,<-ep];exact hInts.numsOf
 have sz:prs.size=ns.length:=by rw [<-nums,List.length_map,Array.length_toList]
 have pos:0<ns.length:=List.length_pos_iff.mpr hn;have at':∀ j,j<ns.length->ns[j]? = some (numAt prs j):=λj hj=>by
  rw [<-nums,List.getElem?_map,Array.getElem?_toList];unfold numAt;rw [Array.getElem?_eq_getElem (by omega)]
  rfl
 refine max_intList (xs:=prs) (I.ok.hd hc) (ep ▸ pl.isList) (by omega) λv h' tk hv hk=>?_
 obtain ⟨t,rfl⟩:=intItems_at hv;obtain ⟨b1,b2⟩:=argBest_gt (numAt prs) (prs.size - 1)
 generalize argBest (λi j=>decide (numAt prs i > numAt prs j)) (prs.size - 1)=b at b1 b2
 have e:numAt prs b=mxI ns:=aha (List.mem_of_getElem? (at' b (by omega))) λx hx=>by
  obtain ⟨j,hj,rfl⟩:=List.getElem_of_mem hx;have:=at' j hj;rw [List.getElem?_eq_getElem hj] at this;rw [Option.some.inj this];exact b2 j (by omega)
 exact ⟨.int (mxI ns),H,I.kept hk,⟨t,by rw [e]⟩,q⟩
end
end L2
namespace SHP
open PySem L2
end SHP
namespace MI
open PySem L2
inductive D where
 | non | bl (b:Bool) | int (i:Int) | str (x:Str) | ty (n:String) | tup (xs:List D) | rol (xs:List D) | ref (i:Nat) | scr (xs:List D) | rod (ks:List Key) (xs:List D) | rdT (ks:List (List Key)) (xs:List D) | exc (c:Str)
inductive O where
 | lst (xs:List D) | dK (kvs:List (Key × D)) | dT (kvs:List (List Key × D))
abbrev Hd:=List O
abbrev Sd:=List (Option D)
inductive R (α:Type) where
 | ok (a:α) (h:Hd) | ex (c:Str) (h:Hd) | no
def R.bind{α β:Type}:R α->(α->Hd->R β)->R β
 | .ok a h,k=>k a h
 | .ex c h,_=>.ex c h
 | .no,_=>.no
inductive Fl where
 | nx (σ:Sd) (h:Hd) | rt (d:D) (h:Hd) | bk (σ:Sd) (h:Hd) | ct (σ:Sd) (h:Hd) | ex (c:Str) (h:Hd) | no
def R.fl{α:Type}:R α->(α->Hd->Fl)->Fl
 | .ok a h,k=>k a h
 | .ex c h,_=>.ex c h
 | .no,_=>.no
abbrev SE:=Sd->Hd->R D
abbrev ST:=Sd->Hd->R Bool
abbrev SA:=Sd->Hd->R (List D)
abbrev SS:=Sd->Hd->Fl
def SqF(K:PySem.W.Frag)(H:Hp)(a:Addr)(vs:List V):Prop:=(∃ o,H a=some (.frz o (.lst vs)))\/SqL K (λ_=>none) a vs
theorem SqF.l{K:PySem.W.Frag}{H:Hp}{a:Addr}{vs:List V}(h:SqF K H a vs):SqL K H a vs:=by
 rcases h with ⟨o,h⟩ | h
 ·exact .inl (.inr ⟨o,h⟩)
 ·rcases h with (h | ⟨o,h⟩) | h
  ·cases h
  ·cases h
  ·exact .inr h
def SqZ(H:Hp)(a:Addr)(vs:List V):Prop:=∃ o,H a=some (.frz o (.lst vs))
theorem SqZ.l{K:PySem.W.Frag}{H:Hp}{a:Addr}{vs:List V}(h:SqZ H a vs):SqL K H a vs:=let ⟨o,e⟩:=h; .inl (.inr ⟨o,e⟩)
def exO(a:Addr):HO:=.ext λh=>∃ o,h.get? a=some o
mutual
inductive Rep (K:PySem.W.Frag) (ι:List Addr) (H:Hp):V->D->Prop
 | non:Rep K ι H .non .non
 | bl (b:Bool):Rep K ι H (.bl b) (.bl b)
 | int (i:Int):Rep K ι H (.int i) (.int i)
 | str (x:Str):Rep K ι H (.str x) (.str x)
 | ty (n:String):Rep K ι H (.ty n) (.ty n)
 | tup {a:Addr} {vs:List V} {xs:List D} (h:H a=some (.tup vs)) (r:Reps K ι H vs xs):Rep K ι H (.ref a) (.tup xs)
 | rol {a:Addr} {vs:List V} {xs:List D} (h:SqZ H a vs) (r:Reps K ι H vs xs):Rep K ι H (.ref a) (.rol xs)
 | scr {a:Addr} {vs:List V} {xs:List D} (h:SqF K H a vs) (r:Reps K ι H vs xs):Rep K ι H (.ref a) (.scr xs)
 | ref {a:Addr} {i:Nat} (h:ι[i]? = some a):Rep K ι H (.ref a) (.ref i)
 | rod {a:Addr} {o:Obj} {us:List (Key × V)} {ks:List Key} {xs:List D} (h:H a=some (.frz o (.dK us))) (e:us.map (·.1)=ks) (r:Reps K ι H (us.map (·.2)) xs):Rep K ι H (.ref a) (.rod ks xs)
 | rdT {a:Addr} {o:Obj} {us:List (List Key × V)} {ks:List (List Key)} {xs:List D} (h:H a=some (.frz o (.dT us))) (e:us.map (·.1)=ks) (r:Reps K ι H (us.map (·.2)) xs):Rep K ι H (.ref a) (.rdT ks xs)
 | exc {a C:Addr} {o:Obj} {c:Str} (h:H a=some (.frz o (exO a))) (hc:o.cls = .ref C) (hn:PySem.W.nsIn K mainGlobals c=some (some (.ref C))):Rep K ι H (.ref a) (.exc c)
inductive Reps (K:PySem.W.Frag) (ι:List Addr) (H:Hp):List V->List D->Prop
 | nil:Reps K ι H [] []
 | cons {v:V} {d:D} {vs:List V} {ds:List D} (r:Rep K ι H v d) (rs:Reps K ι H vs ds):Reps K ι H (v::vs) (d::ds)
end
structure Gw (ι:List Addr) (H:Hp) (ι':List Addr) (H':Hp):Prop where
 pre:∃ m,ι'=ι++m
 tup:∀ a vs,H a=some (.tup vs)->H' a=some (.tup vs)
 frz:∀ a o u,H a=some (.frz o u)->H' a=some (.frz o u)
structure Gr (ι:List Addr) (H:Hp) (ι':List Addr) (H':Hp):Prop where
 pre:∃ m,ι'=ι++m/\∀ a∈m,H a=none
 tup:∀ a vs,H a=some (.tup vs)->H' a=some (.tup vs)
 frz:∀ a o u,H a=some (.frz o u)->H' a=some (.frz o u)
 oth:∀ a u,H a=some u->a ∉ ι->H' a=some u
 kp:∀ a u,H a=some u->∃ u',H' a=some u'
theorem Gr.w{ι ι':List Addr}{H H':Hp}(g:Gr ι H ι' H'):Gw ι H ι' H':=⟨let ⟨m,e,_⟩:=g.pre; ⟨m,e⟩,g.tup,g.frz⟩
theorem Gr.refl(ι:List Addr)(H:Hp):Gr ι H ι H:=⟨⟨[],by simp,by simp⟩,λ_ _ h=>h,λ_ _ _ h=>h,λ_ _ h _=>h,λ_ u h=>⟨u,h⟩⟩
theorem Gr.trans{ι ι1 ι2:List Addr}{H H1 H2:Hp}(a:Gr ι H ι1 H1)(b:Gr ι1 H1 ι2 H2):Gr ι H ι2 H2:=by
 obtain ⟨m,rfl,hm⟩:=a.pre;obtain ⟨n,rfl,hn⟩:=b.pre;refine ⟨⟨m++n,by simp,λx hx=>?_⟩,λx vs h=>b.tup x vs (a.tup x vs h),λx o u h=>b.frz x o u (a.frz x o u h),λx u h hx=>?_,λx u h=>?_⟩
 ·rcases List.mem_append.mp hx with hx | hx
  ·exact hm x hx
  ·cases e:H x with
   | none=>rfl
   | some u =>
    obtain ⟨u',e'⟩:=a.kp x u e;rw [hn x hx] at e';cases e'
 ·refine b.oth x u (a.oth x u h hx) λz=>?_
  rcases List.mem_append.mp z with z | z
  ·exact hx z
  ·rw [hm x z] at h;cases h
 ·obtain ⟨u',e⟩:=a.kp x u h;exact b.kp x u' e
theorem Gw.at{ι ι':List Addr}{H H':Hp}(g:Gw ι H ι' H'){i:Nat}{a:Addr}(h:ι[i]? = some a):ι'[i]? = some a:=by
 obtain ⟨m,rfl⟩:=g.pre;rw [List.getElem?_append_left (List.getElem?_eq_some_iff.mp h).1];exact h
theorem Gr.at{ι ι':List Addr}{H H':Hp}(g:Gr ι H ι' H'){i:Nat}{a:Addr}(h:ι[i]? = some a):ι'[i]? = some a:=g.w.at h
theorem SqF.monoW{K:PySem.W.Frag}{ι ι':List Addr}{H H':Hp}(g:Gw ι H ι' H'){a:Addr}{vs:List V}(h:SqF K H a vs):SqF K H' a vs:=by
 rcases h with ⟨o,h⟩ | h
 ·exact .inl ⟨o,g.frz _ _ _ h⟩
 ·exact .inr h
theorem SqZ.monoW{ι ι':List Addr}{H H':Hp}(g:Gw ι H ι' H'){a:Addr}{vs:List V}(h:SqZ H a vs):SqZ H' a vs:=let ⟨o,e⟩:=h; ⟨o,g.frz _ _ _ e⟩
theorem SqZ.mono{ι ι':List Addr}{H H':Hp}(g:Gr ι H ι' H'){a:Addr}{vs:List V}(h:SqZ H a vs):SqZ H' a vs:=h.monoW g.w
mutual
theorem Rep.monoW{K:PySem.W.Frag}{ι ι':List Addr}{H H':Hp}(g:Gw ι H ι' H'):∀ {v:V} {d:D},Rep K ι H v d->Rep K ι' H' v d
 | _,_, .non=>.non
 | _,_, .bl b=>.bl b
 | _,_, .int i=>.int i
 | _,_, .str x=>.str x
 | _,_, .ty n=>.ty n
 | _,_, .tup h r=>.tup (g.tup _ _ h) (Reps.monoW g r)
 | _,_, .rol h r=>.rol (h.monoW g) (Reps.monoW g r)
 | _,_, .scr h r=>.scr (h.monoW g) (Reps.monoW g r)
 | _,_, .ref h=>.ref (g.at h)
 | _,_, .rod h e r=>.rod (g.frz _ _ _ h) e (Reps.monoW g r)
 | _,_, .rdT h e r=>.rdT (g.frz _ _ _ h) e (Reps.monoW g r)
 | _,_, .exc h hc hn=>.exc (g.frz _ _ _ h) hc hn
theorem Reps.monoW{K:PySem.W.Frag}{ι ι':List Addr}{H H':Hp}(g:Gw ι H ι' H'):∀ {vs:List V} {ds:List D},Reps K ι H vs ds->Reps K ι' H' vs ds
 | _,_, .nil=>.nil
 | _,_, .cons r rs=>.cons (Rep.monoW g r) (Reps.monoW g rs)
end
theorem Rep.mono{K:PySem.W.Frag}{ι ι':List Addr}{H H':Hp}(g:Gr ι H ι' H'){v:V}{d:D}(r:Rep K ι H v d):Rep K ι' H' v d:=r.monoW g.w
theorem Reps.mono{K:PySem.W.Frag}{ι ι':List Addr}{H H':Hp}(g:Gr ι H ι' H'){vs:List V}{ds:List D}(r:Reps K ι H vs ds):Reps K ι' H' vs ds:=r.monoW g.w
section
variable{K:PySem.W.Frag}{ι:List Addr}{H:Hp}
theorem Reps.len{vs:List V}{ds:List D}:Reps K ι H vs ds->vs.length=ds.length
 | .nil=>rfl
 | .cons _ rs=>by rw [List.length_cons,List.length_cons,rs.len]
theorem Reps.get:∀ {vs:List V} {ds:List D} {i:Nat} {d:D},Reps K ι H vs ds->ds[i]? = some d->∃ v,vs[i]? = some v/\Rep K ι H v d
 | _,_,_,_, .nil,e=>by simp at e
 | _,_,0,_, .cons r _,e=>by simp at e;subst e;exact ⟨_,rfl,r⟩
 | _,_,i+1,d, .cons _ rs,e=>by
  obtain ⟨u,h1,h2⟩:=Reps.get (i:=i) (d:=d) rs (by simpa using e)
  exact ⟨u,by simpa using h1,h2⟩
theorem Reps.app:∀ {vs us:List V} {ds es:List D},Reps K ι H vs ds->Reps K ι H us es->Reps K ι H (vs++us) (ds++es)
 | _,_,_,_, .nil,s=>s
 | _,_,_,_, .cons r rs,s=>.cons r (Reps.app rs s)
theorem Reps.set{v:V}{d:D}(q:Rep K ι H v d):∀ {vs:List V} {ds:List D} (i:Nat),Reps K ι H vs ds->Reps K ι H (vs.set i v) (ds.set i d)
 | _,_,_, .nil=>.nil
 | _,_,0, .cons _ rs=>.cons q rs
 | _,_,i+1, .cons r rs=>.cons r (Reps.set q i rs)
theorem Reps.take:∀ {vs:List V} {ds:List D} (n:Nat),Reps K ι H vs ds->Reps K ι H (vs.take n) (ds.take n)
 | _,_,0,_=>.nil
 | _,_,_+1, .nil=>.nil
 | _,_,n+1, .cons r rs=>.cons r (Reps.take n rs)
theorem Reps.drop:∀ {vs:List V} {ds:List D} (n:Nat),Reps K ι H vs ds->Reps K ι H (vs.drop n) (ds.drop n)
 | _,_,0,r=>r
 | _,_,_+1, .nil=>.nil
 | _,_,n+1, .cons _ rs=>Reps.drop n rs
theorem Reps.erase:∀ {vs:List V} {ds:List D} (n:Nat),Reps K ι H vs ds->Reps K ι H (vs.eraseIdx n) (ds.eraseIdx n)
 | _,_,_, .nil=>.nil
 | _,_,0, .cons _ rs=>rs
 | _,_,n+1, .cons r rs=>.cons r (Reps.erase n rs)
theorem Reps.snoc{vs:List V}{ds:List D}{v:V}{d:D}(r:Reps K ι H vs ds)(q:Rep K ι H v d):Reps K ι H (vs++[v]) (ds++[d]):=r.app (.cons q .nil)
theorem Reps.flat:∀ {vs:List V} {ds:List D} (k:Nat),Reps K ι H vs ds->Reps K ι H (List.replicate k vs).flatten (List.replicate k ds).flatten
 | _,_,0,_=>.nil
 | vs,ds,k+1,r=>by
  rw [List.replicate_succ,List.replicate_succ,List.flatten_cons,List.flatten_cons];exact r.app (Reps.flat k r)
end
def KRep{κ:Type}(K:PySem.W.Frag)(ι:List Addr)(H:Hp)(us:List (κ × V))(kvs:List (κ × D)):Prop:=us.map (·.1)=kvs.map (·.1)/\Reps K ι H (us.map (·.2)) (kvs.map (·.2))
def ORep(K:PySem.W.Frag)(ι:List Addr)(H:Hp)(a:Addr):O->Prop
 | .lst xs=>∃ vs,H a=some (.lst vs)/\Reps K ι H vs xs
 | .dK kvs=>∃ us,H a=some (.dK us)/\KRep K ι H us kvs
 | .dT kvs=>∃ us,H a=some (.dT us)/\KRep K ι H us kvs
structure HRep (K:PySem.W.Frag) (ι:List Addr) (H:Hp) (h:Hd):Prop where
 nd:ι.Nodup
 len:ι.length=h.length
 obj:∀ (i:Nat) (a:Addr) (o:O),ι[i]? = some a->h[i]? = some o->ORep K ι H a o
section
variable{K:PySem.W.Frag}{ι:List Addr}{H:Hp}{h:Hd}
theorem ORep.some{a:Addr}{o:O}(r:ORep K ι H a o):∃ u,H a=some u/\(∀ vs,u≠.tup vs)/\(∀ o' u',u≠.frz o' u'):=by
 cases o with
 | lst xs=>obtain ⟨vs,e,_⟩:=r;exact ⟨_,e,λ_ z=>(by cases z),λ_ _ z=>(by cases z)⟩
 | dK kvs=>obtain ⟨us,e,_⟩:=r;exact ⟨_,e,λ_ z=>(by cases z),λ_ _ z=>(by cases z)⟩
 | dT kvs=>obtain ⟨us,e,_⟩:=r;exact ⟨_,e,λ_ z=>(by cases z),λ_ _ z=>(by cases z)⟩
theorem HRep.at(r:HRep K ι H h){i:Nat}{a:Addr}(e:ι[i]? = some a):∃ o,h[i]? = some o/\ORep K ι H a o:=by
 have hi:i<h.length:=by rw [<-r.len];exact (List.getElem?_eq_some_iff.mp e).1
 exact ⟨h[i],List.getElem?_eq_getElem hi,r.obj i a _ e (List.getElem?_eq_getElem hi)⟩
theorem HRep.addr(r:HRep K ι H h){i:Nat}{o:O}(e:h[i]? = some o):∃ a,ι[i]? = some a/\ORep K ι H a o:=by
 have hi:i<ι.length:=by rw [r.len];exact (List.getElem?_eq_some_iff.mp e).1
 exact ⟨ι[i],List.getElem?_eq_getElem hi,r.obj i _ o (List.getElem?_eq_getElem hi) e⟩
theorem HRep.notin(r:HRep K ι H h){p:Addr}(e:H p=none):p ∉ ι:=λz=>by
 obtain ⟨i,hi⟩:=List.getElem?_of_mem z;obtain ⟨o,_,q⟩:=r.at hi;obtain ⟨u,q,_⟩:=q.some;rw [e] at q;cases q
theorem ORep.monoW{ι':List Addr}{H':Hp}{a:Addr}{o:O}(g:Gw ι H ι' H')(e:H' a=H a)(r:ORep K ι H a o):ORep K ι' H' a o:=by
 cases o with
 | lst xs=>obtain ⟨vs,h1,h2⟩:=r;exact ⟨vs,by rw [e];exact h1,h2.monoW g⟩
 | dK kvs=>obtain ⟨us,h1,h2,h3⟩:=r;exact ⟨us,by rw [e];exact h1,h2,h3.monoW g⟩
 | dT kvs=>obtain ⟨us,h1,h2,h3⟩:=r;exact ⟨us,by rw [e];exact h1,h2,h3.monoW g⟩
theorem ORep.mono{ι':List Addr}{H':Hp}{a:Addr}{o:O}(g:Gr ι H ι' H')(e:H' a=H a)(r:ORep K ι H a o):ORep K ι' H' a o:=r.monoW g.w e
theorem vg{p:Addr}(e:H p=none)(o:HO):Gr ι H ι (upd H p o) :=
 ⟨⟨[],by simp,by simp⟩,λa vs h=>by rw [gh (dz h e)];exact h,λa o u h=>by rw [gh (dz h e)];exact h,λa u h _=>by rw [gh (dz h e)];exact h,λa u h=>⟨u,by rw [gh (dz h e)];exact h⟩⟩
theorem HRep.aside(r:HRep K ι H h){p:Addr}(e:H p=none)(o:HO):HRep K ι (upd H p o) h:=by
 refine ⟨r.nd,r.len,λi a o' e1 e2=>?_⟩;have q:=r.obj i a o' e1 e2;obtain ⟨u,hu,_⟩:=q.some;exact q.mono (vg e o) (gh (dz hu e))
theorem a5c{p:Addr}(e:H p=none)(o:HO):Gr ι H (ι++[p]) (upd H p o) :=
 ⟨⟨[p],rfl,by simpa using e⟩,(vg (ι:=ι) e o).tup,(vg (ι:=ι) e o).frz,(vg (ι:=ι) e o).oth,(vg (ι:=ι) e o).kp⟩
theorem HRep.add(r:HRep K ι H h){p:Addr}(e:H p=none){o:HO}{ob:O}(q:ORep K (ι++[p]) (upd H p o) p ob):HRep K (ι++[p]) (upd H p o) (h++[ob]):=by
 refine ⟨?_,by simp [r.len],λi a o' e1 e2=>?_⟩
 ·rw [List.nodup_append];exact ⟨r.nd,by simp,λa ha b hb z=>r.notin e (by rw [List.mem_singleton.mp hb] at z;rw [<-z];exact ha)⟩
 ·by_cases hi:i<ι.length
  ·rw [List.getElem?_append_left hi] at e1;rw [List.getElem?_append_left (by rw [<-r.len];exact hi)] at e2
   have q:=r.obj i a o' e1 e2;obtain ⟨u,hu,_⟩:=q.some;exact q.mono (a5c e o) (gh (dz hu e))
  ·have hi2:i<(ι++[p]).length:=(List.getElem?_eq_some_iff.mp e1).1;have:i=ι.length:=by simp at hi2;omega
   subst this;rw [List.getElem?_append_right (Nat.le_refl _)] at e1;rw [r.len,List.getElem?_append_right (Nat.le_refl _)] at e2;simp at e1 e2;subst e1 e2;exact q
theorem a0i{a:Addr}{i:Nat}(r:HRep K ι H h)(e:ι[i]? = some a)(o:HO):Gr ι H ι (upd H a o):=by
 obtain ⟨_,_,q⟩:=r.at e;obtain ⟨u,hu,n1,n2⟩:=q.some;refine ⟨⟨[],by simp,by simp⟩,λb vs hb=>?_,λb o' u' hb=>?_,λb u' hb hn=>?_,λb u' hb=>?_⟩
 ·rw [gh (λz=>by subst z;rw [hu] at hb;exact n1 _ (Option.some.inj hb))];exact hb
 ·rw [gh (λz=>by subst z;rw [hu] at hb;exact n2 _ _ (Option.some.inj hb))];exact hb
 ·rw [gh (λz=>hn (by subst z;exact List.mem_of_getElem? e))];exact hb
 ·by_cases z:b=a
  ·subst z;exact ⟨o,jh⟩
  ·exact ⟨u',by rw [gh z];exact hb⟩
theorem HRep.put(r:HRep K ι H h){a:Addr}{i:Nat}(e:ι[i]? = some a){o:HO}{ob:O}(q:ORep K ι (upd H a o) a ob):HRep K ι (upd H a o) (h.set i ob):=by
 refine ⟨r.nd,by rw [List.length_set];exact r.len,λj b o' e1 e2=>?_⟩
 by_cases hj:i=j
 ·subst hj;rw [e] at e1;cases e1
  have hi:i<h.length:=by rw [<-r.len];exact (List.getElem?_eq_some_iff.mp e).1
  rw [List.getElem?_set_self hi] at e2;cases e2
  exact q
 ·rw [List.getElem?_set_ne hj] at e2;have hne:b≠a:=λz=>by
   subst z;obtain ⟨h1,g1⟩:=List.getElem?_eq_some_iff.mp e;obtain ⟨h2,g2⟩:=List.getElem?_eq_some_iff.mp e1;have np:=List.pairwise_iff_getElem.mp r.nd
   rcases Nat.lt_or_gt_of_ne hj with l | l
   ·exact np i j h1 h2 l (g1.trans g2.symm)
   ·exact np j i h2 h1 l (g2.trans g1.symm)
  exact (r.obj j b o' e1 e2).mono (a0i r e o) (gh hne)
end
structure SRep (K:PySem.W.Frag) (ι:List Addr) (H:Hp) (σ:St) (τ:Sd):Prop where
 len:σ.length=τ.length
 val:∀ (i:Nat) (d:D),τ[i]? = some (some d)->∃ v,σ[i]? = some (some v)/\Rep K ι H v d
theorem SRep.mono{K:PySem.W.Frag}{ι ι':List Addr}{H H':Hp}{σ:St}{τ:Sd}(g:Gr ι H ι' H')(s:SRep K ι H σ τ):SRep K ι' H' σ τ :=
 ⟨s.len,λi d e=>let ⟨v,h1,h2⟩:=s.val i d e; ⟨v,h1,h2.mono g⟩⟩
theorem SRep.set{K:PySem.W.Frag}{ι:List Addr}{H:Hp}{σ:St}{τ:Sd}(s:SRep K ι H σ τ){v:V}{d:D}(r:Rep K ι H v d)(i:Nat):SRep K ι H (σ.set i (some v)) (τ.set i (some d)):=by
 refine ⟨by simp [s.len],λj d' e=>?_⟩
 by_cases hj:i=j
 ·subst hj;have hi:i<τ.length:=by
   have:=(List.getElem?_eq_some_iff.mp e).1
   simpa using this
  rw [List.getElem?_set_self hi] at e;cases e
  exact ⟨v,by rw [List.getElem?_set_self (by rw [s.len];exact hi)],r⟩
 ·rw [List.getElem?_set_ne hj] at e ⊢;exact s.val j d' e
abbrev XD:=Str->List Addr->Hp->Hd->Prop
def out{α β:Type}(K:PySem.W.Frag)(E:XD)(Rp:List Addr->Hp->β->α->Prop)(ι:List Addr)(H:Hp)(r:R α)(Q:β->Hp->Prop):Prop :=
 match r with
 | .ok a h=>∀ ι' H' b,Gr ι H ι' H'->Rp ι' H' b a->HRep K ι' H' h->Q b H'
 | .ex c h=>∀ ι' H',Gr ι H ι' H'->HRep K ι' H' h->E c ι' H' h
 | .no=>False
theorem a5d{α β:Type}{K:PySem.W.Frag}{E:XD}{Rp:List Addr->Hp->β->α->Prop}{ι ι1:List Addr}{H H1:Hp}{r:R α}{Q:β->Hp->Prop}(o:out K E Rp ι H r Q)(g:Gr ι H ι1 H1):out K E Rp ι1 H1 r Q:=by
 cases r with
 | ok a h=>exact λι' H' b g'=>o ι' H' b (g.trans g')
 | ex c h=>exact λι' H' g'=>o ι' H' (g.trans g')
 | no=>exact o
theorem cj{α β γ δ:Type}{K:PySem.W.Frag}{E:XD}{Rp:List Addr->Hp->β->α->Prop}{Sp:List Addr->Hp->δ->γ->Prop}{ι:List Addr}{H:Hp}{r:R α}{k:α->Hd->R γ}{Q:δ->Hp->Prop}{P:β->Hp->Prop}
  (o:out K E Sp ι H (r.bind k) Q) (hP:∀ a h ι1 H1 b,Gr ι H ι1 H1->Rp ι1 H1 b a->HRep K ι1 H1 h->out K E Sp ι1 H1 (k a h) Q->P b H1):out K E Rp ι H r P:=by
 cases r with
 | ok a h=>exact λι' H' b g r' hr=>hP a h ι' H' b g r' hr (a5d o g)
 | ex c h=>exact o
 | no=>exact o
abbrev qb(K:PySem.W.Frag):List Addr->Hp->V->D->Prop:=λι H v d=>Rep K ι H v d
abbrev an3(K:PySem.W.Frag):List Addr->Hp->List V->List D->Prop:=λι H v d=>Reps K ι H v d
abbrev ajq:List Addr->Hp->Bool->Bool->Prop:=λ_ _ a b=>a=b
abbrev an4:List Addr->Hp->Option Int->Option Int->Prop:=λ_ _ a b=>a=b
def a9w(K:PySem.W.Frag)(E:XD)(ι:List Addr)(H:Hp)(r:Fl)(N:Ends):Prop :=
 match r with
 | .nx τ h=>∀ ι' H' σ,Gr ι H ι' H'->SRep K ι' H' σ τ->HRep K ι' H' h->N.nx σ H'
 | .bk τ h=>∀ ι' H' σ,Gr ι H ι' H'->SRep K ι' H' σ τ->HRep K ι' H' h->N.bk σ H'
 | .ct τ h=>∀ ι' H' σ,Gr ι H ι' H'->SRep K ι' H' σ τ->HRep K ι' H' h->N.ct σ H'
 | .rt d h=>∀ ι' H' v,Gr ι H ι' H'->Rep K ι' H' v d->HRep K ι' H' h->N.rt v H'
 | .ex c h=>∀ ι' H',Gr ι H ι' H'->HRep K ι' H' h->E c ι' H' h
 | .no=>False
theorem jf{K:PySem.W.Frag}{E:XD}{ι ι1:List Addr}{H H1:Hp}{r:Fl}{N:Ends}(o:a9w K E ι H r N)(g:Gr ι H ι1 H1):a9w K E ι1 H1 r N:=by
 cases r with
 | nx τ h=>exact λι' H' b g'=>o ι' H' b (g.trans g')
 | bk τ h=>exact λι' H' b g'=>o ι' H' b (g.trans g')
 | ct τ h=>exact λι' H' b g'=>o ι' H' b (g.trans g')
 | rt d h=>exact λι' H' b g'=>o ι' H' b (g.trans g')
 | ex c h=>exact λι' H' g'=>o ι' H' (g.trans g')
 | no=>exact o
theorem jq{α β:Type}{K:PySem.W.Frag}{E:XD}{Rp:List Addr->Hp->β->α->Prop}{ι:List Addr}{H:Hp}{r:R α}{k:α->Hd->Fl}{N:Ends}{P:β->Hp->Prop}
  (o:a9w K E ι H (r.fl k) N) (hP:∀ a h ι1 H1 b,Gr ι H ι1 H1->Rp ι1 H1 b a->HRep K ι1 H1 h->a9w K E ι1 H1 (k a h) N->P b H1):out K E Rp ι H r P:=by
 cases r with
 | ok a h=>exact λι' H' b g r' hr=>hP a h ι' H' b g r' hr (jf o g)
 | ex c h=>exact o
 | no=>exact o
def lift{α β:Type}(K:PySem.W.Frag)(E:XD)(Rp:List Addr->Hp->β->α->Prop)(f:Sd->Hd->R α):St->Hp->(β->Hp->Prop)->Prop:=λσ H Q =>
 ∃ ι τ h,SRep K ι H σ τ/\HRep K ι H h/\out K E Rp ι H (f τ h) Q
def zy(K:PySem.W.Frag)(E:XD)(f:SS):TS:=λN σ H=>∃ ι τ h,SRep K ι H σ τ/\HRep K ι H h/\a9w K E ι H (f τ h) N
abbrev ME(X:Cx)(E:XD)(e:Expr)(f:SE):Prop:=PE X e (lift X.K E (qb X.K) f)
abbrev MT(X:Cx)(E:XD)(e:Expr)(f:ST):Prop:=PT X e (lift X.K E ajq f)
abbrev MW(X:Cx)(E:XD)(e:Expr)(f:ST):Prop:=PW X e (lift X.K E ajq f)
abbrev MA(X:Cx)(E:XD)(es:List Expr)(f:SA):Prop:=PA X es (lift X.K E (an3 X.K) f)
abbrev MS(X:Cx)(E:XD)(st:Stmt)(f:SS):Prop:=PS X st (zy X.K E f)
abbrev MSs(X:Cx)(E:XD)(st:List Stmt)(f:SS):Prop:=PSs X st (zy X.K E f)
theorem PE.weak{X:Cx}{e:Expr}{t t':TE}(h:PE X e t)(i:∀ σ H Q,t' σ H Q->t σ H Q):PE X e t':=λpins s σ H Q I q=>h pins s σ H Q I (i _ _ _ q)
theorem PT.weak{X:Cx}{e:Expr}{t t':TT}(h:PT X e t)(i:∀ σ H Q,t' σ H Q->t σ H Q):PT X e t':=λpins s σ H Q I q=>h pins s σ H Q I (i _ _ _ q)
theorem PW.weak{X:Cx}{e:Expr}{t t':TT}(h:PW X e t)(i:∀ σ H Q,t' σ H Q->t σ H Q):PW X e t':=λwh pins s σ H Q I q=>h wh pins s σ H Q I (i _ _ _ q)
theorem PA.weak{X:Cx}{e:List Expr}{t t':TA}(h:PA X e t)(i:∀ σ H Q,t' σ H Q->t σ H Q):PA X e t':=λpos pins s σ H Q I q=>h pos pins s σ H Q I (i _ _ _ q)
theorem PS.weak{X:Cx}{e:Stmt}{t t':TS}(h:PS X e t)(i:∀ N σ H,t' N σ H->t N σ H):PS X e t':=λpins s σ H N I q=>h pins s σ H N I (i _ _ _ q)
theorem PSs.weak{X:Cx}{e:List Stmt}{t t':TS}(h:PSs X e t)(i:∀ N σ H,t' N σ H->t N σ H):PSs X e t':=λpins s σ H N I q=>h pins s σ H N I (i _ _ _ q)
abbrev LINE:Nat:=16777216
theorem ll{n:Nat}(h:n<=LINE):n<=sizeLine:=a3u h
def sV(i:Nat):SE:=λτ h=>match τ[i]? with | some (some d)=>.ok d h | _=>.no
def sC(d:D):SE:=λ_ h=>.ok d h
section
variable{X:Cx}{E:XD}{a b c e:Expr}{fa fb fc:SE}{pos:Pos}
theorem dg(i:Nat){x:Str}{pos:Pos}(hN:X.N[i]? = some x:=by rfl)(hv:Vis X.env.scope x:=by first | exact Or.inl rfl | exact Or.inr (Or.inl rfl) | exact Or.inr (Or.inr rfl))(hd:(x == ("__debug__" : Str))=false:=by decide)
  (hcd:(x == ("__classdict__" : Str))=false:=by decide):ME X E (.Name x pos) (sV i):=by
 refine PE.weak (a7c hN hv hd hcd) λσ H Q ⟨ι,τ,h,S,Rh,o⟩=>?_;unfold sV at o
 split at o
 ·rename_i d e;obtain ⟨v,h1,h2⟩:=S.val i d e;exact ⟨v,h1,o ι H v (.refl _ _) h2 Rh⟩
 ·exact o.elim
theorem ahb{v:V}{d:D}(h:PE X e (tC v))(r:∀ ι H,Rep X.K ι H v d):ME X E e (sC d) :=
 PE.weak h λσ H Q ⟨ι,τ,h,S,Rh,o⟩=>o ι H v (.refl _ _) (r ι H) Rh
theorem az{i j pos}:ME X E (.Constant (.int i) j pos) (sC (.int i)):=ahb ag5 λ_ _=>.int i
theorem a6w{i j pos}:ME X E (.Constant (.bool i) j pos) (sC (.bl i)):=ahb ajx λ_ _=>.bl i
theorem ut{i j pos}:ME X E (.Constant (.str i) j pos) (sC (.str i)):=ahb ag7 λ_ _=>.str i
theorem a0j{j pos}:ME X E (.Constant .none j pos) (sC .non):=ahb ag6 λ_ _=>.non
theorem a3w{x:Str}{n:String}{pos:Pos}(hg:Gl X x)(hm:X.mg x=none)(hv:bootBuiltins x=some (.type n))(hn:x ≠ "__name__":=by decide)(hd:(x == ("__debug__" : Str))=false:=by decide):ME X E (.Name x pos) (sC (.ty n)) :=
 ahb (a7d (v:=.ty n) hg hm hv rfl hn hd) λ_ _=>.ty n
def s2(g:D->D->Hd->R D)(fa fb:SE):SE:=λτ h=>(fa τ h).bind λx h1=>(fb τ h1).bind λy h2=>g x y h2
def s1(g:D->Hd->R D)(fa:SE):SE:=λτ h=>(fa τ h).bind g
def vh(K:PySem.W.Frag)(g:D->D->Hd->R D)(r:R2):Prop:=∀ (E:XD) ι H h x y dx dy Q,Rep K ι H x dx->Rep K ι H y dy->HRep K ι H h->out K E (qb K) ι H (g dx dy h) Q->r x y H Q
def an5(K:PySem.W.Frag)(g:D->Hd->R D)(r:V->Hp->VK->Prop):Prop:=∀ (E:XD) ι H h x dx Q,Rep K ι H x dx->HRep K ι H h->out K E (qb K) ι H (g dx h) Q->r x H Q
def a80(K:PySem.W.Frag)(g:List D->Hd->R D)(r:List V->Hp->VK->Prop):Prop:=∀ (E:XD) ι H h xs ds Q,Reps K ι H xs ds->HRep K ι H h->out K E (qb K) ι H (g ds h) Q->r xs H Q
theorem ajr{g:D->D->Hd->R D}{r:R2}{K:PySem.W.Frag}(hs:vh K g r){σ:St}{H:Hp}{Q:VK}(q:lift K E (qb K) (s2 g fa fb) σ H Q):tOp r (lift K E (qb K) fa) (lift K E (qb K) fb) σ H Q:=by
 obtain ⟨ι,τ,h,S,Rh,o⟩:=q;refine ⟨ι,τ,h,S,Rh,cj o λd h1 ι1 H1 v g1 r1 hr1 o1=>?_⟩;refine ⟨ι1,τ,h1,S.mono g1,hr1,cj o1 λd2 h2 ι2 H2 u g2 r2 hr2 o2=>?_⟩;exact hs E ι2 H2 h2 v u d d2 Q (r1.mono g2) r2 hr2 o2
theorem a6x{op:Operator}{r:R2}{g:D->D->Hd->R D}(ho:OpR X (binaryOp op) r)(hs:vh X.K g r)(ha:ME X E a fa)(hb:ME X E b fb):ME X E (.BinOp a op b pos) (s2 g fa fb) :=
 PE.weak (akb ho ha hb) λσ H Q q=>ajr hs q
theorem adv{op:CmpOp}{r:R2}{g:D->D->Hd->R D}(ho:OpR X (compareOp op) r)(hs:vh X.K g r)(ha:ME X E a fa)(hb:ME X E b fb)(hm:behindInMarks op b=false):ME X E (.Compare a [op] [b] pos) (s2 g fa fb) :=
 PE.weak (ade ho ha hb hm) λσ H Q q=>ajr hs q
theorem aks{op:UnaryOp}{r:V->Hp->VK->Prop}{g:D->Hd->R D}(ho:UnR X (unaryOp op) r)(hs:an5 X.K g r)(ha:ME X E a fa):ME X E (.UnaryOp op a pos) (s1 g fa):=by
 refine PE.weak (akc ho ha) λσ H Q ⟨ι,τ,h,S,Rh,o⟩=>?_;exact ⟨ι,τ,h,S,Rh,cj o λd h1 ι1 H1 v g1 r1 hr1 o1=>hs E ι1 H1 h1 v d Q r1 hr1 o1⟩
theorem akt{r:R2}{g:D->D->Hd->R D}(ho:IxR X r)(hs:vh X.K g r)(ha:ME X E a fa)(hb:ME X E b fb)(hp:a3q b):ME X E (.Subscript a b pos) (s2 g fa fb) :=
 PE.weak (akl ho ha hb hp) λσ H Q q=>ajr hs q
def asB(d:D)(h:Hd):R Bool:=match d with | .bl b=>.ok b h | _=>.no
def sT(f:SE):ST:=λτ h=>(f τ h).bind asB
theorem adw{K:PySem.W.Frag}{t:TE}{f:SE}(hi:∀ σ H Q,lift K E (qb K) f σ H Q->t σ H Q){σ:St}{H:Hp}{Q:Bool->Hp->Prop}(q:lift K E ajq (sT f) σ H Q):agt t σ H Q:=by
 refine hi σ H _ ?_;obtain ⟨ι,τ,h,S,Rh,o⟩:=q;refine ⟨ι,τ,h,S,Rh,cj o λd h1 ι1 H1 v g1 r1 hr1 o1=>?_⟩
 cases r1 with
 | bl b=>exact ⟨b,rfl,o1 ι1 H1 b (.refl _ _) rfl hr1⟩
 | _=>exact o1.elim
theorem j6{op:CmpOp}{r:R2}{g:D->D->Hd->R D}(ho:OpR X (compareOp op) r)(hs:vh X.K g r)(ha:ME X E a fa)(hb:ME X E b fb)(hm:behindInMarks op b=false):MT X E (.Compare a [op] [b] pos) (sT (s2 g fa fb)) :=
 PT.weak (adf ho ha hb hm) λσ H Q q=>adw (λ_ _ _=>ajr hs) q
def sCh(g g':D->D->Hd->R D)(fa fb fc:SE):SE:=λτ h=>(fa τ h).bind λx h1=>(fb τ h1).bind λy h2=>(g x y h2).bind λz h3=>match z with
 | .bl true=>(fc τ h3).bind λw h4=>g' y w h4
 | .bl false=>.ok (.bl false) h3
 | _=>.no
theorem ahc{K:PySem.W.Frag}{g g':D->D->Hd->R D}{r r':R2}(hs:vh K g r)(hs':vh K g' r'){σ:St}{H:Hp}{Q:VK}(q:lift K E (qb K) (sCh g g' fa fb fc) σ H Q) :
  abv r r' (lift K E (qb K) fa) (lift K E (qb K) fb) (lift K E (qb K) fc) σ H Q:=by
 obtain ⟨ι,τ,h,S,Rh,o⟩:=q;refine ⟨ι,τ,h,S,Rh,cj o λd h1 ι1 H1 v g1 r1 hr1 o1=>?_⟩;refine ⟨ι1,τ,h1,S.mono g1,hr1,cj o1 λd2 h2 ι2 H2 u g2 r2 hr2 o2=>?_⟩;refine hs E ι2 H2 h2 v u d d2 _ (r1.mono g2) r2 hr2 (cj o2 λd3 h3 ι3 H3 z g3 r3 hr3 o3=>?_)
 cases r3 with
 | bl k =>
  refine ⟨k,rfl,?_⟩
  cases k with
  | true =>
   rw [if_pos rfl];refine ⟨ι3,τ,h3,((S.mono g1).mono g2).mono g3,hr3,cj o3 λd4 h4 ι4 H4 w g4 r4 hr4 o4=>?_⟩;exact hs' E ι4 H4 h4 u w d2 d4 Q ((r2.mono g3).mono g4) r4 hr4 o4
  | false =>
   rw [if_neg Bool.false_ne_true];exact o3 ι3 H3 (.bl false) (.refl _ _) (.bl false) hr3
 | _=>exact o3.elim
theorem aan{op op':CmpOp}{r r':R2}{g g':D->D->Hd->R D}(ho:OpR X (compareOp op) r)(ho':OpR X (compareOp op') r')(hs:vh X.K g r)(hs':vh X.K g' r')(ha:ME X E a fa)(hb:ME X E b fb)(hc:ME X E c fc)
  (hm:lastMarks [op,op'] [b,c]=false:=by with_unfolding_all rfl):ME X E (.Compare a [op,op'] [b,c] pos) (sCh g g' fa fb fc) :=
 PE.weak (aa6 ho ho' ha hb hc hm) λσ H Q q=>ahc hs hs' q
def tru(d:D)(h:Hd):R Bool:=match d with
 | .non=>.ok false h
 | .bl b=>.ok b h
 | .int i=>.ok (i != 0) h
 | .str x=>if x.length<=LINE then .ok ((x.length:Int) != 0) h else .no
 | .tup xs=>.ok (!xs.isEmpty) h
 | .rol xs=>.ok (!xs.isEmpty) h
 | .ref i=>match h[i]? with
  | some (.lst xs)=>.ok (!xs.isEmpty) h
  | some (.dK kvs)=>.ok (!kvs.isEmpty) h
  | _=>.no
 | _=>.no
theorem Reps.emp{K:PySem.W.Frag}{ι:List Addr}{H:Hp}{vs:List V}{ds:List D}(r:Reps K ι H vs ds):vs.isEmpty=ds.isEmpty:=by cases r<;>rfl
theorem KRep.emp{κ:Type}{K:PySem.W.Frag}{ι:List Addr}{H:Hp}{us:List (κ × V)}{kvs:List (κ × D)}(r:KRep K ι H us kvs):us.isEmpty=kvs.isEmpty:=by
 have:=congrArg List.length r.1
 cases us<;>cases kvs<;>simp at this ⊢
theorem adx{K:PySem.W.Frag}{ι:List Addr}{H:Hp}{h:Hd}{x:V}{d:D}{Q:Bool->Hp->Prop}(r:Rep K ι H x d)(hr:HRep K ι H h)(o:out K E ajq ι H (tru d h) Q):∃ k,akh K x H k/\Q k H:=by
 cases r with
 | non=>exact ⟨false,rfl,o ι H _ (.refl _ _) rfl hr⟩
 | bl b=>exact ⟨b,rfl,o ι H _ (.refl _ _) rfl hr⟩
 | int i=>exact ⟨_,rfl,o ι H _ (.refl _ _) rfl hr⟩
 | str x =>
  by_cases hl:x.length<=LINE
  ·simp only [tru,if_pos hl] at o;exact ⟨_,⟨ll hl,rfl⟩,o ι H _ (.refl _ _) rfl hr⟩
  ·simp only [tru,if_neg hl] at o;exact o.elim
 | ty n=>exact o.elim
 | rod _ _ _=>exact o.elim
 | scr _ _=>exact o.elim
 | rdT _ _ _=>exact o.elim
 | exc _ _ _=>exact o.elim
 | tup e rs=>exact ⟨_, .inr (.inl ⟨_,SqT.of e,rfl⟩),by rw [rs.emp];exact o ι H _ (.refl _ _) rfl hr⟩
 | rol e rs=>exact ⟨_, .inl ⟨_,e.l,rfl⟩,by rw [rs.emp];exact o ι H _ (.refl _ _) rfl hr⟩
 | @ref a i e =>
  obtain ⟨ob,h1,h2⟩:=hr.at e;simp only [tru,h1] at o
  cases ob with
  | lst xs =>
   obtain ⟨vs,h3,h4⟩:=h2;exact ⟨_, .inl ⟨_,SqL.of h3,rfl⟩,by rw [h4.emp];exact o ι H _ (.refl _ _) rfl hr⟩
  | dK kvs =>
   obtain ⟨us,h3,h4⟩:=h2;exact ⟨_, .inr (.inr ⟨_,h3,rfl⟩),by rw [h4.emp];exact o ι H _ (.refl _ _) rfl hr⟩
  | dT kvs=>exact o.elim
def yt(f:SE):ST:=λτ h=>(f τ h).bind tru
theorem m5(ha:ME X E a fa)(he:∀ whole,isTrue a X.env whole=(do let v <-whole;standAt a.pos;holding [v] (truthy v)):=by intro _;rfl):MT X E a (yt fa):=by
 refine PT.weak (aa7 ha he) λσ H Q ⟨ι,τ,h,S,Rh,o⟩=>?_;exact ⟨ι,τ,h,S,Rh,cj o λd h1 ι1 H1 v g1 r1 hr1 o1=>adx r1 hr1 o1⟩
def a3m(f g:ST):ST:=λτ h=>(f τ h).bind λb h1=>if b=true then g τ h1 else .ok false h1
def sOr(f g:ST):ST:=λτ h=>(f τ h).bind λb h1=>if b=true then .ok true h1 else g τ h1
def a09(f:ST):ST:=λτ h=>(f τ h).bind λb h1=>.ok (!b) h1
variable{ga gb:ST}
theorem a3x(ha:MT X E a ga):MW X E (.BoolOp .And [a] pos) ga:=ad7 ha
theorem uv(ha:MT X E a ga):MW X E (.BoolOp .Or [a] pos) ga:=ag8 ha
theorem a5e{rest:List Expr}(ha:MT X E a ga)(hb:MW X E (.BoolOp .And (b::rest) pos) gb):MW X E (.BoolOp .And (a::b::rest) pos) (a3m ga gb):=by
 refine PW.weak (ag9 ha hb) λσ H Q ⟨ι,τ,h,S,Rh,o⟩=>?_;refine ⟨ι,τ,h,S,Rh,cj o λd h1 ι1 H1 v g1 r1 hr1 o1=>?_⟩;cases r1
 cases d with
 | true=>exact ⟨ι1,τ,h1,S.mono g1,hr1,o1⟩
 | false=>exact o1 ι1 H1 false (.refl _ _) rfl hr1
theorem yq{rest:List Expr}(ha:MT X E a ga)(hb:MW X E (.BoolOp .Or (b::rest) pos) gb):MW X E (.BoolOp .Or (a::b::rest) pos) (sOr ga gb):=by
 refine PW.weak (ajy ha hb) λσ H Q ⟨ι,τ,h,S,Rh,o⟩=>?_;refine ⟨ι,τ,h,S,Rh,cj o λd h1 ι1 H1 v g1 r1 hr1 o1=>?_⟩;cases r1
 cases d with
 | true=>exact o1 ι1 H1 true (.refl _ _) rfl hr1
 | false=>exact ⟨ι1,τ,h1,S.mono g1,hr1,o1⟩
theorem qd(ha:MT X E a ga):MT X E (.UnaryOp .Not a pos) (a09 ga):=by
 refine PT.weak (aga ha) λσ H Q ⟨ι,τ,h,S,Rh,o⟩=>?_;refine ⟨ι,τ,h,S,Rh,cj o λd h1 ι1 H1 v g1 r1 hr1 o1=>?_⟩;cases r1
 exact o1 ι1 H1 _ (.refl _ _) rfl hr1
def zz(f g:SE):SE:=λτ h=>(f τ h).bind λd h1=>match d with | .bl true=>g τ h1 | .bl false=>.ok (.bl false) h1 | _=>.no
def alr(f g:SE):SE:=λτ h=>(f τ h).bind λd h1=>match d with | .bl true=>.ok (.bl true) h1 | .bl false=>g τ h1 | _=>.no
def a2s(f:SE):SE:=λτ h=>(f τ h).bind λd h1=>match d with | .bl b=>.ok (.bl (!b)) h1 | _=>.no
theorem ac3{op}(ha:ME X E a fa):ME X E (.BoolOp op [a] pos) fa:=agb ha
theorem ac4{rest:List Expr}(ha:ME X E a fa)(hb:ME X E (.BoolOp .And (b::rest) pos) fb):ME X E (.BoolOp .And (a::b::rest) pos) (zz fa fb):=by
 refine PE.weak (agc ha hb) λσ H Q ⟨ι,τ,h,S,Rh,o⟩=>?_;refine ⟨ι,τ,h,S,Rh,cj o λd h1 ι1 H1 v g1 r1 hr1 o1=>?_⟩
 cases r1 with
 | bl k =>
  refine ⟨k,rfl,?_⟩
  cases k with
  | true=>exact ⟨ι1,τ,h1,S.mono g1,hr1,o1⟩
  | false=>exact o1 ι1 H1 _ (.refl _ _) (.bl _) hr1
 | _=>exact o1.elim
theorem ahd(ha:ME X E a fa):ME X E (.UnaryOp .Not a pos) (a2s fa):=by
 refine PE.weak (agd ha) λσ H Q ⟨ι,τ,h,S,Rh,o⟩=>?_;refine ⟨ι,τ,h,S,Rh,cj o λd h1 ι1 H1 v g1 r1 hr1 o1=>?_⟩
 cases r1 with
 | bl k=>exact ⟨k,rfl,o1 ι1 H1 _ (.refl _ _) (.bl _) hr1⟩
 | _=>exact o1.elim
def a81(c:ST)(f g:SE):SE:=λτ h=>(c τ h).bind λb h1=>if b=true then f τ h1 else g τ h1
theorem a82(hc:MT X E c ga)(ha:ME X E a fa)(hb:ME X E b fb):ME X E (.IfExp c a b pos) (a81 ga fa fb):=by
 refine PE.weak (aa0 hc ha hb) λσ H Q ⟨ι,τ,h,S,Rh,o⟩=>?_;refine ⟨ι,τ,h,S,Rh,cj o λd h1 ι1 H1 v g1 r1 hr1 o1=>?_⟩;cases r1
 cases d with
 | true=>exact ⟨ι1,τ,h1,S.mono g1,hr1,o1⟩
 | false=>exact ⟨ι1,τ,h1,S.mono g1,hr1,o1⟩
def dq:SA:=λ_ h=>.ok [] h
def aj(f:SE)(g:SA):SA:=λτ h=>(f τ h).bind λd h1=>(g τ h1).bind λds h2=>.ok (d::ds) h2
variable{es:List Expr}{ka:SA}
theorem au:MA X E [] dq:=PA.weak a4x λσ H Q ⟨ι,τ,h,S,Rh,o⟩=>o ι H [] (.refl _ _) .nil Rh
theorem aa(ha:ME X E e fa)(hr:MA X E es ka)(hs:starEach (e::es) X.env=(false,eval e X.env)::starEach es X.env:=by rfl):MA X E (e::es) (aj fa ka):=by
 refine PA.weak (t7 ha hr hs) λσ H Q ⟨ι,τ,h,S,Rh,o⟩=>?_;refine ⟨ι,τ,h,S,Rh,cj o λd h1 ι1 H1 v g1 r1 hr1 o1=>?_⟩;refine ⟨ι1,τ,h1,S.mono g1,hr1,cj o1 λd2 h2 ι2 H2 u g2 r2 hr2 o2=>?_⟩;exact o2 ι2 H2 _ (.refl _ _) (.cons (r1.mono g2) r2) hr2
def wy(ds:List D)(h:Hd):R D:=if ds.length<=LINE then .ok (.tup ds) h else .no
def a83(ds:List D)(h:Hd):R D:=if ds.length<=LINE then .ok (.ref h.length) (h++[.lst ds]) else .no
def sA(g:List D->Hd->R D)(k:SA):SE:=λτ h=>(k τ h).bind g
theorem a1d{K:PySem.W.Frag}{ι:List Addr}{H:Hp}{h:Hd}{vs:List V}{ds:List D}{Q:VK}(r:Reps K ι H vs ds)(hr:HRep K ι H h)(o:out K E (qb K) ι H (.ok (.tup ds) h) Q):∀ p,H p=none->Q (.ref p) (upd H p (.tup vs)):=λp hp =>
 o ι _ _ (vg hp _) (.tup jh (r.mono (vg hp _))) (hr.aside hp _)
theorem lu{K:PySem.W.Frag}{ι:List Addr}{H:Hp}{h:Hd}{vs:List V}{ds:List D}{Q:VK}(r:Reps K ι H vs ds)(hr:HRep K ι H h)(o:out K E (qb K) ι H (.ok (.ref h.length) (h++[.lst ds])) Q):∀ p,H p=none->Q (.ref p) (upd H p (.lst vs)):=λp hp =>
 o (ι++[p]) _ _ (a5c hp _) (.ref (by rw [List.getElem?_append_right (by rw [hr.len];exact Nat.le_refl _),hr.len];simp)) (hr.add hp ⟨_,jh,r.mono (a5c hp _)⟩)
theorem a84{K:PySem.W.Frag}{ι:List Addr}{H:Hp}{h:Hd}{i:Nat}{a:Addr}{vs:List V}{ds:List D}{d:D}{v:V}{Q:VK}(r:Reps K ι H vs ds)(hr:HRep K ι H h)(hi:ι[i]? = some a)(rd:Rep K ι H v d)(o:out K E (qb K) ι H (.ok d (h.set i (.lst ds))) Q):Q v (upd H a (.lst vs)) :=
 o ι _ _ (a0i hr hi _) (rd.mono (a0i hr hi _)) (hr.put hi ⟨_,jh,r.mono (a0i hr hi _)⟩)
theorem u5{x1}(h:MA X E es ka):ME X E (.Tuple es x1 pos) (sA wy ka):=by
 refine PE.weak (abw h) λσ H Q ⟨ι,τ,h,S,Rh,o⟩=>?_;refine ⟨ι,τ,h,S,Rh,cj o λd h1 ι1 H1 v g1 r1 hr1 o1=>?_⟩;unfold wy at o1
 split at o1
 ·rename_i hl;exact ⟨ll (by rw [r1.len];exact hl),a1d r1 hr1 o1⟩
 ·exact o1.elim
theorem a2t(h:MA X E es ka):ME X E (.List es pos) (sA a83 ka):=by
 refine PE.weak (agv h) λσ H Q ⟨ι,τ,h,S,Rh,o⟩=>?_;refine ⟨ι,τ,h,S,Rh,cj o λd h1 ι1 H1 v g1 r1 hr1 o1=>?_⟩;unfold a83 at o1
 split at o1
 ·rename_i hl;exact ⟨ll (by rw [r1.len];exact hl),lu r1 hr1 o1⟩
 ·exact o1.elim
theorem lr{x:Str}{p:Pos}{id:String}{r:List V->Hp->VK->Prop}{g:List D->Hd->R D}(hc:CallR X (.builtin id) r)(hs:a80 X.K g r)(hg:Gl X x)(hm:X.mg x=none)(hv:bootBuiltins x=some (.builtin id))(ha:MA X E (e::es) ka)(hn:x ≠ "__name__":=by decide)(hdb:(x == ("__debug__" : Str))=false:=by decide)
  (he:starEach (e::es) X.env=(false,eval e X.env)::starEach es X.env:=by rfl) (hpl:(backTo pos (starEach es X.env)).any (·.1)=false:=by rfl):ME X E (.Call (.Name x p) (e::es) [] pos) (sA g ka):=by
 refine PE.weak (a0z hc hg hm hv ha hn hdb he hpl) λσ H Q ⟨ι,τ,h,S,Rh,o⟩=>?_;exact ⟨ι,τ,h,S,Rh,cj o λd h1 ι1 H1 v g1 r1 hr1 o1=>hs E ι1 H1 h1 v d Q r1 hr1 o1⟩
theorem a1e{x:Str}{p:Pos}{id:String}{r:List V->Hp->VK->Prop}{g:List D->Hd->R D}(hc:CallR X (.type id) r)(hs:a80 X.K g r)(hg:Gl X x)(hm:X.mg x=none)(hv:bootBuiltins x=some (.type id))(ha:MA X E (e::es) ka)(hn:x ≠ "__name__":=by decide)(hdb:(x == ("__debug__" : Str))=false:=by decide)
  (he:starEach (e::es) X.env=(false,eval e X.env)::starEach es X.env:=by rfl) (hpl:(backTo pos (starEach es X.env)).any (·.1)=false:=by rfl):ME X E (.Call (.Name x p) (e::es) [] pos) (sA g ka):=by
 refine PE.weak (a7q hc hg hm hv ha hn hdb he hpl) λσ H Q ⟨ι,τ,h,S,Rh,o⟩=>?_;exact ⟨ι,τ,h,S,Rh,cj o λd h1 ι1 H1 v g1 r1 hr1 o1=>hs E ι1 H1 h1 v d Q r1 hr1 o1⟩
end
def j5(f g:SS):SS:=λτ h=>match f τ h with | .nx τ1 h1=>g τ1 h1 | r=>r
def sNx:SS:=λτ h=>.nx τ h
def um(f:SE):SS:=λτ h=>(f τ h).fl λd h1=>.rt d h1
def a1f(f:SE):SS:=λτ h=>(f τ h).fl λ_ h1=>.nx τ h1
def sIf(c:ST)(f g:SS):SS:=λτ h=>(c τ h).fl λb h1=>if b=true then f τ h1 else g τ h1
def jx(i:Nat)(f:SE):SS:=λτ h=>(f τ h).fl λd h1=>.nx (τ.set i (some d)) h1
def ady(i:Nat)(g:D->D->Hd->R D)(f:SE):SS:=λτ h=>match τ[i]? with
 | some (some x)=>(f τ h).fl λy h1=>(g x y h1).fl λz h2=>.nx (τ.set i (some z)) h2
 | _=>.no
section
variable{X:Cx}{E:XD}{e o:Expr}{es:List Expr}{fa fb fc:SE}{ga:ST}{st:Stmt}{sts a b:List Stmt}{f g:SS}{pos:Pos}
theorem jm:MSs X E [] sNx:=PSs.weak ad8 λN σ H ⟨ι,τ,h,S,Rh,o⟩=>o ι H σ (.refl _ _) S Rh
theorem ahe{K:PySem.W.Frag}{N:Ends}{σ:St}{H:Hp}(q:zy K E (j5 f g) N σ H):zy K E f { N with nx:=zy K E g N } σ H:=by
 obtain ⟨ι,τ,h,S,Rh,o⟩:=q;refine ⟨ι,τ,h,S,Rh,?_⟩;unfold j5 at o
 cases hf:f τ h with
 | nx τ1 h1 =>
  rw [hf] at o;exact λι1 H1 σ1 g1 S1 R1=>⟨ι1,τ1,h1,S1,R1,jf o g1⟩
 | _=>rw [hf] at o;exact o
theorem bc(h1:MS X E st f)(h2:MSs X E sts g):MSs X E (st::sts) (j5 f g):=PSs.weak (aa1 h1 h2) λN σ H q=>ahe q
theorem fu(h1:MS X E st f):MSs X E [st] f:=ad9 h1
theorem jr(he:ME X E e fa):MS X E (.Return (some e) pos) (um fa):=by
 refine PS.weak (age he) λN σ H ⟨ι,τ,h,S,Rh,o⟩=>?_;exact ⟨ι,τ,h,S,Rh,jq o λd h1 ι1 H1 v g1 r1 hr1 o1=>o1 ι1 H1 v (.refl _ _) r1 hr1⟩
theorem a1g(he:ME X E e fa)(hs:swapsWith e none pos.line X.env=pure false:=by rfl):MS X E (.Expr e pos) (a1f fa):=by
 refine PS.weak (ada he hs) λN σ H ⟨ι,τ,h,S,Rh,o⟩=>?_;exact ⟨ι,τ,h,S,Rh,jq o λd h1 ι1 H1 v g1 r1 hr1 o1=>o1 ι1 H1 σ (.refl _ _) (S.mono g1) hr1⟩
theorem uo{c:Expr}(hc:MT X E c ga)(ha:MSs X E a f)(hb:MSs X E b g):MS X E (.If c a b pos) (sIf ga f g):=by
 refine PS.weak (ak3 hc ha hb) λN σ H ⟨ι,τ,h,S,Rh,o⟩=>?_;refine ⟨ι,τ,h,S,Rh,jq o λd h1 ι1 H1 v g1 r1 hr1 o1=>?_⟩;cases r1
 cases d with
 | true=>exact ⟨ι1,τ,h1,S.mono g1,hr1,o1⟩
 | false=>exact ⟨ι1,τ,h1,S.mono g1,hr1,o1⟩
theorem j4{i:Nat}{x:Str}{pos':Pos}(hN:X.N.Nodup)(hi:X.N[i]? = some x)(hx:Loc X.env.scope x)(he:ME X E e fa)(hs:swapsWith e (some (.Name x pos')) pos.line X.env=pure false:=by rfl)(hf:X.fn x=true\/X.env.scope.names.lookup x=some .local:=by first | exact .inl rfl | exact .inr rfl | assumption) :
  MS X E (.Assign [.Name x pos'] e pos) (jx i fa):=by
 refine PS.weak (agh hN hi hx he hs hf) λN σ H ⟨ι,τ,h,S,Rh,o⟩=>?_;exact ⟨ι,τ,h,S,Rh,jq o λd h1 ι1 H1 v g1 r1 hr1 o1=>o1 ι1 H1 _ (.refl _ _) ((S.mono g1).set r1 i) hr1⟩
theorem ahf{i:Nat}{x:Str}{op:Operator}{r:R2}{gg:D->D->Hd->R D}{pos':Pos}(hN:X.N.Nodup)(hi:X.N[i]? = some x)(hx:Loc X.env.scope x)(ho:OpR X (inplaceOp op) r)(hs:vh X.K gg r)(he:ME X E e fa)(hf:X.fn x=true\/X.env.scope.names.lookup x=some .local:=by first | exact .inl rfl | exact .inr rfl | assumption) :
  MS X E (.AugAssign (.Name x pos') op e pos) (ady i gg fa):=by
 refine PS.weak (agi hN hi hx he ho hf) λN σ H ⟨ι,τ,h,S,Rh,o⟩=>?_;unfold ady at o
 split at o
 ·rename_i d ed;obtain ⟨v,h1,h2⟩:=S.val i d ed;refine ⟨v,h1,ι,τ,h,S,Rh,jq o λd2 h3 ι1 H1 u g1 r1 hr1 o1=>?_⟩;refine hs E ι1 H1 h3 v u d d2 _ (h2.mono g1) r1 hr1 (jq o1 λd3 h4 ι2 H2 z g2 r2 hr2 o2=>?_);exact o2 ι2 H2 _ (.refl _ _) (((S.mono g1).mono g2).set r2 i) hr2
 ·exact o.elim
def put(o k v:D)(h:Hd):Option Hd:=match o,k with
 | .ref i, .int j=>match h[i]? with
  | some (.lst xs)=>match ixN xs.length j with
   | some m=>some (h.set i (.lst (xs.set m v)))
   | none=>none
  | _=>none
 | _,_=>none
theorem a85{K:PySem.W.Frag}{ι:List Addr}{H:Hp}{h h':Hd}{o k v:V}{od kd vd:D}{Q:Hp->Prop}(r1:Rep K ι H o od)(r2:Rep K ι H k kd)(r3:Rep K ι H v vd)(hr:HRep K ι H h)(e:put od kd vd h=some h')
  (q:∀ H',Gr ι H ι H'->HRep K ι H' h'->Q H'):ah2 o k v H Q:=by
 cases r1 with
 | @ref a i ha =>
  cases r2 with
  | int j =>
   obtain ⟨ob,h1,h2⟩:=hr.at ha
   cases ob with
   | lst xs =>
    obtain ⟨vs,h3,h4⟩:=h2;simp only [put,h1] at e
    cases hm:ixN xs.length j with
    | none=>rw [hm] at e;cases e
    | some m =>
     rw [hm] at e;cases e
     exact ⟨a,vs,j,m,rfl,rfl,h3,by rw [h4.len];exact hm,q _ (a0i hr ha _) (hr.put ha ⟨_,jh,(h4.set r3 m).mono (a0i hr ha _)⟩)⟩
   | dK _=>simp only [put,h1] at e;cases e
   | dT _=>simp only [put,h1] at e;cases e
  | _=>cases e
 | _=>cases e
def a86(fe fo fi:SE):SS:=λτ h=>(fe τ h).fl λv h1=>(fo τ h1).fl λo h2=>(fi τ h2).fl λk h3=>match put o k v h3 with | some h4=>.nx τ h4 | none=>.no
theorem ac6{i:Expr}{pos':Pos}(he:ME X E e fa)(ho:ME X E o fb)(hi:ME X E i fc)
  (hs:swapsWithSole [.Subscript o i pos'] e pos.line X.env=pure false:=by rfl) (hw:swappedStores [.Subscript o i pos'] e X.env=pure none:=by rfl)
  (h1:(assignEach [.Subscript o i pos'] X.env).map (·.2)=[assign (.Subscript o i pos') X.env]:=by rfl)
  (ha:∀ v,assign (.Subscript o i pos') X.env v=(do
   let ov <-holding [v] (eval o X.env)
   let iv <-holding [v,ov] (eval i X.env)
   standAt pos'
   holding [v,ov,iv] (setItem ov iv v)
   release [v,ov,iv] []):=by intro _;rfl):MS X E (.Assign [.Subscript o i pos'] e pos) (a86 fa fb fc):=by
 refine PS.weak (abu he (agg ho hi set_list ha) hs hw h1) λN σ H ⟨ι,τ,h,S,Rh,oo⟩=>?_;refine ⟨ι,τ,h,S,Rh,jq oo λd h1 ι1 H1 v g1 r1 hr1 o1=>?_⟩;refine ⟨ι1,τ,h1,S.mono g1,hr1,jq o1 λd2 h2 ι2 H2 u g2 r2 hr2 o2=>?_⟩;refine ⟨ι2,τ,h2,(S.mono g1).mono g2,hr2,jq o2 λd3 h3 ι3 H3 w g3 r3 hr3 o3=>?_⟩
 cases hp:put d2 d3 d h3 with
 | none=>rw [hp] at o3;exact o3.elim
 | some h4 =>
  rw [hp] at o3;exact a85 (r2.mono g3) r3 ((r1.mono g2).mono g3) hr3 hp λH' g4 hr4=>o3 ι3 H' σ g4 ((((S.mono g1).mono g2).mono g3).mono g4) hr4
def sWh(c:ST)(f:SS):Nat->SS
 | 0,_,_=>.no
 | n+1,τ,h=>(c τ h).fl λb h1=>if b=true then (match f τ h1 with | .nx τ2 h2=>sWh c f n τ2 h2 | .ct τ2 h2=>sWh c f n τ2 h2 | .bk τ2 h2=>.nx τ2 h2 | r=>r) else .nx τ h1
theorem aao(n:Nat){c:Expr}(hp:PassesOwn (model X.prog X.w) X.A X.env X.xe)(hc:MT X E c ga)(hb:MSs X E a f):MS X E (.While c a [] pos) (sWh ga f n):=by
 refine PS.weak (aa2 hp hc hb) λN σ H q=>?_;refine ⟨λm σ H=>zy X.K E (sWh ga f m) N σ H,⟨n,q⟩,?_⟩
 rintro m σ1 H1 ⟨ι,τ,h,S,Rh,o⟩
 cases m with
 | zero=>exact o.elim
 | succ m =>
  refine ⟨ι,τ,h,S,Rh,jq o λd h1 ι1 H1 v g1 r1 hr1 o1=>?_⟩;cases r1
  cases d with
  | false=>exact o1 ι1 H1 _ (.refl _ _) (S.mono g1) hr1
  | true =>
   refine ⟨λσ' H'=>zy X.K E (sWh ga f m) N σ' H',λσ' H' q=>⟨m,Nat.lt_succ_self m,q⟩,ι1,τ,h1,S.mono g1,hr1,?_⟩;rw [if_pos rfl] at o1
   cases hf:f τ h1 with
   | nx τ2 h2=>rw [hf] at o1;exact λι2 H2 σ2 g2 S2 R2=>⟨ι2,τ2,h2,S2,R2,jf o1 g2⟩
   | ct τ2 h2=>rw [hf] at o1;exact λι2 H2 σ2 g2 S2 R2=>⟨ι2,τ2,h2,S2,R2,jf o1 g2⟩
   | bk τ2 h2=>rw [hf] at o1;exact o1
   | rt d h2=>rw [hf] at o1;exact o1
   | ex c h2=>rw [hf] at o1;exact o1
   | no=>rw [hf] at o1;exact o1.elim
end
abbrev SG:=D->Sd->Hd->Fl
def adz(K:PySem.W.Frag)(E:XD)(g:SG):TG:=λv σ H Q=>∃ ι τ h d,Rep K ι H v d/\SRep K ι H σ τ/\HRep K ι H h/\a9w K E ι H (g d τ h) { nx:=Q,rt:=λ_ _=>False }
abbrev MG(X:Cx)(E:XD)(tg:Expr)(g:SG):Prop:=PG X tg (adz X.K E g)
abbrev SGs:=List D->Sd->Hd->Fl
def a87(K:PySem.W.Frag)(E:XD)(g:SGs):TGs:=λvs σ H Q=>∃ ι τ h ds,Reps K ι H vs ds/\SRep K ι H σ τ/\HRep K ι H h/\a9w K E ι H (g ds τ h) { nx:=Q,rt:=λ_ _=>False }
abbrev MGs(X:Cx)(E:XD)(tg:List Expr)(g:SGs):Prop:=PGs X tg (a87 X.K E g)
theorem PG.weak{X:Cx}{e:Expr}{t t':TG}(h:PG X e t)(i:∀ v σ H Q,t' v σ H Q->t v σ H Q):PG X e t':=λpins s σ H v u Q I r q=>h pins s σ H v u Q I r (i _ _ _ _ q)
theorem PGs.weak{X:Cx}{e:List Expr}{t t':TGs}(h:PGs X e t)(i:∀ v σ H Q,t' v σ H Q->t v σ H Q):PGs X e t':=λpins s σ H v u Q I r q=>h pins s σ H v u Q I r (i _ _ _ _ q)
def kN(i:Nat):SG:=λd τ h=>.nx (τ.set i (some d)) h
def ajs:SGs:=λds τ h=>match ds with | []=>.nx τ h | _=>.no
def a3y(g:SG)(k:SGs):SGs:=λds τ h=>match ds with | d::r=>(match g d τ h with | .nx τ1 h1=>k r τ1 h1 | _=>.no) | []=>.no
def ahg(n:Nat)(k:SGs):SG:=λd τ h=>match d with | .tup ds=>if ds.length=n then k ds τ h else .no | _=>.no
section
variable{X:Cx}{E:XD}{e:Expr}{es:List Expr}{fa:SE}{pos:Pos}{g:SG}{ks:SGs}
theorem u6{i:Nat}{x:Str}(hN:X.N.Nodup)(hi:X.N[i]? = some x)(hx:Loc X.env.scope x)(hf:X.fn x=true\/X.env.scope.names.lookup x=some .local:=by first | exact .inl rfl | exact .inr rfl | assumption):MG X E (.Name x pos) (kN i) :=
 PG.weak (mz hN hi hx hf) λv σ H Q ⟨ι,τ,h,d,r,S,Rh,o⟩=>o ι H _ (.refl _ _) (S.set r i) Rh
theorem ae0:MGs X E [] ajs:=by
 refine PGs.weak a0y λvs σ H Q ⟨ι,τ,h,ds,r,S,Rh,o⟩=>?_
 cases r with
 | nil=>exact ⟨rfl,o ι H σ (.refl _ _) S Rh⟩
 | cons _ _=>exact o.elim
theorem aap{K:PySem.W.Frag}{vs:List V}{σ:St}{H:Hp}{Q:St->Hp->Prop}(q:a87 K E (a3y g ks) vs σ H Q):a3n (adz K E g) (a87 K E ks) vs σ H Q:=by
 obtain ⟨ι,τ,h,ds,r,S,Rh,o⟩:=q
 cases r with
 | nil=>exact o.elim
 | @cons v d vs ds r rs =>
  refine ⟨v,vs,rfl,ι,τ,h,d,r,S,Rh,?_⟩;simp only [a3y] at o
  cases hg:g d τ h with
  | nx τ1 h1 =>
   rw [hg] at o;exact λι1 H1 σ1 g1 S1 R1=>⟨ι1,τ1,h1,ds,rs.mono g1,S1,R1,jf o g1⟩
  | _=>rw [hg] at o;exact o.elim
theorem ahh{k n:Nat}(hc:X.calm=true)(h:MGs X E es ks)(hn:(assignEach es X.env).length=n:=by rfl)(hst:(assignEach es X.env).findIdx? (·.1)=none:=by rfl):MG X E (.Tuple es k pos) (ahg n ks):=by
 refine PG.weak (a4v hc h hn hst) λv σ H Q ⟨ι,τ,h,d,r,S,Rh,o⟩=>?_
 cases r with
 | @tup a vs xs e rs =>
  simp only [ahg] at o
  by_cases hl:xs.length=n
  ·rw [if_pos hl] at o;exact ⟨a,vs,rfl,SqT.of e,by rw [rs.len];exact hl,ι,τ,h,xs,rs,S,Rh,o⟩
  ·rw [if_neg hl] at o;exact o.elim
 | _=>exact o.elim
def afr(f:SE)(g:SG):SS:=λτ h=>(f τ h).fl λd h1=>match g d τ h1 with | .nx τ2 h2=>.nx τ2 h2 | _=>.no
theorem ahi{tg:Expr}(he:ME X E e fa)(hg:MG X E tg g)(hs:swapsWithSole [tg] e pos.line X.env=pure false:=by rfl)(hw:swappedStores [tg] e X.env=pure none:=by rfl)
  (h1:(assignEach [tg] X.env).map (·.2)=[assign tg X.env]:=by rfl):MS X E (.Assign [tg] e pos) (afr fa g):=by
 refine PS.weak (abu he hg hs hw h1) λN σ H ⟨ι,τ,h,S,Rh,o⟩=>?_;refine ⟨ι,τ,h,S,Rh,jq o λd h1 ι1 H1 v g1 r1 hr1 o1=>⟨ι1,τ,h1,d,r1,S.mono g1,hr1,?_⟩⟩
 cases hg:g d τ h1 with
 | nx τ1 h1=>rw [hg] at o1;exact o1
 | _=>rw [hg] at o1;exact o1.elim
end
structure Itm where
 xs:List D
 ck:Hd->Prop
def ahj(K:PySem.W.Frag)(ι0:List Addr)(H0:Hp)(J:It)(it:Itm):Prop:=∀ ι H h,Gr ι0 H0 ι H->HRep K ι H h->it.ck h->
 (∀ (i:Nat) (d:D),it.xs[i]? = some d->J.go i H/\∀ x H',J.yld i H x H'->Gr ι H ι H'/\Rep K ι H' x d/\HRep K ι H' h)/\J.stop it.xs.length H
abbrev als(K:PySem.W.Frag):List Addr->Hp->It->Itm->Prop:=λι H J it=>ahj K ι H J it
abbrev SI:=Sd->Hd->R Itm
abbrev MI(X:Cx)(E:XD)(tg iter:Expr)(f:SI):Prop:=PI X tg iter (lift X.K E (als X.K) f)
def uw(x:Str):List D:=x.cps.toList.map λc=>D.str ⟨#[c]⟩
def afs(d:D)(h:Hd):R Itm:=match d with
 | .tup xs=>.ok ⟨xs,λ_=>True⟩ h
 | .rol xs=>.ok ⟨xs,λ_=>True⟩ h
 | .str x=>.ok ⟨uw x,λ_=>True⟩ h
 | .ref i=>match h[i]? with
  | some (.lst xs)=>.ok ⟨xs,λh=>h[i]? = some (.lst xs)⟩ h
  | _=>.no
 | _=>.no
def sIt(f:SE):SI:=λτ h=>(f τ h).bind afs
theorem ac8{K:PySem.W.Frag}{ι0:List Addr}{H0:Hp}{a:Addr}{xs:List D}{ck:Hd->Prop}(hl:∀ ι H h,Gr ι0 H0 ι H->HRep K ι H h->ck h->∃ vs,SqL K H a vs/\Reps K ι H vs xs):ahj K ι0 H0 (Itl K a) ⟨xs,ck⟩:=by
 intro ι H h g hr c
 obtain ⟨vs,h1,h2⟩:=hl ι H h g hr c;refine ⟨λi d e=>?_,⟨vs,h1,by rw [h2.len];exact Nat.le_refl _⟩⟩
 obtain ⟨v,e1,r⟩:=h2.get e;refine ⟨⟨vs,v,h1,e1⟩,λx H' y=>?_⟩;obtain ⟨rfl,y⟩:=y;have:=y vs h1;rw [e1] at this;cases this
 exact ⟨.refl _ _,r,hr⟩
theorem yh{X:Cx}{E:XD}{tg l:Expr}{f:SE}(hl:ME X E l f):MI X E tg l (sIt f):=by
 intro pins s σ H Rr I ⟨ι,τ,h,S,Rh,o⟩
 unfold sIt at o
 cases hf:f τ h with
 | no=>rw [hf] at o;exact o.elim
 | ex c h1 =>
  rw [hf] at o;exact ac2 hl pins s σ H Rr I ⟨ι,τ,h,S,Rh,by rw [hf];exact o⟩
 | ok d h1 =>
  rw [hf] at o
  cases d with
  | tup xs =>
   refine agk hl pins s σ H Rr I ⟨ι,τ,h,S,Rh,?_⟩;rw [hf]
   intro ι1 H1 v g1 r1 hr1
   cases r1 with
   | @tup a vs _ e rs =>
    refine ⟨a,rfl,⟨vs,SqT.of e⟩,o ι1 H1 _ g1 ?_ hr1⟩
    intro ι2 H2 h2 g2 hr2 _
    have e2:=g2.tup _ _ e;have rs2:=rs.mono g2;refine ⟨λi d ed=>?_,⟨vs,SqT.of e2,by rw [rs2.len];exact Nat.le_refl _⟩⟩
    obtain ⟨v,e1,r⟩:=rs2.get ed;refine ⟨⟨vs,v,SqT.of e2,e1⟩,λx H' y=>?_⟩;obtain ⟨rfl,y⟩:=y;have:=y vs (SqT.of e2);rw [e1] at this;cases this
    exact ⟨.refl _ _,r,hr2⟩
  | rol xs =>
   refine a7f hl pins s σ H Rr I ⟨ι,τ,h,S,Rh,?_⟩;rw [hf]
   intro ι1 H1 v g1 r1 hr1
   cases r1 with
   | @rol a vs _ e rs =>
    refine ⟨a,rfl,⟨vs,e.l⟩,o ι1 H1 _ g1 ?_ hr1⟩;exact ac8 (λι2 H2 h2 g2 hr2 _=>⟨vs,(e.mono g2).l,rs.mono g2⟩)
  | str x =>
   refine ac2 hl pins s σ H Rr I ⟨ι,τ,h,S,Rh,?_⟩;rw [hf]
   intro ι1 H1 v g1 r1 hr1
   cases r1
   refine ⟨x,rfl,o ι1 H1 _ g1 ?_ hr1⟩
   intro ι2 H2 h2 g2 hr2 _
   refine ⟨λi d ed=>?_,by show (uw x).length=_;simp [uw]⟩
   simp only [uw,List.getElem?_map,Option.map_eq_some_iff] at ed;obtain ⟨c,ec,rfl⟩:=ed;refine ⟨by show i<x.cps.size;have:=(List.getElem?_eq_some_iff.mp ec).1;simpa using this,λy H' q=>?_⟩
   obtain ⟨rfl,c',ec',rfl⟩:=q;rw [ec] at ec';cases ec'
   exact ⟨.refl _ _, .str _,hr2⟩
  | ref i =>
   simp only [R.bind,afs] at o
   cases ho:h1[i]? with
   | none=>rw [ho] at o;exact o.elim
   | some ob =>
    rw [ho] at o
    cases ob with
    | dK _=>exact o.elim
    | dT _=>exact o.elim
    | lst xs =>
     refine a7f hl pins s σ H Rr I ⟨ι,τ,h,S,Rh,?_⟩;rw [hf]
     intro ι1 H1 v g1 r1 hr1
     cases r1 with
     | @ref a _ e =>
      obtain ⟨vs,e1,rs⟩:=hr1.obj i a _ e ho;refine ⟨a,rfl,⟨vs,SqL.of e1⟩,o ι1 H1 _ g1 ?_ hr1⟩;refine ac8 (λι2 H2 h2 g2 hr2 c=>?_);obtain ⟨us,e3,rs3⟩:=hr2.obj i a _ (g2.at e) c;exact ⟨us,SqL.of e3,rs3⟩
  | _=>exact o.elim
def rng(lo:Int)(n:Nat):List D:=(List.range n).map λi=>D.int (lo+(i:Nat))
def B62(j:Int):Prop := -(2 ^ 62)<=j/\j<2 ^ 62
instance (j:Int):Decidable (B62 j):=by unfold B62;exact inferInstance
def a1h(ds:List D)(h:Hd):R Itm:=match ds with
 | [.int j]=>if B62 j then .ok ⟨rng 0 j.toNat,λ_=>True⟩ h else .no
 | _=>.no
def aku(ds:List D)(h:Hd):R Itm:=match ds with
 | [.int i, .int j]=>if B62 i/\B62 j then .ok ⟨rng i (j - i).toNat,λ_=>True⟩ h else .no
 | _=>.no
def sRg(g:List D->Hd->R Itm)(k:SA):SI:=λτ h=>(k τ h).bind g
theorem ahk{K:PySem.W.Frag}{ι0:List Addr}{H0:Hp}(lo:Int)(n:Nat):ahj K ι0 H0 (Itr lo n) ⟨rng lo n,λ_=>True⟩:=by
 intro ι H h g hr _
 refine ⟨λi d ed=>?_,by show n<=(rng lo n).length;simp [rng]⟩
 simp only [rng,List.getElem?_map,Option.map_eq_some_iff] at ed;obtain ⟨j,ej,rfl⟩:=ed;obtain ⟨hj,e⟩:=List.getElem?_eq_some_iff.mp ej;simp at e hj;subst e;refine ⟨hj,λy H' q=>?_⟩;obtain ⟨rfl,rfl⟩:=q;exact ⟨.refl _ _, .int _,hr⟩
theorem a3z{X:Cx}{E:XD}{tg a:Expr}{k:SA}{p pos:Pos}(hg:Gl X "range")(hm:X.mg "range" = none)(ha:MA X E [a] k)(hs:starEach [a] X.env=[(false,eval a X.env)]:=by rfl):MI X E tg (.Call (.Name "range" p) [a] [] pos) (sRg a1h k):=by
 intro pins s σ H Rr I ⟨ι,τ,h,S,Rh,o⟩
 refine a7g hg hm ha hs pins s σ H Rr I ⟨ι,τ,h,S,Rh,cj o λds h1 ι1 H1 vs g1 r1 hr1 o1=>?_⟩;unfold a1h at o1
 split at o1
 ·rename_i j
  cases r1 with
  | cons r rs =>
   cases r;cases rs
   by_cases hb:B62 j
   ·rw [if_pos hb] at o1;exact ⟨j,rfl,hb.1,hb.2,o1 ι1 H1 _ (.refl _ _) (ahk 0 j.toNat) hr1⟩
   ·rw [if_neg hb] at o1;exact o1.elim
 ·exact o1.elim
open Classical in
noncomputable def forL(ck:Hd->Prop)(g:SG)(b:SS):List D->Sd->Hd->Fl
 | [],τ,h=>if ck h then .nx τ h else .no
 | x::xs,τ,h=>if ck h then (match g x τ h with
   | .nx τ1 h1=>(match b τ1 h1 with
    | .nx τ2 h2=>forL ck g b xs τ2 h2
    | .ct τ2 h2=>forL ck g b xs τ2 h2
    | .bk τ2 h2=>.nx τ2 h2
    | r=>r)
   | _=>.no) else .no
noncomputable def a9x(f:SI)(g:SG)(b:SS):SS:=λτ h=>(f τ h).fl λit h1=>forL it.ck g b it.xs τ h1
theorem ae1{K:PySem.W.Frag}{E:XD}{ι0:List Addr}{H0:Hp}{J:It}{it:Itm}{g:SG}{b:SS}{N:Ends}{σ0:St}{τ0:Sd}{h0:Hd}(ir:ahj K ι0 H0 J it)(S:SRep K ι0 H0 σ0 τ0)(Rh:HRep K ι0 H0 h0)(o:a9w K E ι0 H0 (forL it.ck g b it.xs τ0 h0) N) :
  ∃ W:Nat->Nat->St->Hp->Prop,(∃ m,W 0 m σ0 H0)/\∀ i m σ H,W i m σ H->
   (J.stop i H/\N.nx σ H)\/(J.go i H/\∃ M:St->Hp->Prop,(∀ σ' H',M σ' H'->∃ m',m'<m/\W (i+1) m' σ' H')/\∀ x H',J.yld i H x H'->adz K E g x σ H' λσ2 H2=>zy K E b { N with nx:=M,ct:=M,bk:=N.nx } σ2 H2):=by
 refine ⟨λi m σ H=>m=it.xs.length - i/\i<=it.xs.length/\∃ ι τ h,Gr ι0 H0 ι H/\SRep K ι H σ τ/\HRep K ι H h/\a9w K E ι H (forL it.ck g b (it.xs.drop i) τ h) N,⟨_,rfl,Nat.zero_le _,ι0,τ0,h0, .refl _ _,S,Rh,o⟩,?_⟩
 rintro i m σ H ⟨rfl,hi,ι,τ,h,g0,S,Rh,o⟩
 by_cases hlt:i<it.xs.length
 ·rw [List.drop_eq_getElem_cons hlt,forL] at o
  by_cases hc:it.ck h
  ·rw [if_pos hc] at o;obtain ⟨go,yl⟩:=(ir ι H h g0 Rh hc).1 i _ (List.getElem?_eq_getElem hlt);refine .inr ⟨go,λσ' H'=>it.xs.length - (i+1)<it.xs.length - i/\∃ ι τ h,Gr ι0 H0 ι H'/\SRep K ι H' σ' τ/\HRep K ι H' h/\a9w K E ι H' (forL it.ck g b (it.xs.drop (i+1)) τ h) N,λσ' H' q=>⟨_,q.1,rfl,hlt,q.2⟩,λx H' y=>?_⟩;obtain ⟨g1,r1,hr1⟩:=yl x H' y;refine ⟨ι,τ,h,_,r1,S.mono g1,hr1,?_⟩;have o':=jf o g1
   cases hg:g it.xs[i] τ h with
   | nx τ1 h1 =>
    rw [hg] at o';dsimp only at o'
    intro ι2 H2 σ2 g2 S2 R2
    refine ⟨ι2,τ1,h1,S2,R2,?_⟩;have o2:=jf o' g2;have gg:=(g0.trans g1).trans g2
    cases hb:b τ1 h1 with
    | nx τ2 h2=>rw [hb] at o2;exact λι3 H3 σ3 g3 S3 R3=>⟨by omega,ι3,τ2,h2,gg.trans g3,S3,R3,jf o2 g3⟩
    | ct τ2 h2=>rw [hb] at o2;exact λι3 H3 σ3 g3 S3 R3=>⟨by omega,ι3,τ2,h2,gg.trans g3,S3,R3,jf o2 g3⟩
    | bk τ2 h2=>rw [hb] at o2;exact o2
    | rt d h2=>rw [hb] at o2;exact o2
    | ex c h2=>rw [hb] at o2;exact o2
    | no=>rw [hb] at o2;exact o2.elim
   | _=>rw [hg] at o';exact o'.elim
  ·rw [if_neg hc] at o;exact o.elim
 ·have e:i=it.xs.length:=by omega
  subst e;rw [List.drop_eq_nil_of_le (Nat.le_refl _),forL] at o
  by_cases hc:it.ck h
  ·rw [if_pos hc] at o;exact .inl ⟨(ir ι H h g0 Rh hc).2,o ι H σ (.refl _ _) S Rh⟩
  ·rw [if_neg hc] at o;exact o.elim
theorem a0k{X:Cx}{E:XD}{tg iter:Expr}{body:List Stmt}{f:SI}{g:SG}{b:SS}{pos:Pos}(hp:PassesOwn (model X.prog X.w) X.A X.env X.xe)(hc:X.calm=true)(hi:MI X E tg iter f)(hg:MG X E tg g)(hb:MSs X E body b)(hs:∀ x,foldedSetIterable iter X.env x=pure x:=by intro _;rfl):MS X E (.For tg iter body [] pos) (a9x f g b):=by
 refine PS.weak (agl hp hc hi hg hb hs) λN σ H ⟨ι,τ,h,S,Rh,o⟩=>?_;exact ⟨ι,τ,h,S,Rh,jq o λit h1 ι1 H1 J g1 r1 hr1 o1=>ae1 r1 (S.mono g1) hr1 o1⟩
end MI
namespace MI
open PySem PySem.Spec L2
open Classical in
noncomputable def mapR(ck:Hd->Prop)(f:D->Hd->R D):List D->Hd->R (List D)
 | [],h=>if ck h then .ok [] h else .no
 | x::xs,h=>if ck h then (f x h).bind λy h1=>(mapR ck f xs h1).bind λys h2=>.ok (y::ys) h2 else .no
def frs'(ix:List Nat)(τ:Sd):Sd:=ix.map λi=>(τ[i]?).join
def t1(d:D):Option Sd:=some [some d]
def tN(n:Nat)(d:D):Option Sd:=match d with | .tup ds=>if ds.length=n then some (ds.map some) else none | _=>none
def a4a(t:D->Option Sd)(fe:SE)(rest:Sd)(x:D)(h:Hd):R D:=match t x with | some ts=>fe (ts++rest) h | none=>.no
def ae2(yd zs:List D)(h:Hd):R D:=.ok (.ref h.length) (h++[.lst (yd++zs)])
theorem ahl(r:R D)(m:Hd->R (List D))(yd:List D):(r.bind λy h1=>(m h1).bind λys h2=>.ok (y::ys) h2).bind (ae2 yd)=r.bind λy h1=>(m h1).bind (ae2 (yd++[y])):=by
 cases r with
 | ok y h1 =>
  show ((m h1).bind _).bind _=(m h1).bind _
  cases m h1 with
  | ok ys h2=>simp [R.bind,ae2]
  | _=>rfl
 | _=>rfl
noncomputable def v4(fi:SI)(t:D->Option Sd)(fe:SE)(ix:List Nat):SE:=λτ h=>(fi τ h).bind λit h1=>if it.xs.length<=LINE then (mapR it.ck (a4a t fe (frs' ix τ)) it.xs h1).bind (ae2 []) else .no
def ae3(K:PySem.W.Frag)(n:Nat)(g:TG)(t:D->Option Sd):Prop:=∀ ι H v d ts (r:St) (Q:St->Hp->Prop),Rep K ι H v d->t d=some ts->(∀ us:St,us.length=n->SRep K ι H us ts->Q (us++r) H)->g v (List.replicate n none++r) H Q
theorem yu{K:PySem.W.Frag}{ι:List Addr}{H:Hp}:SRep K ι H [] []:=⟨rfl,λi d e=>by simp at e⟩
theorem n6{K:PySem.W.Frag}{ι:List Addr}{H:Hp}{v:V}{d:D}{σ:St}{τ:Sd}(r:Rep K ι H v d)(s:SRep K ι H σ τ):SRep K ι H (some v::σ) (some d::τ):=by
 refine ⟨by simp [s.len],λi d' e=>?_⟩
 cases i with
 | zero=>simp at e;subst e;exact ⟨v,rfl,r⟩
 | succ i=>simpa using s.val i d' (by simpa using e)
theorem a5f{K:PySem.W.Frag}{ι:List Addr}{H:Hp}{σ σ':St}{τ τ':Sd}(s:SRep K ι H σ τ)(s':SRep K ι H σ' τ'):SRep K ι H (σ++σ') (τ++τ'):=by
 refine ⟨by simp [s.len,s'.len],λi d e=>?_⟩
 by_cases hi:i<τ.length
 ·rw [List.getElem?_append_left hi] at e;rw [List.getElem?_append_left (by rw [s.len];exact hi)]
  exact s.val i d e
 ·rw [List.getElem?_append_right (by omega)] at e
  rw [List.getElem?_append_right (by rw [s.len];omega),s.len]
  exact s'.val _ d e
theorem a5g{K:PySem.W.Frag}{ι:List Addr}{H:Hp}{σ:St}{τ:Sd}(s:SRep K ι H σ τ)(ix:List Nat):SRep K ι H (ix.map λi=>(σ[i]?).join) (frs' ix τ):=by
 refine ⟨by simp [frs'],λj d e=>?_⟩
 simp only [frs',List.getElem?_map,Option.map_eq_some_iff] at e;obtain ⟨i,hi,e⟩:=e;have:τ[i]? = some (some d):=by
  cases q:τ[i]? with
  | none=>rw [q] at e;cases e
  | some o=>rw [q] at e;simp at e;rw [e]
 obtain ⟨v,h1,h2⟩:=s.val i d this;exact ⟨v,by simp [hi,h1],h2⟩
theorem aca{K:PySem.W.Frag}:ae3 K 1 (a08 0) t1:=λι H v d ts r Q hr e q=>by
 cases e
 exact q [some v] rfl (n6 hr yu)
theorem ahm{K:PySem.W.Frag}:ae3 K 2 (L2.wy K 2 (a3n (a08 0) (a3n (a08 1) ak5))) (tN 2):=λι H v d ts r Q hr e q=>by
 unfold tN at e
 cases hr with
 | @tup a vs xs h rs =>
  simp only at e
  split at e
  ·rename_i hl;cases e
   match xs,hl,rs with
   | [_,_],_, .cons r1 (.cons r2 .nil)=>exact ⟨a,_,rfl,SqT.of h,rfl,_,_,rfl,_,_,rfl,rfl,q [some _,some _] rfl (n6 r1 (n6 r2 yu))⟩
  ·cases e
 | _=>cases e
theorem a5h{K:PySem.W.Frag}:ae3 K 3 (L2.wy K 3 (a3n (a08 0) (a3n (a08 1) (a3n (a08 2) ak5)))) (tN 3):=λι H v d ts r Q hr e q=>by
 unfold tN at e
 cases hr with
 | @tup a vs xs h rs =>
  simp only at e
  split at e
  ·rename_i hl;cases e
   match xs,hl,rs with
   | [_,_,_],_, .cons r1 (.cons r2 (.cons r3 .nil))=>exact ⟨a,_,rfl,SqT.of h,rfl,_,_,rfl,_,_,rfl,_,_,rfl,rfl,q [some _,some _,some _] rfl (n6 r1 (n6 r2 (n6 r3 yu)))⟩
  ·cases e
 | _=>cases e
theorem ae4{n:Nat}{us r:St}(h:us.length=n):L2.Ext (List.replicate n none++r) (us++r):=by
 refine ⟨by simp [h],λi v e=>?_⟩
 by_cases hi:i<n
 ·rw [List.getElem?_append_left (by simpa using hi),List.getElem?_replicate,if_pos hi] at e
  cases e
 ·rw [List.getElem?_append_right (by simpa using hi),List.length_replicate] at e
  rw [List.getElem?_append_right (by omega),h]
  exact e
theorem a5i{K:PySem.W.Frag}{E:XD}{ι0:List Addr}{H0:Hp}{J:It}{it:Itm}{g:TG}{t:D->Option Sd}{fe:SE}{n:Nat}{r:St}{rd:Sd}{h0:Hd}{Q:VK}(ir:ahj K ι0 H0 J it)(tg:ae3 K n g t)(S:SRep K ι0 H0 r rd)(Rh:HRep K ι0 H0 h0)(hl:it.xs.length<=LINE)
  (o:out K E (qb K) ι0 H0 ((mapR it.ck (a4a t fe rd) it.xs h0).bind (ae2 [])) Q):ah8 J (List.replicate n none++r) g (lift K E (qb K) fe) Q H0:=by
 refine ⟨λi m ys H=>m=it.xs.length - i/\i<=it.xs.length/\ys.length<=i/\∃ ι h yd,Gr ι0 H0 ι H/\HRep K ι H h/\Reps K ι H ys yd/\out K E (qb K) ι H ((mapR it.ck (a4a t fe rd) (it.xs.drop i) h).bind (ae2 yd)) Q,
  ⟨_,rfl,Nat.zero_le _,Nat.zero_le _,ι0,h0,[], .refl _ _,Rh, .nil,o⟩,?_⟩
 rintro i m ys H ⟨rfl,hi,hy,ι,h,yd,g0,Rh,ry,o⟩
 by_cases hlt:i<it.xs.length
 ·rw [List.drop_eq_getElem_cons hlt,mapR] at o
  by_cases hc:it.ck h
  ·rw [if_pos hc,ahl] at o;obtain ⟨go,yl⟩:=(ir ι H h g0 Rh hc).1 i _ (List.getElem?_eq_getElem hlt);refine .inr ⟨go,Nat.lt_of_le_of_lt hy (Nat.lt_of_lt_of_le hlt (ll hl)),λx H' y=>?_⟩;obtain ⟨g1,r1,hr1⟩:=yl x H' y;have o':=a5d o g1
   cases ht:t it.xs[i] with
   | none=>simp only [a4a,ht] at o';exact o'.elim
   | some ts =>
    simp only [a4a,ht] at o';refine tg ι H' x _ ts r _ r1 ht λus hus su=>⟨ae4 hus,ι,ts++rd,h,a5f su (S.mono (g0.trans g1)),hr1,cj o' λd2 h2 ι2 H2 u g2 r2 hr2 o2=>?_⟩;refine ⟨it.xs.length - (i+1),by omega,rfl,hlt,by simp;omega,ι2,h2,yd++[d2],(g0.trans g1).trans g2,hr2,((ry.mono g1).mono g2).snoc r2,o2⟩
  ·rw [if_neg hc] at o;exact o.elim
 ·have e:i=it.xs.length:=by omega
  subst e;rw [List.drop_eq_nil_of_le (Nat.le_refl _),mapR] at o
  by_cases hc:it.ck h
  ·rw [if_pos hc] at o;refine .inl ⟨(ir ι H h g0 Rh hc).2,lu (E:=E) ry Rh ?_⟩;simpa [R.bind,ae2] using o
  ·rw [if_neg hc] at o;exact o.elim
section
variable{X:Cx}{E:XD}{elt tg iter cnd:Expr}{scope:Scope}{pos:Pos}{cl:List (Str × Addr)}{ts fr:List Str}{ix:List Nat}{fi:SI}{g:TG}{t:D->Option Sd}{fe:SE}{fc:ST}
theorem a4b(hc:X.calm=true)(S:CSc X scope cl ts fr ix)(hi:MI X E tg iter fi)(hg:∀ C fp s H,PG (cxC X (ts++fr) scope cl C fp s H) tg g)(ht:ae3 X.K ts.length g t)(he:∀ C fp s H,ME (cxC X (ts++fr) scope cl C fp s H) E elt fe)
  (hs:∀ x,foldedSetIterable iter X.env x=pure x:=by intro _;rfl):ME X E (.ListComp elt [⟨tg,iter,[],0⟩] scope pos) (v4 fi t fe ix):=by
 refine PE.weak (aal (te:=lift X.K E (qb X.K) fe) hc S hi hg he hs) λσ H Q ⟨ι,τ,h,Sr,Rh,o⟩=>?_;refine ⟨ι,τ,h,Sr,Rh,cj o λit h1 ι1 H1 J g1 r1 hr1 o1=>?_⟩
 by_cases hl:it.xs.length<=LINE
 ·rw [if_pos hl] at o1;exact a5i r1 ht (a5g (Sr.mono g1) ix) hr1 hl o1
 ·rw [if_neg hl] at o1;exact o1.elim
end
mutual
def clo(n:Nat):D->Prop
 | .tup xs=>clos n xs
 | .rol xs=>clos n xs
 | .rod _ xs=>clos n xs
 | .scr xs=>clos n xs
 | .rdT _ xs=>clos n xs
 | .ref i=>i<n
 | _=>True
def clos(n:Nat):List D->Prop
 | []=>True
 | x::xs=>clo n x/\clos n xs
end
mutual
theorem Rep.clo{K:PySem.W.Frag}{ι:List Addr}{H:Hp}:∀ {v:V} {d:D},Rep K ι H v d->clo ι.length d
 | _,_, .non=>by simp [MI.clo]
 | _,_, .bl b=>by simp [MI.clo]
 | _,_, .int i=>by simp [MI.clo]
 | _,_, .str x=>by simp [MI.clo]
 | _,_, .ty n=>by simp [MI.clo]
 | _,_, .tup h r=>by simp only [MI.clo];exact Reps.clo r
 | _,_, .rol h r=>by simp only [MI.clo];exact Reps.clo r
 | _,_, .ref h=>by simp only [MI.clo];exact (List.getElem?_eq_some_iff.mp h).1
 | _,_, .rod h e r=>by simp only [MI.clo];exact Reps.clo r
 | _,_, .scr h r=>by simp only [MI.clo];exact Reps.clo r
 | _,_, .rdT h e r=>by simp only [MI.clo];exact Reps.clo r
 | _,_, .exc h hc hn=>by simp [MI.clo]
theorem Reps.clo{K:PySem.W.Frag}{ι:List Addr}{H:Hp}:∀ {vs:List V} {ds:List D},Reps K ι H vs ds->clos ι.length ds
 | _,_, .nil=>by simp [MI.clos]
 | _,_, .cons r rs=>by simp only [MI.clos];exact ⟨Rep.clo r,Reps.clo rs⟩
end
mutual
theorem Rep.cut{K:PySem.W.Frag}{ι:List Addr}{H:Hp}{n:Nat}:∀ {v:V} {d:D},Rep K ι H v d->clo n d->Rep K (ι.take n) H v d
 | _,_, .non,_=>.non
 | _,_, .bl b,_=>.bl b
 | _,_, .int i,_=>.int i
 | _,_, .str x,_=>.str x
 | _,_, .ty n,_=>.ty n
 | _,_, .tup h r,c=>.tup h (Reps.cut r (by simpa only [MI.clo] using c))
 | _,_, .rol h r,c=>.rol h (Reps.cut r (by simpa only [MI.clo] using c))
 | _,_, .ref h,c=>.ref (by simp only [MI.clo] at c;rw [List.getElem?_take,if_pos c];exact h)
 | _,_, .rod h e r,c=>.rod h e (Reps.cut r (by simpa only [MI.clo] using c))
 | _,_, .scr h r,c=>.scr h (Reps.cut r (by simpa only [MI.clo] using c))
 | _,_, .rdT h e r,c=>.rdT h e (Reps.cut r (by simpa only [MI.clo] using c))
 | _,_, .exc h hc hn,_=>.exc h hc hn
theorem Reps.cut{K:PySem.W.Frag}{ι:List Addr}{H:Hp}{n:Nat}:∀ {vs:List V} {ds:List D},Reps K ι H vs ds->clos n ds->Reps K (ι.take n) H vs ds
 | _,_, .nil,_=>.nil
 | _,_, .cons r rs,c=>by simp only [MI.clos] at c;exact .cons (Rep.cut r c.1) (Reps.cut rs c.2)
end
def xg(n:Nat):O->Prop
 | .lst xs=>clos n xs
 | .dK kvs=>clos n (kvs.map (·.2))
 | .dT kvs=>clos n (kvs.map (·.2))
def ahn(n:Nat)(h:Hd):Prop:=∀ o∈h,xg n o
theorem ORep.clo{K:PySem.W.Frag}{ι:List Addr}{H:Hp}{a:Addr}{o:O}(r:ORep K ι H a o):xg ι.length o:=by
 cases o with
 | lst xs=>obtain ⟨vs,_,r⟩:=r;exact r.clo
 | dK kvs=>obtain ⟨us,_,_,r⟩:=r;exact r.clo
 | dT kvs=>obtain ⟨us,_,_,r⟩:=r;exact r.clo
theorem ORep.cut{K:PySem.W.Frag}{ι:List Addr}{H:Hp}{a:Addr}{o:O}{n:Nat}(r:ORep K ι H a o)(c:xg n o):ORep K (ι.take n) H a o:=by
 cases o with
 | lst xs=>obtain ⟨vs,h,r⟩:=r;exact ⟨vs,h,r.cut c⟩
 | dK kvs=>obtain ⟨us,h,e,r⟩:=r;exact ⟨us,h,e,r.cut c⟩
 | dT kvs=>obtain ⟨us,h,e,r⟩:=r;exact ⟨us,h,e,r.cut c⟩
theorem HRep.clo{K:PySem.W.Frag}{ι:List Addr}{H:Hp}{h:Hd}(r:HRep K ι H h):ahn h.length h:=λo ho=>by
 obtain ⟨i,hi⟩:=List.getElem?_of_mem ho;obtain ⟨a,_,q⟩:=r.addr hi;rw [<-r.len];exact q.clo
theorem HRep.cut{K:PySem.W.Frag}{ι:List Addr}{H:Hp}{h g:Hd}(r:HRep K ι H (h++g))(c:ahn h.length h):HRep K (ι.take h.length) H h:=by
 refine ⟨r.nd.sublist (List.take_sublist _ _),?_,λi a o e1 e2=>?_⟩
 ·have:=r.len
  rw [List.length_append] at this;rw [List.length_take];omega
 ·have hi:i<h.length:=(List.getElem?_eq_some_iff.mp e2).1;rw [List.getElem?_take,if_pos hi] at e1;exact (r.obj i a o e1 (by rw [List.getElem?_append_left hi];exact e2)).cut (c o (List.mem_of_getElem? e2))
def X0:XD:=λ_ _ _ _=>False
abbrev SF:=List D->Hd->R D
def rz(K:PySem.W.Frag)(n:Nat)(F:SF):Sp:=λvs H Q _=>vs.length=n/\∃ ι ds h,Reps K ι H vs ds/\HRep K ι H h/\out K X0 (qb K) ι H (F ds h) Q
def vm(n:Nat)(ds:List D):Sd:=ds.map some++List.replicate (n - ds.length) none
def n8(b:SS)(n:Nat)(ds:List D)(h:Hd):R D:=match b (vm n ds) h with
 | .rt d h1=>.ok d h1
 | .nx _ h1=>.ok .non h1
 | .ex c h1=>.ex c h1
 | _=>.no
def Rf(n:Nat)(r' r:R D):Prop:=match r with
 | .no=>True
 | .ok d h1=>∃ g,r' = .ok d (h1++g)/\(g=[]\/(n<=h1.length/\clo h1.length d/\ahn h1.length h1))
 | .ex c h1=>∃ g,r' = .ex c (h1++g)/\(g=[]\/(n<=h1.length/\ahn h1.length h1))
theorem Rf.same{n:Nat}{r' r:R D}(h:r'=r):Rf n r' r:=by
 subst h
 cases r' with
 | ok d h1=>exact ⟨[],by simp, .inl rfl⟩
 | ex c h1=>exact ⟨[],by simp, .inl rfl⟩
 | no=>exact True.intro
theorem a0l{K:PySem.W.Frag}{ι:List Addr}{H:Hp}{vs:List V}{ds:List D}{N:List Str}(r:Reps K ι H vs ds):SRep K ι H (start N vs) (vm N.length ds):=by
 refine a5f ?_ ?_
 ·clear N
  induction r using Reps.rec (motive_1:=λ_ _ _=>True) with
  | nil=>exact yu
  | cons r rs _ ih=>exact n6 r ih
  | _=>trivial
 ·rw [r.len];exact ⟨by simp,λi d e=>by rw [List.getElem?_replicate] at e;split at e<;>cases e⟩
theorem acb{ι ι':List Addr}{H H':Hp}{n:Nat}(g:Gr ι H ι' H')(hn:ι.length<=n):Gr ι H (ι'.take n) H':=by
 obtain ⟨m,rfl,hm⟩:=g.pre;exact ⟨⟨m.take (n - ι.length),by rw [List.take_append,List.take_of_length_le hn],λa ha=>hm a (List.mem_of_mem_take ha)⟩,g.tup,g.frz,g.oth,g.kp⟩
section
variable{P:Program}{w:World}{K:PySem.W.Frag}{mg:Str->Option Value}{base:Heap}
theorem aho{x qual:Str}{st:Stmt}{f:Addr}{fd:FuncData}{N ps:List Str}{k:Nat}{b:SS}{F:SF}(Fu:Fun K x qual st f fd)(S:FnScope N ps (aq st))
  (hb:∀ (cdv:Value) (A:Around) (outer:List Env) (s:Shared) (H:Hp) (E:XK),Room k (A.deeper (PyProof.Rows.envOfC qual (aq st) s.heap.objs.size f cdv))->MSs (zm CX0 P w K mg base N qual (aq st) f cdv A outer s H E).nox X0 (gq st) b)
  (hF:∀ ds h,ds.length=ps.length->clos h.length ds->ahn h.length h->Rf h.length (n8 b N.length ds h) (F ds h)):FnOk P w K mg base CX0 (k+1) f fd ps (rz K ps.length F):=by
 refine Fu.ok S (λvs H Q E h=>h.1) λcdv A outer s H vs Q E hr h=>⟨_,hb cdv A outer s H E hr,?_⟩;obtain ⟨hl,ι,ds,h,r,hr',o⟩:=h;refine ⟨ι,vm N.length ds,h,a0l r,hr',?_⟩;have q:=hF ds h (by rw [<-r.len];exact hl) (by rw [<-hr'.len];exact r.clo) hr'.clo
 unfold n8 at q
 cases hFd:F ds h with
 | no=>rw [hFd] at o;exact o.elim
 | ex c h1 =>
  rw [hFd] at q o;obtain ⟨g,e,cl⟩:=q;have fin:∀ ι' H',Gr ι H ι' H'->HRep K ι' H' (h1++g)->X0 c ι' H' (h1++g):=λι' H' g1 hr1=>by
   rcases cl with rfl | ⟨hn,c2⟩
   ·rw [List.append_nil] at hr1;exact o ι' H' g1 hr1
   ·exact o (ι'.take h1.length) H' (acb g1 (by rw [hr'.len];exact hn)) (hr1.cut c2)
  cases hbd:b (vm N.length ds) h with
  | ex c' h' =>
   rw [hbd] at e
   injection e with e1 e2
   subst e1 e2;exact fin
  | _=>rw [hbd] at e;cases e
 | ok d h1 =>
  rw [hFd] at q o;obtain ⟨g,e,cl⟩:=q;have fin:∀ ι' H' v,Gr ι H ι' H'->Rep K ι' H' v d->HRep K ι' H' (h1++g)->Q v H':=λι' H' v g1 r1 hr1=>by
   rcases cl with rfl | ⟨hn,c1,c2⟩
   ·rw [List.append_nil] at hr1;exact o ι' H' v g1 r1 hr1
   ·exact o (ι'.take h1.length) H' v (acb g1 (by rw [hr'.len];exact hn)) (r1.cut c1) (hr1.cut c2)
  cases hbd:b (vm N.length ds) h with
  | rt d' h' =>
   rw [hbd] at e
   injection e with e1 e2
   subst e1 e2;exact fin
  | nx τ' h' =>
   rw [hbd] at e
   injection e with e1 e2
   subst e1 e2;exact λι' H' σ' g1 S1 hr1=>fin ι' H' .non g1 .non hr1
  | _=>rw [hbd] at e;cases e
end
section
variable{K:PySem.W.Frag}{E:XD}{ι:List Addr}{H:Hp}{h:Hd}{Q:VK}
theorem ans{d:D}{v:V}(o:out K E (qb K) ι H (.ok d h) Q)(r:Rep K ι H v d)(hr:HRep K ι H h):Q v H:=o ι H v (.refl _ _) r hr
theorem HRep.lst(hr:HRep K ι H h){i:Nat}{a:Addr}{xs:List D}(e:ι[i]? = some a)(hi:h[i]? = some (.lst xs)):∃ vs,H a=some (.lst vs)/\Reps K ι H vs xs:=hr.obj i a _ e hi
end
def an6:D->D->Hd->R D
 | .int i, .int j,h=>.ok (.int (i+j)) h
 | .str x, .str y,h=>if x.length+y.length<=LINE then .ok (.str (x++y)) h else .no
 | .tup xs, .tup ys,h=>if xs≠[]/\xs.length+ys.length<=LINE then .ok (.tup (xs++ys)) h else .no
 | .ref i, .ref j,h=>match h[i]?,h[j]? with
  | some (.lst xs),some (.lst ys)=>if xs.length+ys.length<=LINE then .ok (.ref h.length) (h++[.lst (xs++ys)]) else .no
  | _,_=>.no
 | _,_,_=>.no
def a07:D->D->Hd->R D
 | .int i, .int j,h=>.ok (.int (i - j)) h
 | _,_,_=>.no
def yw:D->D->Hd->R D
 | .int i, .int j,h=>if 0<j then .ok (.int (i % j)) h else .no
 | _,_,_=>.no
def a5j:D->D->Hd->R D
 | .int i, .int j,h=>if 0<j/\j<1073741824 then .ok (.int (i / j)) h else .no
 | _,_,_=>.no
def a0m:D->D->Hd->R D
 | .int i, .int j,h=>if 0<=j/\j<=1000000/\i.natAbs<2 ^ 64 then .ok (.int (i ^ j.toNat)) h else .no
 | _,_,_=>.no
section
variable{X:Cx}{K:PySem.W.Frag}
theorem ae5:vh K a07 (rI0 λi j=>.int (i - j)):=by
 intro E ι H h x y dx dy Q rx ry hr o
 cases rx with
 | int i =>
  cases ry with
  | int j=>exact ⟨i,j,rfl,rfl,ans o (.int _) hr⟩
  | _=>exact o.elim
 | _=>exact o.elim
theorem ae6:vh K yw (rI (λ_ j=>0<j) λi j=>.int (i % j)):=by
 intro E ι H h x y dx dy Q rx ry hr o
 cases rx with
 | int i =>
  cases ry with
  | int j =>
   by_cases hc:0<j
   ·simp only [yw,if_pos hc] at o;exact ⟨i,j,rfl,rfl,hc,ans o (.int _) hr⟩
   ·simp only [yw,if_neg hc] at o;exact o.elim
  | _=>exact o.elim
 | _=>exact o.elim
theorem a88:vh K a5j (rI ake λi j=>.int (i / j)):=by
 intro E ι H h x y dx dy Q rx ry hr o
 cases rx with
 | int i =>
  cases ry with
  | int j =>
   by_cases hc:0<j/\j<1073741824
   ·simp only [a5j,if_pos hc] at o;exact ⟨i,j,rfl,rfl,hc,ans o (.int _) hr⟩
   ·simp only [a5j,if_neg hc] at o;exact o.elim
  | _=>exact o.elim
 | _=>exact o.elim
theorem ae7:vh K a0m (rI aln λi j=>.int (i ^ j.toNat)):=by
 intro E ι H h x y dx dy Q rx ry hr o
 cases rx with
 | int i =>
  cases ry with
  | int j =>
   by_cases hc:0<=j/\j<=1000000/\i.natAbs<2 ^ 64
   ·simp only [a0m,if_pos hc] at o;exact ⟨i,j,rfl,rfl,hc,ans o (.int _) hr⟩
   ·simp only [a0m,if_neg hc] at o;exact o.elim
  | _=>exact o.elim
 | _=>exact o.elim
variable{E:XD}{a b e:Expr}{es:List Expr}{fa fb:SE}{ka:SA}{pos:Pos}
theorem a0n(ha:ME X E a fa)(hb:ME X E b fb):ME X E (.BinOp a .Sub b pos) (s2 a07 fa fb):=a6x agn ae5 ha hb
theorem a0o(ha:ME X E a fa)(hb:ME X E b fb):ME X E (.BinOp a .Mod b pos) (s2 yw fa fb):=a6x agp ae6 ha hb
theorem ahp(ha:ME X E a fa)(hb:ME X E b fb):ME X E (.BinOp a .FloorDiv b pos) (s2 a5j fa fb):=a6x adc a88 ha hb
theorem a89(ha:ME X E a fa)(hb:ME X E b fb):ME X E (.BinOp a .Pow b pos) (s2 a0m fa fb):=a6x agq ae7 ha hb
def ae8:D->Hd->R D
 | .int i,h=>.ok (.int (-i)) h
 | _,_=>.no
theorem acd(ha:ME X E a fa):ME X E (.UnaryOp .USub a pos) (s1 ae8 fa):=aks agr (λE ι H h x dx Q rx hr o=>by
 cases rx with
 | int i=>exact ⟨i,rfl,ans o (.int _) hr⟩
 | _=>exact o.elim) ha
def gLt:D->D->Hd->R D
 | .int i, .int j,h=>.ok (.bl (decide (i<j))) h
 | .str i, .str j,h=>.ok (.bl (decide (i.cps.toList<j.cps.toList))) h
 | _,_,_=>.no
def gLe:D->D->Hd->R D
 | .int i, .int j,h=>.ok (.bl (decide (i<=j))) h
 | .str i, .str j,h=>.ok (.bl (!decide (j.cps.toList<i.cps.toList))) h
 | _,_,_=>.no
def gGt:D->D->Hd->R D
 | .int i, .int j,h=>.ok (.bl (decide (j<i))) h
 | _,_,_=>.no
def gGe:D->D->Hd->R D
 | .int i, .int j,h=>.ok (.bl (decide (j<=i))) h
 | _,_,_=>.no
theorem a2u:vh K gLt (λx y H Q=>rI0 (λi j=>.bl (decide (i<j))) x y H Q\/∃ i j,x = .str i/\y = .str j/\Q (.bl (decide (i.cps.toList<j.cps.toList))) H):=by
 intro E ι H h x y dx dy Q rx ry hr o
 cases rx with
 | int i =>
  cases ry with
  | int j=>exact .inl ⟨i,j,rfl,rfl,ans o (.bl _) hr⟩
  | _=>exact o.elim
 | str i =>
  cases ry with
  | str j=>exact .inr ⟨i,j,rfl,rfl,ans o (.bl _) hr⟩
  | _=>exact o.elim
 | _=>exact o.elim
theorem ace:vh K gLe (λx y H Q=>rI0 (λi j=>.bl (decide (i<=j))) x y H Q\/∃ i j,x = .str i/\y = .str j/\Q (.bl (!decide (j.cps.toList<i.cps.toList))) H):=by
 intro E ι H h x y dx dy Q rx ry hr o
 cases rx with
 | int i =>
  cases ry with
  | int j=>exact .inl ⟨i,j,rfl,rfl,ans o (.bl _) hr⟩
  | _=>exact o.elim
 | str i =>
  cases ry with
  | str j=>exact .inr ⟨i,j,rfl,rfl,ans o (.bl _) hr⟩
  | _=>exact o.elim
 | _=>exact o.elim
theorem ahq:vh K gGt (rI0 λi j=>.bl (decide (j<i))):=by
 intro E ι H h x y dx dy Q rx ry hr o
 cases rx with
 | int i =>
  cases ry with
  | int j=>exact ⟨i,j,rfl,rfl,ans o (.bl _) hr⟩
  | _=>exact o.elim
 | _=>exact o.elim
theorem ahr:vh K gGe (rI0 λi j=>.bl (decide (j<=i))):=by
 intro E ι H h x y dx dy Q rx ry hr o
 cases rx with
 | int i =>
  cases ry with
  | int j=>exact ⟨i,j,rfl,rfl,ans o (.bl _) hr⟩
  | _=>exact o.elim
 | _=>exact o.elim
def a0a:D->Bool
 | .non=>true
 | _=>false
theorem aaq{ι:List Addr}{H:Hp}{x:V}{d:D}(r:Rep K ι H x d):decide (x = .non)=a0a d:=by cases r<;>simp [a0a]
def gIs:D->D->Hd->R D
 | x, .non,h=>.ok (.bl (a0a x)) h
 | .bl i, .bl j,h=>.ok (.bl (i == j)) h
 | _,_,_=>.no
def a00:D->D->Hd->R D
 | x, .non,h=>.ok (.bl (!a0a x)) h
 | .bl i, .bl j,h=>.ok (.bl (i != j)) h
 | _,_,_=>.no
theorem a2v:vh K a00 (λx y H Q=>(y = .non/\Q (.bl (!decide (x = .non))) H)\/∃ i j,x = .bl i/\y = .bl j/\Q (.bl (i != j)) H):=by
 intro E ι H h x y dx dy Q rx ry hr o
 cases ry with
 | non=>exact .inl ⟨rfl,by rw [aaq rx];simp only [a00] at o;exact ans o (.bl _) hr⟩
 | bl j =>
  cases rx with
  | bl i=>exact .inr ⟨i,j,rfl,rfl,ans o (.bl _) hr⟩
  | _=>exact o.elim
 | _=>cases rx<;>exact o.elim
def a8a:D->Bool
 | .non=>true | .bl _=>true | .int _=>true | .str _=>true
 | _=>false
end
section
variable{X:Cx}{K:PySem.W.Frag}{E:XD}{a b e o:Expr}{es:List Expr}{fa fb:SE}{ka:SA}{pos:Pos}
def yx(d:D)(h:Hd):Option (List D):=match d with
 | .tup xs=>some xs
 | .rol xs=>some xs
 | .ref i=>match h[i]? with | some (.lst xs)=>some xs | _=>none
 | _=>none
def gIx(x y:D)(h:Hd):R D:=match y with
 | .int i=>(match x with
  | .str z=>if z.length<=LINE then (match atI z.cps.toList i with | some c=>.ok (.str ⟨#[c]⟩) h | none=>.no) else .no
  | x=>match yx x h with
   | some xs=>(match atI xs i with | some d=>.ok d h | none=>.no)
   | none=>.no)
 | _=>.no
theorem a5k{ι:List Addr}{H:Hp}{vs:List V}{xs:List D}{i:Int}{d:D}(r:Reps K ι H vs xs)(e:atI xs i=some d):∃ v,atI vs i=some v/\Rep K ι H v d:=by
 unfold atI at e ⊢;rw [r.len]
 cases hx:ixN xs.length i with
 | none=>rw [hx] at e;cases e
 | some j=>rw [hx] at e;exact r.get e
theorem ahs:vh K gIx (rIx K):=by
 intro E ι H h x y dx dy Q rx ry hr o
 cases ry with
 | int i =>
  have go:∀ {p:Addr} {vs:List V} {xs:List D},Reps K ι H vs xs->out K E (qb K) ι H (match atI xs i with | some d=>.ok d h | none=>.no) Q->∃ v,atI vs i=some v/\Q v H:=λ{p vs xs} r o=>by
   cases he:atI xs i with
   | none=>rw [he] at o;exact o.elim
   | some d =>
    rw [he] at o;obtain ⟨v,h1,h2⟩:=a5k r he;exact ⟨v,h1,ans o h2 hr⟩
  cases rx with
  | str z =>
   by_cases hc:z.length<=LINE
   ·simp only [gIx,if_pos hc] at o
    cases he:atI z.cps.toList i with
    | none=>rw [he] at o;exact o.elim
    | some c=>rw [he] at o;exact .inr (.inr ⟨z,i,c,rfl,rfl,ll hc,he,ans o (.str _) hr⟩)
   ·simp only [gIx,if_neg hc] at o;exact o.elim
  | @tup p vs xs hp r =>
   simp only [gIx,yx] at o;obtain ⟨v,h1,h2⟩:=go (p:=p) r o;exact .inr (.inl ⟨p,vs,i,v,rfl,rfl,SqT.of hp,h1,h2⟩)
  | @rol p vs xs hp r =>
   simp only [gIx,yx] at o;obtain ⟨v,h1,h2⟩:=go (p:=p) r o;exact .inl ⟨p,vs,i,v,rfl,rfl,hp.l,h1,h2⟩
  | @ref p j hp =>
   obtain ⟨ob,e1,e2⟩:=hr.at hp
   cases ob with
   | lst xs =>
    simp only [gIx,yx,e1] at o;obtain ⟨vs,h3,h4⟩:=e2;obtain ⟨v,h1,h2⟩:=go (p:=p) h4 o;exact .inl ⟨p,vs,i,v,rfl,rfl,SqL.of h3,h1,h2⟩
   | dK _=>simp only [gIx,yx,e1] at o;exact o.elim
   | dT _=>simp only [gIx,yx,e1] at o;exact o.elim
  | _=>exact o.elim
 | _=>exact o.elim
theorem dj(ha:ME X E a fa)(hb:ME X E b fb)(hp:a3q b):ME X E (.Subscript a b pos) (s2 gIx fa fb):=akt ah1 ahs ha hb hp
abbrev SO:=Sd->Hd->R (Option Int)
abbrev MO(X:Cx)(E:XD)(e:Option Expr)(f:SO):Prop:=PO X e (lift X.K E an4 f)
def oN:SO:=λ_ h=>.ok none h
def oS(f:SE):SO:=λτ h=>(f τ h).bind λd h1=>match d with | .int i=>.ok (some i) h1 | _=>.no
theorem PO.weak{e:Option Expr}{t t':St->Hp->(Option Int->Hp->Prop)->Prop}(h:PO X e t)(i:∀ σ H Q,t' σ H Q->t σ H Q):PO X e t':=λpins s σ H Q I q=>h pins s σ H Q I (i _ _ _ q)
theorem a1i:MO X E none oN:=PO.weak adl λσ H Q ⟨ι,τ,h,S,Rh,o⟩=>o ι H none (.refl _ _) rfl Rh
theorem a1j(he:ME X E e fa):MO X E (some e) (oS fa):=by
 refine PO.weak (adm he) λσ H Q ⟨ι,τ,h,S,Rh,o⟩=>?_;refine ⟨ι,τ,h,S,Rh,cj o λd h1 ι1 H1 v g1 r1 hr1 o1=>?_⟩
 cases r1 with
 | int i=>exact ⟨i,rfl,o1 ι1 H1 _ (.refl _ _) rfl hr1⟩
 | _=>exact o1.elim
def whole(n:Nat)(lo hi:Option Int):Prop:=HT.sIx n 0 lo=0/\HT.sIx n n hi=n
instance (n:Nat) (lo hi:Option Int):Decidable (whole n lo hi):=by unfold whole;exact inferInstance
def gSl(d:D)(lo hi:Option Int)(h:Hd):R D:=match d with
 | .str z=>if z.length<=LINE then .ok (.str ⟨(a2f z.cps.toList lo hi).toArray⟩) h else .no
 | .tup xs=>if ¬ whole xs.length lo hi then .ok (.tup (a2f xs lo hi)) h else .no
 | .rol xs=>.ok (.ref h.length) (h++[.lst (a2f xs lo hi)])
 | .scr xs=>.ok (.ref h.length) (h++[.lst (a2f xs lo hi)])
 | .ref i=>match h[i]? with | some (.lst xs)=>.ok (.ref h.length) (h++[.lst (a2f xs lo hi)]) | _=>.no
 | _=>.no
theorem vo{ι:List Addr}{H:Hp}{vs:List V}{xs:List D}(r:Reps K ι H vs xs)(lo hi:Option Int):Reps K ι H (aby vs lo hi) (a2f xs lo hi):=by
 unfold aby a2f;rw [r.len];exact (r.drop _).take _
theorem a5l{ι:List Addr}{H:Hp}{h:Hd}{x:V}{d:D}{lo hi:Option Int}{Q:VK}(rx:Rep K ι H x d)(hr:HRep K ι H h)(o:out K E (qb K) ι H (gSl d lo hi h) Q):ako x lo hi H Q\/akk K x lo hi H Q\/akm K x lo hi H Q:=by
 cases rx with
 | str z =>
  by_cases hc:z.length<=LINE
  ·simp only [gSl,if_pos hc] at o;exact .inl ⟨z,rfl,ll hc,ans o (.str _) hr⟩
  ·simp only [gSl,if_neg hc] at o;exact o.elim
 | @tup p vs xs hp r =>
  by_cases hc:¬ whole xs.length lo hi
  ·simp only [gSl,if_pos hc] at o;exact .inr (.inl ⟨p,vs,rfl,SqT.of hp,by rw [r.len];exact hc,a1d (vo r lo hi) hr o⟩)
  ·simp only [gSl,if_neg hc] at o;exact o.elim
 | @rol p vs xs hp r=>exact .inr (.inr ⟨p,vs,rfl,hp.l,lu (vo r lo hi) hr o⟩)
 | @scr p vs xs hp r=>exact .inr (.inr ⟨p,vs,rfl,hp.l,lu (vo r lo hi) hr o⟩)
 | @ref p j hp =>
  obtain ⟨ob,e1,e2⟩:=hr.at hp
  cases ob with
  | lst xs =>
   simp only [gSl,e1] at o;obtain ⟨vs,h3,h4⟩:=e2;exact .inr (.inr ⟨p,vs,rfl,SqL.of h3,lu (vo h4 lo hi) hr o⟩)
  | dK _=>simp only [gSl,e1] at o;exact o.elim
  | dT _=>simp only [gSl,e1] at o;exact o.elim
 | _=>exact o.elim
theorem one_sign{z:Str}{c:Nat}(h:z.cps.toList=[c]):z=⟨#[c]⟩:=by
 obtain ⟨cps⟩:=z
 congr
 exact Array.ext' (by simpa using h)
def qj:List D->Hd->R D
 | [.str z],h=>if z.length<=LINE then .ok (.int z.length) h else .no
 | [x],h=>(match yx x h with | some xs=>.ok (.int xs.length) h | none=>.no)
 | _,_=>.no
theorem jt:a80 K qj (λxs H Q=>(∃ p ys,xs=[.ref p]/\(SqL K H p ys\/SqT K H p ys)/\Q (.int ys.length) H)\/∃ z,xs=[.str z]/\z.length<=sizeLine/\Q (.int z.length) H):=by
 intro E ι H h xs ds Q r hr o
 cases r with
 | nil=>exact o.elim
 | cons r rs =>
  cases rs with
  | cons _ _=>exact (show False by cases r<;>exact o).elim
  | nil =>
   cases r with
   | str z =>
    by_cases hc:z.length<=LINE
    ·simp only [qj,if_pos hc] at o;exact .inr ⟨z,rfl,ll hc,ans o (.int _) hr⟩
    ·simp only [qj,if_neg hc] at o;exact o.elim
   | @tup p vs xs hp r=>simp only [qj,yx] at o;exact .inl ⟨p,vs,rfl, .inr (SqT.of hp),by rw [r.len];exact ans o (.int _) hr⟩
   | @rol p vs xs hp r=>simp only [qj,yx] at o;exact .inl ⟨p,vs,rfl, .inl hp.l,by rw [r.len];exact ans o (.int _) hr⟩
   | @ref p j hp =>
    obtain ⟨ob,e1,e2⟩:=hr.at hp
    cases ob with
    | lst xs =>
     simp only [qj,yx,e1] at o;obtain ⟨vs,h3,h4⟩:=e2;exact .inl ⟨p,vs,rfl, .inl (SqL.of h3),by rw [h4.len];exact ans o (.int _) hr⟩
    | dK _=>simp only [qj,yx,e1] at o;exact o.elim
    | dT _=>simp only [qj,yx,e1] at o;exact o.elim
   | _=>exact o.elim
def ajt:List D->Hd->R D
 | [.int i],h=>.ok (.int (if i<0 then -i else i)) h
 | _,_=>.no
theorem ae9:a80 K ajt (λxs H Q=>∃ i,xs=[.int i]/\Q (.int (if i<0 then -i else i)) H):=by
 intro E ι H h xs ds Q r hr o
 unfold ajt at o
 split at o
 ·cases r with | cons r rs=>cases r;cases rs;exact ⟨_,rfl,ans o (.int _) hr⟩
 ·exact o.elim
def aht:List D->Hd->R D
 | [.int i, .int j],h=>.ok (.int (if j > i then j else i)) h
 | _,_=>.no
def a6y:List D->Hd->R D
 | [.int i, .int j],h=>.ok (.int (if j<i then j else i)) h
 | _,_=>.no
theorem aar:a80 K a6y (λxs H Q=>∃ i j,xs=[.int i, .int j]/\Q (.int (if j<i then j else i)) H):=by
 intro E ι H h xs ds Q r hr o
 unfold a6y at o
 split at o
 ·cases r with | cons r rs=>cases rs with | cons q rs=>cases r;cases q;cases rs;exact ⟨_,_,rfl,ans o (.int _) hr⟩
 ·exact o.elim
def ahu:List D->Hd->R D
 | [.int i],h=>.ok (.int i) h
 | [.bl k],h=>.ok (.int (if k then 1 else 0)) h
 | _,_=>.no
theorem aea:a80 K ahu (λxs H Q=>(∃ i,xs=[.int i]/\Q (.int i) H)\/∃ k,xs=[.bl k]/\Q (.int (if k then 1 else 0)) H):=by
 intro E ι H h xs ds Q r hr o
 unfold ahu at o
 split at o
 ·cases r with | cons r rs=>cases r;cases rs;exact .inl ⟨_,rfl,ans o (.int _) hr⟩
 ·cases r with | cons r rs=>cases r;cases rs;exact .inr ⟨_,rfl,ans o (.int _) hr⟩
 ·exact o.elim
def tyD(d:D)(h:Hd):Option String:=match d with
 | .non=>some "NoneType" | .bl _=>some "bool" | .int _=>some "int" | .str _=>some "str" | .tup _=>some "tuple" | .rol _=>some "list"
 | .ref i=>(match h[i]? with | some (.lst _)=>some "list" | some (.dK _)=>some "dict" | _=>none)
 | _=>none
def a0b(t T:String):Option Bool :=
 if t∈["NoneType", "bool", "int", "str", "tuple", "list", "dict"]/\T∈["bool", "int", "str", "tuple", "list", "dict"] then some (t == T || (t == "bool" && T == "int")) else none
theorem a8b{t T:String}{b:Bool}(e:a0b t T=some b):PySem.W.kitOne K (.type t) (.type T)=some b:=by
 unfold a0b at e
 split at e
 ·rename_i h;obtain ⟨h1,h2⟩:=h;simp only [List.mem_cons,List.not_mem_nil,or_false] at h1 h2
  rcases h1 with rfl | rfl | rfl | rfl | rfl | rfl | rfl<;>rcases h2 with rfl | rfl | rfl | rfl | rfl | rfl<;>(cases e;rfl)
 ·cases e
def a1k:List D->Hd->R D
 | [x, .ty T],h=>(match tyD x h with | some t=>(match a0b t T with | some b=>.ok (.bl b) h | none=>.no) | none=>.no)
 | _,_=>.no
theorem ahv{ι:List Addr}{H:Hp}{h:Hd}{x:V}{d:D}{t:String}(r:Rep K ι H x d)(hr:HRep K ι H h)(e:tyD d h=some t):TyOf K H x (.type t):=by
 cases r with
 | non=>cases e;exact .non
 | bl b=>cases e;exact .bl b
 | int b=>cases e;exact .int b
 | str b=>cases e;exact .str b
 | ty _=>cases e
 | tup hp r=>cases e;exact .tup hp
 | rol hp r=>cases e;obtain ⟨o,hp⟩:=hp;exact .frz hp
 | scr _ _=>cases e
 | rod _ _ _=>cases e
 | rdT _ _ _=>cases e
 | exc _ _ _=>cases e
 | ref hp =>
  obtain ⟨ob,e1,e2⟩:=hr.at hp
  cases ob with
  | lst xs=>simp only [tyD,e1] at e;cases e;obtain ⟨vs,h3,h4⟩:=e2;exact .lst h3
  | dK _=>simp only [tyD,e1] at e;cases e;obtain ⟨vs,h3,h4⟩:=e2;exact .dK h3
  | dT _=>simp only [tyD,e1] at e;cases e
theorem aeb:a80 K a1k (λxs H Q=>∃ x T t b,xs=[x, .ty T]/\TyOf K H x t/\PySem.W.kitOne K t (.type T)=some b/\Q (.bl b) H):=by
 intro E ι H h xs ds Q r hr o
 unfold a1k at o
 split at o
 ·rename_i d T
  cases r with
  | cons r rs =>
   cases rs with
   | cons q rs =>
    cases q;cases rs
    cases ht:tyD d h with
    | none=>rw [ht] at o;exact o.elim
    | some t =>
     rw [ht] at o
     cases hb:a0b t T with
     | none=>simp only [hb] at o;exact o.elim
     | some b =>
      simp only [hb] at o;exact ⟨_,T, .type t,b,rfl,ahv r hr ht,a8b hb,ans o (.bl _) hr⟩
 ·exact o.elim
end
section
variable{X:Cx}{K:PySem.W.Frag}{E:XD}{a b e o:Expr}{es:List Expr}{fa fb fo:SE}{ka:SA}{pos apos cpos:Pos}{name:Str}{idn:String}
def acf(K:PySem.W.Frag)(g:D->List D->Hd->R D)(r:V->List V->Hp->VK->Prop):Prop:=∀ (E:XD) ι H h x dx xs ds Q,Rep K ι H x dx->Reps K ι H xs ds->HRep K ι H h->out K E (qb K) ι H (g dx ds h) Q->r x xs H Q
def isL(d:D)(h:Hd):Bool:=match d with | .ref i=>(match h[i]? with | some (.lst _)=>true | _=>false) | .rol _=>true | _=>false
def sML(g:D->List D->Hd->R D)(f:SE)(k:SA):SE:=λτ h=>(f τ h).bind λd h1=>if isL d h1=true then (k τ h1).bind λds h2=>g d ds h2 else .no
theorem ahw{ι:List Addr}{H:Hp}{h:Hd}{x:V}{d:D}(r:Rep K ι H x d)(hr:HRep K ι H h)(e:isL d h=true):tyV K "list" x H:=by
 cases r with
 | rol hp _=>exact .inl ⟨rfl,_,hp.l⟩
 | ref hp =>
  obtain ⟨ob,e1,e2⟩:=hr.at hp
  cases ob with
  | lst xs=>obtain ⟨vs,h3,_⟩:=e2;exact .inl ⟨rfl,_,SqL.of h3⟩
  | dK _=>simp [isL,e1] at e
  | dT _=>simp [isL,e1] at e
 | _=>cases e
theorem a8c{r:V->List V->Hp->VK->Prop}{g:D->List D->Hd->R D}(slot:Slot "list" name idn)(hty:typeOf (.builtin idn)=pure (.type "method_descriptor"))(hm:MtR X idn r)(hs:acf X.K g r)(ho:ME X E o fo)(ha:MA X E (e::es) ka)
  (hbase:attributeBase o name X.env (eval o X.env)=eval o X.env:=by rfl)
  (hfew:((backTo cpos (starEach (e::es) X.env)).all (λx => !x.1) && (backToKw cpos (keywordEach [] X.env)).all (λx=>x.1.isSome)
   && decide ((e::es).length+([]:List Keyword).length+(if ([]:List Keyword).isEmpty then 0 else 1)<30))=true:=by rfl)
  (hline:(apos.endLine == cpos.line)=true:=by rfl) (hst:starEach (e::es) X.env=(false,eval e X.env)::starEach es X.env:=by rfl) (hplain:(backTo cpos (starEach es X.env)).any (·.1)=false:=by rfl) :
  ME X E (.Call (.Attribute o name apos) (e::es) [] cpos) (sML g fo ka):=by
 refine PE.weak (akn PySem.F.plainAttrs_list slot hty hm ho ha hbase hfew hline hst hplain) λσ H Q ⟨ι,τ,h,S,Rh,o⟩=>?_;refine ⟨ι,τ,h,S,Rh,cj o λd h1 ι1 H1 v g1 r1 hr1 o1=>?_⟩
 by_cases hc:isL d h1=true
 ·rw [if_pos hc] at o1;refine ⟨ahw r1 hr1 hc,ι1,τ,h1,S.mono g1,hr1,cj o1 λds h2 ι2 H2 vs g2 r2 hr2 o2=>?_⟩;exact hs E ι2 H2 h2 v d vs ds Q (r1.mono g2) r2 hr2 o2
 ·rw [if_neg hc] at o1;exact o1.elim
def aas:D->List D->Hd->R D
 | .ref i,[y],h=>(match h[i]? with | some (.lst xs)=>if xs.length<LINE then .ok .non (h.set i (.lst (xs++[y]))) else .no | _=>.no)
 | _,_,_=>.no
theorem a4c:acf K aas a7t:=by
 intro E ι H h x dx xs ds Q rx r hr o
 unfold aas at o
 split at o
 ·rename_i i y
  cases rx with
  | @ref p _ hp =>
   cases r with
   | cons r1 rs =>
    cases rs
    split at o
    ·rename_i xs hx;obtain ⟨vs,h3,h4⟩:=hr.lst hp hx
     split at o
     ·rename_i hc;exact ⟨p,vs,_,rfl,rfl,h3,by rw [h4.len,akp];exact hc,a84 (h4.snoc r1) hr hp .non o⟩
     ·exact o.elim
    ·exact o.elim
 ·exact o.elim
def a2w:D->List D->Hd->R D
 | .ref i,[.int j],h=>(match h[i]? with | some (.lst xs)=>(match ixN xs.length j with | some k=>(match xs[k]? with | some y=>if xs.length<=LINE then .ok y (h.set i (.lst (xs.eraseIdx k))) else .no | none=>.no) | none=>.no) | _=>.no)
 | _,_,_=>.no
theorem a8d:acf K a2w ac1:=by
 intro E ι H h x dx xs ds Q rx r hr o
 unfold a2w at o
 split at o
 ·rename_i i j
  cases rx with
  | @ref p _ hp =>
   cases r with
   | cons r1 rs =>
    cases r1;cases rs
    split at o
    ·rename_i xs hx;obtain ⟨vs,h3,h4⟩:=hr.lst hp hx
     split at o
     ·rename_i k hk
      split at o
      ·rename_i y hy
       split at o
       ·rename_i hl;obtain ⟨v,h5,h6⟩:=h4.get hy;obtain ⟨q1,q2,q3,q4⟩:=a3p hk;have hl':xs.length<=16777216:=hl;exact ⟨p,vs,j,k,v,rfl,rfl,h3,by omega,by omega,by rw [h4.len];exact q1,h5,a84 (h4.erase k) hr hp h6 o⟩
       ·exact o.elim
      ·exact o.elim
     ·exact o.elim
    ·exact o.elim
 ·exact o.elim
def sMS(g:D->List D->Hd->R D)(f:SE)(k:SA):SE:=λτ h=>(f τ h).bind λd h1=>match d with | .str z=>(k τ h1).bind λds h2=>g (.str z) ds h2 | _=>.no
theorem aec{r:V->List V->Hp->VK->Prop}{g:D->List D->Hd->R D}(slot:Slot "str" name idn)(hty:typeOf (.builtin idn)=pure (.type "method_descriptor"))(hm:MtR X idn r)(hs:acf X.K g r)(ho:ME X E o fo)(ha:MA X E (e::es) ka)
  (hbase:attributeBase o name X.env (eval o X.env)=eval o X.env:=by rfl)
  (hfew:((backTo cpos (starEach (e::es) X.env)).all (λx => !x.1) && (backToKw cpos (keywordEach [] X.env)).all (λx=>x.1.isSome)
   && decide ((e::es).length+([]:List Keyword).length+(if ([]:List Keyword).isEmpty then 0 else 1)<30))=true:=by rfl)
  (hline:(apos.endLine == cpos.line)=true:=by rfl) (hst:starEach (e::es) X.env=(false,eval e X.env)::starEach es X.env:=by rfl) (hplain:(backTo cpos (starEach es X.env)).any (·.1)=false:=by rfl) :
  ME X E (.Call (.Attribute o name apos) (e::es) [] cpos) (sMS g fo ka):=by
 refine PE.weak (akr slot hty hm ho ha hbase hfew hline hst hplain) λσ H Q ⟨ι,τ,h,S,Rh,o⟩=>?_;refine ⟨ι,τ,h,S,Rh,cj o λd h1 ι1 H1 v g1 r1 hr1 o1=>?_⟩
 cases r1 with
 | str z=>exact ⟨⟨z,rfl⟩,ι1,τ,h1,S.mono g1,hr1,cj o1 λds h2 ι2 H2 vs g2 r2 hr2 o2=>hs E ι2 H2 h2 _ _ vs ds Q (.str z) r2 hr2 o2⟩
 | _=>exact o1.elim
def aed:List D->Option (List Str)
 | []=>some []
 | .str z::r=>(aed r).map (z::·)
 | _::_=>none
theorem aat{ι:List Addr}{H:Hp}:∀ {vs:List V} {xs:List D} {zs:List Str},Reps K ι H vs xs->aed xs=some zs->vs=zs.map V.str
 | _,_,_, .nil,e=>by cases e;rfl
 | _,_,zs, .cons (d:=d) r rs,e=>by
  cases r with
  | str z =>
   simp only [aed,Option.map_eq_some_iff] at e;obtain ⟨ws,h1,rfl⟩:=e;rw [aat rs h1];rfl
  | _=>cases e
def yr:List D->Hd->R D
 | [.str z],h=>if z.length<=LINE then .ok (.ref h.length) (h++[.lst (uw z)]) else .no
 | [x],h=>(match yx x h with | some xs=>.ok (.ref h.length) (h++[.lst xs]) | none=>.no)
 | _,_=>.no
theorem a6z{ι:List Addr}{H:Hp}(z:Str):Reps K ι H (zx z) (uw z):=by
 unfold zx uw
 induction z.cps.toList with
 | nil=>exact .nil
 | cons c cs ih=>exact .cons (.str _) ih
theorem a1l:a80 K yr (λxs H Q=>(∃ p ys,xs=[.ref p]/\(SqL K H p ys\/SqT K H p ys)/\∀ l,H l=none->Q (.ref l) (upd H l (.lst ys)))\/∃ z,xs=[.str z]/\z.length<=sizeLine/\∀ l,H l=none->Q (.ref l) (upd H l (.lst (zx z)))):=by
 intro E ι H h xs ds Q r hr o
 cases r with
 | nil=>exact o.elim
 | cons r rs =>
  cases rs with
  | cons _ _=>exact (show False by cases r<;>exact o).elim
  | nil =>
   cases r with
   | str z =>
    by_cases hc:z.length<=LINE
    ·simp only [yr,if_pos hc] at o;exact .inr ⟨z,rfl,ll hc,lu (a6z z) hr o⟩
    ·simp only [yr,if_neg hc] at o;exact o.elim
   | @tup p vs xs hp r=>simp only [yr,yx] at o;exact .inl ⟨p,vs,rfl, .inr (SqT.of hp),lu r hr o⟩
   | @rol p vs xs hp r=>simp only [yr,yx] at o;exact .inl ⟨p,vs,rfl, .inl hp.l,lu r hr o⟩
   | @ref p j hp =>
    obtain ⟨ob,e1,e2⟩:=hr.at hp
    cases ob with
    | lst xs =>
     simp only [yr,yx,e1] at o;obtain ⟨vs,h3,h4⟩:=e2;exact .inl ⟨p,vs,rfl, .inl (SqL.of h3),lu h4 hr o⟩
    | dK _=>simp only [yr,yx,e1] at o;exact o.elim
    | dT _=>simp only [yr,yx,e1] at o;exact o.elim
   | _=>exact o.elim
def uq:List D->Option (List Int)
 | []=>some []
 | .int z::r=>(uq r).map (z::·)
 | _::_=>none
theorem vp{ι:List Addr}{H:Hp}:∀ {vs:List V} {xs:List D} {zs:List Int},Reps K ι H vs xs->uq xs=some zs->vs=zs.map V.int
 | _,_,_, .nil,e=>by cases e;rfl
 | _,_,zs, .cons (d:=d) r rs,e=>by
  cases r with
  | int z =>
   simp only [uq,Option.map_eq_some_iff] at e;obtain ⟨ws,h1,rfl⟩:=e;rw [vp rs h1];rfl
  | _=>cases e
def acg:List D->Hd->R D
 | [.ref i],h=>(match h[i]? with | some (.lst xs)=>(match uq xs with | some bs=>.ok (.int bs.sum) h | none=>.no) | _=>.no)
 | [.rol xs],h=>(match uq xs with | some bs=>.ok (.int bs.sum) h | none=>.no)
 | _,_=>.no
theorem a8e:a80 K acg (λxs H Q=>∃ (p:Addr) (ns:List Int),xs=[.ref p]/\SqL K H p (ns.map V.int)/\Q (.int ns.sum) H):=by
 intro E ι H h xs ds Q r hr o
 unfold acg at o
 split at o
 ·cases r with
  | cons r rs =>
   cases rs
   cases r with
   | @ref p _ hp =>
    split at o
    ·rename_i xs hx;obtain ⟨vs,h3,h4⟩:=hr.lst hp hx
     split at o
     ·rename_i bs hb;exact ⟨p,bs,rfl,SqL.of (by rw [h3,vp h4 hb]),ans o (.int _) hr⟩
     ·exact o.elim
    ·exact o.elim
 ·cases r with
  | cons r rs =>
   cases rs
   cases r with
   | @rol p vs xs hp r =>
    split at o
    ·rename_i bs hb;exact ⟨p,bs,rfl,by rw [<-vp r hb];exact hp.l,ans o (.int _) hr⟩
    ·exact o.elim
 ·exact o.elim
end
end MI
theorem L2.Room.u{k:Nat}{A:PySem.Around}(r:L2.Room k A):A.units+64<PySem.cLine:=r.units
namespace MI
open PySem PySem.Spec L2
mutual
def eqD:D->D->Bool
 | .non, .non=>true
 | .bl a, .bl b=>a == b
 | .bl a, .int b=>(if a then 1 else 0) == b
 | .int a, .bl b=>a == (if b then 1 else 0)
 | .int a, .int b=>a == b
 | .str a, .str b=>a == b
 | .tup xs, .tup ys=>a0c xs ys
 | _,_=>false
def a0c:List D->List D->Bool
 | [],[]=>true
 | x::xs,y::ys=>eqD x y && a0c xs ys
 | _,_=>false
end
def pur:Nat->D->Bool
 | _, .non=>true
 | _, .bl _=>true
 | _, .int _=>true
 | _, .str _=>true
 | n+1, .tup xs=>xs.all (pur n)
 | _,_=>false
def pairE(xs ys:List D)(j:Nat):Bool:=match xs[j]?,ys[j]? with | some x,some y=>eqD x y | _,_=>false
theorem vq:∀ xs ys:List D,((List.range (min xs.length ys.length)).all (pairE xs ys) && xs.length == ys.length)=a0c xs ys
 | [],[]=>by simp [a0c]
 | [],_::_=>by simp [a0c]
 | _::_,[]=>by simp [a0c]
 | x::xs,y::ys=>by
  have ih:=vq xs ys;rw [show min (x::xs).length (y::ys).length=min xs.length ys.length+1 by simp only [List.length_cons];omega,List.range_succ_eq_map]
  rw [List.all_cons,List.all_map];have e:(pairE (x::xs) (y::ys) ∘ Nat.succ)=pairE xs ys:=by funext j;simp [pairE]
  rw [e];simp only [a0c];rw [<-ih];have e2:((x::xs).length == (y::ys).length)=(xs.length == ys.length):=by simp
  rw [e2,Bool.and_assoc];rfl
section
variable{K:PySem.W.Frag}{ι:List Addr}{H:Hp}
theorem aau:∀ (n:Nat) {v:V} {d e:D},Rep K ι H v d->Rep K ι H v e->pur n d=true->pur n e=true->eqD d e=true:=by
 intro n
 induction n with
 | zero=>intro v d e r q p1 p2;cases r<;>cases q<;>first | (simp [eqD];done) | (cases p1;done) | (cases p2;done)
 | succ n ih =>
  intro v d e r q p1 p2
  cases r with
  | @tup a vs xs h rs =>
   cases q with
   | @tup _ us ys h' qs =>
    rw [h] at h';cases h'
    simp only [eqD];simp only [pur,List.all_eq_true] at p1 p2
    clear h
    induction rs using Reps.rec (motive_1:=λ_ _ _=>True) generalizing ys with
    | nil=>cases qs;rfl
    | cons r rs _ ih2 =>
     cases qs with
     | cons q qs =>
      simp only [a0c,Bool.and_eq_true];exact ⟨ih r q (p1 _ (List.mem_cons_self ..)) (p2 _ (List.mem_cons_self ..)),ih2 qs (λx hx=>p1 x (List.mem_cons_of_mem _ hx)) (λx hx=>p2 x (List.mem_cons_of_mem _ hx))⟩
    | _=>trivial
   | _=>cases p2
  | _=>cases q<;>first | (simp [eqD];done) | (cases p1;done) | (cases p2;done)
theorem yj{n:Nat}{v:V}{d:D}(r:Rep K ι H v d)(p:pur n d=true):(∃ xs,d = .tup xs)\/(a3r v=true/\a8a d=true):=by
 cases r<;>first | exact .inr ⟨rfl,rfl⟩ | exact .inl ⟨_,rfl⟩ | (cases n<;>cases p)
theorem a1m{x y:V}{d e:D}(r:Rep K ι H x d)(q:Rep K ι H y e)(f:a8a d=true)(g:a8a e=true):eqV x y=eqD d e:=by
 cases r<;>cases q<;>first | rfl | (simp [eqV,eqD];done) | (cases f;done) | (cases g;done)
open SeqAt in
theorem a8f{P:Program}{w:World}{s:Shared}(hok:HOk P w H s.heap):∀ (n:Nat) (A:Around) {x y:V} {u v:Value} {d e:D},Rep K ι H x d->Rep K ι H y e->RelV x u->RelV y v->pur n d=true->pur n e=true->A.units+n<cLine->EqAt A s u v (eqD d e):=by
 intro n
 induction n with
 | zero =>
  intro A x y u v d e r q rx ry p1 p2 hu
  rcases yj r p1 with ⟨xs,rfl⟩ | ⟨f1,f2⟩
  ·cases p1
  ·rcases yj q p2 with ⟨xs,rfl⟩ | ⟨g1,g2⟩
   ·cases p2
   ·rw [<-a1m r q f2 g2];exact abz rx ry f1 g1
 | succ n ih =>
  intro A x y u v d e r q rx ry p1 p2 hu
  rcases yj r p1 with ⟨xs,rfl⟩ | ⟨f1,f2⟩
  ·cases r with
   | @tup a vs _ ha rs =>
    cases rx
    obtain ⟨_,its,r1,t1⟩:=(Rd.of ha).ok hok
    rcases yj q p2 with ⟨ys,rfl⟩ | ⟨g1,g2⟩
    ·cases q with
     | @tup b us _ hb qs =>
      cases ry
      obtain ⟨_,its2,r2,t2⟩:=(Rd.of hb).ok hok
      by_cases hab:a=b
      ·subst hab;rw [aau (n+1) (.tup ha rs) (.tup hb qs) p1 p2];exact EqAt.same _
      ·have l1:its.toArray.size=xs.length:=by rw [List.size_toArray,<-r1.length,rs.len]
       have l2:its2.toArray.size=ys.length:=by rw [List.size_toArray,<-r2.length,qs.len]
       have:=RcAt.tuples (A:=A) (s:=s) (e:=pairE xs ys) t1 t2 (by omega) (λj h1 h2=>by
        have j1:j<xs.length:=by omega
        have j2:j<ys.length:=by omega
        obtain ⟨v1,e1,q1⟩:=rs.get (List.getElem?_eq_getElem j1);obtain ⟨v2,e2,q2⟩:=qs.get (List.getElem?_eq_getElem j2);obtain ⟨u1,e3,q3⟩:=r1.get e1;obtain ⟨u2,e4,q4⟩:=r2.get e2;have f1:its.toArray[j]=u1:=by simpa using (List.getElem?_eq_some_iff.mp e3).2
        have f2:its2.toArray[j]=u2:=by simpa using (List.getElem?_eq_some_iff.mp e4).2
        have pe:pairE xs ys j=eqD xs[j] ys[j]:=by simp [pairE,List.getElem?_eq_getElem j1,List.getElem?_eq_getElem j2]
        rw [f1,f2,pe];simp only [pur,List.all_eq_true] at p1 p2;exact ih A.in1 q1 q2 q3 q4 (p1 _ (List.getElem_mem j1)) (p2 _ (List.getElem_mem j2)) (by rw [Around.in1_units];omega))
       rw [l1,l2,vq] at this;exact EqAt.of_refs hab this
    ·have e0:eqD (.tup xs) e=false:=by cases e<;>first | rfl | (cases g2;done)
     rw [e0]
     cases y with
     | non=>cases ry;exact EqAt.tuple_none t1 (by omega)
     | bl b=>cases ry;exact EqAt.tuple_bool b t1 (by omega)
     | int b=>obtain ⟨t,rfl⟩:=ry;exact EqAt.tuple_int b t t1 (by omega)
     | str b=>obtain ⟨t,rfl⟩:=ry;exact EqAt.tuple_str b t t1 (by omega)
     | _=>cases g1
  ·rcases yj q p2 with ⟨ys,rfl⟩ | ⟨g1,g2⟩
   ·cases q with
    | @tup b us _ hb qs =>
     cases ry
     obtain ⟨_,its2,r2,t2⟩:=(Rd.of hb).ok hok;have e0:eqD d (.tup ys)=false:=by cases d<;>first | rfl | (cases f2;done)
     rw [e0]
     cases x with
     | non=>cases rx;exact EqAt.none_tuple t2 (by omega)
     | bl b=>cases rx;exact EqAt.bool_tuple b t2 (by omega)
     | int b=>obtain ⟨t,rfl⟩:=rx;exact EqAt.int_tuple b t t2 (by omega)
     | str b=>obtain ⟨t,rfl⟩:=rx;exact EqAt.str_tuple b t t2 (by omega)
     | _=>cases f1
   ·rw [<-a1m r q f2 g2];exact abz rx ry f1 g1
open SeqAt in
theorem ahx{A:Around}{s:Shared}{y x:V}{u v:Value}(ry:RelV y u)(rx:RelV x v)(fy:a3r y=true)(fx:a3r x=true):RcAt A s u v (eqV y x):=by
 cases y with
 | non =>
  cases ry
  cases x with
  | non=>cases rx;exact RcAt.none_none
  | bl b=>cases rx;exact RcAt.none_bool b
  | int b=>obtain ⟨t,rfl⟩:=rx;exact RcAt.none_int b t
  | str b=>obtain ⟨t,rfl⟩:=rx;exact RcAt.none_str b t
  | _=>cases fx
 | bl a =>
  cases ry
  cases x with
  | non=>cases rx;exact RcAt.bool_none a
  | bl b=>cases rx;exact RcAt.bool_bool a b
  | int b=>obtain ⟨t,rfl⟩:=rx;exact RcAt.bool_int a b t
  | str b=>obtain ⟨t,rfl⟩:=rx;exact RcAt.bool_str a b t
  | _=>cases fx
 | int a =>
  obtain ⟨t',rfl⟩:=ry
  cases x with
  | non=>cases rx;exact RcAt.int_none a t'
  | bl b=>cases rx;exact RcAt.int_bool a t' b
  | int b=>obtain ⟨t,rfl⟩:=rx;exact RcAt.int_int a t' b t
  | str b=>obtain ⟨t,rfl⟩:=rx;exact RcAt.int_str a t' b t
  | _=>cases fx
 | str a =>
  obtain ⟨t',rfl⟩:=ry
  cases x with
  | non=>cases rx;exact RcAt.str_none a t'
  | bl b=>cases rx;exact RcAt.str_bool a t' b
  | int b=>obtain ⟨t,rfl⟩:=rx;exact RcAt.str_int a t' b t
  | str b=>obtain ⟨t,rfl⟩:=rx;exact RcAt.str_str a t' b t
  | _=>cases fx
 | _=>cases fy
open SeqAt in
theorem aav{A:Around}{s:Shared}{y x:V}{u v:Value}(ry:RelV y u)(rx:RelV x v)(fy:a3r y=true)(fx:a3r x=true):RcNeAt A s u v (!eqV y x):=by
 cases y with
 | non =>
  cases ry
  cases x with
  | non=>cases rx;exact RcNeAt.none_none
  | bl b=>cases rx;exact RcNeAt.none_bool b
  | int b=>obtain ⟨t,rfl⟩:=rx;exact RcNeAt.none_int b t
  | str b=>obtain ⟨t,rfl⟩:=rx;exact RcNeAt.none_str b t
  | _=>cases fx
 | bl a =>
  cases ry
  cases x with
  | non=>cases rx;exact RcNeAt.bool_none a
  | bl b=>cases rx;exact RcNeAt.bool_bool a b
  | int b=>obtain ⟨t,rfl⟩:=rx;exact RcNeAt.bool_int a b t
  | str b=>obtain ⟨t,rfl⟩:=rx;exact RcNeAt.bool_str a b t
  | _=>cases fx
 | int a =>
  obtain ⟨t',rfl⟩:=ry
  cases x with
  | non=>cases rx;exact RcNeAt.int_none a t'
  | bl b=>cases rx;exact RcNeAt.int_bool a t' b
  | int b=>obtain ⟨t,rfl⟩:=rx;exact RcNeAt.int_int a t' b t
  | str b=>obtain ⟨t,rfl⟩:=rx;exact RcNeAt.int_str a t' b t
  | _=>cases fx
 | str a =>
  obtain ⟨t',rfl⟩:=ry
  cases x with
  | non=>cases rx;exact RcNeAt.str_none a t'
  | bl b=>cases rx;exact RcNeAt.str_bool a t' b
  | int b=>obtain ⟨t,rfl⟩:=rx;exact RcNeAt.str_int a t' b t
  | str b=>obtain ⟨t,rfl⟩:=rx;exact RcNeAt.str_str a t' b t
  | _=>cases fx
 | _=>cases fy
open SeqAt in
theorem tops{P:Program}{w:World}{s:Shared}{A:Around}(hok:HOk P w H s.heap){x y:V}{u v:Value}{d e:D}(r:Rep K ι H x d)(q:Rep K ι H y e)(rx:RelV x u)(ry:RelV y v)(p1:pur 60 d=true)(p2:pur 60 e=true)(hu:A.units+64<cLine) :
  RcAt A s u v (eqD d e)/\RcNeAt A s u v (!eqD d e):=by
 rcases yj r p1 with ⟨xs,rfl⟩ | ⟨f1,f2⟩
 ·cases r with
  | @tup a vs _ ha rs =>
   cases rx
   obtain ⟨_,its,r1,t1⟩:=(Rd.of ha).ok hok
   rcases yj q p2 with ⟨ys,rfl⟩ | ⟨g1,g2⟩
   ·cases q with
    | @tup b us _ hb qs =>
     cases ry
     obtain ⟨_,its2,r2,t2⟩:=(Rd.of hb).ok hok;have l1:its.toArray.size=xs.length:=by rw [List.size_toArray,<-r1.length,rs.len]
     have l2:its2.toArray.size=ys.length:=by rw [List.size_toArray,<-r2.length,qs.len]
     have step:∀ j (h1:j<its.toArray.size) (h2:j<its2.toArray.size),EqAt A.in1 s its.toArray[j] its2.toArray[j] (pairE xs ys j):=λj h1 h2=>by
      have j1:j<xs.length:=by omega
      have j2:j<ys.length:=by omega
      obtain ⟨v1,e1,q1⟩:=rs.get (List.getElem?_eq_getElem j1);obtain ⟨v2,e2,q2⟩:=qs.get (List.getElem?_eq_getElem j2);obtain ⟨u1,e3,q3⟩:=r1.get e1;obtain ⟨u2,e4,q4⟩:=r2.get e2;have f1:its.toArray[j]=u1:=by simpa using (List.getElem?_eq_some_iff.mp e3).2
      have f2:its2.toArray[j]=u2:=by simpa using (List.getElem?_eq_some_iff.mp e4).2
      have pe:pairE xs ys j=eqD xs[j] ys[j]:=by simp [pairE,List.getElem?_eq_getElem j1,List.getElem?_eq_getElem j2]
      rw [f1,f2,pe];simp only [pur,List.all_eq_true] at p1 p2;exact a8f hok 59 A.in1 q1 q2 q3 q4 (p1 _ (List.getElem_mem j1)) (p2 _ (List.getElem_mem j2)) (by rw [Around.in1_units];omega)
     have c1:=RcAt.tuples (A:=A) (s:=s) (e:=pairE xs ys) t1 t2 (by omega) step
     have c2:=RcNeAt.tuples (A:=A) (s:=s) (e:=pairE xs ys) t1 t2 (by omega) step
     rw [l1,l2,vq] at c1 c2;exact ⟨c1,c2⟩
   ·have e0:eqD (.tup xs) e=false:=by cases e<;>first | rfl | (cases g2;done)
    rw [e0]
    cases y with
    | non=>cases ry;exact ⟨RcAt.tuple_none t1 (by omega),RcNeAt.tuple_none t1 (by omega)⟩
    | bl b=>cases ry;exact ⟨RcAt.tuple_bool b t1 (by omega),RcNeAt.tuple_bool b t1 (by omega)⟩
    | int b=>obtain ⟨t,rfl⟩:=ry;exact ⟨RcAt.tuple_int b t t1 (by omega),RcNeAt.tuple_int b t t1 (by omega)⟩
    | str b=>obtain ⟨t,rfl⟩:=ry;exact ⟨RcAt.tuple_str b t t1 (by omega),RcNeAt.tuple_str b t t1 (by omega)⟩
    | _=>cases g1
 ·rcases yj q p2 with ⟨ys,rfl⟩ | ⟨g1,g2⟩
  ·cases q with
   | @tup b us _ hb qs =>
    cases ry
    obtain ⟨_,its2,r2,t2⟩:=(Rd.of hb).ok hok;have e0:eqD d (.tup ys)=false:=by cases d<;>first | rfl | (cases f2;done)
    rw [e0]
    cases x with
    | non=>cases rx;exact ⟨RcAt.none_tuple t2 (by omega),RcNeAt.none_tuple t2 (by omega)⟩
    | bl b=>cases rx;exact ⟨RcAt.bool_tuple b t2 (by omega),RcNeAt.bool_tuple b t2 (by omega)⟩
    | int b=>obtain ⟨t,rfl⟩:=rx;exact ⟨RcAt.int_tuple b t t2 (by omega),RcNeAt.int_tuple b t t2 (by omega)⟩
    | str b=>obtain ⟨t,rfl⟩:=rx;exact ⟨RcAt.str_tuple b t t2 (by omega),RcNeAt.str_tuple b t t2 (by omega)⟩
    | _=>cases f1
  ·rw [<-a1m r q f2 g2];exact ⟨ahx rx ry f1 g1,aav rx ry f1 g1⟩
def alv(K:PySem.W.Frag):R2:=λx y H Q=>∃ ι d e,Rep K ι H x d/\Rep K ι H y e/\pur 60 d=true/\pur 60 e=true/\Q (.bl (eqD d e)) H
def alw(K:PySem.W.Frag):R2:=λx y H Q=>∃ ι d e,Rep K ι H x d/\Rep K ι H y e/\pur 60 d=true/\pur 60 e=true/\Q (.bl (!eqD d e)) H
theorem a8g{X:Cx}(hu:X.A.units+64<cLine):OpR X (compareOp .Eq) (alv X.K):=by
 intro pins s σ H x y v u Q I rx ry h
 obtain ⟨ι,d,e,r,q,p1,p2,hq⟩:=h;exact (tops (A:=X.A) I.hok r q rx ry p1 p2 hu).1 X.prog X.w X.xe _ ⟨.bl _,H,I,rfl,hq⟩
theorem a01{X:Cx}(hu:X.A.units+64<cLine):OpR X (compareOp .NotEq) (alw X.K):=by
 intro pins s σ H x y v u Q I rx ry h
 obtain ⟨ι,d,e,r,q,p1,p2,hq⟩:=h;exact (tops (A:=X.A) I.hok r q rx ry p1 p2 hu).2 X.prog X.w X.xe _ ⟨.bl _,H,I,rfl,hq⟩
def hEq(x y:D)(h:Hd):R D:=if pur 60 x=true/\pur 60 y=true then .ok (.bl (eqD x y)) h else .no
def hNe(x y:D)(h:Hd):R D:=if pur 60 x=true/\pur 60 y=true then .ok (.bl (!eqD x y)) h else .no
theorem a4d:vh K hEq (alv K):=by
 intro E ι H h x y dx dy Q rx ry hr o
 unfold hEq at o
 split at o
 ·rename_i hc;exact ⟨ι,dx,dy,rx,ry,hc.1,hc.2,ans o (.bl _) hr⟩
 ·exact o.elim
theorem v5:vh K hNe (alw K):=by
 intro E ι H h x y dx dy Q rx ry hr o
 unfold hNe at o
 split at o
 ·rename_i hc;exact ⟨ι,dx,dy,rx,ry,hc.1,hc.2,ans o (.bl _) hr⟩
 ·exact o.elim
end
section
variable{X:Cx}{E:XD}{K:PySem.W.Frag}
def aaw:SE:=λ_ h=>.ok (.ref h.length) (h++[.dK []])
theorem aee{pos:Pos}:ME X E (.Dict [] [] pos) aaw:=by
 refine PE.weak aah λσ H Q ⟨ι,τ,h,S,Rh,o⟩=>λp hp=>?_;exact o (ι++[p]) _ _ (a5c hp _) (.ref (by rw [List.getElem?_append_right (by rw [Rh.len];exact Nat.le_refl _),Rh.len];simp)) (Rh.add hp ⟨[],jh,rfl, .nil⟩)
def xj:D->D->Hd->R D
 | .int i, .int j,h=>.ok (.int (i+j)) h
 | .str x, .str y,h=>if x.length+y.length<=LINE then .ok (.str (x++y)) h else .no
 | _,_,_=>.no
theorem a1n:vh K xj (λx y H Q=>rI0 (λi j=>.int (i+j)) x y H Q\/∃ i j,x = .str i/\y = .str j/\i.length+j.length<=sizeLine/\Q (.str (i++j)) H):=by
 intro E ι H h x y dx dy Q rx ry hr o
 cases rx with
 | int i =>
  cases ry with
  | int j=>exact .inl ⟨i,j,rfl,rfl,ans o (.int _) hr⟩
  | _=>exact o.elim
 | str i =>
  cases ry with
  | str j =>
   by_cases hc:i.length+j.length<=LINE
   ·simp only [xj,if_pos hc] at o;exact .inr ⟨i,j,rfl,rfl,ll hc,ans o (.str _) hr⟩
   ·simp only [xj,if_neg hc] at o;exact o.elim
  | _=>exact o.elim
 | _=>exact o.elim
theorem ahy:bootBuiltins "max" = some (.builtin "max"):=by first | exact PySem.boot_max | exact PyProof.Rows.boot_max
theorem ahz:bootBuiltins "min" = some (.builtin "min"):=by first | exact PySem.boot_min | exact PyProof.Rows.boot_min
theorem a8h:bootBuiltins "bool" = some (.type "bool"):=by first | exact PySem.boot_bool | exact PyProof.Rows.boot_bool
theorem ach:bootBuiltins "sum" = some (.builtin "sum"):=by first | exact PySem.boot_sum | exact PyProof.Rows.boot_sum
theorem a5m{e:Expr}{es:List Expr}{g:SG}{ks:SGs}(h1:MG X E e g)(h2:MGs X E es ks)(hs:(assignEach (e::es) X.env).map (·.2)=assign e X.env::(assignEach es X.env).map (·.2):=by rfl):MGs X E (e::es) (a3y g ks) :=
 PGs.weak (m7 h1 h2 hs) λvs σ H Q q=>aap q
end
end MI
namespace ZP
open PySem PySem.Spec PySem.Builtin PySem.Builtin.SmallTypes
end ZP
namespace ZP
open PySem PySem.Spec PySem.Builtin PySem.Builtin.SmallTypes L2
end ZP
namespace MI
open PySem PySem.Spec L2 ZP
def srcOf(d:D)(h:Hd):Option (List D × (Hd->Prop)):=match d with
 | .tup xs=>some (xs,λ_=>True)
 | .rol xs=>some (xs,λ_=>True)
 | .str x=>some (uw x,λ_=>True)
 | .ref i=>(match h[i]? with | some (.lst xs)=>some (xs,λh=>h[i]? = some (.lst xs)) | _=>none)
 | _=>none
def alx(x y:D)(h:Hd):R Itm:=match srcOf x h,srcOf y h with
 | some (xs,c1),some (ys,c2)=>.ok ⟨(xs.zip ys).map λp=>.tup [p.1,p.2],λh=>c1 h/\c2 h⟩ h
 | _,_=>.no
def an7(f g:SE):SI:=λτ h=>(f τ h).bind λx h1=>(g τ h1).bind λy h2=>alx x y h2
end MI
namespace MI
open PySem PySem.Spec L2
def FrzOf(L:List Addr)(H H2:Hp):Prop:=∀ a,(a ∉ L->H2 a=H a)/\(a∈L->∃ o u,H a=some u/\H2 a=some (.frz o u))
def a2x(H:Hp)(L:List Addr):Prop:=∀ a∈L,(∃ xs,H a=some (.lst xs))\/(∃ kvs,H a=some (.dK kvs))\/∃ kvs,H a=some (.dT kvs)
def still:HO->Prop
 | .lst _=>False | .dK _=>False | .dT _=>False
 | _=>True
theorem FrzOf.still{L:List Addr}{H H2:Hp}(f:FrzOf L H H2)(ab:a2x H L){a:Addr}{u:HO}(e:H a=some u)(st:MI.still u):H2 a=some u:=by
 rw [(f a).1 λz=>?_]
 ·exact e
 ·rcases ab a z with ⟨_,q⟩ | ⟨_,q⟩ | ⟨_,q⟩<;>(rw [e] at q;cases q;exact st)
theorem Inv.frz{X:Cx}{pins:List (Addr × Obj)}{σ:St}{H:Hp}{s:Shared}{L:List Addr}(I:Inv X pins σ H s)(ab:a2x H L):∃ H2,FrzOf L H H2/\Inv X pins σ H2 s:=by
 have obj:∀ a∈L,∀ u,H a=some u->∃ o,s.heap.get? a=some o:=λa ha u e=>by
  rcases ab a ha with ⟨_,q⟩ | ⟨_,q⟩ | ⟨_,q⟩
  ·obtain ⟨_,_,_,_,z⟩:=I.hok a _ q;exact ⟨_,z⟩
  ·obtain ⟨_,_,_,_,z⟩:=I.hok a _ q;obtain ⟨o,_,_,z,_⟩:=z;exact ⟨o,z⟩
  ·obtain ⟨_,_,_,_,o,_,_,z,_⟩:=I.hok a _ q;exact ⟨o,z⟩
 let H2:Hp:=λa=>if a∈L then (match s.heap.get? a,H a with | some o,some u=>some (.frz o u) | _,w=>w) else H a
 have f:FrzOf L H H2:=λa=>⟨λh=>by simp [H2,h],λh=>by
  obtain ⟨u,e⟩:∃ u,H a=some u:=by
   rcases ab a h with ⟨_,q⟩ | ⟨_,q⟩ | ⟨_,q⟩<;>exact ⟨_,q⟩
  obtain ⟨o,eo⟩:=obj a h u e;exact ⟨o,u,e,by simp [H2,h,e,eo]⟩⟩
 refine ⟨H2,f,?_⟩;have mv:∀ a u,ObjOk X.prog X.w H s.heap a u->ObjOk X.prog X.w H2 s.heap a u:=λa u x=>x.stay (λb v _ q=>q) (λc q=>f.still ab q True.intro) λc xs q=>f.still ab q True.intro;have ok:HOk X.prog X.w H2 s.heap:=λa u e=>by
  by_cases hl:a∈L
  ·obtain ⟨u0,e0⟩:∃ u,H a=some u:=by
    rcases ab a hl with ⟨_,q⟩ | ⟨_,q⟩ | ⟨_,q⟩<;>exact ⟨_,q⟩
   obtain ⟨o,eo⟩:=obj a hl u0 e0;have e':H2 a=some (.frz o u0):=by simp [H2,hl,e0,eo]
   rw [e'] at e;cases e
   exact ⟨eo,mv a u0 (I.hok a u0 e0)⟩
  ·rw [(f a).1 hl] at e;exact mv a u (I.hok a u e)
 have fn:∀ b,H b=none->H2 b=none:=λb n=>by
  rw [(f b).1 λz=>?_]
  ·exact n
  ·rcases ab b z with ⟨_,q⟩ | ⟨_,q⟩ | ⟨_,q⟩<;>(rw [n] at q;cases q)
 have un:Un X.fs [] H H2 s.heap s.heap:=⟨λb o q _ _ _=>q,λb o q _ _ _=>⟨o.slots,q⟩,λb o _ n _=>fn b n,λb o q _=>⟨o,q⟩,λb xs q=>f.still ab q True.intro,λb o u q=>f.still ab q True.intro,λb ps q=>⟨#[],by rw [f.still ab q True.intro];simp⟩⟩
 exact I.un (t':=s.toks) un ok
theorem a5n{X:Cx}{e:Expr}{t:TE}(h:PE X e t):PE X e (λσ H Q=>t σ H λv H1=>∃ L,a2x H1 L/\∀ H2,FrzOf L H1 H2->Q v H2):=λpins s σ H Q I q =>
 thn (h pins s σ H _ I q) λu s' ⟨v,H1,I1,r,L,ab,k⟩=>let ⟨H2,f,I2⟩:=Inv.frz I1 ab; ⟨v,H2,I2,r,k H2 f⟩
def ux{α β:Type}(f:α->Option β):List α->Option (List β)
 | []=>some []
 | x::xs=>match f x,ux f xs with | some y,some ys=>some (y::ys) | _,_=>none
open Classical in
noncomputable def a0p(n:Nat)(h:Hd):Nat->D->Option D
 | 0,_=>none
 | k+1,d=>if clo n d then some d else match d with
  | .tup xs=>(ux (a0p n h k) xs).map .tup
  | .rol xs=>(ux (a0p n h k) xs).map .rol
  | .scr xs=>(ux (a0p n h k) xs).map .scr
  | .rod ks xs=>(ux (a0p n h k) xs).map (.rod ks)
  | .rdT ks xs=>(ux (a0p n h k) xs).map (.rdT ks)
  | .ref i=>match h[i]? with
   | some (.lst xs)=>(ux (a0p n h k) xs).map .rol
   | some (.dK kvs)=>(ux (a0p n h k) (kvs.map (·.2))).map (.rod (kvs.map (·.1)))
   | some (.dT kvs)=>(ux (a0p n h k) (kvs.map (·.2))).map (.rdT (kvs.map (·.1)))
   | none=>none
  | _=>none
open Classical in
noncomputable def ai0(n:Nat)(h:Hd)(k:Nat)(o:O):Option O:=if xg n o then some o else match o with
 | .lst xs=>(ux (a0p n h k) xs).map .lst
 | .dK kvs=>(ux (a0p n h k) (kvs.map (·.2))).map λys=>.dK ((kvs.map (·.1)).zip ys)
 | .dT kvs=>(ux (a0p n h k) (kvs.map (·.2))).map λys=>.dT ((kvs.map (·.1)).zip ys)
abbrev FU:Nat:=20
noncomputable def a5o(n:Nat):R D->R D
 | .ok d h1=>match a0p n h1 FU d,ux (ai0 n h1 FU) (h1.take n) with | some d',some g=>.ok d' g | _,_=>.no
 | _=>.no
open Classical in
noncomputable def aft(n:Nat):R D->R D
 | .ok (.ref i) h1=>(match h1[i]? with
   | some o=>if n<=i/\xg n o/\∀ u∈h1.take n,xg n u then .ok (.ref n) (h1.take n++[o]) else .no
   | none=>.no)
 | _=>.no
section
variable{K:PySem.W.Frag}{ι ι':List Addr}{H H' H2:Hp}{h1:Hd}{n:Nat}{L:List Addr}
theorem a5p(f:FrzOf L H' H2)(ab:a2x H' L)(κ:List Addr):Gw κ H' κ H2:=⟨⟨[],by simp⟩,λa vs e=>f.still ab e True.intro,λa o u e=>f.still ab e True.intro⟩
theorem j9{K:PySem.W.Frag}{ι κ:List Addr}{H H2:Hp}{f:D->Option D}(ih:∀ {v d d'},Rep K ι H v d->f d=some d'->Rep K κ H2 v d'):∀ {vs:List V} {ds ds':List D},Reps K ι H vs ds->ux f ds=some ds'->Reps K κ H2 vs ds'
 | _,_,_, .nil,e=>by cases e;exact .nil
 | _,x::xs,_, .cons r rs,e=>by
  unfold ux at e
  split at e
  ·rename_i y ys h1 h2;cases e
   exact .cons (ih r h1) (j9 ih rs h2)
  ·cases e
theorem a1o(hr:HRep K ι' H' h1)(hL:∀ (i:Nat) a,ι'[i]? = some a->n<=i->a∈L)(f:FrzOf L H' H2)(ab:a2x H' L):∀ (k:Nat) {v:V} {d d':D},Rep K ι' H' v d->a0p n h1 k d=some d'->Rep K (ι'.take n) H2 v d':=by
 intro k
 induction k with
 | zero=>intro v d d' r e;cases e
 | succ k ih =>
  intro v d d' r e
  unfold a0p at e
  split at e
  ·rename_i c;cases e
   exact (r.cut c).monoW (a5p f ab _)
  ·rename_i c
   cases r with
   | tup h rs =>
    simp only [Option.map_eq_some_iff] at e;obtain ⟨ys,e1,rfl⟩:=e;exact .tup (f.still ab h True.intro) (j9 (λr e=>ih r e) rs e1)
   | rol h rs =>
    simp only [Option.map_eq_some_iff] at e;obtain ⟨ys,e1,rfl⟩:=e;exact .rol (h.monoW (a5p f ab ι')) (j9 (λr e=>ih r e) rs e1)
   | scr h rs =>
    simp only [Option.map_eq_some_iff] at e;obtain ⟨ys,e1,rfl⟩:=e;exact .scr (h.monoW (a5p f ab ι')) (j9 (λr e=>ih r e) rs e1)
   | rod h ek rs =>
    simp only [Option.map_eq_some_iff] at e;obtain ⟨ys,e1,rfl⟩:=e;exact .rod (f.still ab h True.intro) ek (j9 (λr e=>ih r e) rs e1)
   | rdT h ek rs =>
    simp only [Option.map_eq_some_iff] at e;obtain ⟨ys,e1,rfl⟩:=e;exact .rdT (f.still ab h True.intro) ek (j9 (λr e=>ih r e) rs e1)
   | @ref a i ha =>
    have hi:n<=i:=by
     simp only [clo] at c;omega
    obtain ⟨o,u,e1,e2⟩:=(f a).2 (hL i a ha hi);obtain ⟨ob,h3,h4⟩:=hr.at ha;simp only [h3] at e
    cases ob with
    | lst xs =>
     simp only [Option.map_eq_some_iff] at e;obtain ⟨ys,e3,rfl⟩:=e;obtain ⟨vs,h5,h6⟩:=h4;rw [e1] at h5;cases h5
     exact .rol ⟨o,e2⟩ (j9 (λr e=>ih r e) h6 e3)
    | dK kvs =>
     simp only [Option.map_eq_some_iff] at e;obtain ⟨ys,e3,rfl⟩:=e;obtain ⟨us,h5,h6,h7⟩:=h4;rw [e1] at h5;cases h5
     exact .rod e2 h6 (j9 (λr e=>ih r e) h7 e3)
    | dT kvs =>
     simp only [Option.map_eq_some_iff] at e;obtain ⟨ys,e3,rfl⟩:=e;obtain ⟨us,h5,h6,h7⟩:=h4;rw [e1] at h5;cases h5
     exact .rdT e2 h6 (j9 (λr e=>ih r e) h7 e3)
   | non=>simp only [clo,not_true_eq_false] at c
   | exc _ _ _=>simp only [clo,not_true_eq_false] at c
   | bl b=>simp only [clo,not_true_eq_false] at c
   | int b=>simp only [clo,not_true_eq_false] at c
   | str b=>simp only [clo,not_true_eq_false] at c
   | ty b=>simp only [clo,not_true_eq_false] at c
theorem a5q{κ:Type}{H:Hp}{us:List (κ × V)}{ks:List κ}{ys:List D}(e:us.map (·.1)=ks)(r:Reps K ι H (us.map (·.2)) ys):KRep K ι H us (ks.zip ys):=by
 have l:ks.length=ys.length:=by rw [<-e,List.length_map,<-r.len,List.length_map]
 refine ⟨?_,?_⟩
 ·rw [List.map_fst_zip (by omega)];exact e
 ·rw [List.map_snd_zip (by omega)];exact r
theorem aef(hr:HRep K ι' H' h1)(hL:∀ (i:Nat) a,ι'[i]? = some a->n<=i->a∈L)(f:FrzOf L H' H2)(ab:a2x H' L){k:Nat}{a:Addr}{o o':O}(na:a ∉ L)(r:ORep K ι' H' a o)(e:ai0 n h1 k o=some o'):ORep K (ι'.take n) H2 a o':=by
 have same:H2 a=H' a:=(f a).1 na;unfold ai0 at e
 split at e
 ·rename_i c;cases e
  exact (r.cut c).monoW (a5p f ab _) same
 ·cases o with
  | lst xs =>
   simp only [Option.map_eq_some_iff] at e;obtain ⟨ys,e1,rfl⟩:=e;obtain ⟨vs,h3,h4⟩:=r;exact ⟨vs,by rw [same];exact h3,j9 (λr e=>a1o hr hL f ab k r e) h4 e1⟩
  | dK kvs =>
   simp only [Option.map_eq_some_iff] at e;obtain ⟨ys,e1,rfl⟩:=e;obtain ⟨us,h3,h4,h5⟩:=r;exact ⟨us,by rw [same];exact h3,a5q h4 (j9 (λr e=>a1o hr hL f ab k r e) h5 e1)⟩
  | dT kvs =>
   simp only [Option.map_eq_some_iff] at e;obtain ⟨ys,e1,rfl⟩:=e;obtain ⟨us,h3,h4,h5⟩:=r;exact ⟨us,by rw [same];exact h3,a5q h4 (j9 (λr e=>a1o hr hL f ab k r e) h5 e1)⟩
theorem ug{α β:Type}{f:α->Option β}:∀ {xs:List α} {ys:List β},ux f xs=some ys->xs.length=ys.length/\∀ (i:Nat) y,ys[i]? = some y->∃ x,xs[i]? = some x/\f x=some y
 | [],_,e=>by cases e;exact ⟨rfl,λi y e=>by simp at e⟩
 | x::xs,ys,e=>by
  unfold ux at e
  split at e
  ·rename_i y ys h1 h2;cases e
   obtain ⟨l,g⟩:=ug h2;refine ⟨by simp [l],λi z e=>?_⟩
   cases i with
   | zero=>simp at e;subst e;exact ⟨x,rfl,h1⟩
   | succ i=>simpa using g i z (by simpa using e)
  ·cases e
theorem a8i(hr:HRep K ι' H' h1)(M:List Addr)(hM:∀ a∈M,a∈ι'):a2x H' M:=λa ha=>by
 obtain ⟨i,hi⟩:=List.getElem?_of_mem (hM a ha);obtain ⟨o,_,q⟩:=hr.at hi
 cases o with
 | lst xs=>obtain ⟨vs,h,_⟩:=q;exact .inl ⟨_,h⟩
 | dK xs=>obtain ⟨vs,h,_⟩:=q;exact .inr (.inl ⟨_,h⟩)
 | dT xs=>obtain ⟨vs,h,_⟩:=q;exact .inr (.inr ⟨_,h⟩)
theorem a02{α:Type}{l:List α}(nd:l.Nodup){i j:Nat}{a:α}(h1:l[i]? = some a)(h2:l[j]? = some a):i=j:=by
 obtain ⟨l1,e1⟩:=List.getElem?_eq_some_iff.mp h1;obtain ⟨l2,e2⟩:=List.getElem?_eq_some_iff.mp h2
 rcases Nat.lt_trichotomy i j with l | l | l
 ·exact absurd (e1.trans e2.symm) (List.pairwise_iff_getElem.mp nd i j l1 l2 l)
 ·exact l
 ·exact absurd (e2.trans e1.symm) (List.pairwise_iff_getElem.mp nd j i l2 l1 l)
theorem ai1(g:Gr ι H ι' H')(f:FrzOf L H' H2)(ab:a2x H' L)(hL:∀ a∈L,H a=none){m:List Addr}(hm:∀ a∈m,H a=none):Gr ι H (ι++m) H2:=by
 refine ⟨⟨m,rfl,hm⟩,λa vs e=>f.still ab (g.tup a vs e) True.intro,λa o u e=>f.still ab (g.frz a o u e) True.intro,λa u e hn=>?_,λa u e=>?_⟩
 ·rw [(f a).1 λz=>by rw [hL a z] at e;cases e]
  exact g.oth a u e hn
 ·obtain ⟨u',e'⟩:=g.kp a u e;rw [(f a).1 λz=>by rw [hL a z] at e;cases e]
  exact ⟨u',e'⟩
theorem a8j{d d':D}{v:V}{g':Hd}(g:Gr ι H ι' H')(rb:Rep K ι' H' v d)(hr:HRep K ι' H' h1)(e:a5o ι.length (.ok d h1) = .ok d' g') :
  ∃ L,a2x H' L/\∀ H2,FrzOf L H' H2->Gr ι H ι H2/\Rep K ι H2 v d'/\HRep K ι H2 g':=by
 obtain ⟨m,rfl,hm⟩:=g.pre;have tk:(ι++m).take ι.length=ι:=by simp
 have ab:a2x H' m:=a8i hr m λa ha=>List.mem_append_right _ ha;have hL:∀ (i:Nat) a,(ι++m)[i]? = some a->ι.length<=i->a∈m:=λi a e hi=>by
  rw [List.getElem?_append_right hi] at e;exact List.mem_of_getElem? e
 refine ⟨m,ab,λH2 f=>?_⟩;unfold a5o at e;simp only at e
 split at e
 ·rename_i dd gg e1 e2;cases e
  refine ⟨by simpa using ai1 g f ab hm (m:=[]) (by simp),by have:=a1o hr hL f ab FU rb e1;rwa [tk] at this,?_⟩
  obtain ⟨l,gt⟩:=ug e2;have hl:=hr.len;have ln:ι.length<=h1.length:=by rw [<-hl];simp
  refine ⟨(List.nodup_append.mp hr.nd).1,by rw [<-l,List.length_take];omega,λi a o q1 q2=>?_⟩
  obtain ⟨x,hx,fx⟩:=gt i o q2;have hi:i<ι.length:=(List.getElem?_eq_some_iff.mp q1).1;rw [List.getElem?_take,if_pos hi] at hx;have q3:(ι++m)[i]? = some a:=by rw [List.getElem?_append_left hi];exact q1
  have na:a ∉ m:=λz=>(List.nodup_append.mp hr.nd).2.2 a (List.mem_of_getElem? q1) a z rfl;have:=aef hr hL f ab na (hr.obj i a x q3 hx) fx
  rwa [tk] at this
 ·cases e
theorem aax{d d':D}{v:V}{g':Hd}(g:Gr ι H ι' H')(rb:Rep K ι' H' v d)(hr:HRep K ι' H' h1)(e:aft ι.length (.ok d h1) = .ok d' g') :
  ∃ b,H b=none/\Gr ι H (ι++[b]) H'/\Rep K (ι++[b]) H' v d'/\HRep K (ι++[b]) H' g':=by
 obtain ⟨m,rfl,hm⟩:=g.pre;have tk:(ι++m).take ι.length=ι:=by simp
 have up:∀ b,Gw ι H' (ι++[b]) H':=λb=>⟨⟨[b],rfl⟩,λ_ _ h=>h,λ_ _ _ h=>h⟩
 cases rb with
 | @ref b i hb =>
  unfold aft at e;simp only at e
  split at e
  ·rename_i ob ho
   split at e
   ·rename_i hc;obtain ⟨hi,c1,c2⟩:=hc;cases e
    have hb':=hb;rw [List.getElem?_append_right hi] at hb';have bm:b∈m:=List.mem_of_getElem? hb';obtain ⟨nd1,nd2,nd3⟩:=List.nodup_append.mp hr.nd;have hl:=hr.len;have ln:ι.length<=h1.length:=by rw [<-hl];simp
    have lt:(h1.take ι.length).length=ι.length:=by rw [List.length_take];omega
    refine ⟨b,hm b bm,⟨⟨[b],rfl,by simpa using hm b bm⟩,g.tup,g.frz,g.oth,g.kp⟩, .ref (by simp),?_⟩
    refine ⟨List.nodup_append.mpr ⟨nd1,by simp,λa ha c hc z=>nd3 a ha c (by rw [List.mem_singleton.mp hc];exact bm) z⟩,by simp [lt],λj a o q1 q2=>?_⟩
    by_cases hj:j<ι.length
    ·rw [List.getElem?_append_left hj] at q1;rw [List.getElem?_append_left (by omega)] at q2
     have q2':=q2;rw [List.getElem?_take,if_pos hj] at q2';have:=(hr.obj j a o (by rw [List.getElem?_append_left hj];exact q1) q2').cut (c2 o (List.mem_of_getElem? q2))
     rw [tk] at this;exact this.monoW (up b) rfl
    ·have hj2:j<(ι++[b]).length:=(List.getElem?_eq_some_iff.mp q1).1;have:j=ι.length:=by simp at hj2;omega
     subst this;rw [List.getElem?_append_right (Nat.le_refl _)] at q1;rw [List.getElem?_append_right (by omega),lt] at q2
     simp at q1 q2
     subst q1 q2;have:=(hr.obj i b ob hb ho).cut c1;rw [tk] at this;exact this.monoW (up b) rfl
   ·cases e
  ·cases e
 | _=>cases e
end
noncomputable def sZ(f:SE):SE:=λτ h=>a5o h.length (f τ h)
abbrev an8(Q:VK):VK:=λv H1=>∃ L,a2x H1 L/\∀ H2,FrzOf L H1 H2->Q v H2
theorem aly{K:PySem.W.Frag}{E:XD}{fa:SE}{σ:St}{H:Hp}{Q:VK}(q:lift K E (qb K) (sZ fa) σ H Q):lift K E (qb K) fa σ H (an8 Q):=by
 obtain ⟨ι,τ,h,S,Rh,o⟩:=q;refine ⟨ι,τ,h,S,Rh,?_⟩;unfold sZ at o;rw [<-Rh.len] at o
 cases hf:fa τ h with
 | ok d h1 =>
  rw [hf] at o
  intro ι' H' v g r hr
  cases hz:a5o ι.length (.ok d h1) with
  | ok d' g' =>
   rw [hz] at o;obtain ⟨L,ab,k⟩:=a8j g r hr hz;refine ⟨L,ab,λH2 f=>?_⟩;obtain ⟨k1,k2,k3⟩:=k H2 f;exact o ι H2 v k1 k2 k3
  | ex c hx=>unfold a5o at hz;simp only at hz;split at hz<;>cases hz
  | no=>rw [hz] at o;exact o.elim
 | ex c h1=>rw [hf] at o;exact o.elim
 | no=>rw [hf] at o;exact o.elim
theorem a8k{X:Cx}{E:XD}{e:Expr}{fa:SE}(ha:ME X E e fa):ME X E e (sZ fa):=PE.weak (a5n ha) λσ H Q q=>aly q
def refOf:D->Option Nat
 | .ref i=>some i
 | _=>none
def v6(ds:List D):List Nat:=ds.filterMap refOf
def u9:Nat->List D->List D
 | _,[]=>[]
 | k,d::ds=>match d with
  | .ref _=>.ref k::u9 (k+1) ds
  | d=>d::u9 k ds
def jy:Hd->List Nat->List O->Hd
 | h,i::is,o::os=>jy (h.set i o) is os
 | h,_,_=>h
def isRef(d:D):Prop:=∃ i,d = .ref i
open Classical in
noncomputable def afu(m:Bool)(F:SF)(ds:List D)(h:Hd):R D:=match ux (λi=>h[i]?) (v6 ds) with
 | none=>.no
 | some os=>if (v6 ds).Nodup/\(∀ d∈ds,clo 0 d\/isRef d)/\(∀ o∈os,xg 0 o) then
   (match (if m then aft os.length (F (u9 0 ds) os) else a5o os.length (F (u9 0 ds) os)) with
   | .ok d h1=>if ∀ o∈h1,xg 0 o then
     (if m then .ok (.ref h.length) (jy h (v6 ds) h1++h1.drop os.length)
      else if clo 0 d then .ok d (jy h (v6 ds) h1) else .no) else .no
   | _=>.no)
  else .no
noncomputable def jd(m:Bool)(n:Nat)(F:SF):SF:=λds h=>if ds.length=n then afu m F ds h else .no
section
variable{K:PySem.W.Frag}{ι ι':List Addr}{H H' H2:Hp}{h h1:Hd}{n:Nat}
theorem aci(κ:List Addr):Gw [] H κ H:=⟨⟨κ,rfl⟩,λ_ _ h=>h,λ_ _ _ h=>h⟩
theorem Rep.any{v:V}{d:D}(r:Rep K ι H v d)(c:MI.clo 0 d)(κ:List Addr):Rep K κ H v d:=by
 have:=r.cut c
 rw [List.take_zero] at this;exact this.monoW (aci κ)
theorem ORep.any{a:Addr}{o:O}(r:ORep K ι H a o)(c:xg 0 o)(κ:List Addr):ORep K κ H a o:=by
 have:=r.cut c
 rw [List.take_zero] at this;exact this.monoW (aci κ) rfl
theorem a2y{α:Type}(l:List α):∀ {is:List Nat},(∀ i∈is,i<l.length)->∃ ys,ux (λi=>l[i]?) is=some ys
 | [],_=>⟨[],rfl⟩
 | i::is,hi=>by
  obtain ⟨ys,e⟩:=a2y l (is:=is) λj hj=>hi j (List.mem_cons_of_mem _ hj);have:=hi i List.mem_cons_self;exact ⟨l[i]::ys,by unfold ux;rw [e,List.getElem?_eq_getElem this]⟩
theorem xm:∀ {ds:List D} {vs:List V} {pre κ:List Addr},Reps K ι H vs ds->(∀ d∈ds,clo 0 d\/isRef d)->ux (λi=>ι[i]?) (v6 ds)=some κ->Reps K (pre++κ) H vs (u9 pre.length ds)
 | [],_,_,_, .nil,_,_=>.nil
 | d::ds,_,pre,κ, .cons r rs,hc,e=>by
  have hc':∀ d∈ds,clo 0 d\/isRef d:=λx hx=>hc x (List.mem_cons_of_mem _ hx)
  by_cases hd:isRef d
  ·obtain ⟨i,rfl⟩:=hd;have e':ux (λi=>ι[i]?) (i::v6 ds)=some κ:=e;unfold ux at e'
   split at e'
   ·rename_i a κ' h1 h2
    cases e'
    cases r with
    | ref ha =>
     rw [ha] at h1;cases h1
     have:=xm (pre:=pre++[a]) rs hc' h2
     simp only [List.append_assoc,List.singleton_append,List.length_append,List.length_singleton] at this;refine .cons (.ref ?_) this;rw [List.getElem?_append_right (Nat.le_refl _)];simp
   ·cases e'
  ·have c:=(hc d List.mem_cons_self).resolve_right hd;have e1:v6 (d::ds)=v6 ds:=by
    unfold v6
    cases d<;>first | rfl | exact absurd ⟨_,rfl⟩ hd
   have e2:u9 pre.length (d::ds)=d::u9 pre.length ds:=by
    cases d<;>first | rfl | exact absurd ⟨_,rfl⟩ hd
   rw [e1] at e;rw [e2];exact .cons (r.any c _) (xm rs hc' e)
theorem qe:∀ {is:List Nat} {os:List O} {h:Hd},(jy h is os).length=h.length
 | [],_,_=>by simp [jy]
 | _::_,[],_=>by simp [jy]
 | i::is,o::os,h=>by rw [jy,qe,List.length_set]
theorem xn{i:Nat}:∀ {is:List Nat} {os:List O} {h:Hd},i ∉ is->(jy h is os)[i]? = h[i]?
 | [],_,_,_=>by simp [jy]
 | _::_,[],_,_=>by simp [jy]
 | j::is,o::os,h,n=>by
  rw [jy,xn λz=>n (List.mem_cons_of_mem _ z),List.getElem?_set_ne λz=>n (by rw [z];exact List.mem_cons_self)]
theorem a2z{i:Nat}{o:O}:∀ {is:List Nat} {os:List O} {h:Hd} {j:Nat},is.Nodup->is[j]? = some i->os[j]? = some o->i<h.length->(jy h is os)[i]? = some o
 | [],_,_,_,_,e,_,_=>by simp at e
 | _::_,[],_,_,_,_,e,_=>by simp at e
 | k::is,o'::os,h,j,nd,e1,e2,hl=>by
  cases j with
  | zero =>
   simp at e1 e2
   subst e1 e2;rw [jy,xn (List.nodup_cons.mp nd).1,List.getElem?_set_self hl]
  | succ j =>
   rw [jy];exact a2z (j:=j) (List.nodup_cons.mp nd).2 (by simpa using e1) (by simpa using e2) (by simpa using hl)
theorem a3a{α:Type}{l:List α}(nl:l.Nodup){is:List Nat}{ys:List α}(e:ux (λi=>l[i]?) is=some ys)(ni:is.Nodup):ys.Nodup:=by
 obtain ⟨le,g⟩:=ug e;refine List.pairwise_iff_getElem.mpr λi j hi hj lt z=>?_;obtain ⟨x,h1,h2⟩:=g i _ (List.getElem?_eq_getElem hi);obtain ⟨y,h3,h4⟩:=g j _ (List.getElem?_eq_getElem hj);rw [<-z] at h4;have:=a02 nl h2 h4;subst this;have:=a02 ni h1 h3;omega
theorem a5r{is:List Nat}{κ m:List Addr}{g:Hd}(hr:HRep K ι H h)(e1:ux (λi=>ι[i]?) is=some κ)(nd:is.Nodup)(gr:Gr κ H (κ++m) H2)(hg:HRep K (κ++m) H2 g)(cg:∀ o∈g,xg 0 o)(hm:m.length<=1) :
  Gr ι H (ι++m) H2/\HRep K (ι++m) H2 (jy h is g++g.drop κ.length):=by
 obtain ⟨l1,g1⟩:=ug e1;have mn:∀ a∈m,H a=none:=by
  obtain ⟨m',e,hm'⟩:=gr.pre;rw [List.append_cancel_left e];exact hm'
 have sub:∀ a∈κ,a∈ι:=λa ha=>by
  obtain ⟨j,hj⟩:=List.getElem?_of_mem ha;obtain ⟨i,_,q⟩:=g1 j a hj;exact List.mem_of_getElem? q
 have some_of:∀ a∈ι,∃ u,H a=some u:=λa ha=>by
  obtain ⟨i,hi⟩:=List.getElem?_of_mem ha;obtain ⟨o,_,q⟩:=hr.at hi;obtain ⟨u,q,_⟩:=q.some;exact ⟨u,q⟩
 have G:Gr ι H (ι++m) H2:=⟨⟨m,rfl,mn⟩,gr.tup,gr.frz,λa u e n=>gr.oth a u e λz=>n (sub a z),gr.kp⟩;have lg:=hg.len;rw [List.length_append] at lg;refine ⟨G,?_,?_,λj a o q1 q2=>?_⟩
 ·refine List.nodup_append.mpr ⟨hr.nd,(List.nodup_append.mp hg.nd).2.1,λa ha b hb z=>?_⟩;obtain ⟨u,q⟩:=some_of a ha;rw [z,mn b hb] at q;cases q
 ·rw [List.length_append,List.length_append,qe,List.length_drop,hr.len];omega
 ·by_cases hj:j<ι.length
  ·rw [List.getElem?_append_left hj] at q1;rw [List.getElem?_append_left (by rw [qe,<-hr.len];exact hj)] at q2
   by_cases hp:j∈is
   ·obtain ⟨k,hk⟩:=List.getElem?_of_mem hp;have hkl:k<κ.length:=by rw [<-l1];exact (List.getElem?_eq_some_iff.mp hk).1
    obtain ⟨i,h3,h4⟩:=g1 k _ (List.getElem?_eq_getElem hkl);rw [hk] at h3;cases h3
    rw [q1] at h4;have hkg:k<g.length:=by omega
    have e5:=a2z (h:=h) nd hk (List.getElem?_eq_getElem hkg) (by rw [<-hr.len];exact hj)
    rw [e5] at q2;cases q2
    have ea:(κ++m)[k]? = some a:=by rw [List.getElem?_append_left hkl,List.getElem?_eq_getElem hkl];exact h4.symm
    exact (hg.obj k a _ ea (List.getElem?_eq_getElem hkg)).any (cg _ (List.getElem_mem hkg)) _
   ·rw [xn hp] at q2;have r:=hr.obj j a o q1 q2;obtain ⟨u,hu,_⟩:=r.some;have na:a ∉ κ:=λz=>by
     obtain ⟨k,hk⟩:=List.getElem?_of_mem z;obtain ⟨i,h3,h4⟩:=g1 k a hk;have:=a02 hr.nd q1 h4;subst this;exact hp (List.mem_of_getElem? h3)
    exact r.mono G (by rw [hu];exact gr.oth a u hu na)
  ·have q1':=q1;rw [List.getElem?_append_right (by omega)] at q1
   rw [List.getElem?_append_right (by rw [qe,<-hr.len];omega),qe,<-hr.len,List.getElem?_drop] at q2
   have ea:(κ++m)[κ.length+(j - ι.length)]? = some a:=by rw [List.getElem?_append_right (by omega)];simpa using q1
   exact (hg.obj _ a o ea q2).any (cg o (List.mem_of_getElem? q2)) _
theorem a1p{m:Bool}{F:SF}{vs:List V}{ds:List D}{Q:VK}(r:Reps K ι H vs ds)(hr:HRep K ι H h)(o:out K X0 (qb K) ι H (jd m n F ds h) Q)(E:XK) :
  rz K n F vs H (λv H1=>∃ L,a2x H1 L/\∀ H2,FrzOf L H1 H2->Q v H2) E:=by
 unfold jd at o
 split at o
 ·rename_i hl;refine ⟨by rw [r.len];exact hl,?_⟩
  unfold afu at o
  split at o
  ·exact o.elim
  ·rename_i os hos
   split at o
   ·rename_i hc;obtain ⟨nd,hd,hcl⟩:=hc;obtain ⟨l0,g0⟩:=ug hos;obtain ⟨κ,e1⟩:=a2y ι (is:=v6 ds) λi hi=>by
     obtain ⟨j,hj⟩:=List.getElem?_of_mem hi;have hjl:j<os.length:=by rw [<-l0];exact (List.getElem?_eq_some_iff.mp hj).1
     obtain ⟨x,h3,h4⟩:=g0 j _ (List.getElem?_eq_getElem hjl);rw [hj] at h3;cases h3
     rw [hr.len];exact (List.getElem?_eq_some_iff.mp h4).1
    obtain ⟨l1,g1⟩:=ug e1;have lk:κ.length=os.length:=by omega
    have R0:Reps K κ H vs (u9 0 ds):=by simpa using xm (pre:=[]) r hd e1
    have H0:HRep K κ H os:=by
     refine ⟨a3a hr.nd e1 nd,lk,λj a ob q1 q2=>?_⟩;obtain ⟨i,h3,h4⟩:=g1 j a q1;obtain ⟨i',h5,h6⟩:=g0 j ob q2;rw [h3] at h5;cases h5
     exact (hr.obj i a ob h4 h6).any (hcl ob (List.mem_of_getElem? q2)) _
    refine ⟨κ,u9 0 ds,os,R0,H0,?_⟩
    cases hF:F (u9 0 ds) os with
    | no=>rw [hF] at o;cases m<;>exact o.elim
    | ex c hx=>rw [hF] at o;cases m<;>exact o.elim
    | ok d h1 =>
     rw [hF] at o
     intro ι' H' v g rb hr1
     rw [<-lk] at o
     cases m with
     | false =>
      simp only [Bool.false_eq_true,if_false] at o
      cases hz:a5o κ.length (.ok d h1) with
      | ok d' g' =>
       rw [hz] at o;simp only at o;obtain ⟨L,ab,k⟩:=a8j g rb hr1 hz;refine ⟨L,ab,λH2 f=>?_⟩;obtain ⟨k1,k2,k3⟩:=k H2 f
       split at o
       ·rename_i cg
        split at o
        ·rename_i cd;have q:=a5r (m:=[]) hr e1 nd (by simpa using k1) (by simpa using k3) cg (by simp)
         have lg:=k3.len;have dr:g'.drop κ.length=[]:=List.drop_eq_nil_of_le (by omega)
         rw [dr,List.append_nil,List.append_nil] at q;exact o ι H2 v q.1 (k2.any cd _) q.2
        ·exact o.elim
       ·exact o.elim
      | ex c hx=>rw [hz] at o;exact o.elim
      | no=>rw [hz] at o;exact o.elim
     | true =>
      simp only [if_true] at o
      cases hz:aft κ.length (.ok d h1) with
      | ok d' g' =>
       rw [hz] at o;simp only at o;obtain ⟨b,hb,k1,k2,k3⟩:=aax g rb hr1 hz;refine ⟨[],λa ha=>(by simp at ha),λH2 f=>?_⟩
       have e2:H2=H':=by funext a;exact (f a).1 (by simp)
       subst e2
       split at o
       ·rename_i cg;have q:=a5r (m:=[b]) hr e1 nd k1 k3 cg (by simp)
        refine o (ι++[b]) H2 v q.1 ?_ q.2;have hd':d' = .ref κ.length:=by
         unfold aft at hz
         split at hz
         ·rename_i i h2 hh
          injection hh with z1 z2
          split at hz
          ·split at hz
           ·injection hz with z3 z4;exact z3.symm
           ·cases hz
          ·cases hz
         ·cases hz
        subst hd'
        cases k2 with
        | ref hk =>
         rw [List.getElem?_append_right (Nat.le_refl _)] at hk;simp at hk;subst hk;exact .ref (by rw [<-hr.len];simp)
       ·exact o.elim
      | ex c hx=>rw [hz] at o;exact o.elim
      | no=>rw [hz] at o;exact o.elim
   ·exact o.elim
 ·exact o.elim
end
theorem cu(m:Bool){X:Cx}{k n:Nat}{f:Addr}{fd:FuncData}{ps:List Str}{x:Str}{F:SF}{ka:SA}{e:Expr}{es:List Expr}{p pos:Pos}(G:Dn X.prog X.w X.K X.mg X.base k x ps (rz X.K n F) f fd)(hr:Room k X.A)(hg:Gl X x)(ha:MA X X0 (e::es) ka)
  (hdb:(x == ("__debug__" : Str))=false:=by decide) (he:starEach (e::es) X.env=(false,eval e X.env)::starEach es X.env:=by rfl) (hpl:(backTo pos (starEach es X.env)).any (·.1)=false:=by rfl):ME X X0 (.Call (.Name x p) (e::es) [] pos) (sA (jd m n F) ka):=by
 refine PE.weak (a5n (a7o G.ok hr hg G.m G.kp G.b .nil adt ha hdb he hpl)) λσ H Q ⟨ι,τ,h,S,Rh,o⟩=>?_;refine ⟨ι,τ,h,S,Rh,cj o λds h1 ι1 H1 vs g1 r1 hr1 o1=>?_⟩;rw [List.append_nil];exact a1p r1 hr1 o1 _
theorem a8l(m:Bool){X:Cx}{k n:Nat}{f:Addr}{fd:FuncData}{ps:List Str}{x:Str}{F:SF}{p pos:Pos}(G:Dn X.prog X.w X.K X.mg X.base k x ps (rz X.K n F) f fd)(hr:Room k X.A)(hg:Gl X x)(hdb:(x == ("__debug__" : Str))=false:=by decide) :
  ME X X0 (.Call (.Name x p) [] [] pos) (sA (jd m n F) dq):=by
 refine PE.weak (a5n (aa9 G.ok hr hg G.m G.kp G.b .nil adt hdb)) λσ H Q ⟨ι,τ,h,S,Rh,o⟩=>?_;exact a1p (vs:=[]) .nil Rh o E0
def a8m:SS:=λ_ _=>.no
section
variable{X:Cx}{E:XD}
theorem akv{st:Stmt}:MS X E st a8m:=λ_ _ _ _ _ _ ⟨_,_,_,_,_,o⟩=>o.elim
theorem ym{st:List Stmt}:MSs X E st a8m:=λ_ _ _ _ _ _ ⟨_,_,_,_,_,o⟩=>o.elim
end
theorem ai2{X:Cx}{st:Stmt}{t:TS}(h:PS X st t):PS X st (λD σ H=>t { D with nx:=λσ' H1=>∃ L,a2x H1 L/\∀ H2,FrzOf L H1 H2->D.nx σ' H2 } σ H):=λpins s σ H D I q =>
 thn (h pins s σ H _ I q) λf s' k=>by
  cases f with
  | next =>
   obtain ⟨σ',H1,I1,L,ab,k⟩:=k;obtain ⟨H2,f,I2⟩:=Inv.frz I1 ab;exact ⟨σ',H2,I2,k H2 f⟩
  | brk=>exact k
  | cont=>exact k
  | ret u=>exact k
theorem acj{K:PySem.W.Frag}{E:XD}{f:SE}{i:Nat}{N:Ends}{σ:St}{H:Hp}(q:zy K E (jx i f) N σ H):lift K E (qb K) f σ H (λv H1=>N.nx (σ.set i (some v)) H1):=by
 obtain ⟨ι,τ,h,S,Rh,o⟩:=q;exact ⟨ι,τ,h,S,Rh,jq o λd h1 ι1 H1 v g1 r1 hr1 o1=>o1 ι1 H1 _ (.refl _ _) ((S.mono g1).set r1 i) hr1⟩
theorem aeg{K:PySem.W.Frag}{E:XD}{fi:SI}{t:D->Option Sd}{fe:SE}{ix:List Nat}{n:Nat}{g:TG}{σ:St}{H:Hp}{Q:VK}(ht:ae3 K n g t)(q:lift K E (qb K) (v4 fi t fe ix) σ H Q):aai (lift K E (als K) fi) (pq n ix) g (lift K E (qb K) fe) σ H Q:=by
 obtain ⟨ι,τ,h,Sr,Rh,o⟩:=q;refine ⟨ι,τ,h,Sr,Rh,cj o λit h1 ι1 H1 J g1 r1 hr1 o1=>?_⟩
 by_cases hl:it.xs.length<=LINE
 ·rw [if_pos hl] at o1;exact a5i r1 ht (a5g (Sr.mono g1) ix) hr1 hl o1
 ·rw [if_neg hl] at o1;exact o1.elim
section
variable{X:Cx}{E:XD}{elt tg iter cnd:Expr}{scope:Scope}{pos spos pos':Pos}{cl:List (Str × Addr)}{ts fr:List Str}{ix:List Nat}{fi:SI}{g:TG}{t:D->Option Sd}{fe:SE}{fc:ST}{i:Nat}{x:Str}
theorem a5s(hN:X.N.Nodup)(hi':X.N[i]? = some x)(hx:Loc X.env.scope x)(hc:X.calm=true)(S:CSc X scope cl ts fr ix)(hi:MI X E tg iter fi)(hg:∀ C fp s H,PG (cxC X (ts++fr) scope cl C fp s H) tg g)(ht:ae3 X.K ts.length g t)(he:∀ C fp s H,ME (cxC X (ts++fr) scope cl C fp s H) E elt fe)
  (hs:∀ x,foldedSetIterable iter X.env x=pure x:=by intro _;rfl) (hsw:swapsWith (.ListComp elt [⟨tg,iter,[],0⟩] scope pos) (some (.Name x pos')) spos.line X.env=pure true:=by rfl) (hf:X.fn x=true\/X.env.scope.names.lookup x=some .local:=by first | exact .inl rfl | exact .inr rfl | assumption) :
  MS X E (.Assign [.Name x pos'] (.ListComp elt [⟨tg,iter,[],0⟩] scope pos) spos) (jx i (sZ (v4 fi t fe ix))) :=
 PS.weak (ai2 (aam (te:=lift X.K E (qb X.K) fe) hN hi' hx hc S hi hg he hs hsw hf)) λN σ H q=>aeg ht (aly (acj q))
end
theorem o7{P:Program}{w:World}{K:PySem.W.Frag}{mg:Str->Option Value}{base:Heap}{x qual:Str}{st:Stmt}{f:Addr}{fd:FuncData}{N ps:List Str}{k:Nat}{b:SS}(Fu:Fun K x qual st f fd)(S:FnScope N ps (aq st))
  (hb:∀ (cdv:Value) (A:Around) (outer:List Env) (s:Shared) (H:Hp) (E:XK),Room k (A.deeper (PyProof.Rows.envOfC qual (aq st) s.heap.objs.size f cdv))->MSs (zm CX0 P w K mg base N qual (aq st) f cdv A outer s H E).nox X0 (gq st) b) :
  FnOk P w K mg base CX0 (k+1) f fd ps (rz K ps.length (n8 b N.length)):=aho Fu S hb λds h _ _ _=>Rf.same rfl
end MI
namespace MI
open PySem PySem.Spec L2 HT
theorem a70{prog:Program}{w:World}{A:Around}{E:Value->Shared->Prop}{s:Shared}{t sl:Addr}{items:Array Value}{vl vu:Value}{lo hi:Option Int}{Q:Value->Shared->Prop}(ht:PyProof.Rows.IsTup s.heap t items)(hs:s.heap.IsSliceOf sl vl vu .none)(pl:IsPart vl lo)(pu:IsPart vu hi)
  (hw:HT.sIx items.size 0 lo=0/\HT.sIx items.size items.size hi=items.size) (h:Q (.ref t) s):wpAny (model prog w) A (getItem (.ref t) (.ref sl)) Q E s:=by
 obtain ⟨os,f1,f2,f3⟩:=id hs;have ty:s.TypeIs (.ref sl) "slice":=⟨os,f1,f2⟩;have tt:s.TypeIs (.ref t) "tuple":=ht.typeIs;rw [getItem]
 try apply wpAny_holding
 first | (apply wpAny_bind;apply wpAny_pure) | skip
 apply wpAny_bind;apply wpAny_sequenceKey tt (by decide)
 apply wpAny_bind
 apply wpAny_callSpecial?_slot (name:=Str.ofString "__getitem__") tt PyProof.Rows.slot_tuple_getitem
 apply wpAny_call_entry PyProof.Rows.slot_tuple_getitem tt PyProof.Rows.entry_tuple_getitem _ (PyProof.Rows.args_tuple_getitem _ _)
 change wpAny (model prog w) A.in1 (Builtin.Tuple.tupleItemsOf (.ref t)>>=_) _ _ s
 apply wpAny_bind;apply PyProof.Rows.tupleItemsOf_ ht
 apply wpAny_bind;apply wpAny_typeOf ty
 rw [if_pos (by decide)]
 apply wpAny_bind;apply HT.rm hs pl pu
 rw [hw.1,hw.2];dsimp only;rw [if_pos (by simp)]
 apply wpAny_bind
 rw [Builtin.Tuple.tupleIsExact]
 apply wpAny_bind;apply wpAny_typeOf tt
 apply wpAny_pure
 rw [if_pos (by decide)]
 apply wpAny_bind;apply wpAny_rule
 apply wpAny_pure
 exact ⟨_,rfl,wpAny_pure h⟩
def alz(K:PySem.W.Frag):V->Option Int->Option Int->Hp->VK->Prop:=λx lo hi H Q=>∃ a xs,x = .ref a/\SqT K H a xs/\whole xs.length lo hi/\Q (.ref a) H
theorem aay{X:Cx}:SlR X (alz X.K):=by
 intro pins s σ H x v vl vu lo hi sl Q I rx hs pl pu h
 obtain ⟨a,xs,rfl,hx,hw,q⟩:=h;cases rx
 obtain ⟨its,r,ht,hz⟩:=I.tuple hx;have hlen:its.toArray.size=xs.length:=by rw [List.size_toArray];exact r.length.symm
 exact ⟨"tuple",_,PyProof.Rows.slot_tuple_getitem.lookup,ht.typeIs,a70 ht hs pl pu (by rw [hlen];exact hw) ⟨.ref a,H,I,rfl,q⟩⟩
def ack(d:D)(lo hi:Option Int)(h:Hd):R D:=match d with
 | .tup xs=>if whole xs.length lo hi then .ok (.tup xs) h else .ok (.tup (a2f xs lo hi)) h
 | d=>gSl d lo hi h
def a71(f:SE)(l u:SO):SE:=λτ h=>(f τ h).bind λd h1=>(l τ h1).bind λlo h2=>(u τ h2).bind λhi h3=>ack d lo hi h3
theorem aeh{K:PySem.W.Frag}{E:XD}{ι:List Addr}{H:Hp}{h:Hd}{x:V}{d:D}{lo hi:Option Int}{Q:VK}(rx:Rep K ι H x d)(hr:HRep K ι H h)(o:out K E (qb K) ι H (ack d lo hi h) Q):(ako x lo hi H Q\/akk K x lo hi H Q\/akm K x lo hi H Q)\/alz K x lo hi H Q:=by
 cases rx with
 | @tup p vs xs hp r =>
  by_cases hc:whole xs.length lo hi
  ·simp only [ack,if_pos hc] at o;exact .inr ⟨p,vs,rfl,SqT.of hp,by rw [r.len];exact hc,ans o (.tup hp r) hr⟩
  ·simp only [ack,if_neg hc] at o;exact .inl (.inr (.inl ⟨p,vs,rfl,SqT.of hp,by rw [r.len];exact hc,a1d (vo r lo hi) hr o⟩))
 | non=>exact o.elim
 | bl _=>exact o.elim
 | int _=>exact o.elim
 | ty _=>exact o.elim
 | str z=>exact .inl (a5l (.str z) hr o)
 | rol a b=>exact .inl (a5l (.rol a b) hr o)
 | scr a b=>exact .inl (a5l (.scr a b) hr o)
 | rod a b c=>exact o.elim
 | rdT a b c=>exact o.elim
 | exc a b c=>exact o.elim
 | ref a=>exact .inl (a5l (.ref a) hr o)
theorem vy{X:Cx}{E:XD}{e:Expr}{fa:SE}{lo hi:Option Expr}{l u:SO}{p2 pos:Pos}(he:ME X E e fa)(hl:MO X E lo l)(hu:MO X E hi u):ME X E (.Subscript e (.Slice lo hi none p2) pos) (a71 fa l u):=by
 refine PE.weak (aac ((ah7.or (agy.or adp)).or aay) he hl hu) λσ H Q ⟨ι,τ,h,S,Rh,o⟩=>?_;refine ⟨ι,τ,h,S,Rh,cj o λd h1 ι1 H1 v g1 r1 hr1 o1=>?_⟩;refine ⟨ι1,τ,h1,S.mono g1,hr1,cj o1 λlo h2 ι2 H2 lv g2 r2 hr2 o2=>?_⟩;refine ⟨ι2,τ,h2,(S.mono g1).mono g2,hr2,cj o2 λhi h3 ι3 H3 hv g3 r3 hr3 o3=>?_⟩
 cases r2;cases r3
 exact aeh ((r1.mono g2).mono g3) hr3 o3
end MI
namespace TPM
open PySem PySem.Spec PySem.W L2 HT MI
end TPM
namespace MI
open PySem PySem.Spec L2 TPM
end MI
namespace L2
open PySem PySem.Spec PyProof.Rows
theorem aaz{X:Cx}:alm X (ajp X.K):=by
 intro pins s σ H o i ov iv Q I ro ri h
 obtain ⟨p,xs,k,z,rfl,rfl,hq,he,q⟩:=h;cases ro
 obtain ⟨t,rfl⟩:=ri;obtain ⟨its,r,pl,hz⟩:=I.list hq;obtain ⟨j,h1,h2,h3,h4,h5⟩:=a1a he;obtain ⟨w,ew,rw'⟩:=r.get h2;have len:=r.length;have l63:=yg;have done:EP X pins σ Q w s:=⟨z,H,I,rw',q⟩
 by_cases neg:k<0
 ·have ej:(k+(its.toArray.size:Int)).toNat=j:=by
   rw [seqIndex_neg neg h4] at h1;rw [List.size_toArray,<-len];exact Option.some.inj h1
  exact wpAny_getItem_list_neg pl.isList neg (by rw [List.size_toArray];omega) (by omega) (by rw [ej];simpa using ew) done
 ·have ej:k.toNat=j:=by
   rw [seqIndex_of (by omega) h5] at h1
   exact Option.some.inj h1
  exact wpAny_getItem_list pl.isList (by omega) (by omega) (by rw [ej];simpa using ew) done
end L2
namespace MI
open PySem PySem.Spec L2
def acl(x y:D)(h:Hd):R D:=match x,y with
 | .ref p, .int i=>(match h[p]? with | some (.lst xs)=>(match atI xs i with | some d=>.ok d h | none=>.no) | _=>.no)
 | _,_=>.no
theorem aei{K:PySem.W.Frag}:vh K acl (ajp K):=by
 intro E ι H h x y dx dy Q rx ry hr o
 cases rx with
 | @ref p i hp =>
  cases ry with
  | int k =>
   simp only [acl] at o
   split at o
   ·rename_i xs hx;obtain ⟨vs,h3,h4⟩:=hr.lst hp hx
    split at o
    ·rename_i d he;obtain ⟨v,h1,h2⟩:=a5k h4 he;exact ⟨p,vs,k,v,rfl,rfl,SqL.of h3,h1,ans o h2 hr⟩
    ·exact o.elim
   ·exact o.elim
  | _=>exact o.elim
 | _=>exact o.elim
def vz(g:D->D->Hd->R D)(fo fi fe:SE):SS:=λτ h=>(fo τ h).fl λo h1=>(fi τ h1).fl λi h2=>(acl o i h2).fl λx h3=>(fe τ h3).fl λy h4=>(g x y h4).fl λz h5=>match put o i z h5 with | some h6=>.nx τ h6 | none=>.no
section
variable{X:Cx}{E:XD}{e o i:Expr}{fa fb fc:SE}{pos:Pos}
theorem a4e{op:Operator}{r:R2}{gg:D->D->Hd->R D}{tpos:Pos}(ho:ME X E o fa)(hi:ME X E i fb)(he:ME X E e fc)(hp:OpR X (inplaceOp op) r)(hs:vh X.K gg r)
  (ha:∀ ov iv new,augStore i ov iv new=(do holding [new,ov,iv] (setItem ov iv new);release [new,ov,iv] [];pure .next):=by intros;rfl):MS X E (.AugAssign (.Subscript o i tpos) op e pos) (vz gg fa fb fc):=by
 refine PS.weak (adb ho hi aaz he hp set_list ha) λN σ H ⟨ι,τ,h,S,Rh,oo⟩=>?_;refine ⟨ι,τ,h,S,Rh,jq oo λd h1 ι1 H1 v g1 r1 hr1 o1=>?_⟩;refine ⟨ι1,τ,h1,S.mono g1,hr1,jq o1 λd2 h2 ι2 H2 u g2 r2 hr2 o2=>?_⟩;refine aei E ι2 H2 h2 v u d d2 _ (r1.mono g2) r2 hr2 (jq o2 λd3 h3 ι3 H3 w g3 r3 hr3 o3=>?_);have S3:=((S.mono g1).mono g2).mono g3;refine ⟨ι3,τ,h3,S3,hr3,jq o3 λd4 h4 ι4 H4 y g4 r4 hr4 o4=>?_⟩;refine hs E ι4 H4 h4 w y d3 d4 _ (r3.mono g4) r4 hr4 (jq o4 λd5 h5 ι5 H5 z g5 r5 hr5 o5=>?_)
 cases hq:put d d2 d5 h5 with
 | none=>rw [hq] at o5;exact o5.elim
 | some h6 =>
  rw [hq] at o5;exact a85 ((((r1.mono g2).mono g3).mono g4).mono g5) (((r2.mono g3).mono g4).mono g5) r5 hr5 hq λH' g6 hr6=>o5 ι5 H' σ g6 (((S3.mono g4).mono g5).mono g6) hr6
end
end MI
namespace TPM
open PySem PySem.Spec PySem.W L2 HT MI
theorem a72(t b:Addr)(items2:Array Value)(n n2:Nat)(dd dd2:Option Addr)(sl sl2:Array (Option Value)) :
  Meets (Builtin.«tuple.__add__» ⟨[.ref t, .ref b],[]⟩) (λ_ R s=>s.heap.get? t=some { cls:=.type "tuple",dict:=dd,data:=.seq #[] n,slots:=sl }/\s.heap.get? b=some { cls:=.type "tuple",dict:=dd2,data:=.seq items2 n2,slots:=sl2 }/\R (.ok (.ret (.ref b))) s):=by
 refine .of_wp λprog w A R s h=>?_;obtain ⟨hp,g,d,tk,os⟩:=s;obtain ⟨hl,hb,h⟩:=h
 wp_walk
 refine wpAny_of_eq sub_tuple_self ?_
 wp_walk
 exact ⟨_,rfl,h⟩
def ai3(K:PySem.W.Frag):R2:=λx y H Q=>∃ a b ys,x = .ref a/\y = .ref b/\SqT K H a []/\SqT K H b ys/\Q (.ref b) H
theorem aej{X:Cx}:OpR X (binaryOp .Add) (ai3 X.K):=by
 intro pins s σ H x y v u Q I rx ry h
 obtain ⟨a,b,ys,rfl,rfl,ha,hb,q⟩:=h;cases rx
 cases ry
 obtain ⟨its,r1,p1,_⟩:=I.tuple ha;obtain ⟨its2,r2,p2,_⟩:=I.tuple hb;cases r1
 obtain ⟨⟨cls,dd,data,sl⟩,ho,hc,n,hd⟩:=id p1;obtain ⟨⟨cls2,dd2,data2,sl2⟩,ho2,hc2,n2,hd2⟩:=id p2;simp only at hc hd hc2 hd2;subst hc hd hc2 hd2;exact concat_meets ⟨_,ho,rfl⟩ ⟨_,ho2,rfl⟩ noFill_tuple_add seq_tuple_add F.slot_tuple_add F.entry_tuple_add (F.args_tuple_add_2 _ _) (a72 a b its2.toArray n n2 dd dd2 sl sl2) ⟨ho,ho2,⟨.ref b,H,I,rfl,q⟩⟩
end TPM
namespace MI
open PySem PySem.Spec L2 TPM
end MI
namespace TPM
open PySem PySem.Spec PySem.W L2 HT MI PyProof.Rows
end TPM
namespace MI
open PySem PySem.Spec L2 TPM
end MI
namespace L2
open PySem PySem.Spec PyProof.Rows
section
variable{X:Cx}
theorem Inv.lstR{pins:List (Addr × Obj)}{σ:St}{H:Hp}{s:Shared}{l:Addr}{xs:List V}(I:Inv X pins σ H s)(hH:Rd H l (.lst xs)):xs.length<=sizeLine/\∃ (its:List Value) (n:Nat),Vals xs its/\xs.length=its.length/\s.heap.get? l=some { cls:=.type "list",data:=.seq its.toArray n }:=by
 obtain ⟨z,its,n,r,e⟩:=hH.ok I.hok;exact ⟨z,its,n,r,r.length,e⟩
def ai4:R2:=λx y H Q=>∃ l b xs zs,x = .ref l/\y = .ref b/\Rd H l (.lst xs)/\Rd H b (.lst zs)/\xs.length+zs.length<=sizeLine/\∀ p,H p=none->Q (.ref p) (upd H p (.lst (xs++zs)))
theorem aek:OpR X (binaryOp .Add) ai4:=λpins s σ H x y v u Q I rx ry ⟨l,b,xs,zs,ex,ey,h1,h2,hz,q⟩=>by
 subst ex ey;cases rx
 cases ry
 obtain ⟨_,as,_,va,la,ea⟩:=I.lstR h1;obtain ⟨_,bs,_,vb,lb,eb⟩:=I.lstR h2;have app:as.toArray++bs.toArray=(as++bs).toArray:=by simp
 refine PySem.P.add_list ea eb ?_ (by simp;omega)
 rw [app];exact ⟨.ref _,_,I.lnew (t':=s.toks) (va.append vb) (by simpa using hz),rfl,q _ I.fresh⟩
def ai5:R2:=λx y H Q=>∃ l k xs,x = .ref l/\y = .int k/\Rd H l (.lst xs) /\ -(2 ^ 63)<=k/\k<2 ^ 63/\xs.length*k.toNat<=sizeLine/\∀ p,H p=none->Q (.ref p) (upd H p (.lst (List.replicate k.toNat xs).flatten))
theorem ael(its:List Value)(k:Nat):List.foldl (λx1 x2=>x1++x2) #[] (List.replicate (if its.toArray.isEmpty=true then 0 else k) its.toArray)=(List.replicate k its).flatten.toArray:=by
 have g:∀ m:Nat,List.foldl (λx1 x2=>x1++x2) #[] (List.replicate m its.toArray)=(List.replicate m its).flatten.toArray:=λm=>by simpa using foldl_rep its m []
 cases its with
 | nil=>simp
 | cons a r=>rw [if_neg (by simp),g]
theorem aem:OpR X (binaryOp .Mult) ai5:=λpins s σ H x y v u Q I rx ry ⟨l,k,xs,ex,ey,h1,k1,k2,hz,q⟩=>by
 subst ex ey;cases rx
 obtain ⟨t,rfl⟩:=ry;obtain ⟨_,as,n,va,la,ea⟩:=I.lstR h1;have few:as.toArray.size*k.toNat<=sizeLine:=by rw [List.size_toArray,<-la];exact hz
 have top:(sizeLine:Nat)<=(2 ^ 63 - 1) / 8:=by decide
 refine wpAny_binaryOp_repeat_ref (T := "list") (U := "int") (by decide) ⟨_,ea,rfl⟩ (λs'=>typeIs_int s' k t) noFill_list_mul F.fills_int_mul F.slot_int_rmul repeat_list F.slot_int_index.lookup
  (call_meets F.slot_int_rmul (typeIs_int s k t) F.entry_int_rmul (F.args_int_rmul_2 _ _) (int___rmul___int_list k t l as.toArray n)
   ⟨ea,rfl,⟨_,ea,rfl⟩,call_meets F.slot_list_mul ⟨_,ea,rfl⟩ F.entry_list_mul (F.args_list_mul_2 _ _)
    (AutoListH.list___mul___list_int_3 l as.toArray n k t (by rw [fitsIndex_both k1 k2];exact Bool.false_ne_true) (by omega) (by rw [aad few];exact Bool.false_ne_true)) ⟨ea,?_⟩⟩)
 rw [ael];exact ⟨.ref _,_,I.lnew (t':=s.toks) (va.rep k.toNat) (by rw [len_rep,Nat.mul_comm];exact hz),rfl,q _ I.fresh⟩
end
end L2
namespace MI
open PySem PySem.Spec L2 TPM
def p6(d:D)(h:Hd):Option (List D):=match d with
 | .rol xs=>some xs
 | .ref i=>(match h[i]? with | some (.lst xs)=>some xs | _=>none)
 | _=>none
section
variable{K:PySem.W.Frag}{ι:List Addr}{H:Hp}{h:Hd}
theorem qm{x:V}{d:D}{xs:List D}(r:Rep K ι H x d)(hr:HRep K ι H h)(e:p6 d h=some xs):∃ a vs,x = .ref a/\Rd H a (.lst vs)/\Reps K ι H vs xs:=by
 cases r with
 | @rol a vs ys hp rs=>cases e;exact ⟨a,vs,rfl, .inr hp,rs⟩
 | @ref a i hp =>
  obtain ⟨ob,e1,e2⟩:=hr.at hp;simp only [p6,e1] at e
  cases ob with
  | lst ys=>cases e;obtain ⟨vs,h3,h4⟩:=e2;exact ⟨a,vs,rfl, .inl h3,h4⟩
  | _=>cases e
 | _=>cases e
def iy:D->D->Hd->R D
 | .int i, .int j,h=>.ok (.int (i+j)) h
 | .str x, .str y,h=>if x.length+y.length<=LINE then .ok (.str (x++y)) h else .no
 | .tup [], .tup ys,h=>.ok (.tup ys) h
 | .tup (x::xs), .tup ys,h=>if (x::xs).length+ys.length<=LINE then .ok (.tup (x::xs++ys)) h else .no
 | x,y,h=>match p6 x h,p6 y h with
  | some xs,some ys=>if xs.length+ys.length<=LINE then .ok (.ref h.length) (h++[.lst (xs++ys)]) else .no
  | _,_=>.no
theorem aen{x y:D}{xs ys:List D}(e1:p6 x h=some xs)(e2:p6 y h=some ys):iy x y h=if xs.length+ys.length<=LINE then .ok (.ref h.length) (h++[.lst (xs++ys)]) else .no:=by
 cases x<;>first | (cases e1;done) | (cases y<;>first | (cases e2;done) | (simp only [iy,e1,e2]))
theorem aeo(x y:D)(h:Hd):(∃ i j,x = .int i/\y = .int j)\/(∃ i j,x = .str i/\y = .str j)\/(∃ xs ys,x = .tup xs/\y = .tup ys)\/(∃ xs ys,p6 x h=some xs/\p6 y h=some ys)\/iy x y h = .no:=by
 cases e1:p6 x h with
 | some xs =>
  cases e2:p6 y h with
  | some ys=>exact .inr (.inr (.inr (.inl ⟨xs,ys,rfl,rfl⟩)))
  | none =>
   refine .inr (.inr (.inr (.inr ?_)))
   cases x<;>first | (cases e1;done) | (simp only [iy,e1,e2])
 | none =>
  cases x with
  | int i=>cases y<;>first | exact .inl ⟨_,_,rfl,rfl⟩ | exact .inr (.inr (.inr (.inr rfl)))
  | str i=>cases y<;>first | exact .inr (.inl ⟨_,_,rfl,rfl⟩) | exact .inr (.inr (.inr (.inr rfl)))
  | tup i=>cases y<;>first | exact .inr (.inr (.inl ⟨_,_,rfl,rfl⟩)) | (cases i<;>exact .inr (.inr (.inr (.inr rfl))))
  | _=>refine .inr (.inr (.inr (.inr ?_)));simp only [iy,e1]
theorem ab0:vh K iy (λx y H Q=>(rI0 (λi j=>.int (i+j)) x y H Q\/(∃ i j,x = .str i/\y = .str j/\i.length+j.length<=sizeLine/\Q (.str (i++j)) H)\/agz K x y H Q\/ai4 x y H Q)\/ai3 K x y H Q):=by
 intro E ι H h x y dx dy Q rx ry hr o
 rcases aeo dx dy h with ⟨i,j,rfl,rfl⟩ | ⟨i,j,rfl,rfl⟩ | ⟨xs,ys,rfl,rfl⟩ | ⟨xs,ys,e1,e2⟩ | e
 ·cases rx;cases ry
  exact .inl (.inl ⟨i,j,rfl,rfl,ans o (.int _) hr⟩)
 ·cases rx;cases ry
  simp only [iy] at o
  split at o
  ·rename_i hc;exact .inl (.inr (.inl ⟨i,j,rfl,rfl,ll hc,ans o (.str _) hr⟩))
  ·exact o.elim
 ·cases rx with
  | @tup a vs _ ha r1 =>
  cases ry with
  | @tup b us _ hb r2 =>
  cases xs with
  | nil=>cases r1;exact .inr ⟨a,b,us,rfl,rfl,SqT.of ha,SqT.of hb,ans o (.tup hb r2) hr⟩
  | cons z xs =>
   simp only [iy] at o
   split at o
   ·rename_i hc;refine .inl (.inr (.inr (.inl ⟨a,b,vs,us,rfl,rfl,SqT.of ha,SqT.of hb,λz=>(by subst z;cases r1),ll (by rw [r1.len,r2.len];exact hc),λz=>?_,λ_=>?_⟩)))
    ·subst z;cases r2
     rw [List.append_nil] at o;exact ans o (.tup ha r1) hr
    ·exact a1d (r1.app r2) hr o
   ·exact o.elim
 ·rw [aen e1 e2] at o;obtain ⟨a,vs,rfl,h1,h2⟩:=qm rx hr e1;obtain ⟨b,us,rfl,h3,h4⟩:=qm ry hr e2
  split at o
  ·rename_i hc;exact .inl (.inr (.inr (.inr ⟨a,b,vs,us,rfl,rfl,h1,h3,ll (by rw [h2.len,h4.len];exact hc),lu (h2.app h4) hr o⟩)))
  ·exact o.elim
 ·rw [e] at o;exact o.elim
theorem jb{X:Cx}{E:XD}{a b:Expr}{fa fb:SE}{pos:Pos}(ha:ME X E a fa)(hb:ME X E b fb):ME X E (.BinOp a .Add b pos) (s2 iy fa fb) :=
 a6x (OpR.or (agm.or (a6p.or (adn.or aek))) aej) ab0 ha hb
open Classical in
noncomputable def sr:D->D->Hd->R D
 | .int i, .int j,h=>if CMul i j then .ok (.int (i*j)) h else .no
 | x, .int k,h=>match p6 x h with
  | some xs=>if (-(2 ^ 63)<=k/\k<2 ^ 63)/\xs.length*k.toNat<=LINE then .ok (.ref h.length) (h++[.lst (List.replicate k.toNat xs).flatten]) else .no
  | none=>.no
 | _,_,_=>.no
theorem ab1:vh K sr (λx y H Q=>rI CMul (λi j=>.int (i*j)) x y H Q\/ai5 x y H Q):=by
 intro E ι H h x y dx dy Q rx ry hr o
 cases ry with
 | int k =>
  cases hx:p6 dx h with
  | some xs =>
   obtain ⟨a,vs,rfl,h1,h2⟩:=qm rx hr hx;have o':out K E (qb K) ι H (if (-(2 ^ 63)<=k/\k<2 ^ 63)/\xs.length*k.toNat<=LINE then .ok (.ref h.length) (h++[.lst (List.replicate k.toNat xs).flatten]) else .no) Q:=by
    cases dx<;>first | (cases hx;done) | (simp only [sr,hx] at o;exact o)
   split at o'
   ·rename_i hc;exact .inr ⟨a,k,vs,rfl,rfl,h1,hc.1.1,hc.1.2,ll (by rw [h2.len];exact hc.2),lu (h2.flat _) hr o'⟩
   ·exact o'.elim
  | none =>
   cases rx with
   | int i =>
    by_cases hc:CMul i k
    ·simp only [sr,if_pos hc] at o;exact .inl ⟨i,k,rfl,rfl,hc,ans o (.int _) hr⟩
    ·simp only [sr,if_neg hc] at o;exact o.elim
   | _=>simp only [sr,hx] at o;exact o.elim
 | _=>cases rx<;>exact o.elim
theorem a1q{X:Cx}{E:XD}{a b:Expr}{fa fb:SE}{pos:Pos}(ha:ME X E a fa)(hb:ME X E b fb):ME X E (.BinOp a .Mult b pos) (s2 sr fa fb):=a6x (ago.or aem) ab1 ha hb
end
end MI
namespace MI
open PySem PySem.Spec L2
def a5t(d:D)(h:Hd):Option (List Int):=match d with
 | .ref i=>(match h[i]? with | some (.lst xs)=>uq xs | _=>none)
 | .rol xs=>uq xs
 | _=>none
theorem a8n{K:PySem.W.Frag}{ι:List Addr}{H:Hp}{h:Hd}{v:V}{d:D}{ns:List Int}(r:Rep K ι H v d)(hr:HRep K ι H h)(e:a5t d h=some ns):∃ p,v = .ref p/\SqL K H p (ns.map V.int):=by
 unfold a5t at e
 split at e
 ·cases r with
  | @ref p _ hp =>
   split at e
   ·rename_i xs hx;obtain ⟨vs,h3,h4⟩:=hr.lst hp hx;exact ⟨p,rfl,SqL.of (by rw [h3,vp h4 e])⟩
   ·cases e
 ·cases r with
  | @rol p vs xs hp r=>exact ⟨p,rfl,by rw [<-vp r e];exact hp.l⟩
 ·cases e
def a4f:List D->Hd->R D
 | [d],h=>(match a5t d h with | some (n::ns)=>.ok (.int (mxI (n::ns))) h | _=>.no)
 | _,_=>.no
theorem ab2{K:PySem.W.Frag}:a80 K a4f (λxs H Q=>∃ (p:Addr) (ns:List Int),xs=[.ref p]/\SqL K H p (ns.map V.int)/\ns≠[]/\Q (.int (mxI ns)) H):=by
 intro E ι H h xs ds Q r hr o
 unfold a4f at o
 split at o
 ·cases r with
  | cons r rs =>
   cases rs
   split at o
   ·rename_i n ns e;obtain ⟨p,rfl,q⟩:=a8n r hr e;exact ⟨p,n::ns,rfl,q,by simp,ans o (.int _) hr⟩
   ·exact o.elim
 ·exact o.elim
theorem ai6{xs:List Int}{h:Hd}(ne:xs≠[]):a4f [.rol (xs.map D.int)] h = .ok (.int (mxI xs)) h:=by
 have e:∀ l:List Int,uq (l.map D.int)=some l:=λl=>by
  induction l with
  | nil=>rfl
  | cons a l ih=>rw [List.map_cons];simp only [uq,ih,Option.map_some]
 unfold a4f a5t;simp only [e]
 cases xs with
 | nil=>exact absurd rfl ne
 | cons n ns=>rfl
end MI
namespace L2
open PySem PySem.Spec PyProof.Rows
end L2
namespace MI
open PySem PySem.Spec L2
end MI
namespace L2
open PySem PySem.Spec PyProof.Rows
def ixI(n:Int):List Int->Option Nat
 | []=>none
 | a::l=>if a=n then some 0 else (ixI n l).map (·+1)
end L2
namespace MI
open PySem PySem.Spec L2
def am0:D->Option Key
 | .int i=>some (.inl i)
 | .str x=>some (.inr x)
 | _=>none
def an9:D->Option (List Key)
 | .tup xs=>ux am0 xs
 | _=>none
def putD{κ:Type}[DecidableEq κ](kvs:List (κ × D))(k:κ)(d:D):List (κ × D):=if (kvs.any λkv=>decide (kv.1=k))=true then kvs.map λkv=>if kv.1=k then (kv.1,d) else kv else kvs++[(k,d)]
section
variable{K:PySem.W.Frag}{ι:List Addr}{H:Hp}{h:Hd}
variable{X:Cx}{E:XD}{a b e o i:Expr}{fa fb fc:SE}{pos:Pos}
def ana(o k v:D)(h:Hd):Option Hd:=match o with
 | .ref i=>(match h[i]? with
  | some (.dK kvs)=>(match am0 k with | some kk=>if kvs.length<LINE then some (h.set i (.dK (putD kvs kk v))) else none | none=>none)
  | some (.dT kvs)=>(match an9 k with | some kk=>if kvs.length<LINE then some (h.set i (.dT (putD kvs kk v))) else none | none=>none)
  | _=>none)
 | _=>none
def ai7(fe fo fi:SE):SS:=λτ h=>(fe τ h).fl λv h1=>(fo τ h1).fl λo h2=>(fi τ h2).fl λk h3=>match ana o k v h3 with | some h4=>.nx τ h4 | none=>.no
end
end MI
namespace ZP
open PySem PySem.Spec PySem.Builtin PySem.Builtin.SmallTypes L2
end ZP
namespace MI
open PySem PySem.Spec L2 ZP
def ai8(x:D)(h:Hd):R Itm:=match srcOf x h with
 | some (xs,c)=>.ok ⟨((List.range xs.length).zip xs).map λp=>.tup [.int (p.1:Nat),p.2],c⟩ h
 | none=>.no
def akx(f:SE):SI:=λτ h=>(f τ h).bind ai8
end MI
namespace L2
open PySem PySem.Spec PyProof.Rows
end L2
namespace MI
open PySem PySem.Spec L2
end MI
namespace L2
open PySem PySem.Spec PyProof.Rows
end L2
namespace MI
open PySem PySem.Spec L2
def anb(lo:Int)(n:Nat):List D:=(List.range n).map λi=>D.int (lo - (i:Nat))
def aky(ds:List D)(h:Hd):R Itm:=match ds with
 | [.int i, .int j, .int k]=>if k = -1/\B62 i/\B62 j then .ok ⟨anb i (i - j).toNat,λ_=>True⟩ h else .no
 | _=>.no
theorem dh{α β:Type}(a:α)(h:Hd)(k:α->Hd->R β):(R.ok a h).bind k=k a h:=rfl
theorem v7{α:Type}(a:α)(h:Hd)(k:α->Hd->Fl):(R.ok a h).fl k=k a h:=rfl
def thn(r:Fl)(g:SS):Fl:=match r with | .nx τ h=>g τ h | r=>r
theorem o8(f g:SS)(τ:Sd)(h:Hd):j5 f g τ h=thn (f τ h) g:=by unfold j5 thn;cases f τ h<;>rfl
theorem yo(τ:Sd)(h:Hd)(g:SS):thn (.nx τ h) g=g τ h:=rfl
theorem acn(d:D)(h:Hd)(g:SS):thn (.rt d h) g = .rt d h:=rfl
def toR(r:Fl):R D:=match r with | .rt d h1=>.ok d h1 | .nx _ h1=>.ok .non h1 | .ex c h1=>.ex c h1 | _=>.no
theorem gk(b:SS)(n:Nat)(ds:List D)(h:Hd):n8 b n ds h=toR (b (vm n ds) h):=by unfold n8 toR;cases b (vm n ds) h<;>rfl
theorem a8o(d:D)(h:Hd):toR (.rt d h) = .ok d h:=rfl
theorem aco(τ:Sd)(h:Hd):toR (.nx τ h) = .ok .non h:=rfl
theorem qp{n:Nat}:∀ {xs:List D},clos n xs↔∀ x∈xs,clo n x
 | []=>by simp [clos]
 | x::xs=>by simp [clos,qp (xs:=xs)]
theorem di{n:Nat}(i:Int):clo n (.int i):=by simp [clo]
theorem kj{n:Nat}(i:Str):clo n (.str i):=by simp [clo]
theorem a5u{n:Nat}(i:Bool):clo n (.bl i):=by simp [clo]
theorem a4g{n:Nat}:clo n .non:=by simp [clo]
theorem w6{n:Nat}:clos n []:=by simp [clos]
theorem iw{n:Nat}{x:D}{xs:List D}(a:clo n x)(b:clos n xs):clos n (x::xs):=by simp only [clos];exact ⟨a,b⟩
theorem a1r{n:Nat}{xs:List D}(h:clos n xs):clo n (.tup xs):=by simpa [clo] using h
theorem xq{n:Nat}{xs:List D}(h:clos n xs):clo n (.rol xs):=by simpa [clo] using h
theorem jj{α:Type}{n:Nat}{f:α->D}{l:List α}(h:∀ a∈l,clo n (f a)):clos n (l.map f):=by
 rw [qp]
 intro x hx
 obtain ⟨a,ha,rfl⟩:=List.mem_map.mp hx;exact h a ha
mutual
theorem acp{n m:Nat}(hm:n<=m):∀ {d:D},clo n d->clo m d
 | .non,_=>by simp [clo]
 | .bl _,_=>by simp [clo]
 | .int _,_=>by simp [clo]
 | .str _,_=>by simp [clo]
 | .ty _,_=>by simp [clo]
 | .tup xs,h=>by simp only [clo] at h ⊢;exact qt hm h
 | .rol xs,h=>by simp only [clo] at h ⊢;exact qt hm h
 | .scr xs,h=>by simp only [clo] at h ⊢;exact qt hm h
 | .rod _ xs,h=>by simp only [clo] at h ⊢;exact qt hm h
 | .rdT _ xs,h=>by simp only [clo] at h ⊢;exact qt hm h
 | .exc _,_=>by simp [clo]
 | .ref i,h=>by simp only [clo] at h ⊢;omega
theorem qt{n m:Nat}(hm:n<=m):∀ {xs:List D},clos n xs->clos m xs
 | [],_=>by simp [clos]
 | x::xs,h=>by simp only [clos] at h ⊢;exact ⟨acp hm h.1,qt hm h.2⟩
end
theorem v8{n m:Nat}(hm:n<=m){o:O}(h:xg n o):xg m o:=by
 cases o with
 | lst xs=>exact qt hm h
 | dK kvs=>exact qt hm h
 | dT kvs=>exact qt hm h
theorem a4h{α:Type}{f:α->Option α}:∀ {xs:List α},(∀ x∈xs,f x=some x)->ux f xs=some xs
 | [],_=>rfl
 | x::xs,h=>by
  unfold ux;rw [h x List.mem_cons_self,a4h λy hy=>h y (List.mem_cons_of_mem _ hy)]
theorem a5v{n k:Nat}{h:Hd}{d:D}(c:clo n d):a0p n h (k+1) d=some d:=by unfold a0p;rw [if_pos c]
theorem ab3{n k:Nat}{h:Hd}{o:O}(c:xg n o):ai0 n h k o=some o:=by unfold ai0;rw [if_pos c]
theorem yz{n k i:Nat}{h:Hd}{xs:List D}(hi:n<=i)(e:h[i]? = some (.lst xs))(c:clos n xs):a0p n h (k+2) (.ref i)=some (.rol xs):=by
 unfold a0p;rw [if_neg (by simp only [clo];omega)]
 simp only [e];rw [a4h λx hx=>a5v (qp.mp c x hx)];rfl
theorem xr{n:Nat}{d d':D}{h1:Hd}(e:a0p n h1 FU d=some d')(c:∀ o∈h1.take n,xg n o):a5o n (.ok d h1) = .ok d' (h1.take n):=by
 unfold a5o;simp only [e];rw [a4h λo ho=>ab3 (c o ho)]
theorem m8{n:Nat}{d:D}{h1:Hd}(e:clo n d)(c:∀ o∈h1.take n,xg n o):a5o n (.ok d h1) = .ok d (h1.take n):=xr (a5v e) c
theorem a5w{n i:Nat}{h1:Hd}{xs:List D}(hi:n<=i)(e:h1[i]? = some (.lst xs))(cx:clos n xs)(c:∀ o∈h1.take n,xg n o):a5o n (.ok (.ref i) h1) = .ok (.rol xs) (h1.take n):=xr (yz hi e cx) c
theorem a1s{f:SE}{τ:Sd}{h:Hd}{xs:List D}(e:f τ h = .ok (.ref h.length) (h++[.lst xs]))(cx:clos h.length xs)(c:∀ o∈h,xg h.length o):sZ f τ h = .ok (.rol xs) h:=by
 unfold sZ;rw [e,a5w (Nat.le_refl _) (by simp) cx (by simpa using c)]
 simp
def Pu(F:SF)(n:Nat)(ds:List D)(d:D):Prop:=∀ h,jd false n F ds h = .ok d h
def Dr(F:SF)(n:Nat)(ds:List D)(o:O)(d:D)(o':O):Prop:=∀ p h,h[p]? = some o->jd false n F (.ref p::ds) h = .ok d (h.set p o')
theorem za:∀ {ds:List D},(∀ d∈ds,clo 0 d)->v6 ds=[]/\u9 0 ds=ds/\∀ k,u9 k ds=ds
 | [],_=>⟨rfl,rfl,λ_=>rfl⟩
 | d::ds,h=>by
  obtain ⟨a,b,c⟩:=za (ds:=ds) λx hx=>h x (List.mem_cons_of_mem _ hx);have hd:=h d List.mem_cons_self;have nr:refOf d=none:=by cases d<;>first | rfl | (simp only [clo] at hd;omega)
  refine ⟨?_,?_,λk=>?_⟩
  ·simpa [v6,nr] using a
  ·cases d<;>first | (simp only [clo] at hd;omega) | (simp only [u9,b])
  ·cases d<;>first | (simp only [clo] at hd;omega) | (simp only [u9,c])
theorem Pu.of{F:SF}{n:Nat}{ds:List D}{r:R D}{d:D}(hn:ds.length=n)(cd:∀ x∈ds,clo 0 x)(e:F ds []=r)(z:a5o 0 r = .ok d [])(c:clo 0 d):Pu F n ds d:=λh=>by
 obtain ⟨p1,p2,_⟩:=za cd;unfold jd;rw [if_pos hn];unfold afu;rw [p1];simp only [ux,List.length_nil,Bool.false_eq_true,if_false];rw [if_pos ⟨List.nodup_nil,λx hx=>.inl (cd x hx),λo ho=>by simp at ho⟩,p2,e,z]
 simp [c,jy]
theorem Dr.of{F:SF}{n:Nat}{ds:List D}{o o':O}{r:R D}{d:D}(hn:ds.length+1=n)(cd:∀ x∈ds,clo 0 x)(co:xg 0 o)(e:F (.ref 0::ds) [o]=r)(z:a5o 1 r = .ok d [o'])(c:clo 0 d)(co':xg 0 o'):Dr F n ds o d o':=λp h hp=>by
 obtain ⟨p1,_,p3⟩:=za cd;have e1:v6 (.ref p::ds)=[p]:=by
  have:v6 (.ref p::ds)=p::v6 ds:=rfl
  rw [this,p1]
 have e2:u9 0 (.ref p::ds) = .ref 0::ds:=by
  have:u9 0 (.ref p::ds) = .ref 0::u9 1 ds:=rfl
  rw [this,p3]
 unfold jd;rw [if_pos (by simpa using hn)]
 unfold afu;rw [e1];simp only [ux,hp,List.length_singleton,Bool.false_eq_true,if_false];have all:∀ x∈(D.ref p::ds),clo 0 x\/isRef x:=λx hx=>by
  rcases List.mem_cons.mp hx with rfl | hx
  ·exact .inr ⟨p,rfl⟩
  ·exact .inl (cd x hx)
 rw [if_pos ⟨by simp,all,λu hu=>by rw [List.mem_singleton.mp hu];exact co⟩,e2,e,z]
 simp [c,co',jy]
theorem acq{F:SF}{n i:Nat}{ds:List D}{o:O}{h1:Hd}(hn:ds.length=n)(cd:∀ x∈ds,clo 0 x)(e:F ds [] = .ok (.ref i) h1)(ho:h1[i]? = some o)(co:xg 0 o)(h:Hd):jd true n F ds h = .ok (.ref h.length) (h++[o]):=by
 obtain ⟨p1,p2,_⟩:=za cd;unfold jd;rw [if_pos hn];unfold afu;rw [p1];simp only [ux,List.length_nil,if_true];rw [if_pos ⟨List.nodup_nil,λx hx=>.inl (cd x hx),λo ho=>by simp at ho⟩,p2,e]
 unfold aft;simp only [ho];rw [if_pos ⟨Nat.zero_le _,co,by simp⟩]
 simp [co,jy]
theorem ab4(g:SG)(b:SS)(τ:Sd)(h:Hd):forL (λ_=>True) g b [] τ h = .nx τ h:=by rw [forL,if_pos True.intro]
def trn(r:Fl)(k:Sd->Hd->Fl):Fl:=match r with | .nx τ h=>k τ h | .ct τ h=>k τ h | .bk τ h=>.nx τ h | r=>r
theorem a8p(g:SG)(b:SS)(x:D)(xs:List D)(τ τ1:Sd)(h h1:Hd)(e:g x τ h = .nx τ1 h1):forL (λ_=>True) g b (x::xs) τ h=trn (b τ1 h1) (forL (λ_=>True) g b xs):=by
 rw [forL,if_pos True.intro,e];dsimp only;unfold trn
 cases b τ1 h1<;>rfl
theorem ai9(τ:Sd)(h:Hd)(k:Sd->Hd->Fl):trn (.nx τ h) k=k τ h:=rfl
theorem aia(d:D)(h:Hd)(k:Sd->Hd->Fl):trn (.rt d h) k = .rt d h:=rfl
theorem a5x{g:SG}{b:SS}{α:Type}(f:α->D)(I:List α->Sd->Hd->Prop)(Rt:D->Hd->Prop):∀ (xs pre:List α) (τ:Sd) (h:Hd),
  (∀ pre' x post τ h,pre++xs=pre'++x::post->I pre' τ h->∃ τ1 h1,g (f x) τ h = .nx τ1 h1/\((∃ τ2 h2,b τ1 h1 = .nx τ2 h2/\I (pre'++[x]) τ2 h2)\/∃ d h2,b τ1 h1 = .rt d h2/\Rt d h2))->I pre τ h->
  (∃ τ' h',forL (λ_=>True) g b (xs.map f) τ h = .nx τ' h'/\I (pre++xs) τ' h')\/∃ d h',forL (λ_=>True) g b (xs.map f) τ h = .rt d h'/\Rt d h'
 | [],pre,τ,h,_,i0=>.inl ⟨τ,h,ab4 ..,by simpa using i0⟩
 | x::xs,pre,τ,h,st,i0=>by
  obtain ⟨τ1,h1,e1,q⟩:=st pre x xs τ h rfl i0;rw [List.map_cons,a8p _ _ _ _ _ _ _ _ e1]
  rcases q with ⟨τ2,h2,e2,i2⟩ | ⟨d,h2,e2,r⟩
  ·rw [e2,ai9];have:=a5x f I Rt xs (pre++[x]) τ2 h2 (λpre' y post τ h e=>st pre' y post τ h (by simpa using e)) i2
   simpa using this
  ·rw [e2,aia];exact .inr ⟨d,h2,rfl,r⟩
theorem uh{g:SG}{b:SS}{α:Type}(f:α->D)(I:List α->Sd->Hd->Prop)(xs:List α)(τ:Sd)(h:Hd)
  (st:∀ pre x post τ h,xs=pre++x::post->I pre τ h->∃ τ1 h1,g (f x) τ h = .nx τ1 h1/\∃ τ2 h2,b τ1 h1 = .nx τ2 h2/\I (pre++[x]) τ2 h2) (i0:I [] τ h) :
  ∃ τ' h',forL (λ_=>True) g b (xs.map f) τ h = .nx τ' h'/\I xs τ' h':=by
 rcases a5x f I (λ_ _=>False) xs [] τ h (λpre' x post τ h e i=>let ⟨τ1,h1,a,b⟩:=st pre' x post τ h e i; ⟨τ1,h1,a, .inl b⟩) i0 with ⟨τ',h',a,b⟩ | ⟨_,_,_,z⟩
 ·exact ⟨τ',h',a,b⟩
 ·exact z.elim
theorem a3b{f:D->Hd->R D}{α:Type}(g F:α->D){h:Hd}:∀ {xs:List α},(∀ x∈xs,f (g x) h = .ok (F x) h)->mapR (λ_=>True) f (xs.map g) h = .ok (xs.map F) h
 | [],_=>by rw [List.map_nil,mapR,if_pos True.intro];rfl
 | x::xs,st=>by
  rw [List.map_cons,mapR,if_pos True.intro,st x List.mem_cons_self];show (mapR _ f (xs.map g) h).bind _=_;rw [a3b g F λy hy=>st y (List.mem_cons_of_mem _ hy)];rfl
theorem akz{c:ST}{f:SS}(I:Nat->Sd->Hd->Prop)(N:Sd->Hd->Prop)(Rt:D->Hd->Prop)
  (st:∀ m τ h,I m τ h->(∃ h1,c τ h = .ok false h1/\N τ h1)\/∃ h1,c τ h = .ok true h1/\((∃ τ2 h2 m',f τ h1 = .nx τ2 h2/\m'<m/\I m' τ2 h2)\/∃ d h2,f τ h1 = .rt d h2/\Rt d h2)) :
  ∀ (m n:Nat) (τ:Sd) (h:Hd),m<n->I m τ h->(∃ τ' h',sWh c f n τ h = .nx τ' h'/\N τ' h')\/∃ d h',sWh c f n τ h = .rt d h'/\Rt d h':=by
 intro m
 induction m using Nat.strongRecOn with
 | ind m ih =>
  intro n τ h hn i0
  cases n with
  | zero=>omega
  | succ n =>
   rcases st m τ h i0 with ⟨h1,e1,q⟩ | ⟨h1,e1,q⟩
   ·exact .inl ⟨τ,h1,by rw [sWh,e1];rfl,q⟩
   ·rcases q with ⟨τ2,h2,m',e2,lt,i2⟩ | ⟨d,h2,e2,r⟩
    ·have e3:sWh c f (n+1) τ h=sWh c f n τ2 h2:=by
      rw [sWh,e1,v7,if_pos rfl,e2]
     rw [e3];exact ih m' lt n τ2 h2 (by omega) i2
    ·refine .inr ⟨d,h2,?_,r⟩;rw [sWh,e1,v7,if_pos rfl,e2]
structure KD (P:Program) (w:World) (K:PySem.W.Frag) (a:Addr) (kvs:List (Str × Str)):Prop where
 sys:(a == sysModules)=false
 ex:∃ (o:Obj) (vs:List (Key × Value)),K.lookup a=some o/\KV (kvs.map λp=>((.inr p.1:Key),V.str p.2)) vs/\∀ h:Heap,h.get? a=some o->h.DictOf (zj P w) a vs
section
variable{X:Cx}{E:XD}{e:Expr}{fa:SE}{pos p:Pos}{a:Addr}{kvs:List (Str × Str)}{x:Str}
theorem KD.at(kd:KD X.prog X.w X.K a kvs){pins:List (Addr × Obj)}{σ:L2.St}{H:Hp}{s:Shared}(I:Inv X pins σ H s):∃ vs,KV (kvs.map λp=>((.inr p.1:Key),V.str p.2)) vs/\s.heap.DictOf (zj X.prog X.w) a vs:=by
 obtain ⟨o,vs,l,r,d⟩:=kd.ex;exact ⟨vs,r,d _ (I.bk _ _ (I.mod.kin _ _ l))⟩
end
mutual
def toPy:D->Option PyData
 | .non=>some .none
 | .bl b=>some (.bool b)
 | .int i=>some (.int i)
 | .str x=>some (.str x)
 | .tup xs=>(aep xs).map .tuple
 | .rol xs=>(aep xs).map .list
 | .rod [] []=>some (.dict [])
 | _=>none
def aep:List D->Option (List PyData)
 | []=>some []
 | x::xs=>match toPy x,aep xs with | some p,some ps=>some (p::ps) | _,_=>none
end
mutual
def noL:D->Bool
 | .rol _=>false
 | .tup xs=>am1 xs
 | _=>true
def am1:List D->Bool
 | []=>true
 | x::xs=>noL x && am1 xs
end
open Classical in
theorem jc{X:Cx}:CallR X (.builtin "isinstance") (λxs H Q=>∃ a o us T b,xs=[.ref a, .ty T]/\H a=some (.frz o (.dK us))/\PySem.W.kitOne X.K (.type "dict") (.type T)=some b/\Q (.bl b) H):=by
 intro pins s σ H xs us Q I r h
 obtain ⟨a,o,kv,T,b,rfl,ea,e,q⟩:=h;obtain ⟨u,w',rfl,rx,rt⟩:=vals2 r;cases rt
 obtain rfl:u=Value.ref a:=rx
 obtain ⟨_,_,_,vs,_,p⟩:=(show ObjOk X.prog X.w H s.heap a (.frz o (.dK kv)) from I.hok a _ ea)
 obtain ⟨o',es,ep,h1,h2,_⟩:=p;exact PySem.W.kia_one PySem.W.kitx_dict I.kIn ⟨o',h1,h2.1⟩ e (λz=>nomatch z) λtk=>⟨.bl b,H,I.tok tk,rfl,q⟩
def j8:List D->Hd->R D
 | [.rod ks xs, .ty T],h=>(match a0b "dict" T with | some b=>.ok (.bl b) h | none=>.no)
 | ds,h=>a1k ds h
theorem qu{K:PySem.W.Frag}:a80 K j8 (λxs H Q=>(∃ x T t b,xs=[x, .ty T]/\TyOf K H x t/\PySem.W.kitOne K t (.type T)=some b/\Q (.bl b) H)\/∃ a o us T b,xs=[.ref a, .ty T]/\H a=some (.frz o (.dK us))/\PySem.W.kitOne K (.type "dict") (.type T)=some b/\Q (.bl b) H):=by
 intro E ι H h xs ds Q r hr o
 unfold j8 at o
 split at o
 ·split at o
  ·rename_i b hb
   cases r with
   | cons r1 rs =>
    cases rs with
    | cons r2 rs2 =>
     cases rs2
     cases r2
     cases r1 with
     | rod hp ek rr=>exact .inr ⟨_,_,_,_,b,rfl,hp,a8b hb,ans o (.bl _) hr⟩
  ·exact o.elim
 ·exact .inl (aeb E ι H h xs _ Q r hr o)
end MI
namespace TPM
open PySem PySem.Spec PySem.W L2 HT MI PyProof.Rows
end TPM
namespace MI
open PySem PySem.Spec L2 TPM
end MI
namespace SRC
open PySem PySem.Spec L2 MI
noncomputable def nj:SE :=
 (s2 iy (s2 sr (sC (.int 2)) (sA ajt (aj (sV 0) dq))) (sA ahu (aj (s2 gLt (sV 0) (sC (.int 0))) dq)))
noncomputable def o9:SS :=
 (j5 (jx 1 (sZ (v4 (sIt (sZ (a71 (sV 0) oN (oS (sC (.int 63)))))) t1 nj [])))
 (um (sA a83 (aj (sV 1) (aj (sC (.int 0)) (aj (sC (.int 0)) (aj (sC (.int 0)) (aj (s2 yw (sA acg (aj (sV 1) dq)) (sC (.int 2147483647))) dq))))))))
noncomputable def ul:SS :=
 (j5 (vz xj (sV 0) (sC (.int 3)) (sC (.int 1)))
 (j5 (sIf (a3m (sT (s2 hEq (s2 gIx (sV 0) (sC (.int 2))) (sC (.int 0)))) (sT (s2 gLt (s2 gIx (sV 0) (sC (.int 1))) (sA qj (aj (s2 gIx (sV 0) (sC (.int 0))) dq)))))
 (j5 (jx 2 (s2 gIx (s2 gIx (sV 0) (sC (.int 0))) (s2 gIx (sV 0) (sC (.int 1)))))
 (j5 (vz xj (sV 0) (sC (.int 1)) (sC (.int 1)))
 (sIf (sT (s2 gGe (sV 2) (s2 a0m (sC (.int 10)) (sC (.int 18)))))
 (a86 (sV 2) (sV 0) (sC (.int 2)))
 (a86 (s2 yw (s2 iy (s2 sr (s2 gIx (sV 0) (sC (.int 4))) (sC (.int 31))) (sV 2)) (sC (.int 2147483647))) (sV 0) (sC (.int 4))))))
 sNx)
 (j5 (sIf (sT (s2 gGt (s2 gIx (sV 0) (sC (.int 2))) (sC (.int 0))))
 (j5 (jx 3 (s2 yw (s2 gIx (sV 0) (sC (.int 2))) (sV 1)))
 (j5 (vz a5j (sV 0) (sC (.int 2)) (sV 1))
 (um (sV 3))))
 sNx)
 (j5 (jx 3 (s2 yw (s2 a0m (s2 iy (s2 iy (s2 gIx (sV 0) (sC (.int 4))) (sC (.int 1))) (s2 sr (s2 gIx (sV 0) (sC (.int 3))) (sC (.int 7919)))) (sC (.int 3))) (sC (.int 2147483647))))
 (um (s2 yw (s2 a5j (s2 yw (s2 a0m (s2 iy (s2 sr (sV 3) (sC (.int 48271))) (s2 gIx (sV 0) (sC (.int 3)))) (sC (.int 2))) (sC (.int 2147483629))) (sC (.int 64))) (sV 1)))))))
noncomputable def nq:SS :=
 (j5 (jx 0 (sC (.str " !\"#$&'()*+,-./0123456789:;<=>?@ABCDEFGHIJKLMNOPQRSTUVWXYZ[\\]^_`")))
 (um (s2 iy (sV 0) (sC (.str "abcdefghijklmnopqrstuvwxyz{|}~\n")))))
noncomputable def lw:SS :=
 (sIf (sOr (a09 (yt (sA j8 (aj (sV 2) (aj (sC (.ty "int")) dq))))) (yt (sA j8 (aj (sV 2) (aj (sC (.ty "bool")) dq)))))
 (um (sC (.bl false)))
 sNx)
noncomputable def m9:SS :=
 (j5 (sIf (sOr (a09 (yt (sA j8 (aj (sV 0) (aj (sC (.ty "tuple")) dq))))) (sT (s2 hNe (sA qj (aj (sV 0) dq)) (sV 1))))
 (um (sC (.bl false)))
 sNx)
 (j5 (a9x (sIt (sV 0)) (kN 2) lw)
 (um (sC (.bl true)))))
end SRC
namespace L2
open PySem PySem.Spec PySem.W PyProof.Rows
structure Air (stack:List Env) (H:Hp) (h0 B:Heap) (a C:Addr) (t:Value) (h:Heap):Prop where
 fly:Heap.FlyingW B stack a (.ref C) t h
 bk:∀ b o,h.get? b=some o->b ∉ frs stack->(H b≠none\/∃ o0,h0.get? b=some o0)->B.get? b=some o
def CXE(P:Program)(w:World):CXT:=λouter H s E e s' =>
 ∃ a C t B H',e = .ref a/\s'.os=s.os/\AllBare s'.gens/\Un (frs outer) [] H H' s.heap s'.heap/\HOk P w H' s'.heap/\Air outer H' s.heap B a C t s'.heap/\E (.ref C) none H'
section
variable{P:Program}{w:World}{H H':Hp}{h h':Heap}
theorem HOk.is(x:HOk P w H h){a:Addr}{o:HO}(e:H a=some o):∃ ob,h.get? a=some ob:=by
 have:=x a o e
 cases o with
 | lst xs=>obtain ⟨_,_,_,_,e⟩:=this;exact ⟨_,e⟩
 | tup xs=>obtain ⟨_,_,_,ob,e,_⟩:=this;exact ⟨_,e⟩
 | dK kvs=>obtain ⟨_,_,_,_,o,_,_,e,_⟩:=this;exact ⟨_,e⟩
 | dT kvs=>obtain ⟨_,_,_,_,o,_,_,e,_⟩:=this;exact ⟨_,e⟩
 | set S n=>obtain ⟨o,_,_,_,e,_⟩:=this;exact ⟨_,e⟩
 | ins C dx fs=>obtain ⟨_,_,_,e,_⟩:=this;exact ⟨_,e⟩
 | own y=>exact this
 | xd fs=>obtain ⟨_,⟨_,_,_,e,_⟩,_⟩:=this;exact ⟨_,e⟩
 | rng lo hi=>obtain ⟨_,_,_,e⟩:=this;exact ⟨_,e⟩
 | frz ob u=>exact ⟨_,this.1⟩
 | tbl ps=>exact ⟨_,this⟩
 | met f y=>exact ⟨_,this⟩
 | ext φ=>exact this.2.1
theorem HOk.track(x:HOk P w H h)(k:∀ b u,H b≠none->h.get? b=some u->h'.get? b=some u):HOk P w H h':=λa o e =>
 (x a o e).stay (λb u hb q=>k b u (by
  rcases hb with rfl | hb
  ·rw [e];simp
  ·rw [hb];simp) q) (λ_ q=>q) λ_ _ q=>q
end
section
variable{P:Program}{w:World}{K:PySem.W.Frag}{mg:Str->Option Value}{base:Heap}{N:List Str}{qual:Str}{scope:Scope}{f:Addr}{cd:Value}{A:Around}{outer:List Env}{s0:Shared}{H0:Hp}{E:XK}{pins:List (Addr × Obj)}{σ:St}{H:Hp}{s:Shared}
abbrev cxE(P:Program)(w:World)(K:PySem.W.Frag)(mg:Str->Option Value)(base:Heap)(N:List Str)(qual:Str)(scope:Scope)(f:Addr)(cd:Value)(A:Around)(outer:List Env)(s:Shared)(H:Hp)(E:XK):Cx:=zm (CXE P w) P w K mg base N qual scope f cd A outer s H E
theorem ab5{B:Heap}{a C:Addr}{t:Value}{h1 h2:Heap}(I:Inv (cxE P w K mg base N qual scope f cd A outer s0 H0 E) pins σ H { s with heap:=h1 })(hB:∀ b o,h1.get? b=some o->b ∉ frs (envOfC qual scope s0.heap.objs.size f cd::outer)->(H b≠none\/∃ o0,s0.heap.get? b=some o0)->B.get? b=some o)
  (sl:∀ b o,h1.get? b=some o->b∈frs outer->∃ sl,h2.get? b=some { o with slots:=sl }) (fly:Heap.FlyingW B outer a (.ref C) t h2) (e:E (.ref C) none H):CXE P w outer H0 s0 E (.ref a) { s with heap:=h2 }:=by
 have lo:∀ b,b∈frs (envOfC qual scope s0.heap.objs.size f cd::outer)->b=s0.heap.objs.size\/b∈frs outer:=λb hb=>by
  unfold frs at hb ⊢;rw [List.filterMap_cons] at hb
  rcases List.mem_cons.mp hb with rfl | hb
  ·exact .inl rfl
  ·exact .inr hb
 have stk:∀ b,b∈frs (envOfC qual scope s0.heap.objs.size f cd::outer)->H b=none:=λb hb=>I.stkFree b hb;have old:∀ b o,s0.heap.get? b=some o->b ∉ frs outer->b ∉ frs (envOfC qual scope s0.heap.objs.size f cd::outer):=λb o q n z=>by
  rcases lo b z with rfl | z
  ·exact absurd (Heap.lt_size q) (Nat.lt_irrefl _)
  ·exact n z
 have tr:∀ b u,H b≠none->h1.get? b=some u->h2.get? b=some u:=λb u hn q=>fly.1 _ _ (hB b u q (λz=>hn (stk b z)) (.inl hn));have ba:=I.base;refine ⟨a,C,t,B,H,rfl,I.os,I.bare,⟨?_,?_,ba.free,?_,ba.tups,ba.frzs,ba.tbls⟩,I.hok.track tr,⟨fly,?_⟩,e⟩
 ·intro b o q n hf hx
  exact fly.1 _ _ (hB b o (ba.keep b o q n hf hx) (old b o q hf) (.inr ⟨o,q⟩))
 ·intro b o q n hf hx
  obtain ⟨s1,q1⟩:=ba.slot b o q n hf hx;obtain ⟨s2,q2⟩:=sl b _ q1 hf;exact ⟨s2,q2⟩
 ·intro b o q hx
  obtain ⟨o1,q1⟩:=ba.there b o q hx
  by_cases hf:b∈frs outer
  ·obtain ⟨s2,q2⟩:=sl b _ q1 hf;exact ⟨_,q2⟩
  ·exact ⟨_,fly.1 _ _ (hB b o1 q1 (old b o q hf) (.inr ⟨o,q⟩))⟩
 ·intro b o q nf c
  have hh:b ∉ frs (envOfC qual scope s0.heap.objs.size f cd::outer):=λz=>by
   rcases c with c | ⟨o0,c⟩
   ·exact c (stk b z)
   ·exact old b o0 c nf z
  obtain ⟨o1,q1⟩:∃ o1,h1.get? b=some o1:=by
   rcases c with c | ⟨o0,c⟩
   ·cases e1:H b with
    | none=>exact absurd e1 c
    | some u=>exact I.hok.is e1
   ·exact ba.there b o0 c (by intro z;cases z)
  have q2:=hB b o1 q1 hh c;have q3:=fly.1 _ _ q2;rw [q3] at q;cases q
  exact q2
theorem a03{X:Cx}{pins:List (Addr × Obj)}{σ:St}{H:Hp}{s:Shared}(I:Inv X pins σ H s){b:Addr}{o:Obj}(hb:b∈frs X.stack)(q:s.heap.get? b=some o):∀ vs,o.data≠.fields vs:=by
 obtain ⟨_,o1,q1,d⟩:=I.stack.mem hb;rw [q] at q1;cases q1
 exact d
theorem al0{h':Heap}{a C:Addr}{args:List Value}(I:Inv (cxE P w K mg base N qual scope f cd A outer s0 H0 E) pins σ H s)(mk:Heap.MadeExcOf s.heap h' a (.ref C) args)(e:E (.ref C) none H):(cxE P w K mg base N qual scope f cd A outer s0 H0 E).xe (.ref a) { s with heap:=h' }:=by
 have hin:∀ b,b∈frs outer->b∈frs (envOfC qual scope s0.heap.objs.size f cd::outer):=λb hb=>by
  unfold frs at hb ⊢;rw [List.filterMap_cons];exact List.mem_cons_of_mem _ hb
 have st:=I.stack;refine wpAny_leaves_madeW (base:=hideAll s.heap (frs (envOfC qual scope s0.heap.objs.size f cd::outer))) (h:=s.heap) I.ok.frames (L:=s0.heap.objs.size) rfl (λb o q=>of_hideAll _ q) (funFrames_hide st λenv he b hb=>List.mem_filterMap.mpr ⟨env,he,hb⟩) mk λh2 t fl tu bt up=>?_;exact ab5 (h1:=s.heap) I (λb o q nf _=>hideAll_get _ q nf) (λb o q hb=>up b o (mk.keeps b o q) (a03 I (hin b hb) q)) fl e
end
structure XCls (K:PySem.W.Frag) (C:Addr):Prop where
 obj:∃ (nm q:Str) (N:Addr) (bs bm:List Value) (hdct:Bool) (sn:List Str) (sub:List Value) (ab:Bool) (col:Option Bool) (dd:Option Addr) (k0 k1 k2 k3 k5:Option Value),
  K.lookup C=some (excClassObj nm q C N bs bm hdct sn sub ab col dd k0 k1 k2 k3 k5 "ValueError.__new__")/\nsOkIn K N=true/\nsIn K N "__init__" = some none/\tailIn K [.type "ValueError", .type "Exception", .type "BaseException", .type "object"] bm=true
def aib(t:TA)(Ex:Hp->Prop):TS:=λ_ σ H=>t σ H λvs H1=>vs.length<=sizeLine/\Ex H1
section
variable{X:Cx}{C:Addr}{x:Str}{np cpos pos:Pos}{e:Expr}{es:List Expr}{t:TA}{Ex:Hp->Prop}
theorem ab6(hC:XCls X.K C)(hg:Gl X x)(hm:X.mg x=some (.ref C))(hc:X.calm=true)(ha:PA X (e::es) t)
  (lk:∀ (pins:List (Addr × Obj)) (σ:St) (H:Hp) (s:Shared) (h':Heap) (a:Addr) (args:List Value),Inv X pins σ H s->Heap.MadeExcOf s.heap h' a (.ref C) args->Ex H->X.xe (.ref a) { s with heap:=h' })
  (hdb:(x == ("__debug__" : Str))=false:=by decide) (he:starEach (e::es) X.env=(false,eval e X.env)::starEach es X.env:=by rfl) (hpl:(backTo cpos (starEach es X.env)).any (·.1)=false:=by rfl) :
  PS X (.Raise (some (.Call (.Name x np) (e::es) [] cpos)) none pos) (aib t Ex):=by
 intro pins s σ H D I h
 obtain ⟨nm,q,N,bs,bm,hdct,sn,sub,ab,col,dd,k0,k1,k2,k3,k5,lo,ok,ni,ti⟩:=hC.obj;refine wpAny_Raise_call_subT (C:=C) (nm:=nm) (q:=q) (N:=N) (bs:=bs) (bm:=bm) (hdct:=hdct) (sn:=sn) (sub:=sub) (ab:=ab) (col:=col) (dd:=dd) (k0:=k0) (k1:=k1) (k2:=k2) (k3:=k3) (k5:=k5)
  PySem.F.excBase_ValueError (mN:=X.base.nsMap N) ((tail_of_in I.kIn ti).hasType PySem.F.excBase_ValueError.hasBase) (I.ok.hd hc) (by rw [he];show (false || (backTo cpos (starEach es X.env)).any (·.1))=false;rw [hpl];rfl) (nsMap_none_of_in I.ok.mod.kin ok ni) (ww I hg hm ⟨rfl,?_⟩ hdb)
 have h2:=ha cpos pins s σ H _ I h;rw [he] at h2 ⊢;refine Calls.evalArgs_plain (thn h2 λus s1 ⟨vs,H1,I1,r,z,ex⟩=>?_);exact ⟨rfl,by rw [<-r.length];exact z,I1.kIn _ _ lo, .keeps (.of_isNs (isNs_of_in I1.ok.mod.kin ok)) I1.bk,tail_of_in I1.kIn ti,λh' a mk=>lk pins σ H1 s1 h' a us I1 mk ex⟩
end
end L2
namespace L2
open PySem PySem.Spec PySem.W PyProof.Rows Builtin Builtin.ObjectAttr Builtin.Getset_descriptor
section
variable{prog:Program}{w:World}{A:Around}{E:Value->Shared->Prop}{s:Shared}{K:Frag}{x D:Addr}{ox:Obj}{odo:Option Obj}
structure XKit (K:Frag) (D:Addr):Prop where
 ga:findIn K (.ref D) "__getattribute__" = some (some (.builtin "BaseException.__getattribute__"))
 gn:findIn K (.ref D) "__getattr__" = some none
 cl:(clsIn K D).isSome=true
 ca:findIn K (.ref D) "__class__" = some (some (.builtin "object.__class__"))
 sp:specialIn K (.builtin "object.__class__") "__get__" = some (some (.builtin "getset_descriptor.__get__"))
 tk:takesIn K (.builtin "object.__class__")=some true
 ob:mroIn K D (.type "object")=some true
 be:subIn K (.ref D) (.type "BaseException")=some true
 kc:kitCls K (.ref D) (.ref D)=some true
abbrev ExAt(x D:Addr)(h:Heap):Prop:=∃ o,h.get? x=some o/\o.cls = .ref D
theorem ExAt.ty{M:Model}{h:Heap}(I:ExAt x D h):Looks M h (typeOf (.ref x)) (.ref D):=by
 obtain ⟨o,q,c⟩:=I;exact c ▸ (Looks.ld q).andThen .now
theorem aeq{R:Result->Shared->Prop}{tp:Value}(Z:XKit K D)(X:K.In s.heap)(I:ExAt x D s.heap)(h:R (.ok (.ret (.ref D))) s):codeAny (model prog w) A (.call (.builtin "getset_descriptor.__get__") ⟨[.builtin "object.__class__", .ref x,tp],[]⟩) R s:=by
 obtain ⟨hh,g,d,t,os⟩:=s;have T0:=ExAt.ty (M:=model prog w) I;have T1:=looks_mroIn (M:=model prog w) X Z.ob;refine codeAny_call_builtin KF.slot_gs.plain KF.entry_gs (KF.slot_gs.check _ _ _ _ _ _ _ _ KF.type_class (KF.args_gs _ _ _) ?_);unfold Builtin.«getset_descriptor.__get__» descrGet;rw [dga_obj];refine wpAny_bind (wpAny_pure ?_);unfold descrGetter descrCheckInstance descrNameAndClass isInstance;simp only [KF.owner_class]
 repeat lk
 refine ⟨Code.quiet_builtin _ (by decide +kernel),codeAny_builtin KF.entry_class ?_⟩;unfold Builtin.«object.__class__» shownTypeOf
 repeat lk
 exact h
theorem ab7{M:Model}{h:Heap}(Z:XKit K D)(X:K.In h):Looks M h (Builtin.ObjectAttr.find (.ref x) (.ref D) "__class__") (.bind (.builtin "getset_descriptor.__get__") (.builtin "object.__class__")):=by
 refine (looks_findIn X Z.ca).andThen (Looks.andThen (a:=some (.builtin "getset_descriptor.__get__")) (looks_specialIn X Z.sp) (Looks.andThen (a:=some (.builtin "getset_descriptor.__get__", .builtin "object.__class__")) ?_ (Looks.tag .now)));exact (looks_takesIn X Z.tk).andThen .now
theorem a8q{Q:Option Value->Shared->Prop}(Z:XKit K D)(X:K.In s.heap)(I:ExAt x D s.heap)(h:Q (some (.ref D)) { s with toks:=s.toks+1 }):wpAny (model prog w) A (getAttr? (.ref x) "__class__") Q E s:=by
 obtain ⟨hh,g,d,t,os⟩:=s;have T0:=ExAt.ty (M:=model prog w) I;have T1:=looks_findIn (M:=model prog w) X Z.ga;have T2:=looks_findIn (M:=model prog w) X Z.gn;have T3:=ab7 (M:=model prog w) (x:=x) Z X;have T4:Looks (model prog w) hh (isInstance (.ref x) (.type "BaseException")) true:=T0.andThen (looks_subIn X Z.be);have f3:=PySem.F.attrBase_ValueError.ga.bind (.ref x);have nb:(Value.builtin "BaseException.__getattribute__" == Value.builtin "object.__getattribute__")=false:=by decide +kernel
 have nh:(onTheHeap (Value.ref D) && Value.builtin "BaseException.__getattribute__" == Value.builtin "object.__getattribute__")=false:=by rw [nb];rfl
 unfold getAttr? getAttrBy? getAttrBy;refine wpAny_bind (wpAny_mkText (wpAny_bind (wpAny_attempt (wpAny_holding (wpAny_bind (T0.at (wpAny_bind (T1.at ?_))))))));dsimp only;rw [nh,if_neg Bool.false_ne_true];unfold getAttrByItsOwn;show wpAny _ _ (typeLookup (.ref D) "__getattr__">>=λbefore=>_) _ _ _;refine wpAny_bind (T2.at (wpAny_bind (wpAny_attempt (wpAny_holding ?_))));show wpAny _ _ (boundAndCalled _ _ _) _ _ _;unfold boundAndCalled;rw [f3];refine wpAny_bind (wpAny_pure (wpAny_call (codeAny_call_builtin PySem.F.attrBase_ValueError.ga.plain PySem.F.entry_bexc_ga ?_)))
 have k1:builtinKind "BaseException.__getattribute__" = some .slot:=by decide +kernel
 have k2:splitId "BaseException.__getattribute__" = some ("BaseException", "__getattribute__"):=by decide +kernel
 have k3:=PySem.F.args_bexc_ga (.ref x) (.str "__class__" t);simp only [checkBuiltinCall,k1,k2];show wpAny _ _ (isInstance (.ref x) (.type "BaseException")>>=λb=>_) _ _ _;refine wpAny_bind (T4.at ?_);rw [if_neg (by decide)]
 refine wpAny_mono (Q:=λ_ s'=>s'=⟨hh,g,d,t+1,os⟩) (E:=λ_ _=>False) ?_ (λu s' e=>?_) (λ_ _ z=>z.elim)
 ·repeat (any_goals (first | assumption | rfl | wp_step))
 ·subst e;unfold Builtin.«object.__getattribute__»
  repeat (first | with_reducible refine T0.at ?_ | with_reducible refine T3.at ?_ | wp_step)
  exact aeq (s:=⟨hh,g,d,t+1,os⟩) Z X I (wpAny_pure (handed_on rfl (wpAny_pure h)))
theorem XKit.at(Z:XKit K D):∃ c o cd sl,K.lookup D=some ⟨c,o, .cls cd,sl⟩:=by
 have:=Z.cl
 unfold clsIn at this
 split at this
 ·exact ⟨_,_,_,_, ‹_›⟩
 ·cases this
theorem XKit.no(Z:XKit K D){h:Heap}{tp:Addr}{dd:Option Addr}{its:List Value}{n:Nat}{sl:Array (Option Value)}(X:K.In h)(q:h.get? tp=some ⟨.type "tuple",dd, .seq its.toArray n,sl⟩):(Value.ref D == .ref tp)=false :=
 beq_eq_false_iff_ne.mpr λe=>by
  obtain ⟨_,_,_,_,lo⟩:=Z.at;rw [Value.ref.inj e] at lo;have:=X _ _ lo;rw [q] at this;cases this
theorem a5y(Z:XKit K D):KitX K (.ref x) (.ref D) (ExAt x D) :=
 ⟨λ_ _ _ I=>ExAt.ty I,λ_ _ X _=>(kit_cls X Z.kc).2.1,λ_ _ _ _ _ _ X q=>Z.no X q,λX I q=>a8q Z X I q⟩
end
end L2
namespace L2
open PySem PySem.Spec PySem.W PyProof.Rows
section
variable{X:Cx}{pins:List (Addr × Obj)}{σ:St}{H H1 H':Hp}{s s1 s':Shared}
theorem a1t{M:Model}{A:Around}{E:Value->Shared->Prop}{i:Nat}{n:Str}{pos:Pos}{Q:Unit->Shared->Prop}(I:Inv X pins σ H s)(hN:X.N.Nodup)(hi:X.N[i]? = some n)(hk:X.env.scope.names.lookup n=some .local)
  (h:∀ s',Inv X pins (σ.set i none) H s'->Q () s'):wpAny M A (do bindName X.env n .none;unbindBehindTheSuite X.env n pos) Q E s:=by
 obtain ⟨m,hn,hl⟩:=id I.loc;have hcls:(X.env.scope.kind == .class || (X.env.scope.kind == .module && X.env.locals != X.env.globals))=false:=by rw [I.ok.kind];rfl
 have cne:=I.cne;obtain ⟨oL,_,_,hoL,_⟩:=id hn;refine wpAny_nameGoes_keeps hk hn hcls λh' v hn' hs=>h _ ?_;have far:∀ b o,X.s₀.heap.get? b=some o->b≠X.env.locals:=λb o e=>Nat.ne_of_lt (Nat.lt_of_lt_of_le (Heap.lt_size e) I.ok.above);refine ⟨I.ok,I.os,I.bare,⟨λb o e n hb hx=>(hs.2 b (far b o e)).trans (I.base.keep b o e n hb hx),λb o e n hb hx=>?_,I.base.free,λb o e hx=>?_,I.base.tups,I.base.frzs,I.base.tbls⟩,⟨_,hn',λj y v' e1 e2 e3=>?_⟩,λy c e=>?_,I.free,I.freeC,λp hp=>?_,I.hok.track λb u hb q=>?_,by simpa using I.len⟩
 ·obtain ⟨sl,q⟩:=I.base.slot b o e n hb hx;exact ⟨sl,(hs.2 b (far b o e)).trans q⟩
 ·obtain ⟨o1,q⟩:=I.base.there b o e hx;exact ⟨o1,(hs.2 b (far b o e)).trans q⟩
 ·have ji:j≠i:=λz=>by
   subst z;rw [List.getElem?_set] at e2;simp at e2
  rw [List.getElem?_set_ne (Ne.symm ji)] at e2;obtain ⟨u',r',q⟩:=hl j y v' e1 e2 e3;refine ⟨u',r',?_⟩
  rcases q with ⟨k,e⟩ | ⟨k,c,e,z⟩
  ·refine .inl ⟨k,?_⟩;have:y≠n:=λe=>ji (a0w hN e1 (e ▸ hi));simp [this,e]
  ·exact .inr ⟨k,c,e,z.sameBut hs (cne y c e)⟩
 ·obtain ⟨w',z⟩:=I.cell y c e;exact ⟨w',z.sameBut hs (cne y c e)⟩
 ·obtain ⟨e,n,ne,nf,d⟩:=I.pin p hp;exact ⟨(hs.2 p.1 ne).trans e,n,ne,nf,d⟩
 ·refine (hs.2 b λz=>?_).trans q;subst z;exact hb I.free
theorem acr{B h5:Heap}{a C:Addr}{t:Value}(I1:Inv X pins σ H1 s1)(os:s'.os=s1.os)(bare:AllBare s'.gens)(un:Un (frs X.stack) [] H1 H' s1.heap s'.heap)(hok:HOk X.prog X.w H' s'.heap)(air:Air X.stack H' s1.heap B a C t s'.heap)
  (st:B.StaysIn h5) (up:s'.heap.UpToSlots h5) (tk:Nat):Inv X pins σ H' { s' with heap:=h5,toks:=tk }:=by
 have I2:Inv X pins σ H' s':=I1.call' os un hok bare (by intro b z;cases z)
 refine I1.call' (s':={ s' with heap:=h5,toks:=tk }) os ⟨λb o q n hf hx=>?_,λb o q n hf hx=>?_,un.free,λb o q hx=>?_,un.tups,un.frzs,un.tbls⟩ (hok.track λb u hn q=>?_) bare (by intro b z;cases z)
 ·exact st _ _ (air.bk b o (un.keep b o q n hf hx) hf (.inr ⟨o,q⟩))
 ·obtain ⟨s2,q2⟩:=un.slot b o q n hf hx;obtain ⟨s3,q3⟩:=up b _ q2 (a03 I2 hf q2);exact ⟨s3,q3⟩
 ·obtain ⟨o1,q1⟩:=un.there b o q hx
  by_cases hf:b∈frs X.stack
  ·obtain ⟨s3,q3⟩:=up b _ q1 (a03 I2 hf q1);exact ⟨_,q3⟩
  ·exact ⟨_,st _ _ (air.bk b o1 q1 hf (.inr ⟨o,q⟩))⟩
 ·exact st _ _ (air.bk b u q (λz=>hn (I2.stkFree b z)) (.inl hn))
abbrev Cx.inEx(X:Cx)(a:Addr):Cx:={ X with A:=X.A.mark (some (.ref a)),calm:=false,xe:=λ_ _=>False }
theorem Cx.Ok.inEx(ok:X.Ok)(a:Addr):(X.inEx a).Ok:=⟨ok.mod,ok.kind,ok.glob,ok.blt,ok.above,ok.inj,ok.has,ok.cab,λz=>(Bool.noConfusion (show false=true from z)),ok.frames,ok.stk,ok.exf,ok.bs,ok.bsz,ok.noex,ok.exfs,ok.funs,ok.frf⟩
theorem Inv.inEx(I:Inv X pins σ H s)(a:Addr):Inv (X.inEx a) pins σ H s:=⟨I.ok.inEx a,I.os,I.bare,I.base,I.loc,I.cell,I.free,I.freeC,I.pin,I.hok,I.len⟩
theorem Inv.outEx{a:Addr}(ok:X.Ok)(I:Inv (X.inEx a) pins σ H s):Inv X pins σ H s:=⟨ok,I.os,I.bare,I.base,I.loc,I.cell,I.free,I.freeC,I.pin,I.hok,I.len⟩
def exO(a:Addr):HO:=.ext λh=>∃ o,h.get? a=some o
theorem Inv.exc{a:Addr}{oe:Obj}(I:Inv X pins σ H s)(I1:Inv X pins σ H1 s1)(he:s.heap.get? a=some oe)(ha:H a=none)(na:s1.heap.get? a=none):Inv X pins σ (upd H a (.frz oe (exO a))) s:=by
 have old:∀ b o,s1.heap.get? b=some o->b≠a:=λb o q z=>by subst z;rw [na] at q;cases q
 have sm:∀ b o,s1.heap.get? b=some o->upd H a (.frz oe (exO a)) b=H b:=λb o q=>gh (old b o q);have kp:∀ b u,H b=some u->upd H a (.frz oe (exO a)) b=some u:=λb u q=>by
  rw [gh]
  ·exact q
  ·intro z;subst z;rw [ha] at q;cases q
 have ba:=I.base;refine ⟨I.ok,I.os,I.bare,⟨ba.keep,ba.slot,λb o q n hx=>?_,ba.there,λb xs q=>kp _ _ (ba.tups b xs q),λb o u q=>kp _ _ (ba.frzs b o u q),λb ps q=>?_⟩,I.loc,I.cell,?_,λy c e=>?_,λp hp=>?_,λb u q=>?_,I.len⟩
 ·obtain ⟨o1,q1⟩:=I1.base.there b o q hx;rw [sm b o1 q1];exact ba.free b o q n hx
 ·obtain ⟨more,q1⟩:=ba.tbls b ps q;exact ⟨more,kp _ _ q1⟩
 ·obtain ⟨_,⟨o,_,_,q,_⟩,_⟩:=I1.loc;rw [sm _ _ q];exact I.free
 ·obtain ⟨v,o,q,_⟩:=I1.cell y c e;rw [sm _ _ q];exact I.freeC y c e
 ·obtain ⟨e,n,ne,nf,d⟩:=I.pin p hp;exact ⟨e,by rw [sm _ _ (I1.pin p hp).1];exact n,ne,nf,d⟩
 ·by_cases hb:b=a
  ·subst hb;rw [jh] at q;cases q
   exact ⟨he,⟨oe,he⟩,⟨oe,he⟩,λh1 h2 ⟨o,q⟩ k=>⟨o,k o q⟩⟩
  ·rw [gh hb] at q;exact (I.hok b u q).stay (λ_ _ _ z=>z) (λc z=>kp _ _ z) λc xs z=>kp _ _ z
end
def XP(X:Cx)(pins:List (Addr × Obj))(σ:St)(E:XK)(e:Value)(s':Shared):Prop:=∃ s1 H1,Inv X pins σ H1 s1/\CXE X.prog X.w X.stack H1 s1 E e s'
structure Hnd (X:Cx) (R:Addr) (x n:Str) (i:Nat):Prop where
 hg:Gl X x
 hm:X.mg x=some (.ref R)
 nd:X.N.Nodup
 hi:X.N[i]? = some n
 lo:X.env.scope.names.lookup n=some .local
 st:X.stack=X.env::X.outer/\X.env.frame=some X.env.locals
 db:(x == ("__debug__" : Str))=false
section
variable{X:Cx}{pins:List (Addr × Obj)}{σ:St}{s s':Shared}
def al1(D:Ends)(i:Nat):Ends:={ nx:=λσ H=>D.nx (σ.set i none) H,rt:=D.rt,bk:=λσ H=>D.bk (σ.set i none) H,ct:=λσ H=>D.ct (σ.set i none) H }
theorem ab8{R:Addr}{x n:Str}{i:Nat}{np pos:Pos}{b0:Stmt}{suite:List Stmt}{ts:TS}{D:Ends}{E:XK}{e:Value}(N:Hnd X R x n i)(hs:∀ a,PSs (X.inEx a) (b0::suite) ts)
  (mt:∀ C H,E (.ref C) none H->exmOne X.K (.ref C) (.ref R)=some true/\∀ a oe,oe.cls = .ref C->H a=none->ts (al1 D i) (σ.set i (some (.ref a))) (upd H a (.frz oe (exO a))))
  (h:XP X pins σ E e s') :
  wpAny (model X.prog X.w) X.A (noteFrame e X.env) (λ_ s2=>wpAny (model X.prog X.w) X.A (setFlight e none) (λ_ s3=>wpAny (model X.prog X.w) X.A (handleBy e X.env [.ExceptHandler (some (.Name x np)) (some n) (b0::suite) pos]) (SP X pins D) X.xe s3) X.xe s2) X.xe s':=by
 obtain ⟨s1,H1,I1,a,C,t,B,H',rfl,os,bare,un,hok,air,e⟩:=h;obtain ⟨mt1,mt2⟩:=mt C H' e;have ok:=I1.ok;have fr:X.A.frames=some (X.env::X.outer):=by rw [<-N.st.1];exact ok.frames
 have fl:=air.fly;rw [N.st.1] at fl;have na:s1.heap.get? a=none:=by
  cases q:s1.heap.get? a with
  | none=>rfl
  | some o =>
   obtain ⟨oe,vs,he,_,hd,_⟩:=fl.first
   have I2:Inv X pins σ H' s':=I1.call' os un hok bare (by intro b z;cases z)
   have nf:a ∉ frs X.stack:=λz=>a03 I2 z he _ hd;have:=air.bk a oe he nf (.inr ⟨o,q⟩);rw [fl.2.1] at this;cases this
 have ha:H' a=none:=by
  cases q:H' a with
  | none=>rfl
  | some u =>
   obtain ⟨oe,vs,he,_,hd,_⟩:=fl.first
   have I2:Inv X pins σ H' s':=I1.call' os un hok bare (by intro b z;cases z)
   have nf:a ∉ frs X.stack:=λz=>a03 I2 z he _ hd;have:=air.bk a oe he nf (.inl (by rw [q];simp))
   rw [fl.2.1] at this;cases this
 refine wpAny_looks_onW fr N.st.2 fl λh4 held4 up4=>?_;refine wpAny_landsW held4 λh5 fl5 up5=>?_;have I5:=acr I1 os bare un hok air fl5.1 (up4.trans up5) s'.toks;obtain ⟨ob,hob,hobc⟩:=fl5.there;have I5m:=I5.inEx a;refine wpAny_handleBy_cons (codeAny_handlers_test (ww I5m N.hg N.hm ?_ N.db)) (by intro q;cases q)
 have LT:Looks (model X.prog X.w) h5 (typeOf (.ref a)) (.ref C):=hobc ▸ (Looks.ld hob).andThen .now;refine (exm_one I5.kIn LT mt1).here ?_;refine codeAny_handlers_suite_as ?_;refine lands_againW fl5 λh6 fl6 up6=>?_;have I6:=acr I1 os bare un hok air fl6.1 ((up4.trans up5).trans up6) s'.toks;obtain ⟨oe,vs,he,hec,hed,_⟩:=fl6.first
 have I7:=(I6.exc I1 he ha na).inEx a;refine vf (X:=X.inEx a) I7 N.nd N.hi (.inl N.lo) (v:=.ref a) rfl (λs8 I8=>?_) (.inr N.lo);refine wpAny_mono (hs a pins s8 _ _ (al1 D i) I8 (mt2 a oe hec ha)) (λf s9 q=>?_) λ_ _ z=>z.elim;show wpAny (model X.prog X.w) X.A (do bindName X.env n .none;unbindBehindTheSuite X.env n pos) (λ_ s3=>SP X pins D f s3) X.xe s9
 cases f with
 | next =>
  obtain ⟨σ',H9,I9,q⟩:=q;exact a1t (I9.outEx ok) N.nd N.hi N.lo λs10 I10=>⟨_,H9,I10,q⟩
 | brk =>
  obtain ⟨σ',H9,I9,q⟩:=q;exact a1t (I9.outEx ok) N.nd N.hi N.lo λs10 I10=>⟨_,H9,I10,q⟩
 | cont =>
  obtain ⟨σ',H9,I9,q⟩:=q;exact a1t (I9.outEx ok) N.nd N.hi N.lo λs10 I10=>⟨_,H9,I10,q⟩
 | ret u =>
  obtain ⟨v,σ',H9,I9,r,q⟩:=q;exact a1t (I9.outEx ok) N.nd N.hi N.lo λs10 I10=>⟨v,_,H9,I10,r,q⟩
def PEx(X:Cx)(e:Expr)(t:St->Hp->VK->XK->Prop):Prop :=
 ∀ (pins:List (Addr × Obj)) (s:Shared) (σ:St) (H:Hp) (Q:VK) (E:XK),Inv X pins σ H s->t σ H Q E->wpAny (model X.prog X.w) X.A (eval e X.env) (EP X pins σ Q) (XP X pins σ E) s
def PSx(X:Cx)(st:List Stmt)(t:Ends->XK->St->Hp->Prop):Prop :=
 ∀ (pins:List (Addr × Obj)) (s:Shared) (σ:St) (H:Hp) (D:Ends) (E:XK),Inv X pins σ H s->t D E σ H->wpAny (model X.prog X.w) X.A (execs st X.env) (SP X pins D) (XP X pins σ E) s
variable{e:Expr}{es:List Expr}{pos:Pos}
theorem a8r{st:Stmt}{D:Ends}{W:Value->Shared->Prop}(h:wpAny (model X.prog X.w) X.A (exec st X.env) (SP X pins D) W s):wpAny (model X.prog X.w) X.A (execs [st] X.env) (SP X pins D) W s:=by
 refine wpAny_execs_cons (thn h λf s1 q=>?_)
 cases f with
 | next=>exact wpAny_execs_nil q
 | ret v=>exact q
 | brk=>exact q
 | cont=>exact q
theorem aer{t:St->Hp->VK->XK->Prop}{i:Nat}{x:Str}{pos':Pos}(hN:X.N.Nodup)(hi:X.N[i]? = some x)(hx:Loc X.env.scope x)(he:PEx X e t)(hs:swapsWith e (some (.Name x pos')) pos.line X.env=pure false:=by rfl)(hf:X.fn x=true\/X.env.scope.names.lookup x=some .local:=by first | exact .inl rfl | exact .inr rfl) :
  PSx X [.Assign [.Name x pos'] e pos] (λD E σ H=>t σ H (λv H1=>D.nx (σ.set i (some v)) H1) E):=by
 intro pins s σ H D E I h
 refine a8r (wpAny_Assign_Name (thn (he pins s σ H _ E I h) λv s1 ⟨y,H1,I1,r1,q1⟩=>?_) hs);exact vf I1 hN hi hx r1 (λs2 I2=>⟨_,H1,I2,q1⟩) hf
theorem aic{R:Addr}{x n:Str}{i:Nat}{np hp pos:Pos}{body:List Stmt}{b0:Stmt}{suite:List Stmt}{t:Ends->XK->St->Hp->Prop}{ts:TS}(N:Hnd X R x n i)(hb:PSx X body t)(hs:∀ a,PSs (X.inEx a) (b0::suite) ts) :
  PS X (.Try body [.ExceptHandler (some (.Name x np)) (some n) (b0::suite) hp] [] [] pos) (λD σ H=>t D (λcls d H'=>∃ C,cls = .ref C/\exmOne X.K (.ref C) (.ref R)=some true/\∀ a oe,oe.cls = .ref C->H' a=none->ts (al1 D i) (σ.set i (some (.ref a))) (upd H' a (.frz oe (exO a)))) σ H):=by
 intro pins s σ H D I h
 refine wpAny_Try_except (wpAny_mono (hb pins s σ H D _ I h) (λf s1 q=>?_) λe s1 q=>ab8 N hs (λC H' z=>?_) q)
 ·cases f with
  | next=>exact wpAny_execs_nil q
  | ret v=>exact q
  | brk=>exact q
  | cont=>exact q
 ·obtain ⟨C',z,m1,m2⟩:=z;cases z
  exact ⟨m1,m2⟩
theorem ab9{k:Nat}{f:Addr}{fd:FuncData}{ps:List Str}{sp:Sp}{x:Str}{p:Pos}{t:TA}(F:FnOk X.prog X.w X.K X.mg X.base (CXE X.prog X.w) k f fd ps sp)(hr:Room k X.A)(hg:Gl X x)(hm:X.mg x=some (.ref f))(hk:PySem.W.keepIn X.K (.ref f)=true)(hb:Binds X.K fd ps [])
  (ha:PA X.nox (e::es) t) (hdb:(x == ("__debug__" : Str))=false:=by decide) (he:starEach (e::es) X.env=(false,eval e X.env)::starEach es X.env:=by rfl) (hpl:(backTo pos (starEach es X.env)).any (·.1)=false:=by rfl) :
  PEx X (.Call (.Name x p) (e::es) [] pos) (λσ H Q E=>t σ H λvs H1=>sp vs H1 Q E):=by
 intro pins s σ H Q E I h
 refine wpAny_Call_Name_kw (ww I hg hm ?_ hdb);refine PySem.W.callWith_K (h₀:=X.base) I.ok.mod.kin hk (wpAny_mono (ha pos pins s σ H _ (I.wish _) h) (λus s1 ⟨vs,H1,I1,r,q⟩=>⟨I1.unwish.kIn,?_⟩) λ_ _ z=>z.elim) he hpl;have I1:=I1.unwish;have hl:us.length=ps.length:=by rw [<-r.length];exact F.len _ _ _ _ q
 have bd:=hb s1 us I1.kIn (by rw [List.append_nil];exact hl)
 rw [List.append_nil] at bd;refine wpAny_call (codeAny_mono (F.run X.A X.stack s1 H1 ⟨us,[]⟩ us vs Q E hr I1.env0 bd r q) λr s' hq=>?_)
 cases r with
 | error e=>exact ⟨s1,H1,I1,hq⟩
 | ok fl =>
  cases fl with
  | ret u=>exact I1.after hq
  | next=>exact False.elim hq
  | brk=>exact False.elim hq
  | cont=>exact False.elim hq
end
end L2
namespace MI
open PySem PySem.Spec L2
def acs(mg:Str->Option Value)(E:XK):XD:=λc _ H' _=>∃ C,mg c=some (.ref C)/\E (.ref C) none H'
def spX(K:PySem.W.Frag)(mg:Str->Option Value)(n:Nat)(F:SF):Sp:=λvs H Q E=>vs.length=n/\∃ ι ds h,Reps K ι H vs ds/\HRep K ι H h/\out K (acs mg E) (qb K) ι H (F ds h) Q
structure DnX (P:Program) (w:World) (K:PySem.W.Frag) (mg:Str->Option Value) (base:Heap) (k:Nat) (x:Str) (ps:List Str) (sp:Sp) (f:Addr) (fd:FuncData):Prop where
 ok:FnOk P w K mg base (CXE P w) k f fd ps sp
 m:mg x=some (.ref f)
 kp:PySem.W.keepIn K (.ref f)=true
 b:Binds K fd ps []
theorem aes{P:Program}{w:World}{K:PySem.W.Frag}{mg:Str->Option Value}{base:Heap}{x qual:Str}{st:Stmt}{f:Addr}{fd:FuncData}{N ps:List Str}{k:Nat}{b:SS}(Fu:Fun K x qual st f fd)(S:FnScope N ps (aq st))
  (hb:∀ (cdv:Value) (A:Around) (outer:List Env) (s:Shared) (H:Hp) (E:XK),Room k (A.deeper (PyProof.Rows.envOfC qual (aq st) s.heap.objs.size f cdv))->MSs (cxE P w K mg base N qual (aq st) f cdv A outer s H E) (acs mg E) (gq st) b) :
  FnOk P w K mg base (CXE P w) (k+1) f fd ps (spX K mg ps.length (n8 b N.length)):=by
 obtain ⟨oc,od,kV,doc,pm,an,cdv,ct,osl,rfl,lk,hcd⟩:=Fu.ex;refine agx lk hcd S (λvs H Q E h=>h.1) λA outer s H vs Q E hr h=>⟨_,hb cdv A outer s H E hr,?_⟩;obtain ⟨hl,ι,ds,h,r,hr',o⟩:=h;refine ⟨ι,vm N.length ds,h,a0l r,hr',?_⟩;unfold n8 at o
 cases hbd:b (vm N.length ds) h with
 | rt d h1=>rw [hbd] at o;exact o
 | nx τ h1=>rw [hbd] at o;exact λι' H' σ' g1 S1 hr1=>o ι' H' .non g1 .non hr1
 | ex c h1=>rw [hbd] at o;exact o
 | bk τ h1=>rw [hbd] at o;exact o.elim
 | ct τ h1=>rw [hbd] at o;exact o.elim
 | no=>rw [hbd] at o;exact o.elim
section
variable{K:PySem.W.Frag}{ι:List Addr}{H:Hp}{h:Hd}{n:Nat}
noncomputable def a0d(n:Nat)(F:SF):SF:=λds h=>open Classical in if ∀ d∈ds,clo 0 d then (match F ds [] with | .ex c _=>if ds.length=n then .ex c h else .no | _=>jd false n F ds h) else .no
theorem noex{m:Bool}{F:SF}{ds:List D}{c:Str}{h1:Hd}:jd m n F ds h≠.ex c h1:=by
 unfold jd
 split
 ·unfold afu
  intro e
  repeat (first | (split at e) | cases e)
 ·intro e;cases e
theorem a5z{E E':XD}{r:R D}{Q:VK}(ne:∀ c h1,r≠.ex c h1)(o:out K E (qb K) ι H r Q):out K E' (qb K) ι H r Q:=by
 cases r with
 | ok a h=>exact o
 | ex c h=>exact absurd rfl (ne c h)
 | no=>exact o
theorem HRep.stays{H':Hp}(hr:HRep K ι H h)(k:∀ a u,H a=some u->H' a=some u):Gr ι H ι H'/\HRep K ι H' h:=by
 have G:Gr ι H ι H':=⟨⟨[],by simp,by simp⟩,λa vs q=>k _ _ q,λa o u q=>k _ _ q,λa u q _=>k _ _ q,λa u q=>⟨u,k _ _ q⟩⟩
 refine ⟨G,hr.nd,hr.len,λi a o e1 e2=>?_⟩;have r:=hr.obj i a o e1 e2;obtain ⟨u,hu,_⟩:=r.some;exact r.mono G (by rw [hu];exact k a u hu)
theorem a3c:∀ {ds:List D},(∀ d∈ds,clo 0 d)->clos 0 ds
 | [],_=>by simp [clos]
 | d::ds,h=>by simp only [clos];exact ⟨h d List.mem_cons_self,a3c λx hx=>h x (List.mem_cons_of_mem _ hx)⟩
theorem aba{mg:Str->Option Value}{F:SF}{vs:List V}{ds:List D}{Q:VK}{E:XK}{E2:XD}(r:Reps K ι H vs ds)(hr:HRep K ι H h)(o:out K E2 (qb K) ι H (a0d n F ds h) Q)(hE:∀ c H' ,Gr ι H ι H'->HRep K ι H' h->E2 c ι H' h->acs mg E c ι H' h) :
  spX K mg n F vs H (λv H1=>∃ L,a2x H1 L/\∀ H2,FrzOf L H1 H2->Q v H2) E:=by
 unfold a0d at o
 split at o
 ·rename_i hc;have ok:out K E2 (qb K) ι H (jd false n F ds h) Q->spX K mg n F vs H (λv H1=>∃ L,a2x H1 L/\∀ H2,FrzOf L H1 H2->Q v H2) E:=λo=>by
   obtain ⟨l,ι0,ds0,h0,r0,hr0,o0⟩:=a1p r hr (a5z (E':=X0) (λc h1=>noex) o) E;refine ⟨l,ι0,ds0,h0,r0,hr0,?_⟩
   cases e:F ds0 h0 with
   | ok a h1=>rw [e] at o0;exact o0
   | ex c h1=>rw [e] at o0;exact λι' H' g hr=>(o0 ι' H' g hr).elim
   | no=>rw [e] at o0;exact o0
  split at o
  ·rename_i c hx e
   split at o
   ·rename_i hl;have R0:Reps K [] H vs ds:=by
     have:=r.cut (a3c hc)
     rwa [List.take_zero] at this
    refine ⟨by rw [r.len];exact hl,[],ds,[],R0,⟨List.nodup_nil,rfl,λi a o e1=>by simp at e1⟩,?_⟩
    rw [e]
    intro ι' H' g _
    obtain ⟨G,hr'⟩:=hr.stays λa u q=>g.oth a u q (by simp)
    exact hE c H' G hr' (o ι H' G hr')
   ·exact o.elim
  ·exact ok o
 ·exact o.elim
end
theorem a65(m:Bool){X:Cx}{E:XD}{k n:Nat}{f:Addr}{fd:FuncData}{ps:List Str}{x:Str}{F:SF}{ka:SA}{e:Expr}{es:List Expr}{p pos:Pos}(G:Dn X.prog X.w X.K X.mg X.base k x ps (rz X.K n F) f fd)(hr:Room k X.A)(hg:Gl X x)(ha:MA X E (e::es) ka)
  (hdb:(x == ("__debug__" : Str))=false:=by decide) (he:starEach (e::es) X.env=(false,eval e X.env)::starEach es X.env:=by rfl) (hpl:(backTo pos (starEach es X.env)).any (·.1)=false:=by rfl):ME X E (.Call (.Name x p) (e::es) [] pos) (sA (jd m n F) ka):=by
 refine PE.weak (a5n (a7o G.ok hr hg G.m G.kp G.b .nil adt ha hdb he hpl)) λσ H Q ⟨ι,τ,h,S,Rh,o⟩=>?_;refine ⟨ι,τ,h,S,Rh,cj o λds h1 ι1 H1 vs g1 r1 hr1 o1=>?_⟩;rw [List.append_nil];exact a1p r1 hr1 (a5z (λc h1=>noex) o1) _
section
variable{P:Program}{w:World}{K:PySem.W.Frag}{mg:Str->Option Value}{base:Heap}{N:List Str}{qual:Str}{scope:Scope}{fa:Addr}{cd:Value}{A:Around}{outer:List Env}{s0:Shared}{H0:Hp}{E:XK}
def a66(c:Str)(ka:SA):SS:=λτ h=>(ka τ h).fl λds h1=>if ds.length<=LINE then .ex c h1 else .no
theorem abb{C:Addr}{x:Str}{ka:SA}{e:Expr}{es:List Expr}{np cpos pos:Pos}(hC:XCls K C)(hg:Gl (cxE P w K mg base N qual scope fa cd A outer s0 H0 E) x)(hm:mg x=some (.ref C))(ha:MA (cxE P w K mg base N qual scope fa cd A outer s0 H0 E) (acs mg E) (e::es) ka)
  (hdb:(x == ("__debug__" : Str))=false:=by decide) (he:starEach (e::es) (cxE P w K mg base N qual scope fa cd A outer s0 H0 E).env=(false,eval e (cxE P w K mg base N qual scope fa cd A outer s0 H0 E).env)::starEach es (cxE P w K mg base N qual scope fa cd A outer s0 H0 E).env:=by rfl) (hpl:(backTo cpos (starEach es (cxE P w K mg base N qual scope fa cd A outer s0 H0 E).env)).any (·.1)=false:=by rfl) :
  MS (cxE P w K mg base N qual scope fa cd A outer s0 H0 E) (acs mg E) (.Raise (some (.Call (.Name x np) (e::es) [] cpos)) none pos) (a66 x ka):=by
 refine PS.weak (ab6 (X:=cxE P w K mg base N qual scope fa cd A outer s0 H0 E) (Ex:=λH=>E (.ref C) none H) hC hg hm rfl ha (λpins σ H s h' a args I mk z=>al0 I mk z) hdb he hpl) λD σ H ⟨ι,τ,h,S,Rh,o⟩=>?_;refine ⟨ι,τ,h,S,Rh,jq o λds h1 ι1 H1 vs g1 r1 hr1 o1=>?_⟩
 split at o1
 ·rename_i hl;obtain ⟨C',e1,z⟩:=o1 ι1 H1 (.refl _ _) hr1;rw [hm] at e1;cases e1
  exact ⟨by rw [r1.len];exact a3u hl,z⟩
 ·exact o1.elim
end
def noX{α:Type}:R α->R α
 | .ex _ _=>.no
 | r=>r
def qA{α:Type}(ka:Sd->Hd->R α):Sd->Hd->R α:=λτ h=>noX (ka τ h)
abbrev MEx(X:Cx)(e:Expr)(f:SE):Prop:=PEx X e λσ H Q E=>lift X.K (acs X.mg E) (qb X.K) f σ H Q
abbrev MSx(X:Cx)(st:List Stmt)(f:SS):Prop:=PSx X st λD E σ H=>zy X.K (acs X.mg E) f D σ H
section
variable{X:Cx}
theorem aet{e:Expr}{t:St->Hp->VK->XK->Prop}(h:PEx X e t):PEx X e (λσ H Q E=>t σ H (λv H1=>∃ L,a2x H1 L/\∀ H2,FrzOf L H1 H2->Q v H2) E):=λpins s σ H Q E I q =>
 L2.thn (h pins s σ H _ E I q) λu s' ⟨v,H1,I1,r,L,ab,k⟩=>let ⟨H2,f,I2⟩:=Inv.frz I1 ab; ⟨v,H2,I2,r,k H2 f⟩
theorem aeu{k n:Nat}{f:Addr}{fd:FuncData}{ps:List Str}{x:Str}{F:SF}{ka:SA}{e:Expr}{es:List Expr}{p pos:Pos}(G:DnX X.prog X.w X.K X.mg X.base k x ps (spX X.K X.mg n F) f fd)(hr:Room k X.A)(hg:Gl X x)(ha:MA X.nox X0 (e::es) ka)
  (hdb:(x == ("__debug__" : Str))=false:=by decide) (he:starEach (e::es) X.env=(false,eval e X.env)::starEach es X.env:=by rfl) (hpl:(backTo pos (starEach es X.env)).any (·.1)=false:=by rfl):MEx X (.Call (.Name x p) (e::es) [] pos) (sA (a0d n F) (qA ka)):=by
 intro pins s σ H Q E I ⟨ι,τ,h,S,Rh,o⟩
 refine aet (ab9 G.ok hr hg G.m G.kp G.b ha hdb he hpl) pins s σ H Q E I ⟨ι,τ,h,S,Rh,?_⟩;have o2:=cj o (P:=λvs H1=>spX X.K X.mg n F vs H1 (λv H1=>∃ L,a2x H1 L/\∀ H2,FrzOf L H1 H2->Q v H2) E) λds h1 ι1 H1 vs g1 r1 hr1 o1=>aba r1 hr1 o1 λc H' _ _ z=>z;unfold qA at o2
 cases e1:ka τ h with
 | ok a h1=>rw [e1] at o2;exact o2
 | ex c h1=>rw [e1] at o2;exact o2.elim
 | no=>rw [e1] at o2;exact o2
theorem aid{e:Expr}{f:SE}{i:Nat}{x:Str}{pos' pos:Pos}(hN:X.N.Nodup)(hi:X.N[i]? = some x)(hx:Loc X.env.scope x)(he:MEx X e f)(hs:swapsWith e (some (.Name x pos')) pos.line X.env=pure false:=by rfl)(hf:X.fn x=true\/X.env.scope.names.lookup x=some .local:=by first | exact .inl rfl | exact .inr rfl):MSx X [.Assign [.Name x pos'] e pos] (jx i f):=λpins s σ H D E I q =>
 aer hN hi hx he hs hf pins s σ H D E I (acj q)
def afv(i:Nat)(cs:Str->Bool)(fb fs:SS):SS:=λτ h=>match fb τ h with
 | .ex c h1=>if cs c=true then (match fs (τ.set i (some (.exc c))) h1 with
   | .nx τ' h'=>.nx (τ'.set i none) h' | .rt d h'=>.rt d h' | .bk τ' h'=>.bk (τ'.set i none) h' | .ct τ' h'=>.ct (τ'.set i none) h' | _=>.no) else .no
 | r=>r
theorem SRep.off{K:PySem.W.Frag}{ι:List Addr}{H:Hp}{σ:St}{τ:Sd}(S:SRep K ι H σ τ)(i:Nat):SRep K ι H (σ.set i none) (τ.set i none):=by
 refine ⟨by simp [S.len],λj d e=>?_⟩
 by_cases hj:i=j
 ·subst hj;rw [List.getElem?_set] at e;simp at e
 ·rw [List.getElem?_set_ne hj] at e ⊢;exact S.val j d e
theorem aie{R:Addr}{x n:Str}{i:Nat}{np hp pos:Pos}{body:List Stmt}{b0:Stmt}{suite:List Stmt}{cs:Str->Bool}{fb fs:SS}(N:Hnd X R x n i)
  (hcs:∀ c,cs c=true->∃ C,X.mg c=some (.ref C)/\PySem.W.nsIn X.K mainGlobals c=some (some (.ref C))/\PySem.W.exmOne X.K (.ref C) (.ref R)=some true)
  (hb:MSx X body fb) (hs:∀ a,MSs (X.inEx a) X0 (b0::suite) fs):MS X X0 (.Try body [.ExceptHandler (some (.Name x np)) (some n) (b0::suite) hp] [] [] pos) (afv i cs fb fs):=by
 refine PS.weak (aic (ts:=zy X.K X0 fs) N hb hs) λD σ H ⟨ι,τ,h,S,Rh,o⟩=>⟨ι,τ,h,S,Rh,?_⟩;unfold afv at o
 cases e:fb τ h with
 | nx τ' h'=>rw [e] at o;exact o
 | rt d h'=>rw [e] at o;exact o
 | bk τ' h'=>rw [e] at o;exact o
 | ct τ' h'=>rw [e] at o;exact o
 | no=>rw [e] at o;exact o
 | ex c h1 =>
  rw [e] at o;dsimp only at o
  split at o
  ·rename_i hc;obtain ⟨C,m,ns,ex⟩:=hcs c hc
   intro ι' H' g hr
   refine ⟨C,m,C,rfl,ex,λa oe hoe ha=>?_⟩;have G:=g.trans (vg (ι:=ι') ha (.frz oe (L2.exO a)));refine ⟨ι',τ.set i (some (.exc c)),h1,(S.mono G).set (.exc (o:=oe) (C:=C) jh hoe ns) i,hr.aside ha _,?_⟩;have o1:=jf o G
   cases e2:fs (τ.set i (some (.exc c))) h1 with
   | nx τ' h'=>rw [e2] at o1;exact λι2 H2 σ' g2 S2 hr2=>o1 ι2 H2 _ g2 (S2.off i) hr2
   | bk τ' h'=>rw [e2] at o1;exact λι2 H2 σ' g2 S2 hr2=>o1 ι2 H2 _ g2 (S2.off i) hr2
   | ct τ' h'=>rw [e2] at o1;exact λι2 H2 σ' g2 S2 hr2=>o1 ι2 H2 _ g2 (S2.off i) hr2
   | rt d h'=>rw [e2] at o1;exact o1
   | ex c' h'=>rw [e2] at o1;exact o1.elim
   | no=>rw [e2] at o1;exact o1.elim
  ·exact o.elim
end
section
variable{X:Cx}
def vc(v:V)(cv:Value):Prop:=(∃ C,v = .ref C/\cv = .ref C)\/∃ T,v = .ty T/\cv = .type T
theorem vc.eq{v:V}{cv u:Value}(h:vc v cv)(r:RelV v u):u=cv:=by
 rcases h with ⟨C,rfl,rfl⟩ | ⟨T,rfl,rfl⟩
 ·exact r
 ·cases r;rfl
theorem aif{pins:List (Addr × Obj)}{σ:St}{H:Hp}{s:Shared}{a C:Addr}{o:Obj}(I:L2.Inv X pins σ H s)(e:H a=some (.frz o (exO a)))(c:o.cls = .ref C):ExAt a C s.heap:=⟨o,(show ObjOk X.prog X.w H s.heap a (.frz o (exO a)) from I.hok a _ e).1,c⟩
theorem abd:CallR X (.builtin "isinstance") (λxs H Q=>∃ a o C v cv b,xs=[.ref a,v]/\vc v cv/\H a=some (.frz o (exO a))/\o.cls = .ref C/\XKit X.K C/\PySem.W.kitOne X.K (.ref C) cv=some b/\Q (.bl b) H):=by
 intro pins s σ H xs us Q I r h
 obtain ⟨a,o,C,v,cv,b,rfl,hv,ea,hc,Z,e,q⟩:=h;obtain ⟨u,w',rfl,rx,rt⟩:=vals2 r;obtain rfl:u=Value.ref a:=rx;obtain rfl:=hv.eq rt;exact PySem.W.kia_one (a5y Z) I.kIn (aif I ea hc) e (λz=>nomatch z) λtk=>⟨.bl b,H,I.tok tk,rfl,q⟩
theorem a3d:∀ {cs:List Addr} {us:List Value},Vals (cs.map V.ref) us->us=cs.map Value.ref
 | [],_,r=>by cases r;rfl
 | c::cs,us,r=>by
  cases r with
  | cons r rs =>
   rw [List.map_cons,<-a3d rs]
   congr 1
theorem a8s:CallR X (.builtin "isinstance") (λxs H Q=>∃ a o C tp,∃ cs:List Addr,∃ b,xs=[.ref a, .ref tp]/\H tp=some (.tup (cs.map V.ref))/\H a=some (.frz o (exO a))/\o.cls = .ref C/\XKit X.K C/\PySem.W.kitAny X.K (.ref C) (cs.map Value.ref)=some b/\Q (.bl b) H):=by
 intro pins s σ H xs us Q I r h
 obtain ⟨a,o,C,tp,cs,b,rfl,et,ea,hc,Z,e,q⟩:=h;obtain ⟨u,w',rfl,rx,rt⟩:=vals2 r;obtain rfl:u=Value.ref a:=rx;obtain rfl:w'=Value.ref tp:=rt;obtain ⟨_,its,vr,o',h1,h2,h3⟩:=(show ObjOk X.prog X.w H s.heap tp (.tup (cs.map V.ref)) from I.hok tp _ et)
 obtain rfl:=a3d vr
 obtain ⟨n,h3⟩:=h3;have htp:s.heap.get? tp=some ⟨.type "tuple",o'.dict, .seq (cs.map Value.ref).toArray n,o'.slots⟩:=by
  rw [h1];obtain ⟨c,dd,dt,sl⟩:=o';simp only at h2 h3;rw [h2,h3]
 exact PySem.W.kia_tup (a5y Z) I.kIn (aif I ea hc) htp e (λz=>nomatch z) λtk=>⟨.bl b,H,I.tok tk,rfl,q⟩
def a79(i:Nat)(f:Str->Option Bool):SE:=λτ h=>match τ[i]? with
 | some (some (.exc c))=>(match f c with | some b=>.ok (.bl b) h | none=>.no)
 | _=>.no
variable{E:XD}
theorem acu{K:PySem.W.Frag}{ι:List Addr}{H:Hp}{σ:St}{τ:Sd}{h:Hd}{i:Nat}{f:Str->Option Bool}{Q:VK}(S:SRep K ι H σ τ)(o:out K E (qb K) ι H (a79 i f τ h) Q) :
  ∃ a ob C c b,σ[i]? = some (some (.ref a))/\H a=some (.frz ob (exO a))/\ob.cls = .ref C/\PySem.W.nsIn K mainGlobals c=some (some (.ref C))/\f c=some b/\out K E (qb K) ι H (.ok (.bl b) h) Q:=by
 unfold a79 at o
 split at o
 ·rename_i c e;obtain ⟨v,e1,r⟩:=S.val i _ e
  cases r with
  | exc q hc hn =>
   split at o
   ·rename_i b hb;exact ⟨_,_,_,c,b,e1,q,hc,hn,hb,o⟩
   ·exact o.elim
 ·exact o.elim
theorem acv{i:Nat}{f:Str->Option Bool}{n x:Str}{v:V}{cv:Value}{p0 pn px pos:Pos}(hg:Gl X "isinstance")(hm:X.mg "isinstance" = none)(hb:bootBuiltins "isinstance" = some (.builtin "isinstance"))(hN:X.N[i]? = some n)(hv:Vis X.env.scope n)(hc:PE X (.Name x px) (tC v))(hvc:vc v cv)
  (hf:∀ c b C,f c=some b->PySem.W.nsIn X.K mainGlobals c=some (some (.ref C))->XKit X.K C/\PySem.W.kitOne X.K (.ref C) cv=some b)
  (hd:(n == ("__debug__" : Str))=false:=by decide) (hcd:(n == ("__classdict__" : Str))=false:=by decide):ME X E (.Call (.Name "isinstance" p0) [.Name n pn, .Name x px] [] pos) (a79 i f):=by
 refine PE.weak (a0z abd hg hm hb (t7 (a7c hN hv hd hcd) (t7 hc a4x))) λσ H Q ⟨ι,τ,h,S,Rh,o⟩=>?_;obtain ⟨a,ob,C,c,b,e1,q,oc,ns,fb,o1⟩:=acu S o;obtain ⟨Z,ki⟩:=hf c b C fb ns;exact ⟨_,e1,a,ob,C,v,cv,b,rfl,hvc,q,oc,Z,ki,o1 ι H _ (.refl _ _) (.bl b) Rh⟩
theorem aev{i:Nat}{f:Str->Option Bool}{n:Str}{cs:List Addr}{es:List Expr}{t:TA}{k:Nat}{p0 pn px pos:Pos}(hg:Gl X "isinstance")(hm:X.mg "isinstance" = none)(hb:bootBuiltins "isinstance" = some (.builtin "isinstance"))(hN:X.N[i]? = some n)(hv:Vis X.env.scope n)(hc:PA X es t)(ht:∀ σ H (Q:List V->Hp->Prop),Q (cs.map V.ref) H->t σ H Q)(hl:cs.length<=sizeLine)
  (hf:∀ c b C,f c=some b->PySem.W.nsIn X.K mainGlobals c=some (some (.ref C))->XKit X.K C/\PySem.W.kitAny X.K (.ref C) (cs.map Value.ref)=some b)
  (hd:(n == ("__debug__" : Str))=false:=by decide) (hcd:(n == ("__classdict__" : Str))=false:=by decide):ME X E (.Call (.Name "isinstance" p0) [.Name n pn, .Tuple es k px] [] pos) (a79 i f):=by
 refine PE.weak (a0z a8s hg hm hb (t7 (a7c hN hv hd hcd) (t7 (abw hc) a4x))) λσ H Q ⟨ι,τ,h,S,Rh,o⟩=>?_;obtain ⟨a,ob,C,c,b,e1,q,oc,ns,fb,o1⟩:=acu S o;obtain ⟨Z,ki⟩:=hf c b C fb ns;refine ⟨_,e1,ht _ _ _ ⟨by rw [List.length_map];exact hl,λp hp=>?_⟩⟩
 have G:=vg (ι:=ι) hp (.tup (cs.map V.ref));exact ⟨a,ob,C,p,cs,b,rfl,jh,G.frz _ _ _ q,oc,Z,ki,o1 ι _ _ G (.bl b) (Rh.aside hp _)⟩
end
end MI
namespace EVX
open PySem PySem.Spec L2 MI
end EVX
namespace MI
open PySem PySem.Spec L2
end MI
namespace EVX
open PySem PySem.Spec L2 MI
end EVX
namespace ZP
open PySem PySem.Spec PySem.Builtin PySem.Builtin.SmallTypes L2
end ZP
namespace MI
open PySem PySem.Spec L2 ZP
end MI
namespace AT
open L2
theorem aig{α:Type}(x0:α)(xs:List α):atI (x0::xs) 0=some x0:=kh (j:=0) rfl
theorem aih{α:Type}(x0 x1:α)(xs:List α):atI (x0::x1::xs) 1=some x1:=kh (j:=1) rfl
theorem aii{α:Type}(x0 x1 x2:α)(xs:List α):atI (x0::x1::x2::xs) 2=some x2:=kh (j:=2) rfl
theorem aij{α:Type}(x0 x1 x2 x3:α)(xs:List α):atI (x0::x1::x2::x3::xs) 3=some x3:=kh (j:=3) rfl
theorem aik{α:Type}(x0 x1 x2 x3 x4:α)(xs:List α):atI (x0::x1::x2::x3::x4::xs) 4=some x4:=kh (j:=4) rfl
theorem ail{α:Type}(x0 x1 x2 x3 x4 x5:α)(xs:List α):atI (x0::x1::x2::x3::x4::x5::xs) 5=some x5:=kh (j:=5) rfl
theorem aim{α:Type}(x0 x1 x2 x3 x4 x5 x6:α)(xs:List α):atI (x0::x1::x2::x3::x4::x5::x6::xs) 6=some x6:=kh (j:=6) rfl
theorem ain{α:Type}(x0 x1 x2 x3 x4 x5 x6 x7:α)(xs:List α):atI (x0::x1::x2::x3::x4::x5::x6::x7::xs) 7=some x7:=kh (j:=7) rfl
theorem x10:ixN 1 0=some 0:=rfl
theorem x20:ixN 2 0=some 0:=rfl
theorem x21:ixN 2 1=some 1:=rfl
theorem x30:ixN 3 0=some 0:=rfl
theorem x31:ixN 3 1=some 1:=rfl
theorem x32:ixN 3 2=some 2:=rfl
theorem x40:ixN 4 0=some 0:=rfl
theorem x41:ixN 4 1=some 1:=rfl
theorem x42:ixN 4 2=some 2:=rfl
theorem x43:ixN 4 3=some 3:=rfl
theorem x50:ixN 5 0=some 0:=rfl
theorem x51:ixN 5 1=some 1:=rfl
theorem x52:ixN 5 2=some 2:=rfl
theorem x53:ixN 5 3=some 3:=rfl
theorem x54:ixN 5 4=some 4:=rfl
theorem x60:ixN 6 0=some 0:=rfl
theorem x61:ixN 6 1=some 1:=rfl
theorem x62:ixN 6 2=some 2:=rfl
theorem x63:ixN 6 3=some 3:=rfl
theorem x64:ixN 6 4=some 4:=rfl
theorem x65:ixN 6 5=some 5:=rfl
theorem x70:ixN 7 0=some 0:=rfl
theorem x71:ixN 7 1=some 1:=rfl
theorem x72:ixN 7 2=some 2:=rfl
theorem x73:ixN 7 3=some 3:=rfl
theorem x74:ixN 7 4=some 4:=rfl
theorem x75:ixN 7 5=some 5:=rfl
theorem x76:ixN 7 6=some 6:=rfl
def am2(x:Int):Int:=if x<0 then -x else x
theorem aew(x:Int)(h:MI.Hd):MI.ajt [.int x] h = .ok (.int (am2 x)) h:=rfl
theorem p18(h:MI.Hd):MI.a0m (.int 10) (.int 18) h = .ok (.int 1000000000000000000) h:=by rw [MI.a0m,if_pos (by decide)];rfl
theorem aio{i j:Int}{h:MI.Hd}(c:0<=j/\j<=1000000/\i.natAbs<2 ^ 64):MI.a0m (.int i) (.int j) h = .ok (.int (i ^ j.toNat)) h:=by rw [MI.a0m,if_pos c]
end AT
namespace L2
open PySem PySem.Spec PyProof.Rows
end L2
namespace MI
open PySem PySem.Spec L2
end MI
namespace MI
open PySem PySem.Spec L2 SeqAt
def am3(neg:Bool)(K:PySem.W.Frag):R2:=λx y H Q=>∃ (ι:List Addr) (p q:Addr) (vs us:List V) (xs ys:List D),x = .ref p/\y = .ref q/\Rd H p (.lst vs)/\Rd H q (.lst us)/\Reps K ι H vs xs/\Reps K ι H us ys/\xs.all (pur 59)=true/\ys.all (pur 59)=true/\Q (.bl (if neg then !a0c xs ys else a0c xs ys)) H
theorem abe{X:Cx}{pins:List (Addr × Obj)}{s:Shared}{σ:St}{H:Hp}(I:Inv X pins σ H s)(hu:X.A.units+64<cLine){ι:List Addr}{p q:Addr}{vs us:List V}{xs ys:List D}(h1:Rd H p (.lst vs))(h2:Rd H q (.lst us))(rs:Reps X.K ι H vs xs)(qs:Reps X.K ι H us ys)(p1:xs.all (pur 59)=true)(p2:ys.all (pur 59)=true) :
  RcAt X.A s (.ref p) (.ref q) (a0c xs ys)/\RcNeAt X.A s (.ref p) (.ref q) (!a0c xs ys):=by
 obtain ⟨its,r1,pl1,z1⟩:=I.list (.inl h1);obtain ⟨its2,r2,pl2,z2⟩:=I.list (.inl h2);have l1:its.toArray.size=xs.length:=by rw [List.size_toArray,<-r1.length,rs.len]
 have l2:its2.toArray.size=ys.length:=by rw [List.size_toArray,<-r2.length,qs.len]
 by_cases hl:xs.length=ys.length
 ·have step:∀ j (h1:j<its.toArray.size) (h2:j<its2.toArray.size),EqAt X.A.in1 s its.toArray[j] its2.toArray[j] (pairE xs ys j):=λj h1 h2=>by
   have j1:j<xs.length:=by omega
   have j2:j<ys.length:=by omega
   obtain ⟨v1,e1,q1⟩:=rs.get (List.getElem?_eq_getElem j1);obtain ⟨v2,e2,q2⟩:=qs.get (List.getElem?_eq_getElem j2);obtain ⟨u1,e3,q3⟩:=r1.get e1;obtain ⟨u2,e4,q4⟩:=r2.get e2;have f1:its.toArray[j]=u1:=by simpa using (List.getElem?_eq_some_iff.mp e3).2
   have f2:its2.toArray[j]=u2:=by simpa using (List.getElem?_eq_some_iff.mp e4).2
   have pe:pairE xs ys j=eqD xs[j] ys[j]:=by simp [pairE,List.getElem?_eq_getElem j1,List.getElem?_eq_getElem j2]
   rw [f1,f2,pe];rw [List.all_eq_true] at p1 p2;exact a8f I.hok 59 X.A.in1 q1 q2 q3 q4 (p1 _ (List.getElem_mem j1)) (p2 _ (List.getElem_mem j2)) (by rw [Around.in1_units];omega)
  have c1:=RcAt.lists (A:=X.A) (s:=s) (e:=pairE xs ys) pl1.isList pl2.isList (by omega) (by omega) step
  have c2:=RcNeAt.lists (A:=X.A) (s:=s) (e:=pairE xs ys) pl1.isList pl2.isList (by omega) (by omega) step
  have ea:=vq xs ys;rw [hl,Nat.min_self,beq_self_eq_true,Bool.and_true,<-hl] at ea;rw [l1,ea] at c1 c2;exact ⟨c1,c2⟩
 ·have ne:(its.toArray.size != its2.toArray.size)=true:=by rw [l1,l2];simpa using hl
  have ea:=vq xs ys;rw [beq_eq_false_iff_ne.mpr hl,Bool.and_false] at ea;rw [<-ea];exact ⟨RcAt.lists_lengths pl1.isList pl2.isList ne (by omega),RcNeAt.lists_lengths pl1.isList pl2.isList ne (by omega)⟩
theorem aip{X:Cx}(hu:X.A.units+64<cLine):OpR X (compareOp .NotEq) (am3 true X.K):=by
 intro pins s σ H x y v u Q I rx ry h
 obtain ⟨ι,p,q,vs,us,xs,ys,rfl,rfl,h1,h2,r1,r2,p1,p2,hq⟩:=h
 cases rx;cases ry
 exact (abe I hu h1 h2 r1 r2 p1 p2).2 X.prog X.w X.xe _ ⟨.bl _,H,I,rfl,hq⟩
def aiq(neg:Bool)(x y:D)(h:Hd):R D:=match p6 x h,p6 y h with
 | some xs,some ys=>if xs.all (pur 59)=true/\ys.all (pur 59)=true then .ok (.bl (if neg then !a0c xs ys else a0c xs ys)) h else .no
 | _,_=>.no
theorem aex(neg:Bool){K:PySem.W.Frag}:vh K (aiq neg) (am3 neg K):=by
 intro E ι H h x y dx dy Q rx ry hr o
 unfold aiq at o
 split at o
 ·rename_i xs ys e1 e2
  split at o
  ·rename_i hc;obtain ⟨a,vs,rfl,h1,r1⟩:=qm rx hr e1;obtain ⟨b,us,rfl,h2,r2⟩:=qm ry hr e2;exact ⟨ι,a,b,vs,us,xs,ys,rfl,rfl,h1,h2,r1,r2,hc.1,hc.2,ans o (.bl _) hr⟩
  ·exact o.elim
 ·exact o.elim
end MI
namespace L2
open PySem PySem.Spec
end L2
namespace MI
open PySem PySem.Spec L2
end MI
namespace L2
open PySem PySem.Spec PyProof.Rows
section
variable{X:Cx}
abbrev am4(T:Str)(c:Nat):List Nat:=Builtin.Str.occurrences T ⟨#[c]⟩ 0 T.length (T.length+1)
def afw(T:Str)(c:Nat):Int:=((am4 T c).length:Nat)
def rfC(T:Str)(c:Nat):Int:=match Builtin.Str.lastOccurrence T ⟨#[c]⟩ 0 T.length with | some i=>(i:Int) | none => -1
theorem abf:MtR X "str.count" (λx xs H Q=>∃ T c,x = .str T/\xs=[.str ⟨#[c]⟩]/\Q (.int (afw T c)) H):=by
 intro pins s σ H x xs v us Q I rx rs h
 obtain ⟨T,c,rfl,rfl,q⟩:=h;obtain ⟨t,rfl⟩:=rx;obtain ⟨u,rfl,t',rfl⟩:=vals1 rs;exact call_meets F.slot_str_count (typeIs_str _ _ _) F.entry_str_count (F.args_str_count_2 _ _) (gives_str_count _ _ _ _).meets ⟨.int (afw T c),H,I.tok _,⟨_,rfl⟩,q⟩
theorem abg:MtR X "str.rfind" (λx xs H Q=>∃ T c,x = .str T/\xs=[.str ⟨#[c]⟩]/\Q (.int (rfC T c)) H):=by
 intro pins s σ H x xs v us Q I rx rs h
 obtain ⟨T,c,rfl,rfl,q⟩:=h;obtain ⟨t,rfl⟩:=rx;obtain ⟨u,rfl,t',rfl⟩:=vals1 rs;exact call_meets F.slot_str_rfind (typeIs_str _ _ _) F.entry_str_rfind (F.args_str_rfind_2 _ _) (gives_str_rfind _ _ _ _).meets ⟨.int (rfC T c),H,I.tok _,⟨_,rfl⟩,q⟩
end
end L2
namespace SPT
def a4i(ls:List (List Nat))(x:Nat):List (List Nat):=if x=10 then ls++[[]] else ls.take (ls.length - 1)++[(ls[ls.length - 1]?).getD []++[x]]
def lines(l:List Nat):List (List Nat):=l.foldl a4i [[]]
def step(p:Nat × Nat)(x:Nat):Nat × Nat:=if x=10 then (p.1+1,1) else (p.1,p.2+1)
def spt(l:List Nat):Nat × Nat:=l.foldl step (1,1)
theorem qg(l:List Nat)(x:Nat):lines (l++[x])=a4i (lines l) x:=by unfold lines;rw [List.foldl_append];rfl
theorem zb(l:List Nat)(x:Nat):spt (l++[x])=step (spt l) x:=by unfold spt;rw [List.foldl_append];rfl
def ln(ls:List (List Nat))(k:Nat):Nat:=((ls[k]?).getD []).length
def off(ls:List (List Nat)):Nat->Nat
 | 0=>0
 | k+1=>off ls k+(ln ls k+1)
theorem yp{a b:List (List Nat)}:∀ {k:Nat},(∀ i,i<k->ln a i=ln b i)->off a k=off b k
 | 0,_=>rfl
 | k+1,h=>by unfold off;rw [yp λi hi=>h i (by omega),h k (by omega)]
theorem a4j{P:List Nat->Prop}(h0:P [])(h1:∀ l x,P l->P (l++[x]))(l:List Nat):P l:=by
 rw [<-List.reverse_reverse l]
 induction l.reverse with
 | nil=>exact h0
 | cons x r ih=>rw [List.reverse_cons];exact h1 _ _ ih
theorem a8t(ls:List (List Nat)){k:Nat}(h:k<ls.length):ln (ls++[[]]) k=ln ls k:=by unfold ln;rw [List.getElem?_append_left h]
theorem acw(ls:List (List Nat)):ln (ls++[[]]) ls.length=0:=by unfold ln;rw [List.getElem?_append_right (Nat.le_refl _)];simp
theorem xu(ls:List (List Nat))(y:List Nat){k:Nat}(h:k+1<ls.length):ln (ls.take (ls.length - 1)++[y]) k=ln ls k:=by
 unfold ln;rw [List.getElem?_append_left (by rw [List.length_take];omega),List.getElem?_take,if_pos (by omega)]
theorem a1u(ls:List (List Nat))(y:List Nat)(h:1<=ls.length):ln (ls.take (ls.length - 1)++[y]) (ls.length - 1)=y.length:=by
 unfold ln;rw [List.getElem?_append_right (by rw [List.length_take];omega),List.length_take,show ls.length - 1 - min (ls.length - 1) ls.length=0 by omega]
 rfl
theorem whole(l:List Nat):1<=(lines l).length/\spt l=((lines l).length,ln (lines l) ((lines l).length - 1)+1)/\l.length=off (lines l) ((lines l).length - 1)+ln (lines l) ((lines l).length - 1):=by
 refine a4j (P:=λl=>1<=(lines l).length/\spt l=((lines l).length,ln (lines l) ((lines l).length - 1)+1)/\l.length=off (lines l) ((lines l).length - 1)+ln (lines l) ((lines l).length - 1)) ⟨Nat.le_refl _,rfl,rfl⟩ (λl x ⟨h1,h2,h3⟩=>?_) l;rw [qg,zb,List.length_append,List.length_singleton];unfold a4i step
 generalize lines l=ls at h1 h2 h3
 by_cases z:x=10
 ·rw [if_pos z,if_pos z,List.length_append,List.length_singleton,Nat.add_sub_cancel,acw,h2];refine ⟨by omega,rfl,?_⟩
  rw [yp (b:=ls) λi hi=>a8t ls hi];obtain ⟨k,hk⟩:∃ k,ls.length=k+1:=⟨ls.length - 1,by omega⟩
  rw [hk] at h3 ⊢;rw [Nat.add_sub_cancel] at h3;show l.length+1=off ls k+(ln ls k+1)+0;omega
 ·rw [if_neg z,if_neg z,List.length_append,List.length_take,List.length_singleton,show min (ls.length - 1) ls.length+1=ls.length by omega,a1u ls _ h1,h2]
  refine ⟨h1,?_,?_⟩
  ·rw [List.length_append];rfl
  ·rw [yp (b:=ls) λi hi=>xu ls _ (by omega),List.length_append]
   show l.length+1=off ls (ls.length - 1)+(ln ls (ls.length - 1)+1);omega
theorem a1v(l:List Nat):∀ p,p<=l.length->∃ k j,spt (l.take p)=(k+1,j+1)/\k<(lines l).length/\j<=ln (lines l) k/\p=off (lines l) k+j:=by
 refine a4j (P:=λl=>∀ p,p<=l.length->∃ k j,spt (l.take p)=(k+1,j+1)/\k<(lines l).length/\j<=ln (lines l) k/\p=off (lines l) k+j) ?_ (λl x ih p hp=>?_) l
 ·intro p hp
  rw [List.length_nil] at hp;exact ⟨0,0,by rw [show p=0 by omega];rfl,by decide,Nat.le_refl _,by rw [show p=0 by omega];rfl⟩
 ·by_cases z:p<=l.length
  ·obtain ⟨k,j,e1,e2,e3,e4⟩:=ih p z;rw [List.take_append_of_le_length z];have h1:=(whole l).1;rw [qg];unfold a4i
   generalize lines l=ls at *
   by_cases y:x=10
   ·rw [if_pos y];refine ⟨k,j,e1,by rw [List.length_append];omega,by rw [a8t ls e2];exact e3,?_⟩
    rw [yp (b:=ls) λi hi=>a8t ls (by omega)];exact e4
   ·rw [if_neg y];refine ⟨k,j,e1,by rw [List.length_append,List.length_take,List.length_singleton];omega,?_,?_⟩
    ·by_cases w:k+1<ls.length
     ·rw [xu ls _ w];exact e3
     ·have:k=ls.length - 1:=by omega
      subst this;rw [a1u ls _ h1,List.length_append];exact Nat.le_succ_of_le e3
    ·rw [yp (b:=ls) λi hi=>xu ls _ (by omega)];exact e4
  ·rw [List.length_append,List.length_singleton] at hp;have e:p=(l++[x]).length:=by rw [List.length_append,List.length_singleton];omega
   obtain ⟨h1,h2,h3⟩:=whole (l++[x]);rw [e,List.take_length];exact ⟨_,_,by rw [h2,Nat.sub_add_cancel h1],by omega,Nat.le_refl _,h3⟩
theorem xx(l:List Nat):∀ k j,k<(lines l).length->j<=ln (lines l) k->off (lines l) k+j<=l.length/\spt (l.take (off (lines l) k+j))=(k+1,j+1):=by
 refine a4j (P:=λl=>∀ k j,k<(lines l).length->j<=ln (lines l) k->off (lines l) k+j<=l.length/\spt (l.take (off (lines l) k+j))=(k+1,j+1)) ?_ (λl x ih k j hk hj=>?_) l
 ·intro k j hk hj
  have hk:k<1:=hk;have:k=0:=by omega
  subst this;have hj:j<=0:=hj;have:j=0:=by omega
  subst this;exact ⟨Nat.le_refl _,rfl⟩
 ·obtain ⟨w1,w2,w3⟩:=whole (l++[x]);have h1:=(whole l).1
  by_cases last:k=(lines (l++[x])).length - 1/\j=ln (lines (l++[x])) k
  ·obtain ⟨rfl,rfl⟩:=last;rw [<-w3,List.take_length,w2,Nat.sub_add_cancel w1];exact ⟨Nat.le_refl _,rfl⟩
  ·rw [qg] at hk hj last ⊢;unfold a4i at hk hj last ⊢;have go:k<(lines l).length->j<=ln (lines l) k->off (if x=10 then lines l++[[]] else (lines l).take ((lines l).length - 1)++[((lines l)[(lines l).length - 1]?).getD []++[x]]) k=off (lines l) k->off (if x=10 then lines l++[[]] else (lines l).take ((lines l).length - 1)++[((lines l)[(lines l).length - 1]?).getD []++[x]]) k+j<=(l++[x]).length/\spt ((l++[x]).take (off (if x=10 then lines l++[[]] else (lines l).take ((lines l).length - 1)++[((lines l)[(lines l).length - 1]?).getD []++[x]]) k+j))=(k+1,j+1):=λa b c=>by
    rw [c];obtain ⟨i1,i2⟩:=ih k j a b;rw [List.take_append_of_le_length i1];exact ⟨by rw [List.length_append];omega,i2⟩
   generalize lines l=ls at *
   by_cases y:x=10
   ·rw [if_pos y] at hk hj last;rw [List.length_append,List.length_singleton] at hk last
    by_cases w:k<ls.length
    ·rw [a8t ls w] at hj;exact go w hj (by rw [if_pos y];exact yp λi hi=>a8t ls (by omega))
    ·have:k=ls.length:=by omega
     subst this;rw [acw] at hj last;exact absurd ⟨by omega,by omega⟩ last
   ·rw [if_neg y] at hk hj last;rw [List.length_append,List.length_take,List.length_singleton] at hk last
    by_cases w:k+1<ls.length
    ·rw [xu ls _ w] at hj;exact go (by omega) hj (by rw [if_neg y];exact yp λi hi=>xu ls _ (by omega))
    ·have:k=ls.length - 1:=by omega
     subst this;rw [a1u ls _ h1,List.length_append,List.length_singleton] at hj last;refine go (by omega) ?_ (by rw [if_neg y];exact yp λi hi=>xu ls _ (by omega))
     show j<=((ls[ls.length - 1]?).getD []).length
     by_cases e:j=((ls[ls.length - 1]?).getD []).length+1
     ·exact absurd ⟨by omega,e⟩ last
     ·omega
end SPT
namespace L2
open PySem PySem.Spec PyProof.Rows
def uc(c:Nat)(l:List Nat):List Nat:=(List.range l.length).filter λi=>decide (l[i]? = some c)
theorem a04(c:Nat)(l:List Nat)(x:Nat):uc c (l++[x])=uc c l++(if x=c then [l.length] else []):=by
 unfold uc;rw [List.length_append,List.length_singleton,List.range_succ,List.filter_append]
 congr 1
 ·refine List.filter_congr λi hi=>?_;rw [List.mem_range] at hi;rw [List.getElem?_append_left hi]
 ·rw [List.filter_cons,List.getElem?_append_right (Nat.le_refl _),Nat.sub_self]
  by_cases h:x=c
  ·subst h;simp
  ·simp [h]
theorem a67(c:Nat)(l:List Nat):(List.range' 0 (l.length+1)).filter (λi=>decide (l[i]? = some c))=uc c l:=by
 unfold uc;rw [<-List.range_eq_range',List.range_succ,List.filter_append];simp
theorem a4k(T:Str)(c:Nat):∀ (m k:Nat) (st:Array Nat × Nat),st.1.size<=k->st.2<=k->k+m<=T.length+1->
  (forIn (List.range' k m) st (StrLaws.occBody T ⟨#[c]⟩ T.length (T.length+1))).run.fst.toList=st.1.toList++(List.range' k m).filter λi=>decide (T.cps.toList[i]? = some c)
 | 0,k,st,_,_,_=>by
  rw [List.range'_zero];exact (List.append_nil _).symm
 | m+1,k,st,h1,h2,h3=>by
  rw [List.range'_succ,List.forIn_cons,List.filter_cons];have one:=StrLaws.subAt_one T c k;unfold StrLaws.occBody
  by_cases p:T.cps.toList[k]? = some c
  ·obtain ⟨q1,q2⟩:=one.mpr p;rw [if_pos ⟨⟨⟨by omega,h2⟩,q1⟩,q2⟩,if_pos (by simpa using p)]
   have:=a4k T c m (k+1) (st.1.push k,k+1) (by rw [Array.size_push];omega) (Nat.le_refl _) (by omega)
   rw [Array.toList_push,List.append_assoc] at this;exact this
  ·rw [if_neg λz=>p (one.mp ⟨z.1.2,z.2⟩),if_neg (by simpa using p)]
   exact a4k T c m (k+1) (st.1,st.2) (by show st.1.size<=_;omega) (by show st.2<=_;omega) (by omega)
theorem a8u(T:Str)(c:Nat):am4 T c=uc c T.cps.toList:=by
 show Builtin.Str.occurrences T ⟨#[c]⟩ 0 T.length (T.length+1)=_;rw [StrLaws.occ_eq,Nat.sub_zero,a4k T c _ 0 (#[],0) (Nat.le_refl _) (Nat.le_refl _) (by omega)]
 have e:T.length=T.cps.toList.length:=by rw [Array.length_toList];rfl
 rw [e,a67];rfl
theorem last_run(T:Str)(c:Nat):∀ (m k:Nat) (st:Option Nat),
  (forIn (List.range' k m) st λi s=>if (decide (i+(⟨#[c]⟩:Str).length<=T.length) && Builtin.Str.subAt T ⟨#[c]⟩ i)=true then (pure (ForInStep.yield (some i)):Id _) else pure (ForInStep.yield s)).run=(((List.range' k m).filter λi=>decide (T.cps.toList[i]? = some c)).getLast?).or st
 | 0,k,st=>by
  rw [List.range'_zero];rfl
 | m+1,k,st=>by
  rw [List.range'_succ,List.forIn_cons,List.filter_cons];have one:=StrLaws.subAt_one T c k
  by_cases p:T.cps.toList[k]? = some c
  ·obtain ⟨q1,q2⟩:=one.mpr p;rw [if_pos (by rw [q2,Bool.and_true];exact decide_eq_true q1),if_pos (by simpa using p)]
   refine (last_run T c m (k+1) (some k)).trans ?_;rw [List.getLast?_cons]
   cases ((List.range' (k+1) m).filter λi=>decide (T.cps.toList[i]? = some c)).getLast?<;>rfl
  ·rw [if_neg (λz=>by rw [Bool.and_eq_true,decide_eq_true_iff] at z;exact p (one.mp z)),if_neg (by simpa using p)]
   exact last_run T c m (k+1) st
theorem ais(T:Str)(c:Nat):rfC T c=(match (uc c T.cps.toList).getLast? with | some i=>(i:Int) | none => -1):=by
 unfold rfC;have:Builtin.Str.lastOccurrence T ⟨#[c]⟩ 0 T.length=(uc c T.cps.toList).getLast?:=by
  unfold Builtin.Str.lastOccurrence;have r:=last_run T c (T.length+1) 0 none;have e:T.length=T.cps.toList.length:=by rw [Array.length_toList];rfl
  rw [Option.or_none] at r
  conv at r=>rhs;rw [e,a67]
  rw [<-r];simp only [Std.Legacy.Range.forIn_eq_forIn_range',Std.Legacy.Range.size,Nat.sub_zero,Nat.add_sub_cancel,Nat.div_one,bind_pure]
 rw [this]
 all_goals cases (uc c T.cps.toList).getLast?<;>rfl
end L2
namespace L2
open PySem PySem.Spec PyProof.Rows SPT
abbrev prt(l:List Nat)(p:Nat × Nat):List Nat:=(l.drop p.1).take (p.2 - p.1)
theorem a68{l:List Nat}{x:Nat}{p:Nat × Nat}(h:p.2<=l.length):prt (l++[x]) p=prt l p:=by
 unfold prt
 by_cases z:p.1<=l.length
 ·rw [List.drop_append_of_le_length z,List.take_append_of_le_length (by rw [List.length_drop];omega)]
 ·rw [show p.2 - p.1=0 by omega,List.take_zero,List.take_zero]
theorem a3e(l:List Nat):∃ (s:List Nat) (i:Nat),0::(uc 10 l).map (·+1)=s++[i]/\s.length=(uc 10 l).length/\i<=l.length/\(∀ j∈uc 10 l,j<l.length)/\lines l=(s.zip (uc 10 l)).map (prt l)++[l.drop i]:=by
 refine a4j (P:=λl=>∃ (s:List Nat) (i:Nat),0::(uc 10 l).map (·+1)=s++[i]/\s.length=(uc 10 l).length/\i<=l.length/\(∀ j∈uc 10 l,j<l.length)/\lines l=(s.zip (uc 10 l)).map (prt l)++[l.drop i]) ⟨[],0,rfl,rfl,Nat.le_refl _,by simp [uc],rfl⟩ (λl x ⟨s,i,e1,e2,e3,e4,e5⟩=>?_) l
 have old:(s.zip (uc 10 l)).map (prt (l++[x]))=(s.zip (uc 10 l)).map (prt l):=List.map_congr_left λp hp=>a68 (Nat.le_of_lt (e4 _ (List.of_mem_zip hp).2));have nl:(l++[x]).length=l.length+1:=by rw [List.length_append];rfl
 rw [qg,a04,nl];unfold a4i
 by_cases z:x=10
 ·rw [if_pos z,if_pos z];refine ⟨s++[i],l.length+1,?_,?_,Nat.le_refl _,λj hj=>?_,?_⟩
  ·rw [List.map_append,<-List.cons_append,e1];rfl
  ·rw [List.length_append,List.length_append,e2];rfl
  ·rcases List.mem_append.mp hj with q | q
   ·have:=e4 j q;omega
   ·rw [List.mem_singleton] at q;omega
  ·rw [List.zip_append e2,List.map_append,old,e5];have a1:(([i].zip [l.length]).map (prt (l++[x])))=[l.drop i]:=by
    show [prt (l++[x]) (i,l.length)]=_;rw [a68 (Nat.le_refl _)];unfold prt;rw [List.take_of_length_le (by rw [List.length_drop];exact Nat.le_refl _)]
   have a2:(l++[x]).drop (l.length+1)=[]:=List.drop_of_length_le (by rw [List.length_append];exact Nat.le_refl _)
   rw [a1,a2]
 ·rw [if_neg z,if_neg z,List.append_nil];refine ⟨s,i,e1,e2,by omega,λj hj=>by have:=e4 j hj;omega,?_⟩
  rw [old,e5,List.drop_append_of_le_length e3]
  generalize (s.zip (uc 10 l)).map (prt l)=A
  rw [List.length_append,List.length_singleton,Nat.add_sub_cancel,List.take_left,List.getElem?_append_right (Nat.le_refl _),Nat.sub_self];rfl
def lnS(m:List Nat):Str:=⟨m.toArray⟩
theorem a8v(T:Str)(p:Nat × Nat):Builtin.Str.strSub T p.1 p.2=lnS (prt T.cps.toList p):=by
 unfold Builtin.Str.strSub lnS prt
 congr 1
 apply Array.toList_inj.mp
 rw [Array.toList_extract,List.extract_eq_drop_take]
theorem a4l(T:Str):Builtin.Str.partsBetween T (uc 10 T.cps.toList) 1=(lines T.cps.toList).map lnS:=by
 obtain ⟨s,i,e1,e2,e3,e4,e5⟩:=a3e T.cps.toList;have en:T.length=T.cps.toList.length:=by rw [Array.length_toList];rfl
 unfold Builtin.Str.partsBetween;show ((0::(uc 10 T.cps.toList).map (·+1)).zip (uc 10 T.cps.toList++[T.length])).map _=_;rw [e1,List.zip_append e2,List.map_append,e5,List.map_append,List.map_map]
 congr 1
 ·exact List.map_congr_left λp _=>a8v T p
 ·show [Builtin.Str.strSub T i T.length]=[lnS (T.cps.toList.drop i)];rw [a8v T (i,T.length)];unfold prt;rw [en,List.take_of_length_le (by rw [List.length_drop];exact Nat.le_refl _)]
theorem a8w{l:List Nat}(h:uc 10 l=[]):lines l=[l]:=by
 obtain ⟨s,i,e1,e2,e3,e4,e5⟩:=a3e l;rw [h] at e1 e2 e5;have:s=[]:=List.length_eq_zero_iff.mp e2;subst this;cases e1
 exact e5
theorem wg(l:List Nat):(lines l).length<=l.length+1:=by
 refine a4j (P:=λl=>(lines l).length<=l.length+1) (Nat.le_refl _) (λl x ih=>?_) l;rw [qg,List.length_append];unfold a4i
 split
 ·rw [List.length_append];exact Nat.add_le_add_right ih 1
 ·rw [List.length_append,List.length_take,List.length_singleton,List.length_singleton];omega
theorem a3f:∀ (tk:Nat) (zs:List Str),Vals (zs.map V.str) (strsFrom tk zs)
 | _,[]=>.nil
 | tk,z::zs=>.cons ⟨tk,rfl⟩ (a3f (tk+1) zs)
section
variable{X:Cx}
theorem abh:MtR X "str.split" (λx xs H Q=>∃ T,x = .str T/\xs=[.str ⟨#[10]⟩]/\T.length+1<=sizeLine/\∀ p,H p=none->Q (.ref p) (upd H p (.lst ((lines T.cps.toList).map λm=>V.str (lnS m))))):=by
 intro pins s σ H x xs v us Q I rx rs h
 obtain ⟨T,rfl,rfl,hl,q⟩:=h;obtain ⟨t,rfl⟩:=rx;obtain ⟨u,rfl,t',rfl⟩:=vals1 rs;have en:T.length=T.cps.toList.length:=by rw [Array.length_toList];rfl
 have op:Builtin.Str.occurrences T ⟨#[10]⟩ 0 T.length (T.length+1)=uc 10 T.cps.toList:=a8u T 10;have fin:∀ (k:Nat) (ws:List Value),Vals ((lines T.cps.toList).map λm=>V.str (lnS m)) ws->EP X pins σ Q (.ref s.heap.objs.size) { s with toks:=k,heap:=s.heap.push { cls:=.type "list",data:=.seq ws.toArray } }:=λk ws r =>
  ⟨.ref s.heap.objs.size,_,I.laid (t':=k) (o:=.lst ((lines T.cps.toList).map λm=>V.str (lnS m))) (λb o e=>Heap.get?_push_of_some _ e) (Nat.le_refl _) ⟨by rw [List.length_map];have:=wg T.cps.toList;omega,ws,_,r,Heap.get?_push_size _ rfl⟩,rfl,q _ (I.hok.fresh (Nat.le_refl _))⟩
 have self:uc 10 T.cps.toList=[]->Vals ((lines T.cps.toList).map λm=>V.str (lnS m)) [.str T t]:=λe=>by
  rw [a8w e];exact .cons ⟨t,by show Value.str T t=Value.str (lnS T.cps.toList) t;unfold lnS;rfl⟩ .nil
 by_cases c1:(decide (T.length<(⟨#[10]⟩:Str).length) || decide (Builtin.Str.strKind T<Builtin.Str.strKind ⟨#[10]⟩))=true
 ·have e:uc 10 T.cps.toList=[]:=by
   have k1:Builtin.Str.strKind (⟨#[10]⟩:Str)=1:=by simp [Builtin.Str.strKind]
   have k2:1<=Builtin.Str.strKind T:=by unfold Builtin.Str.strKind;split;exact Nat.le_refl _;split<;>omega
   rw [k1,Bool.or_eq_true,decide_eq_true_iff,decide_eq_true_iff] at c1;have:T.cps.toList=[]:=List.length_eq_zero_iff.mp (by rcases c1 with c1 | c1;(have c1:T.length<1:=c1);omega;omega)
   rw [this];rfl
  exact call_meets F.slot_str_split (typeIs_str _ _ _) F.entry_str_split (F.args_str_split_2 _ _) (meets_str_split_cannot_occur T ⟨#[10]⟩ t t' c1) (fin _ _ (self e))
 ·have c1:=Bool.eq_false_iff.mpr c1
  by_cases c2:(Builtin.Str.occurrences T ⟨#[10]⟩ 0 T.length (T.length+1)).isEmpty=true
  ·have e:uc 10 T.cps.toList=[]:=by rw [op] at c2;exact List.isEmpty_iff.mp c2
   exact call_meets F.slot_str_split (typeIs_str _ _ _) F.entry_str_split (F.args_str_split_2 _ _) (meets_str_split_not_found T ⟨#[10]⟩ t t' c1 rfl c2) (fin _ _ (self e))
  ·have pb:Builtin.Str.partsBetween T (Builtin.Str.occurrences T ⟨#[10]⟩ 0 T.length (T.length+1)) (⟨#[10]⟩:Str).length=(lines T.cps.toList).map lnS:=by rw [op];exact a4l T
   have ll:=wg T.cps.toList;have m:=meets_str_split_sep T ⟨#[10]⟩ t t' c1 rfl (Bool.eq_false_iff.mpr c2) (by omega) (by rw [pb,List.length_map];omega)
   rw [pb] at m;refine call_meets F.slot_str_split (typeIs_str _ _ _) F.entry_str_split (F.args_str_split_2 _ _) m (fin _ _ ?_);have:=a3f s.toks ((lines T.cps.toList).map lnS);rw [List.map_map] at this;exact this
end
end L2
namespace MI
open PySem PySem.Spec L2
section
variable{K:PySem.W.Frag}
def a69:D->List D->Hd->R D
 | .str T,[.str z],h=>(match z.cps.toList with | [c]=>.ok (.int (afw T c)) h | _=>.no)
 | _,_,_=>.no
theorem a8x:acf K a69 (λx xs H Q=>∃ T c,x = .str T/\xs=[.str ⟨#[c]⟩]/\Q (.int (afw T c)) H):=by
 intro E ι H h x dx xs ds Q rx r hr o
 unfold a69 at o
 split at o
 ·cases rx
  cases r with
  | cons r1 rs =>
   cases r1;cases rs
   split at o
   ·rename_i c hz;exact ⟨_,c,rfl,by rw [one_sign hz],ans o (.int _) hr⟩
   ·exact o.elim
 ·exact o.elim
def a6a:D->List D->Hd->R D
 | .str T,[.str z],h=>(match z.cps.toList with | [c]=>.ok (.int (rfC T c)) h | _=>.no)
 | _,_,_=>.no
theorem a8y:acf K a6a (λx xs H Q=>∃ T c,x = .str T/\xs=[.str ⟨#[c]⟩]/\Q (.int (rfC T c)) H):=by
 intro E ι H h x dx xs ds Q rx r hr o
 unfold a6a at o
 split at o
 ·cases rx
  cases r with
  | cons r1 rs =>
   cases r1;cases rs
   split at o
   ·rename_i c hz;exact ⟨_,c,rfl,by rw [one_sign hz],ans o (.int _) hr⟩
   ·exact o.elim
 ·exact o.elim
def a3g:D->List D->Hd->R D
 | .str T,[.str z],h=>if z.cps.toList=[10]/\T.length+1<=LINE then .ok (.ref h.length) (h++[.lst ((SPT.lines T.cps.toList).map λm=>D.str (lnS m))]) else .no
 | _,_,_=>.no
theorem a0q{ι:List Addr}{H:Hp}:∀ ls:List (List Nat),Reps K ι H (ls.map λm=>V.str (lnS m)) (ls.map λm=>D.str (lnS m))
 | []=>.nil
 | m::ls=>.cons (.str _) (a0q ls)
theorem a8z:acf K a3g (λx xs H Q=>∃ T,x = .str T/\xs=[.str ⟨#[10]⟩]/\T.length+1<=sizeLine/\∀ p,H p=none->Q (.ref p) (upd H p (.lst ((SPT.lines T.cps.toList).map λm=>V.str (lnS m))))):=by
 intro E ι H h x dx xs ds Q rx r hr o
 unfold a3g at o
 split at o
 ·cases rx
  cases r with
  | cons r1 rs =>
   cases r1;cases rs
   split at o
   ·rename_i hz;exact ⟨_,rfl,by rw [one_sign hz.1],ll hz.2,lu (E:=E) (a0q _) hr o⟩
   ·exact o.elim
 ·exact o.elim
end
end MI
namespace MI
open PySem PySem.Spec L2 SeqAt
abbrev tI(l:List Int):D:=.tup (l.map D.int)
section
variable{K:PySem.W.Frag}{ι:List Addr}{H:Hp}
theorem a6b:∀ {l:List Int} {vs:List V},Reps K ι H vs (l.map D.int)->vs=l.map V.int
 | [],_,r=>by cases r;rfl
 | i::l,_,r=>by
  rw [List.map_cons] at r
  cases r with
  | cons r1 rs=>cases r1;rw [a6b rs];rfl
theorem acx{a:Addr}{l m:List Int}(r1:Rep K ι H (.ref a) (tI l))(r2:Rep K ι H (.ref a) (tI m)):l=m:=by
 have key:∀ {n:List Int},Rep K ι H (.ref a) (tI n)->H a=some (.tup (n.map V.int)):=λ{n} r=>by
  cases r with
  | tup ha rs=>rw [a6b rs] at ha;exact ha
 have e:=(key r1).symm.trans (key r2)
 injection e with e
 injection e with e
 exact (List.map_inj_right λx y h=>by cases h;rfl).mp e
theorem a6c:∀ l m:List Int,a0c (l.map D.int) (m.map D.int)=decide (l=m)
 | [],[]=>rfl
 | [],_::_=>rfl
 | _::_,[]=>rfl
 | a::l,b::m=>by
  show ((a == b) && a0c (l.map D.int) (m.map D.int))=_;rw [a6c l m]
  by_cases h:a=b
  ·subst h;simp
  ·simp [h]
theorem ait(l m:List Int):eqD (tI l) (tI m)=decide (l=m):=a6c l m
theorem acy(n:Nat)(l:List Int):pur (n+2) (tI l)=true:=by
 show (l.map D.int).all (pur (n+1))=true;rw [List.all_eq_true]
 intro x hx
 obtain ⟨i,_,rfl⟩:=List.mem_map.mp hx;rfl
end
theorem a90{X:Cx}{pins:List (Addr × Obj)}{s:Shared}{σ:St}{H:Hp}(I:Inv X pins σ H s)(hu:X.A.units+64<cLine){ι:List Addr}{vs:List V}{xs:List (List Int)}{l:List Int}{x:V}{v:Value}{its:List Value}(rs:Reps X.K ι H vs (xs.map tI))(rx:Rep X.K ι H x (tI l))(rv:RelV x v)(r:Vals vs its) :
  ∃ e:Value->Bool,(∀ w∈its,EqAt X.A.in1 s w v (e w))/\∀ (i:Nat) (w:Value),its[i]? = some w->∃ m,xs[i]? = some m/\e w=decide (m=l):=by
 classical
 have at':∀ (i:Nat) (w:Value),its[i]? = some w->∃ m a,xs[i]? = some m/\w = .ref a/\Rep X.K ι H (.ref a) (tI m):=λi w hw=>by
  have il:i<its.length:=(List.getElem?_eq_some_iff.mp hw).1;have xl:i<xs.length:=by have h1:=r.length;have h2:=rs.len;rw [List.length_map] at h2;omega
  obtain ⟨v1,e1,q1⟩:=rs.get (show (xs.map tI)[i]? = some (tI xs[i]) by rw [List.getElem?_map,List.getElem?_eq_getElem xl];rfl)
  obtain ⟨u1,e3,q3⟩:=r.get e1;rw [hw] at e3;cases e3
  cases q1 with
  | @tup a ws _ ha qs=>exact ⟨xs[i],a,List.getElem?_eq_getElem xl,q3, .tup ha qs⟩
 refine ⟨λw=>decide (∃ i:Nat,its[i]? = some w/\xs[i]? = some l),λw hw=>?_,λi w hw=>?_⟩
 ·obtain ⟨i,hi,e⟩:=List.getElem_of_mem hw;have hi':its[i]? = some w:=by rw [List.getElem?_eq_getElem hi,e]
  obtain ⟨m,a,em,rfl,ra⟩:=at' i w hi';have q:=a8f I.hok 59 X.A.in1 ra rx (show RelV (.ref a) (.ref a) from rfl) rv (acy 57 m) (acy 57 l) (by rw [Around.in1_units];omega)
  rw [ait] at q;have:decide (∃ i:Nat,its[i]? = some (.ref a)/\xs[i]? = some l)=decide (m=l):=decide_eq_decide.mpr ⟨λ⟨j,h1,h2⟩=>by
   obtain ⟨m',a',em',ea,ra'⟩:=at' j _ h1;cases ea
   rw [h2] at em';cases em'
   exact acx ra ra',λh=>⟨i,hi',by rw [em,h]⟩⟩
  show EqAt X.A.in1 s (.ref a) v (decide (∃ i:Nat,its[i]? = some (.ref a)/\xs[i]? = some l));rw [this];exact q
 ·obtain ⟨m,a,em,rfl,ra⟩:=at' i w hw;refine ⟨m,em,decide_eq_decide.mpr ⟨λ⟨j,h1,h2⟩=>?_,λh=>⟨i,hw,by rw [em,h]⟩⟩⟩
  obtain ⟨m',a',em',ea,ra'⟩:=at' j _ h1;cases ea
  rw [h2] at em';cases em'
  exact acx ra ra'
def am5(K:PySem.W.Frag):R2:=λx y H Q=>∃ (ι:List Addr) (p:Addr) (vs:List V) (xs:List (List Int)) (l:List Int),y = .ref p/\Rd H p (.lst vs)/\Reps K ι H vs (xs.map tI)/\Rep K ι H x (tI l)/\Q (.bl (decide (l∈xs))) H
theorem aiu{X:Cx}(hu:X.A.units+64<cLine):OpR X (compareOp .In) (am5 X.K):=by
 intro pins s σ H x y v u Q I rx ry h
 obtain ⟨ι,p,vs,xs,l,rfl,h1,rs,rl,q⟩:=h;cases ry
 obtain ⟨its,r,pl,hz⟩:=I.list (.inl h1);obtain ⟨e,e1,e2⟩:=a90 I hu rs rl rx r;refine SeqAt.in_listAt e pl.isList (λw hw=>e1 w (by simpa using hw)) ⟨.bl _,H,I,rfl,?_⟩
 have:its.toArray.any e=decide (l∈xs):=by
  rw [show its.toArray.any e=its.any e by simp]
  rw [Bool.eq_iff_iff,List.any_eq_true,decide_eq_true_iff]
  constructor
  ·rintro ⟨w,hw,ew⟩
   obtain ⟨i,hi,rfl⟩:=List.getElem_of_mem hw;obtain ⟨m,em,q⟩:=e2 i _ (List.getElem?_eq_getElem hi);rw [ew] at q;have:=of_decide_eq_true q.symm;subst this;exact List.mem_of_getElem? em
  ·intro hl
   obtain ⟨i,hi,e⟩:=List.getElem_of_mem hl;have il:i<its.length:=by have h1:=r.length;have h2:=rs.len;rw [List.length_map] at h2;omega
   obtain ⟨m,em,q⟩:=e2 i _ (List.getElem?_eq_getElem il);rw [List.getElem?_eq_getElem hi,e] at em;cases em
   exact ⟨_,List.getElem_mem il,by rw [q];simp⟩
 rw [this];exact q
def ixT(l:List Int):List (List Int)->Option Nat
 | []=>none
 | a::r=>if a=l then some 0 else (ixT l r).map (·+1)
theorem a91{l:List Int}:∀ {xs:List (List Int)} {j:Nat},ixT l xs=some j->xs[j]? = some l/\∀ i,i<j->xs[i]?≠some l
 | [],_,h=>by cases h
 | a::xs,j,h=>by
  unfold ixT at h
  split at h
  ·rename_i e;cases h
   exact ⟨by rw [e];rfl,λi hi=>absurd hi (Nat.not_lt_zero i)⟩
  ·rename_i e;obtain ⟨k,hk,rfl⟩:=Option.map_eq_some_iff.mp h;obtain ⟨h1,h2⟩:=a91 hk;refine ⟨h1,λi hi=>?_⟩
   cases i with
   | zero=>intro z;exact e (Option.some.inj z)
   | succ i=>exact h2 i (Nat.lt_of_succ_lt_succ hi)
def a92(K:PySem.W.Frag):V->List V->Hp->VK->Prop:=λx args H Q=>∃ (ι:List Addr) (p:Addr) (y:V) (vs:List V) (xs:List (List Int)) (l:List Int) (j:Nat),x = .ref p/\args=[y]/\Rd H p (.lst vs)/\Reps K ι H vs (xs.map tI)/\Rep K ι H y (tI l)/\ixT l xs=some j/\Q (.int (j:Nat)) H
theorem a93{X:Cx}(hu:X.A.units+64<cLine):MtR X "list.index" (a92 X.K):=by
 intro pins s σ H x args v us Q I rx rv h
 obtain ⟨ι,p,y,vs,xs,l,j,rfl,rfl,h1,rs,rl,hj,q⟩:=h;cases rx
 obtain ⟨u,rfl,ru⟩:=rv.one;obtain ⟨its,r,⟨⟨cls,dict,data,slots⟩,m,e1,e2,e3,e4⟩,hz⟩:=I.list (.inl h1);have e2:cls = .type "list":=e2;have e3:dict=none:=e3;have e4:data = .seq its.toArray m:=e4;subst e2 e3 e4;have hl:its.length=xs.length:=by have h1:=r.length;have h2:=rs.len;rw [List.length_map] at h2;omega
 obtain ⟨e,q1,q2⟩:=a90 I hu rs rl ru r;obtain ⟨p1,p2⟩:=a91 hj;have jl:j<xs.length:=(List.getElem?_eq_some_iff.mp p1).1;have hz:its.length<=sizeLine:=by have:=r.length;omega
 rw [sizeLine_eq] at hz;refine call_meets F.slot_list_index ⟨_,e1,rfl⟩ F.entry_list_index (F.args_list_index_2 _ _)
  (SeqAt.list_indexAt p its.toArray m none slots u e j (by simp;omega) (by omega) ?_ ?_) ⟨e1,λw hw=>q1 w (List.mem_toArray.mp hw), .int (j:Nat),H,I.tok _,⟨_,rfl⟩,q⟩
 ·obtain ⟨m,em,eq⟩:=q2 j its[j] (List.getElem?_eq_getElem (by omega))
  rw [p1] at em;cases em
  rw [List.getElem_toArray,eq];exact decide_eq_true rfl
 ·intro i hi hij
  have hi':i<its.length:=by simpa using hi
  obtain ⟨m,em,eq⟩:=q2 i its[i] (List.getElem?_eq_getElem hi');rw [List.getElem_toArray,eq];exact decide_eq_false λz=>p2 i hij (by rw [em,z])
def tupI:D->Option (List Int)
 | .tup xs=>uq xs
 | _=>none
def a05:List D->Option (List (List Int))
 | []=>some []
 | d::r=>match tupI d,a05 r with
  | some l,some ls=>some (l::ls)
  | _,_=>none
theorem a94:∀ {xs:List D} {l:List Int},uq xs=some l->xs=l.map D.int
 | [],l,h=>by cases h;rfl
 | d::r,l,h=>by
  unfold uq at h
  split at h
  ·rename_i e;cases e
  ·rename_i e;cases e
   obtain ⟨m,hm,rfl⟩:=Option.map_eq_some_iff.mp h;rw [a94 hm];rfl
  ·cases h
theorem a4m{d:D}{l:List Int}(h:tupI d=some l):d=tI l:=by
 unfold tupI at h
 split at h
 ·rw [a94 h]
 ·cases h
theorem a1w:∀ {ds:List D} {xs:List (List Int)},a05 ds=some xs->ds=xs.map tI
 | [],xs,h=>by cases h;rfl
 | d::r,xs,h=>by
  unfold a05 at h
  split at h
  ·rename_i l ls e1 e2;cases h
   rw [a4m e1,a1w e2];rfl
  ·cases h
theorem aey(l:List Int):tupI (tI l)=some l:=by
 show uq (l.map D.int)=some l
 induction l with
 | nil=>rfl
 | cons i l ih=>show (uq (l.map D.int)).map (i::·)=_;rw [ih];rfl
theorem a1x:∀ xs:List (List Int),a05 (xs.map tI)=some xs
 | []=>rfl
 | l::xs=>by
  unfold a05;rw [List.map_cons];dsimp only;rw [aey,a1x xs]
def aiv(x y:D)(h:Hd):R D:=match tupI x,(p6 y h).bind a05 with
 | some l,some xs=>.ok (.bl (decide (l∈xs))) h
 | _,_=>.no
theorem aez{K:PySem.W.Frag}:vh K aiv (am5 K):=by
 intro E ι H h x y dx dy Q rx ry hr o
 unfold aiv at o
 split at o
 ·rename_i l xs e1 e2;obtain ⟨ds,e3,e4⟩:=Option.bind_eq_some_iff.mp e2;obtain ⟨b,us,rfl,h2,r2⟩:=qm ry hr e3;rw [a1w e4] at r2;rw [a4m e1] at rx;exact ⟨ι,b,us,xs,l,rfl,h2,r2,rx,ans o (.bl _) hr⟩
 ·exact o.elim
def a06(d:D)(ds:List D)(h:Hd):R D:=match (p6 d h).bind a05,ds with
 | some xs,[x]=>(match (tupI x).bind λl=>ixT l xs with | some j=>.ok (.int (j:Nat)) h | none=>.no)
 | _,_=>.no
theorem a73{K:PySem.W.Frag}:acf K a06 (a92 K):=by
 intro E ι H h x dx xs ds Q rx r hr o
 unfold a06 at o
 split at o
 ·rename_i ys y e
  cases r with
  | cons r1 rs =>
   cases rs
   split at o
   ·rename_i j hj;obtain ⟨l,e1,e2⟩:=Option.bind_eq_some_iff.mp hj;obtain ⟨es,e3,e4⟩:=Option.bind_eq_some_iff.mp e;obtain ⟨p,us,rfl,h2,r2⟩:=qm rx hr e3;rw [a1w e4] at r2;rw [a4m e1] at r1;exact ⟨ι,p,_,us,ys,l,j,rfl,rfl,h2,r2,r1,e2,ans o (.int _) hr⟩
   ·exact o.elim
 ·exact o.elim
end MI
namespace K37
open PySem PySem.Spec L2 MI
def ik:Str->Option Bool:=λc=>if c = "NoPlace" then some false else none
def oh:Str->Option Bool:=λc=>if c = "NoPlace" then some true else none
def wj:Str->Option Bool:=λc=>if c = "NoPlace" then some true else none
def mj:Str->Bool:=λc=>decide (c = "NoPlace")
noncomputable def km:SS :=
 (um (zz (sA j8 (aj (sV 0) (aj (sC (.ty "int")) dq))) (a2s (sA j8 (aj (sV 0) (aj (sC (.ty "bool")) dq))))))
noncomputable def iu(iz:SF):SS :=
 (um (zz (sA (jd false 1 iz) (aj (sV 0) dq)) (sCh gLe gLe (sV 1) (sV 0) (sV 2))))
noncomputable def a6d:SS :=
 (j5 (jx 2 (a71 (sV 0) oN (oS (sV 1))))
 (um (sA wy (aj (s2 iy (sMS a69 (sV 2) (aj (sC (.str "\n")) dq)) (sC (.int 1))) (aj (s2 a07 (sV 1) (sMS a6a (sV 2) (aj (sC (.str "\n")) dq))) dq)))))
noncomputable def mq(bj:SF):SE :=
 (s2 iy (sA qj (aj (sV 0) dq)) (sC (.int 1)))
noncomputable def jo(bj:SF):SS :=
 (j5 (jx 3 (sZ (sMS a3g (sV 0) (aj (sC (.str "\n")) dq))))
 (j5 (sIf (sOr (a09 (yt (sA (jd false 3 bj) (aj (sV 1) (aj (sC (.int 1)) (aj (sA qj (aj (sV 3) dq)) dq)))))) (a09 (yt (sA (jd false 3 bj) (aj (sV 2) (aj (sC (.int 1)) (aj (s2 iy (sA qj (aj (s2 gIx (sV 3) (s2 a07 (sV 1) (sC (.int 1)))) dq)) (sC (.int 1))) dq)))))))
 (a66 "NoPlace" (aj (sC (.str "no place has this spot")) dq))
 sNx)
 (um (s2 a07 (s2 iy (sA acg (aj (sZ (v4 (sIt (sZ (a71 (sV 3) oN (oS (s2 a07 (sV 1) (sC (.int 1))))))) t1 (mq bj) [])) dq)) (sV 2)) (sC (.int 1))))))
noncomputable def yc(ie:SF):SE :=
 (sA wy (aj (sV 0) (aj (sA (jd false 2 ie) (aj (sV 3) (aj (sV 1) dq))) (aj (sA (jd false 2 ie) (aj (sV 3) (aj (sV 2) dq))) dq))))
noncomputable def a1y(ie:SF):SS :=
 (um (v4 (sIt (sV 1)) (tN 3) (yc ie) [0]))
noncomputable def p7(ak:SF)(gw:SF):SS :=
 (j5 (jx 5 (sA (jd false 2 ak) (aj (sV 0) (aj (sC (.int 142)) dq))))
 (ady 3 xj (a81 (sT (s2 gLt (sV 5) (sC (.int 95)))) (s2 gIx (sV 2) (sV 5)) (sC (.str "\n")))))
noncomputable def qw(ak:SF)(gw:SF):SS :=
 (j5 (jx 1 (sA (jd false 2 ak) (aj (sV 0) (aj (sC (.int 31)) dq))))
 (j5 (sIf (sT (s2 hEq (sA (jd false 2 ak) (aj (sV 0) (aj (sC (.int 6)) dq))) (sC (.int 0))))
 (jx 1 (sA (jd false 2 ak) (aj (sV 0) (aj (sC (.int 241)) dq))))
 sNx)
 (j5 (jx 2 (sA (jd false 0 gw) dq))
 (j5 (jx 3 (sC (.str "")))
 (j5 (a9x (sRg a1h (aj (sV 1) dq)) (kN 4) (p7 ak gw))
 (um (sV 3)))))))
noncomputable def p8:SS :=
 (j5 (afr (s2 gIx (sV 1) (s1 ae8 (sC (.int 1)))) (ahg 2 (a3y (kN 3) (a3y (kN 4) ajs))))
 (a1f (sML aas (sV 1) (aj (a81 (sT (s2 hEq (sV 2) (sC (.str "\n")))) (sA wy (aj (s2 iy (sV 3) (sC (.int 1))) (aj (sC (.int 1)) dq))) (sA wy (aj (sV 3) (aj (s2 iy (sV 4) (sC (.int 1))) dq)))) dq))))
noncomputable def qx:SS :=
 (j5 (jx 1 (sA a83 (aj (sA wy (aj (sC (.int 1)) (aj (sC (.int 1)) dq))) dq)))
 (j5 (a9x (sIt (sV 0)) (kN 2) p8)
 (um (sV 1))))
noncomputable def ud(ak:SF):ST :=
 (a3m (sT (s2 gLt (sV 3) (sV 1))) (sT (s2 gLt (sA qj (aj (sV 2) dq)) (sC (.int 12)))))
noncomputable def nu(ak:SF):SS :=
 (j5 (jx 4 (sA a6y (aj (sV 1) (aj (s2 iy (s2 iy (sV 3) (sC (.int 1))) (sA (jd false 2 ak) (aj (sV 0) (aj (sC (.int 9)) dq)))) dq))))
 (j5 (a1f (sML aas (sV 2) (aj (sA wy (aj (sA (jd false 2 ak) (aj (sV 0) (aj (sC (.int 6)) dq))) (aj (sV 3) (aj (sV 4) dq)))) dq)))
 (jx 3 (sV 4))))
noncomputable def ou(ak:SF):SS :=
 (j5 (jx 2 (sA a83 dq))
 (j5 (jx 3 (sC (.int 0)))
 (j5 (sWh (ud ak) (nu ak) 100000)
 (um (sV 2)))))
noncomputable def lq(fj:SF):SS :=
 (j5 (afv 3 mj
 (jx 4 (sA (a0d 3 fj) (qA (aj (sV 0) (aj (sV 1) (aj (sV 2) dq))))))
 (j5 (sIf (a3m (yt (a79 3 wj)) (a3m (yt (a79 3 oh)) (a09 (yt (a79 3 ik)))))
 (um (sC .non))
 sNx)
 a8m))
 (um (sV 4)))
noncomputable def lz(ao:SF):SS :=
 (j5 (sIf (sOr (a09 (yt (sA j8 (aj (s2 gIx (sV 0) (sV 3)) (aj (sC (.ty "tuple")) dq))))) (sOr (sT (s2 hNe (sA qj (aj (s2 gIx (sV 0) (sV 3)) dq)) (sC (.int 3)))) (a09 (yt (sA (jd false 2 ao) (aj (a71 (s2 gIx (sV 0) (sV 3)) oN (oS (sC (.int 1)))) (aj (sC (.int 1)) dq)))))))
 a8m
 sNx)
 (sIf (sOr (a09 (yt (sA (jd false 2 ao) (aj (s2 gIx (s2 gIx (sV 0) (sV 3)) (sC (.int 1))) (aj (sC (.int 2)) dq))))) (sOr (a09 (yt (sA (jd false 2 ao) (aj (s2 gIx (s2 gIx (sV 0) (sV 3)) (sC (.int 2))) (aj (sC (.int 2)) dq))))) (sT (s2 hNe (s2 gIx (sV 0) (sV 3)) (s2 gIx (sV 1) (sV 3))))))
 a8m
 sNx))
noncomputable def my(ao:SF):SS :=
 (j5 (sIf (sOr (a09 (yt (sA j8 (aj (sV 0) (aj (sC (.ty "list")) dq))))) (sT (s2 hNe (sA qj (aj (sV 0) dq)) (sA qj (aj (sV 1) dq)))))
 a8m
 sNx)
 (j5 (a9x (sRg a1h (aj (sA qj (aj (sV 1) dq)) dq)) (kN 3) (lz ao))
 (um (sC (.bl true)))))
noncomputable def zc(bh:SF)(ak:SF)(bz:SF)(ao:SF)(bw:SF)(bf:SF)(bu:SF)(c7:SF)(ie:SF)(g8:SF):SS :=
 (j5 (sIf (sOr (a09 (yt (sA (jd false 2 ao) (aj (sA (jd false 2 ie) (aj (sV 3) (aj (sV 6) dq))) (aj (sC (.int 2)) dq))))) (sT (s2 hNe (sA (jd false 2 ie) (aj (sV 3) (aj (sV 6) dq))) (s2 gIx (sV 4) (sV 6)))))
 a8m
 sNx)
 (j5 (jx 7 (sA (jd false 3 bf) (aj (sV 3) (aj (s2 gIx (s2 gIx (sV 4) (sV 6)) (sC (.int 0))) (aj (s2 gIx (s2 gIx (sV 4) (sV 6)) (sC (.int 1))) dq)))))
 (sIf (sOr (a09 (yt (sA (jd false 2 ao) (aj (sA wy (aj (sV 7) dq)) (aj (sC (.int 1)) dq))))) (sT (s2 hNe (sV 7) (sV 6))))
 a8m
 sNx)))
noncomputable def a1z(bh:SF)(ak:SF)(bz:SF)(ao:SF)(bw:SF)(bf:SF)(bu:SF)(c7:SF)(ie:SF)(g8:SF):SE :=
 (sV 1)
noncomputable def wk(bh:SF)(ak:SF)(bz:SF)(ao:SF)(bw:SF)(bf:SF)(bu:SF)(c7:SF)(ie:SF)(g8:SF):SS :=
 (j5 (jx 9 (sA wy (aj (s2 a07 (sA (jd false 2 ak) (aj (sV 1) (aj (s2 iy (s2 gIx (s2 gIx (sV 4) (s1 ae8 (sC (.int 1)))) (sC (.int 0))) (sC (.int 4))) dq))) (sC (.int 1))) (aj (s2 a07 (sA (jd false 2 ak) (aj (sV 1) (aj (s2 iy (sA a4f (aj (sZ (v4 (sIt (sV 4)) (tN 2) (a1z bh ak bz ao bw bf bu c7 ie g8) [])) dq)) (sC (.int 4))) dq))) (sC (.int 1))) dq))))
 (j5 (jx 10 (a81 (sT (s2 aiv (sV 9) (sV 4))) (sML a06 (sV 4) (aj (sV 9) dq)) (sC .non)))
 (sIf (sT (s2 hNe (sA (jd false 3 bf) (aj (sV 3) (aj (s2 gIx (sV 9) (sC (.int 0))) (aj (s2 gIx (sV 9) (sC (.int 1))) dq)))) (sV 10)))
 a8m
 sNx)))
noncomputable def a2a(bh:SF)(ak:SF)(bz:SF)(ao:SF)(bw:SF)(bf:SF)(bu:SF)(c7:SF)(ie:SF)(g8:SF):SE :=
 (sA wy (aj (sV 0) (aj (s2 gIx (sV 3) (sV 1)) (aj (s2 gIx (sV 3) (sV 2)) dq))))
noncomputable def abi(bh:SF)(ak:SF)(bz:SF)(ao:SF)(bw:SF)(bf:SF)(bu:SF)(c7:SF)(ie:SF)(g8:SF):SS :=
 (j5 (jx 1 (sA (jd true 1 bu) (aj (sV 0) dq)))
 (j5 (jx 2 (s2 gIx (sA wy (aj (sC .non) (aj (sC (.bl true)) (aj (sC (.bl false)) (aj (sC (.str "1")) (aj (sA wy (aj (sC (.int 1)) dq)) (aj (sZ (sA a83 (aj (sC (.int 1)) dq))) (aj (sZ aaw) dq)))))))) (sA (jd false 2 ak) (aj (sV 1) (aj (sC (.int 7)) dq)))))
 (j5 (jx 3 (sA (jd false 1 bz) (aj (sV 1) dq)))
 (j5 (jx 4 (sA (jd false 1 c7) (aj (sV 3) dq)))
 (j5 (jx 5 (sA (jd false 2 ak) (aj (sV 1) (aj (sA qj (aj (sV 4) dq)) dq))))
 (j5 (a9x (sIt (sZ (sA a83 (aj (sV 5) (aj (sC (.int 0)) (aj (sA qj (aj (sV 3) dq)) (aj (sA (jd false 2 ak) (aj (sV 1) (aj (sA qj (aj (sV 4) dq)) dq))) dq))))))) (kN 6) (zc bh ak bz ao bw bf bu c7 ie g8))
 (j5 (a9x (sRg a1h (aj (sC (.int 6)) dq)) (kN 8) (wk bh ak bz ao bw bf bu c7 ie g8))
 (j5 (sIf (sOr (sT (s2 a00 (sA (jd false 3 bf) (aj (sV 3) (aj (sV 2) (aj (sC (.int 1)) dq)))) (sC .non))) (sT (s2 a00 (sA (jd false 3 bf) (aj (sV 3) (aj (sC (.int 1)) (aj (sV 2) dq)))) (sC .non))))
 a8m
 sNx)
 (j5 (jx 11 (sA (jd false 2 bw) (aj (sV 1) (aj (sA (jd false 2 ak) (aj (sV 1) (aj (s2 iy (sA qj (aj (sV 3) dq)) (sC (.int 1))) dq))) dq))))
 (j5 (jx 10 (sZ (v4 (sIt (sV 11)) (tN 3) (a2a bh ak bz ao bw bf bu c7 ie g8) [4])))
 (j5 (jx 12 (sA (jd false 2 g8) (aj (sV 3) (aj (sZ (sA yr (aj (sV 11) dq))) dq))))
 (j5 (jx 7 (sA (jd true 2 g8) (aj (sV 3) (aj (sZ (sA yr (aj (sV 11) dq))) dq))))
 (j5 (a1f (sML aas (sV 7) (aj (sC .non) dq)))
 (j5 (a1f (sML a2w (sV 7) (aj (sC (.int 0)) dq)))
 (j5 (jx 13 (sZ (sA yr (aj (sV 11) dq))))
 (j5 (sIf (sOr (a09 (yt (sA (jd false 3 bh) (aj (sA (jd false 2 g8) (aj (sV 3) (aj (sV 11) dq))) (aj (sV 10) (aj (sC (.int 3)) dq)))))) (sT (s2 (aiq true) (sV 11) (sV 13))))
 a8m
 sNx)
 (um (sA (jd false 3 bh) (aj (sV 12) (aj (sV 10) (aj (sC (.int 3)) dq)))))))))))))))))))))
def top(i:Nat):Stmt:=PySem.Challenge.pw_nearreach_k37_spots_there_and_back.main.body.getD i (.Pass ⟨0,0,0,0⟩)
structure Nm (mg:Str->Option Value):Prop where
 ValueError:mg "ValueError" = none
 abs:mg "abs" = none
 bool:mg "bool" = none
 int:mg "int" = none
 isinstance:mg "isinstance" = none
 len:mg "len" = none
 list:mg "list" = none
 max:mg "max" = none
 min:mg "min" = none
 range:mg "range" = none
 sum:mg "sum" = none
 tuple:mg "tuple" = none
structure Xn (K:PySem.W.Frag) (mg:Str->Option Value) (y_NoPlace y_ReachError y_NoBook y_NoText y_Unlike:Addr):Prop where
 g_NoPlace:mg "NoPlace" = some (.ref y_NoPlace)
 g_ReachError:mg "ReachError" = some (.ref y_ReachError)
 g_NoBook:mg "NoBook" = some (.ref y_NoBook)
 g_NoText:mg "NoText" = some (.ref y_NoText)
 g_Unlike:mg "Unlike" = some (.ref y_Unlike)
 n_NoPlace:PySem.W.nsIn K mainGlobals "NoPlace" = some (some (.ref y_NoPlace))
 c_NoPlace:XCls K y_NoPlace
 k_NoPlace:XKit K y_NoPlace
 e_NoPlace_ReachError:PySem.W.exmOne K (.ref y_NoPlace) (.ref y_ReachError)=some true
 i_NoPlace_NoBook_NoText_Unlike:PySem.W.kitAny K (.ref y_NoPlace) [.ref y_NoBook, .ref y_NoText, .ref y_Unlike]=some false
 i_NoPlace_ValueError:PySem.W.kitOne K (.ref y_NoPlace) (.type "ValueError")=some true
 i_NoPlace_NoPlace:PySem.W.kitOne K (.ref y_NoPlace) (.ref y_NoPlace)=some true
section
variable{K:PySem.W.Frag}{mg:Str->Option Value}{y_NoPlace y_ReachError y_NoBook y_NoText y_Unlike:Addr}
theorem a0e(Z:Xn K mg y_NoPlace y_ReachError y_NoBook y_NoText y_Unlike):∀ c,mj c=true->∃ C,mg c=some (.ref C)/\PySem.W.nsIn K mainGlobals c=some (some (.ref C))/\PySem.W.exmOne K (.ref C) (.ref y_ReachError)=some true:=by
 intro c h
 simp only [mj,Bool.or_eq_true,decide_eq_true_eq] at h;subst h
 ·exact ⟨_,Z.g_NoPlace,Z.n_NoPlace,Z.e_NoPlace_ReachError⟩
theorem qy(Z:Xn K mg y_NoPlace y_ReachError y_NoBook y_NoText y_Unlike):∀ c b C,ik c=some b->PySem.W.nsIn K mainGlobals c=some (some (.ref C))->XKit K C/\PySem.W.kitAny K (.ref C) ([y_NoBook,y_NoText,y_Unlike].map Value.ref)=some b:=by
 intro c b C h q
 unfold ik at h
 by_cases e_NoPlace:c = "NoPlace"
 ·subst e_NoPlace;rw [if_pos rfl] at h;cases h;cases Z.n_NoPlace.symm.trans q;exact ⟨Z.k_NoPlace,Z.i_NoPlace_NoBook_NoText_Unlike⟩
 rw [if_neg e_NoPlace] at h;cases h
theorem a2b(Z:Xn K mg y_NoPlace y_ReachError y_NoBook y_NoText y_Unlike):∀ c b C,oh c=some b->PySem.W.nsIn K mainGlobals c=some (some (.ref C))->XKit K C/\PySem.W.kitOne K (.ref C) (.type "ValueError")=some b:=by
 intro c b C h q
 unfold oh at h
 by_cases e_NoPlace:c = "NoPlace"
 ·subst e_NoPlace;rw [if_pos rfl] at h;cases h;cases Z.n_NoPlace.symm.trans q;exact ⟨Z.k_NoPlace,Z.i_NoPlace_ValueError⟩
 rw [if_neg e_NoPlace] at h;cases h
theorem a74(Z:Xn K mg y_NoPlace y_ReachError y_NoBook y_NoText y_Unlike):∀ c b C,wj c=some b->PySem.W.nsIn K mainGlobals c=some (some (.ref C))->XKit K C/\PySem.W.kitOne K (.ref C) (.ref y_NoPlace)=some b:=by
 intro c b C h q
 unfold wj at h
 by_cases e_NoPlace:c = "NoPlace"
 ·subst e_NoPlace;rw [if_pos rfl] at h;cases h;cases Z.n_NoPlace.symm.trans q;exact ⟨Z.k_NoPlace,Z.i_NoPlace_NoPlace⟩
 rw [if_neg e_NoPlace] at h;cases h
end
section
variable{P:Program}{w:World}{K:PySem.W.Frag}{mg:Str->Option Value}{base:Heap}{f:Addr}
theorem am6:FnScope ["thing"] ["thing"] (aq (top 7)):=⟨rfl,rfl,rfl,by decide +kernel,rfl,by decide +kernel,by decide +kernel⟩
theorem m_0{k:Nat}(M:Nm mg)(cdv:Value)(A:Around)(outer:List Env)(s:Shared)(H:Hp)(E:XK)(hr:Room k (A.deeper (PyProof.Rows.envOfC "is_number" (aq (top 7)) s.heap.objs.size f cdv))):MSs (zm CX0 P w K mg base ["thing"] "is_number" (aq (top 7)) f cdv A outer s H E).nox X0 (gq (top 7)) (km) :=
 have SC:=am6
 (fu (jr (ac4 (lr (L2.CallR.or jk jc) qu rfl M.isinstance gj (aa (dg 0) (aa (a3w rfl M.int a7y) au))) (ac3 (ahd (lr (L2.CallR.or jk jc) qu rfl M.isinstance gj (aa (dg 0) (aa (a3w rfl M.bool a8h) au))))))))
theorem am7:FnScope ["thing", "low", "high"] ["thing", "low", "high"] (aq (top 8)):=⟨rfl,rfl,rfl,by decide +kernel,rfl,by decide +kernel,by decide +kernel⟩
theorem m_1{k:Nat}{a_0:Addr}{d_0:FuncData}{k_0:Nat}{F_0:SF}(D_0:Dn P w K mg base k_0 "is_number" ["thing"] (rz K 1 F_0) a_0 d_0)(h_0:k_0<=k)(cdv:Value)(A:Around)(outer:List Env)(s:Shared)(H:Hp)(E:XK)(hr:Room k (A.deeper (PyProof.Rows.envOfC "is_number_from" (aq (top 8)) s.heap.objs.size f cdv))):MSs (zm CX0 P w K mg base ["thing", "low", "high"] "is_number_from" (aq (top 8)) f cdv A outer s H E).nox X0 (gq (top 8)) (iu F_0) :=
 have SC:=am7
 (fu (jr (ac4 (cu false D_0 (hr.mono h_0) rfl (aa (dg 0) au)) (ac3 (aan (ags.or a2q) (ags.or a2q) ace ace (dg 1) (dg 0) (dg 2))))))
theorem am8:FnScope ["text", "at", "ahead"] ["text", "at"] (aq (top 10)):=⟨rfl,rfl,rfl,by decide +kernel,rfl,by decide +kernel,by decide +kernel⟩
theorem m_2{k:Nat}(cdv:Value)(A:Around)(outer:List Env)(s:Shared)(H:Hp)(E:XK)(hr:Room k (A.deeper (PyProof.Rows.envOfC "spot" (aq (top 10)) s.heap.objs.size f cdv))):MSs (zm CX0 P w K mg base ["text", "at", "ahead"] "spot" (aq (top 10)) f cdv A outer s H E).nox X0 (gq (top 10)) (a6d) :=
 have SC:=am8
 (bc (j4 (i:=2) SC.nd rfl (Or.inl rfl) (vy (dg 0) a1i (a1j (dg 1))))
 (fu (jr (u5 (aa (jb (aec PySem.F.slot_str_count PySem.F.type_str_count abf a8x (dg 2) (aa ut au)) az) (aa (a0n (dg 1) (aec PySem.F.slot_str_rfind PySem.F.type_str_rfind abg a8y (dg 2) (aa ut au))) au))))))
theorem am9:FnScope ["text", "line", "column", "lines"] ["text", "line", "column"] (aq (top 11)):=⟨rfl,rfl,rfl,by decide +kernel,rfl,by decide +kernel,by decide +kernel⟩
theorem m_3{k:Nat}(M:Nm mg){y_NoPlace y_ReachError y_NoBook y_NoText y_Unlike:Addr}(Z:Xn K mg y_NoPlace y_ReachError y_NoBook y_NoText y_Unlike){a_1:Addr}{d_1:FuncData}{k_1:Nat}{F_1:SF}(D_1:Dn P w K mg base k_1 "is_number_from" ["thing", "low", "high"] (rz K 3 F_1) a_1 d_1)(h_1:k_1<=k)(cdv:Value)(A:Around)(outer:List Env)(s:Shared)(H:Hp)(E:XK)(hr:Room k (A.deeper (PyProof.Rows.envOfC "place_at" (aq (top 11)) s.heap.objs.size f cdv))):MSs (cxE P w K mg base ["text", "line", "column", "lines"] "place_at" (aq (top 11)) f cdv A outer s H E) (acs mg E) (gq (top 11)) (jo F_1) :=
 have SC:=am9
 (bc (j4 (i:=3) SC.nd rfl (Or.inl rfl) (a8k (aec PySem.F.slot_str_split PySem.F.type_str_split abh a8z (dg 0) (aa ut au))))
 (bc (uo (PW.pt (yq (qd (m5 (a65 false D_1 (hr.mono h_1) rfl (aa (dg 1) (aa az (aa (lr (L2.CallR.or du dw) jt rfl M.len o6 (aa (dg 3) au)) au)))))) (uv (qd (m5 (a65 false D_1 (hr.mono h_1) rfl (aa (dg 2) (aa az (aa (jb (lr (L2.CallR.or du dw) jt rfl M.len o6 (aa (dj (dg 3) (a0n (dg 1) az) (λ_ _=>rfl)) au)) az) au)))))))))
 (fu (abb Z.c_NoPlace rfl Z.g_NoPlace (aa ut au)))
 jm)
 (fu (jr (a0n (jb (lr (a0h rfl) a8e rfl M.sum ach (aa (a8k (a4b rfl (CSc.noFree (ts:=["other"]) rfl (by decide +kernel) (by decide +kernel) (by decide +kernel)) (yh (a8k (vy (dg 3) a1i (a1j (a0n (dg 1) az))))) (λ_ _ _ _=>(mz (i:=0) (show (["other"]:List Str).Nodup by decide +kernel) rfl (Or.inl rfl) (.inr rfl))) aca (λ_ _ _ _=>(jb (lr (L2.CallR.or du dw) jt rfl M.len o6 (aa (dg 0) au)) az)))) au)) (dg 2)) az)))))
theorem ama:FnScope ["text", "pieces"] ["text", "pieces"] (aq (top 12)):=⟨rfl,rfl,rfl,by decide +kernel,rfl,by decide +kernel,by decide +kernel⟩
theorem m_4{k:Nat}{a_2:Addr}{d_2:FuncData}{k_2:Nat}{F_2:SF}(D_2:Dn P w K mg base k_2 "spot" ["text", "at"] (rz K 2 F_2) a_2 d_2)(h_2:k_2<=k)(cdv:Value)(A:Around)(outer:List Env)(s:Shared)(H:Hp)(E:XK)(hr:Room k (A.deeper (PyProof.Rows.envOfC "spots" (aq (top 12)) s.heap.objs.size f cdv))):MSs (zm CX0 P w K mg base ["text", "pieces"] "spots" (aq (top 12)) f cdv A outer s H E).nox X0 (gq (top 12)) (a1y F_2) :=
 have SC:=ama
 (fu (jr (a4b rfl (CSc.of (ts:=["kind", "start", "end"]) (fr:=["text"]) (ix:=[0]) rfl rfl rfl rfl (by intro p hp;cases List.mem_singleton.mp hp;rfl) rfl rfl rfl rfl) (yh (dg 1)) (λ_ _ _ _=>a4v rfl (m7 (mz (i:=0) (show (["kind", "start", "end", "text"]:List Str).Nodup by decide +kernel) rfl (Or.inl rfl) (.inr rfl)) (m7 (mz (i:=1) (show (["kind", "start", "end", "text"]:List Str).Nodup by decide +kernel) rfl (Or.inl rfl) (.inr rfl)) (m7 (mz (i:=2) (show (["kind", "start", "end", "text"]:List Str).Nodup by decide +kernel) rfl (Or.inl rfl) (.inr rfl)) a0y)))) a5h (λ_ _ _ _=>(u5 (aa (dg 0) (aa (cu false D_2 (hr.mono h_2) rfl (aa (dg 3) (aa (dg 1) au))) (aa (cu false D_2 (hr.mono h_2) rfl (aa (dg 3) (aa (dg 2) au))) au))))))))
theorem amb:FnScope ["_law_script", "_law_cells"] ["_law_script"] (aq (top 14)):=⟨rfl,rfl,rfl,by decide +kernel,rfl,by decide +kernel,by decide +kernel⟩
theorem m_5{k:Nat}(M:Nm mg)(cdv:Value)(A:Around)(outer:List Env)(s:Shared)(H:Hp)(E:XK)(hr:Room k (A.deeper (PyProof.Rows.envOfC "_law_source" (aq (top 14)) s.heap.objs.size f cdv))):MSs (zm CX0 P w K mg base ["_law_script", "_law_cells"] "_law_source" (aq (top 14)) f cdv A outer s H E).nox X0 (gq (top 14)) (SRC.o9) :=
 have SC:=amb
 (bc (a5s (i:=1) SC.nd rfl (Or.inl rfl) rfl (CSc.noFree (ts:=["_law_cell"]) rfl (by decide +kernel) (by decide +kernel) (by decide +kernel)) (yh (a8k (vy (dg 0) a1i (a1j az)))) (λ_ _ _ _=>(mz (i:=0) (show (["_law_cell"]:List Str).Nodup by decide +kernel) rfl (Or.inl rfl) (.inr rfl))) aca (λ_ _ _ _=>(jb (a1q az (lr aa8 ae9 rfl M.abs ah9 (aa (dg 0) au))) (a1e a7l aea rfl M.int a7y (aa (adv (a7i.or t6) a2u (dg 0) az (jn _)) au)))))
 (fu (jr (a2t (aa (dg 1) (aa az (aa az (aa az (aa (a0o (lr (a0h rfl) a8e rfl M.sum ach (aa (dg 1) au)) az) au)))))))))
theorem amc:FnScope ["_law_left", "_law_many", "_law_cell", "_law_told"] ["_law_left", "_law_many"] (aq (top 15)):=⟨rfl,rfl,rfl,by decide +kernel,rfl,by decide +kernel,by decide +kernel⟩
theorem m_6{k:Nat}(M:Nm mg)(cdv:Value)(A:Around)(outer:List Env)(s:Shared)(H:Hp)(E:XK)(hr:Room k (A.deeper (PyProof.Rows.envOfC "_law_draw" (aq (top 15)) s.heap.objs.size f cdv))):MSs (zm CX0 P w K mg base ["_law_left", "_law_many", "_law_cell", "_law_told"] "_law_draw" (aq (top 15)) f cdv A outer s H E).nox X0 (gq (top 15)) (SRC.ul) :=
 have SC:=amc
 (bc (a4e (dg 0) az az (a3o.or uy) a1n)
 (bc (uo (PW.pt (a5e (j6 (a8g hr.u) a4d (dj (dg 0) az (λ_ _=>rfl)) az (jn _)) (a3x (j6 (a7i.or t6) a2u (dj (dg 0) az (λ_ _=>rfl)) (lr (L2.CallR.or du dw) jt rfl M.len o6 (aa (dj (dg 0) az (λ_ _=>rfl)) au)) (jn _)))))
 (bc (j4 (i:=2) SC.nd rfl (Or.inl rfl) (dj (dj (dg 0) az (λ_ _=>rfl)) (dj (dg 0) az (λ_ _=>rfl)) (λ_ _=>rfl)))
 (bc (a4e (dg 0) az az (a3o.or uy) a1n)
 (fu (uo (j6 akg ahr (dg 2) (a89 az az) (jn _))
 (fu (ac6 (dg 2) (dg 0) az))
 (fu (ac6 (a0o (jb (a1q (dj (dg 0) az (λ_ _=>rfl)) az) (dg 2)) az) (dg 0) az))))))
 jm)
 (bc (uo (j6 akf ahq (dj (dg 0) az (λ_ _=>rfl)) az (jn _))
 (bc (j4 (i:=3) SC.nd rfl (Or.inl rfl) (a0o (dj (dg 0) az (λ_ _=>rfl)) (dg 1)))
 (bc (a4e (dg 0) az (dg 1) aa5 a88)
 (fu (jr (dg 3)))))
 jm)
 (bc (j4 (i:=3) SC.nd rfl (Or.inl rfl) (a0o (a89 (jb (jb (dj (dg 0) az (λ_ _=>rfl)) az) (a1q (dj (dg 0) az (λ_ _=>rfl)) az)) az) az))
 (fu (jr (a0o (ahp (a0o (a89 (jb (a1q (dg 3) az) (dj (dg 0) az (λ_ _=>rfl))) az) az) az) (dg 1))))))))
theorem amd:FnScope ["_law_some"] [] (aq (top 16)):=⟨rfl,rfl,rfl,by decide +kernel,rfl,by decide +kernel,by decide +kernel⟩
theorem m_7{k:Nat}(cdv:Value)(A:Around)(outer:List Env)(s:Shared)(H:Hp)(E:XK)(hr:Room k (A.deeper (PyProof.Rows.envOfC "_law_signs" (aq (top 16)) s.heap.objs.size f cdv))):MSs (zm CX0 P w K mg base ["_law_some"] "_law_signs" (aq (top 16)) f cdv A outer s H E).nox X0 (gq (top 16)) (SRC.nq) :=
 have SC:=amd
 (bc (j4 (i:=0) SC.nd rfl (Or.inl rfl) ut)
 (fu (jr (jb (dg 0) ut))))
theorem ame:FnScope ["_law_found", "_law_many", "_law_one"] ["_law_found", "_law_many"] (aq (top 18)):=⟨rfl,rfl,rfl,by decide +kernel,rfl,by decide +kernel,by decide +kernel⟩
theorem m_8{k:Nat}(M:Nm mg)(cdv:Value)(A:Around)(outer:List Env)(s:Shared)(H:Hp)(E:XK)(hr:Room k (A.deeper (PyProof.Rows.envOfC "_law_numbers" (aq (top 18)) s.heap.objs.size f cdv))):MSs (zm CX0 P w K mg base ["_law_found", "_law_many", "_law_one"] "_law_numbers" (aq (top 18)) f cdv A outer s H E).nox X0 (gq (top 18)) (SRC.m9) :=
 have SC:=ame
 (bc (uo (PW.pt (yq (qd (m5 (lr (L2.CallR.or jk jc) qu rfl M.isinstance gj (aa (dg 0) (aa (a3w rfl M.tuple a5b) au))))) (uv (j6 (a01 hr.u) v5 (lr (L2.CallR.or du dw) jt rfl M.len o6 (aa (dg 0) au)) (dg 1) (jn _)))))
 (fu (jr a6w))
 jm)
 (bc (a0k PassesOwn.never rfl (yh (dg 0)) (u6 (i:=2) SC.nd rfl (Or.inl rfl)) (fu (uo (PW.pt (yq (qd (m5 (lr (L2.CallR.or jk jc) qu rfl M.isinstance gj (aa (dg 2) (aa (a3w rfl M.int a7y) au))))) (uv (m5 (lr (L2.CallR.or jk jc) qu rfl M.isinstance gj (aa (dg 2) (aa (a3w rfl M.bool a8h) au)))))))
 (fu (jr a6w))
 jm)))
 (fu (jr a6w))))
theorem amf:FnScope ["_law_left", "_law_many", "_law_signs_here", "_law_text", "_law_k", "_law_at"] ["_law_left"] (aq (top 19)):=⟨rfl,rfl,rfl,by decide +kernel,rfl,by decide +kernel,by decide +kernel⟩
theorem m_9{k:Nat}(M:Nm mg){a_6:Addr}{d_6:FuncData}{k_6:Nat}{F_6:SF}(D_6:Dn P w K mg base k_6 "_law_draw" ["_law_left", "_law_many"] (rz K 2 F_6) a_6 d_6)(h_6:k_6<=k){a_7:Addr}{d_7:FuncData}{k_7:Nat}{F_7:SF}(D_7:Dn P w K mg base k_7 "_law_signs" [] (rz K 0 F_7) a_7 d_7)(h_7:k_7<=k)(cdv:Value)(A:Around)(outer:List Env)(s:Shared)(H:Hp)(E:XK)(hr:Room k (A.deeper (PyProof.Rows.envOfC "_law_lines" (aq (top 19)) s.heap.objs.size f cdv))):MSs (zm CX0 P w K mg base ["_law_left", "_law_many", "_law_signs_here", "_law_text", "_law_k", "_law_at"] "_law_lines" (aq (top 19)) f cdv A outer s H E).nox X0 (gq (top 19)) (qw F_6 F_7) :=
 have SC:=amf
 (bc (j4 (i:=1) SC.nd rfl (Or.inl rfl) (cu false D_6 (hr.mono h_6) rfl (aa (dg 0) (aa az au))))
 (bc (uo (j6 (a8g hr.u) a4d (cu false D_6 (hr.mono h_6) rfl (aa (dg 0) (aa az au))) az (jn _))
 (fu (j4 (i:=1) SC.nd rfl (Or.inl rfl) (cu false D_6 (hr.mono h_6) rfl (aa (dg 0) (aa az au)))))
 jm)
 (bc (j4 (i:=2) SC.nd rfl (Or.inl rfl) (a8l false D_7 (hr.mono h_7) rfl))
 (bc (j4 (i:=3) SC.nd rfl (Or.inl rfl) ut)
 (bc (a0k PassesOwn.never rfl (a3z rfl M.range (aa (dg 1) au)) (u6 (i:=4) SC.nd rfl (Or.inl rfl)) (bc (j4 (i:=5) SC.nd rfl (Or.inl rfl) (cu false D_6 (hr.mono h_6) rfl (aa (dg 0) (aa az au))))
 (fu (ahf (i:=3) SC.nd rfl (Or.inl rfl) (a3o.or uy) a1n (a82 (j6 (a7i.or t6) a2u (dg 5) az (jn _)) (dj (dg 2) (dg 5) (λ_ _=>rfl)) ut)))))
 (fu (jr (dg 3))))))))
theorem aiw:FnScope ["_law_text", "_law_told", "_law_sign", "_law_line", "_law_column"] ["_law_text"] (aq (top 20)):=⟨rfl,rfl,rfl,by decide +kernel,rfl,by decide +kernel,by decide +kernel⟩
theorem ane{k:Nat}(cdv:Value)(A:Around)(outer:List Env)(s:Shared)(H:Hp)(E:XK)(hr:Room k (A.deeper (PyProof.Rows.envOfC "_law_spots" (aq (top 20)) s.heap.objs.size f cdv))):MSs (zm CX0 P w K mg base ["_law_text", "_law_told", "_law_sign", "_law_line", "_law_column"] "_law_spots" (aq (top 20)) f cdv A outer s H E).nox X0 (gq (top 20)) (qx) :=
 have SC:=aiw
 (bc (j4 (i:=1) SC.nd rfl (Or.inl rfl) (a2t (aa (u5 (aa az (aa az au))) au)))
 (bc (a0k PassesOwn.never rfl (yh (dg 0)) (u6 (i:=2) SC.nd rfl (Or.inl rfl)) (bc (ahi (dj (dg 1) (acd az) (λ_ _=>rfl)) (ahh rfl (a5m (u6 (i:=3) SC.nd rfl (Or.inl rfl)) (a5m (u6 (i:=4) SC.nd rfl (Or.inl rfl)) ae0))))
 (fu (a1g (a8c PySem.F.slot_list_append PySem.F.type_list_append zq a4c (dg 1) (aa (a82 (j6 (a8g hr.u) a4d (dg 2) ut (jn _)) (u5 (aa (jb (dg 3) az) (aa az au))) (u5 (aa (dg 3) (aa (jb (dg 4) az) au)))) au))))))
 (fu (jr (dg 1)))))
theorem aix:FnScope ["_law_left", "_law_many", "_law_told", "_law_place_here", "_law_end"] ["_law_left", "_law_many"] (aq (top 21)):=⟨rfl,rfl,rfl,by decide +kernel,rfl,by decide +kernel,by decide +kernel⟩
theorem anf{k:Nat}(M:Nm mg){a_6:Addr}{d_6:FuncData}{k_6:Nat}{F_6:SF}(D_6:Dn P w K mg base k_6 "_law_draw" ["_law_left", "_law_many"] (rz K 2 F_6) a_6 d_6)(h_6:k_6<=k)(cdv:Value)(A:Around)(outer:List Env)(s:Shared)(H:Hp)(E:XK)(hr:Room k (A.deeper (PyProof.Rows.envOfC "_law_pieces" (aq (top 21)) s.heap.objs.size f cdv))):MSs (zm CX0 P w K mg base ["_law_left", "_law_many", "_law_told", "_law_place_here", "_law_end"] "_law_pieces" (aq (top 21)) f cdv A outer s H E).nox X0 (gq (top 21)) (ou F_6) :=
 have SC:=aix
 (bc (j4 (i:=2) SC.nd rfl (Or.inl rfl) (a2t au))
 (bc (j4 (i:=3) SC.nd rfl (Or.inl rfl) az)
 (bc (aao 100000 PassesOwn.never (PW.pt (a5e (j6 (a7i.or t6) a2u (dg 3) (dg 1) (jn _)) (a3x (j6 (a7i.or t6) a2u (lr (L2.CallR.or du dw) jt rfl M.len o6 (aa (dg 2) au)) az (jn _))))) (bc (j4 (i:=4) SC.nd rfl (Or.inl rfl) (lr (a7k rfl) aar rfl M.min ahz (aa (dg 1) (aa (jb (jb (dg 3) az) (cu false D_6 (hr.mono h_6) rfl (aa (dg 0) (aa az au)))) au))))
 (bc (a1g (a8c PySem.F.slot_list_append PySem.F.type_list_append zq a4c (dg 2) (aa (u5 (aa (cu false D_6 (hr.mono h_6) rfl (aa (dg 0) (aa az au))) (aa (dg 3) (aa (dg 4) au)))) au)))
 (fu (j4 (i:=3) SC.nd rfl (Or.inl rfl) (dg 4))))))
 (fu (jr (dg 2))))))
theorem aiy:FnScope ["_law_text", "_law_line", "_law_column", "e", "_law_found"] ["_law_text", "_law_line", "_law_column"] (aq (top 22)):=⟨rfl,rfl,rfl,by decide +kernel,rfl,by decide +kernel,by decide +kernel⟩
theorem ang{k:Nat}(M:Nm mg){y_NoPlace y_ReachError y_NoBook y_NoText y_Unlike:Addr}(Z:Xn K mg y_NoPlace y_ReachError y_NoBook y_NoText y_Unlike){a_3:Addr}{d_3:FuncData}{k_3:Nat}{F_3:SF}(D_3:DnX P w K mg base k_3 "place_at" ["text", "line", "column"] (spX K mg 3 F_3) a_3 d_3)(h_3:k_3<=k)(cdv:Value)(A:Around)(outer:List Env)(s:Shared)(H:Hp)(E:XK)(hr:Room k (A.deeper (PyProof.Rows.envOfC "_law_place" (aq (top 22)) s.heap.objs.size f cdv))):MSs (zm CX0 P w K mg base ["_law_text", "_law_line", "_law_column", "e", "_law_found"] "_law_place" (aq (top 22)) f cdv A outer s H E).nox X0 (gq (top 22)) (lq F_3) :=
 have SC:=aiy
 (bc (aie (i:=3) ⟨rfl,Z.g_ReachError,SC.nd,rfl,rfl,⟨rfl,rfl⟩,by decide⟩ (a0e Z)
 (aid (i:=4) SC.nd rfl (Or.inl rfl) (aeu D_3 (hr.mono h_3) rfl (aa (dg 0) (aa (dg 1) (aa (dg 2) au)))))
 (λa=>(bc (uo (PW.pt (a5e (m5 (acv (i:=3) rfl M.isinstance gj rfl (Or.inl rfl) (a0x (v:=.ref y_NoPlace) rfl Z.g_NoPlace rfl) (.inl ⟨_,rfl,rfl⟩) (a74 Z))) (a5e (m5 (acv (i:=3) rfl M.isinstance gj rfl (Or.inl rfl) (a7d (v:=.ty "ValueError") rfl M.ValueError PyProof.Rows.Boot.«ValueError» rfl) (.inr ⟨_,rfl,rfl⟩) (a2b Z))) (a3x (qd (m5 (aev (i:=3) (cs:=[y_NoBook,y_NoText,y_Unlike]) rfl M.isinstance gj rfl (Or.inl rfl) (t7 (a0x (v:=.ref y_NoBook) rfl Z.g_NoBook rfl) (t7 (a0x (v:=.ref y_NoText) rfl Z.g_NoText rfl) (t7 (a0x (v:=.ref y_Unlike) rfl Z.g_Unlike rfl) a4x))) (λ_ _ _ q=>q) (a3u (by simp)) (qy Z))))))))
 (fu (jr a0j))
 jm)
 (fu akv))))
 (fu (jr (dg 4))))
theorem aiz:FnScope ["_law_found", "_law_due", "_law_many", "_law_k"] ["_law_found", "_law_due", "_law_many"] (aq (top 23)):=⟨rfl,rfl,rfl,by decide +kernel,rfl,by decide +kernel,by decide +kernel⟩
theorem anh{k:Nat}(M:Nm mg){a_8:Addr}{d_8:FuncData}{k_8:Nat}{F_8:SF}(D_8:Dn P w K mg base k_8 "_law_numbers" ["_law_found", "_law_many"] (rz K 2 F_8) a_8 d_8)(h_8:k_8<=k)(cdv:Value)(A:Around)(outer:List Env)(s:Shared)(H:Hp)(E:XK)(hr:Room k (A.deeper (PyProof.Rows.envOfC "_law_answers" (aq (top 23)) s.heap.objs.size f cdv))):MSs (zm CX0 P w K mg base ["_law_found", "_law_due", "_law_many", "_law_k"] "_law_answers" (aq (top 23)) f cdv A outer s H E).nox X0 (gq (top 23)) (my F_8) :=
 have SC:=aiz
 (bc (uo (PW.pt (yq (qd (m5 (lr (L2.CallR.or jk jc) qu rfl M.isinstance gj (aa (dg 0) (aa (a3w rfl M.list a1c) au))))) (uv (j6 (a01 hr.u) v5 (lr (L2.CallR.or du dw) jt rfl M.len o6 (aa (dg 0) au)) (lr (L2.CallR.or du dw) jt rfl M.len o6 (aa (dg 1) au)) (jn _)))))
 ym
 jm)
 (bc (a0k PassesOwn.never rfl (a3z rfl M.range (aa (lr (L2.CallR.or du dw) jt rfl M.len o6 (aa (dg 1) au)) au)) (u6 (i:=3) SC.nd rfl (Or.inl rfl)) (bc (uo (PW.pt (yq (qd (m5 (lr (L2.CallR.or jk jc) qu rfl M.isinstance gj (aa (dj (dg 0) (dg 3) (λ_ _=>rfl)) (aa (a3w rfl M.tuple a5b) au))))) (yq (j6 (a01 hr.u) v5 (lr (L2.CallR.or du dw) jt rfl M.len o6 (aa (dj (dg 0) (dg 3) (λ_ _=>rfl)) au)) az (jn _)) (uv (qd (m5 (cu false D_8 (hr.mono h_8) rfl (aa (vy (dj (dg 0) (dg 3) (λ_ _=>rfl)) a1i (a1j az)) (aa az au)))))))))
 ym
 jm)
 (fu (uo (PW.pt (yq (qd (m5 (cu false D_8 (hr.mono h_8) rfl (aa (dj (dj (dg 0) (dg 3) (λ_ _=>rfl)) az (λ_ _=>rfl)) (aa az au))))) (yq (qd (m5 (cu false D_8 (hr.mono h_8) rfl (aa (dj (dj (dg 0) (dg 3) (λ_ _=>rfl)) az (λ_ _=>rfl)) (aa az au))))) (uv (j6 (a01 hr.u) v5 (dj (dg 0) (dg 3) (λ_ _=>rfl)) (dj (dg 1) (dg 3) (λ_ _=>rfl)) (jn _))))))
 ym
 jm))))
 (fu (jr a6w))))
theorem aj0:FnScope ["_law_script", "_law_left", "_law_odd", "_law_text", "_law_due", "_law_at", "_law_place_here", "_law_found", "_law_k", "_law_one", "_law_wanted", "_law_pieces_here", "_law_held", "_law_kept"] ["_law_script"] (aq (top 24)):=⟨rfl,rfl,rfl,by decide +kernel,rfl,by decide +kernel,by decide +kernel⟩
theorem ani{k:Nat}(M:Nm mg){a_13:Addr}{d_13:FuncData}{k_13:Nat}{F_13:SF}(D_13:Dn P w K mg base k_13 "_law_answers" ["_law_found", "_law_due", "_law_many"] (rz K 3 F_13) a_13 d_13)(h_13:k_13<=k){a_6:Addr}{d_6:FuncData}{k_6:Nat}{F_6:SF}(D_6:Dn P w K mg base k_6 "_law_draw" ["_law_left", "_law_many"] (rz K 2 F_6) a_6 d_6)(h_6:k_6<=k){a_9:Addr}{d_9:FuncData}{k_9:Nat}{F_9:SF}(D_9:Dn P w K mg base k_9 "_law_lines" ["_law_left"] (rz K 1 F_9) a_9 d_9)(h_9:k_9<=k){a_8:Addr}{d_8:FuncData}{k_8:Nat}{F_8:SF}(D_8:Dn P w K mg base k_8 "_law_numbers" ["_law_found", "_law_many"] (rz K 2 F_8) a_8 d_8)(h_8:k_8<=k){a_11:Addr}{d_11:FuncData}{k_11:Nat}{F_11:SF}(D_11:Dn P w K mg base k_11 "_law_pieces" ["_law_left", "_law_many"] (rz K 2 F_11) a_11 d_11)(h_11:k_11<=k){a_12:Addr}{d_12:FuncData}{k_12:Nat}{F_12:SF}(D_12:Dn P w K mg base k_12 "_law_place" ["_law_text", "_law_line", "_law_column"] (rz K 3 F_12) a_12 d_12)(h_12:k_12<=k){a_5:Addr}{d_5:FuncData}{k_5:Nat}{F_5:SF}(D_5:Dn P w K mg base k_5 "_law_source" ["_law_script"] (rz K 1 F_5) a_5 d_5)(h_5:k_5<=k){a_10:Addr}{d_10:FuncData}{k_10:Nat}{F_10:SF}(D_10:Dn P w K mg base k_10 "_law_spots" ["_law_text"] (rz K 1 F_10) a_10 d_10)(h_10:k_10<=k){a_2:Addr}{d_2:FuncData}{k_2:Nat}{F_2:SF}(D_2:Dn P w K mg base k_2 "spot" ["text", "at"] (rz K 2 F_2) a_2 d_2)(h_2:k_2<=k){a_4:Addr}{d_4:FuncData}{k_4:Nat}{F_4:SF}(D_4:Dn P w K mg base k_4 "spots" ["text", "pieces"] (rz K 2 F_4) a_4 d_4)(h_4:k_4<=k)(cdv:Value)(A:Around)(outer:List Env)(s:Shared)(H:Hp)(E:XK)(hr:Room k (A.deeper (PyProof.Rows.envOfC "law" (aq (top 24)) s.heap.objs.size f cdv))):MSs (zm CX0 P w K mg base ["_law_script", "_law_left", "_law_odd", "_law_text", "_law_due", "_law_at", "_law_place_here", "_law_found", "_law_k", "_law_one", "_law_wanted", "_law_pieces_here", "_law_held", "_law_kept"] "law" (aq (top 24)) f cdv A outer s H E).nox X0 (gq (top 24)) (abi F_13 F_6 F_9 F_8 F_11 F_12 F_5 F_10 F_2 F_4) :=
 have SC:=aj0
 (bc (j4 (i:=1) SC.nd rfl (Or.inl rfl) (cu true D_5 (hr.mono h_5) rfl (aa (dg 0) au)))
 (bc (j4 (i:=2) SC.nd rfl (Or.inl rfl) (dj (u5 (aa a0j (aa a6w (aa a6w (aa ut (aa (u5 (aa az au)) (aa (a8k (a2t (aa az au))) (aa (a8k aee) au)))))))) (cu false D_6 (hr.mono h_6) rfl (aa (dg 1) (aa az au))) (λ_ _=>rfl)))
 (bc (j4 (i:=3) SC.nd rfl (Or.inl rfl) (cu false D_9 (hr.mono h_9) rfl (aa (dg 1) au)))
 (bc (j4 (i:=4) SC.nd rfl (Or.inr rfl) (cu false D_10 (hr.mono h_10) rfl (aa (dg 3) au)))
 (bc (j4 (i:=5) SC.nd rfl (Or.inl rfl) (cu false D_6 (hr.mono h_6) rfl (aa (dg 1) (aa (lr (L2.CallR.or du dw) jt rfl M.len o6 (aa (dg 4) au)) au))))
 (bc (a0k PassesOwn.never rfl (yh (a8k (a2t (aa (dg 5) (aa az (aa (lr (L2.CallR.or du dw) jt rfl M.len o6 (aa (dg 3) au)) (aa (cu false D_6 (hr.mono h_6) rfl (aa (dg 1) (aa (lr (L2.CallR.or du dw) jt rfl M.len o6 (aa (dg 4) au)) au))) au))))))) (u6 (i:=6) SC.nd rfl (Or.inl rfl)) (bc (uo (PW.pt (yq (qd (m5 (cu false D_8 (hr.mono h_8) rfl (aa (cu false D_2 (hr.mono h_2) rfl (aa (dg 3) (aa (dg 6) au))) (aa az au))))) (uv (j6 (a01 hr.u) v5 (cu false D_2 (hr.mono h_2) rfl (aa (dg 3) (aa (dg 6) au))) (dj (dg 4) (dg 6) (λ_ _=>rfl)) (jn _)))))
 ym
 jm)
 (bc (j4 (i:=7) SC.nd rfl (Or.inl rfl) (cu false D_12 (hr.mono h_12) rfl (aa (dg 3) (aa (dj (dj (dg 4) (dg 6) (λ_ _=>rfl)) az (λ_ _=>rfl)) (aa (dj (dj (dg 4) (dg 6) (λ_ _=>rfl)) az (λ_ _=>rfl)) au)))))
 (fu (uo (PW.pt (yq (qd (m5 (cu false D_8 (hr.mono h_8) rfl (aa (u5 (aa (dg 7) au)) (aa az au))))) (uv (j6 (a01 hr.u) v5 (dg 7) (dg 6) (jn _)))))
 ym
 jm)))))
 (bc (a0k PassesOwn.never rfl (a3z rfl M.range (aa az au)) (u6 (i:=8) SC.nd rfl (Or.inl rfl)) (bc (j4 (i:=9) SC.nd rfl (Or.inl rfl) (u5 (aa (a0n (cu false D_6 (hr.mono h_6) rfl (aa (dg 1) (aa (jb (dj (dj (dg 4) (acd az) (λ_ _=>rfl)) az (λ_ _=>rfl)) az) au))) az) (aa (a0n (cu false D_6 (hr.mono h_6) rfl (aa (dg 1) (aa (jb (lr (a6v rfl) ab2 rfl M.max ahy (aa (a8k (a4b rfl (CSc.noFree (ts:=["_law_line", "_law_column"]) rfl (by decide +kernel) (by decide +kernel) (by decide +kernel)) (yh (dg 4)) (λ_ _ _ _=>a4v rfl (m7 (mz (i:=0) (show (["_law_line", "_law_column"]:List Str).Nodup by decide +kernel) rfl (Or.inl rfl) (.inr rfl)) (m7 (mz (i:=1) (show (["_law_line", "_law_column"]:List Str).Nodup by decide +kernel) rfl (Or.inl rfl) (.inr rfl)) a0y))) ahm (λ_ _ _ _=>(dg 1)))) au)) az) au))) az) au))))
 (bc (j4 (i:=10) SC.nd rfl (Or.inl rfl) (a82 (j6 (aiu hr.u) aez (dg 9) (dg 4) (by with_unfolding_all rfl)) (a8c PySem.F.slot_list_index PySem.F.type_list_index (a93 hr.u) a73 (dg 4) (aa (dg 9) au)) a0j))
 (fu (uo (j6 (a01 hr.u) v5 (cu false D_12 (hr.mono h_12) rfl (aa (dg 3) (aa (dj (dg 9) az (λ_ _=>rfl)) (aa (dj (dg 9) az (λ_ _=>rfl)) au)))) (dg 10) (jn _))
 ym
 jm)))))
 (bc (uo (PW.pt (yq (j6 (a7j.or zu) a2v (cu false D_12 (hr.mono h_12) rfl (aa (dg 3) (aa (dg 2) (aa az au)))) a0j (jn _)) (uv (j6 (a7j.or zu) a2v (cu false D_12 (hr.mono h_12) rfl (aa (dg 3) (aa az (aa (dg 2) au)))) a0j (jn _)))))
 ym
 jm)
 (bc (j4 (i:=11) SC.nd rfl (Or.inl rfl) (cu false D_11 (hr.mono h_11) rfl (aa (dg 1) (aa (cu false D_6 (hr.mono h_6) rfl (aa (dg 1) (aa (jb (lr (L2.CallR.or du dw) jt rfl M.len o6 (aa (dg 3) au)) az) au))) au))))
 (bc (a5s (i:=10) SC.nd rfl (Or.inl rfl) rfl (CSc.of (ts:=["_law_kind", "_law_start", "_law_end"]) (fr:=["_law_due"]) (ix:=[4]) rfl rfl rfl rfl (by intro p hp;cases List.mem_singleton.mp hp;rfl) rfl rfl rfl rfl) (yh (dg 11)) (λ_ _ _ _=>a4v rfl (m7 (mz (i:=0) (show (["_law_kind", "_law_start", "_law_end", "_law_due"]:List Str).Nodup by decide +kernel) rfl (Or.inl rfl) (.inr rfl)) (m7 (mz (i:=1) (show (["_law_kind", "_law_start", "_law_end", "_law_due"]:List Str).Nodup by decide +kernel) rfl (Or.inl rfl) (.inr rfl)) (m7 (mz (i:=2) (show (["_law_kind", "_law_start", "_law_end", "_law_due"]:List Str).Nodup by decide +kernel) rfl (Or.inl rfl) (.inr rfl)) a0y)))) a5h (λ_ _ _ _=>(u5 (aa (dg 0) (aa (dj (dg 3) (dg 1) (λ_ _=>rfl)) (aa (dj (dg 3) (dg 2) (λ_ _=>rfl)) au))))))
 (bc (j4 (i:=12) SC.nd rfl (Or.inl rfl) (cu false D_4 (hr.mono h_4) rfl (aa (dg 3) (aa (a8k (a1e (L2.CallR.or t8 (uz rfl)) a1l rfl M.list a1c (aa (dg 11) au))) au))))
 (bc (j4 (i:=7) SC.nd rfl (Or.inl rfl) (cu true D_4 (hr.mono h_4) rfl (aa (dg 3) (aa (a8k (a1e (L2.CallR.or t8 (uz rfl)) a1l rfl M.list a1c (aa (dg 11) au))) au))))
 (bc (a1g (a8c PySem.F.slot_list_append PySem.F.type_list_append zq a4c (dg 7) (aa a0j au)))
 (bc (a1g (a8c PySem.F.slot_list_pop PySem.F.type_list_pop aae a8d (dg 7) (aa az au)))
 (bc (j4 (i:=13) SC.nd rfl (Or.inl rfl) (a8k (a1e (L2.CallR.or t8 (uz rfl)) a1l rfl M.list a1c (aa (dg 11) au))))
 (bc (uo (PW.pt (yq (qd (m5 (cu false D_13 (hr.mono h_13) rfl (aa (cu false D_4 (hr.mono h_4) rfl (aa (dg 3) (aa (dg 11) au))) (aa (dg 10) (aa az au)))))) (uv (j6 (aip hr.u) (aex true) (dg 11) (dg 13) (jn _)))))
 ym
 jm)
 (fu (jr (cu false D_13 (hr.mono h_13) rfl (aa (dg 12) (aa (dg 10) (aa az au))))))))))))))))))))))
end
end K37
namespace HND
open PySem PySem.Spec L2 MI
noncomputable def nq:SS :=
 (j5 (jx 0 (sC (.str " !\"#$&'()*+,-./0123456789:;<=>?@ABCDEFGHIJKLMNOPQRSTUVWXYZ[\\]^_`")))
 (um (s2 iy (sV 0) (sC (.str "abcdefghijklmnopqrstuvwxyz{|}~\n")))))
end HND
namespace MI
open PySem PySem.Spec L2
abbrev S(l:List Nat):Str:=⟨l.toArray⟩
theorem af0(l:List Nat):(S l).cps.toList=l:=by simp
theorem abj(l:List Nat):(S l).length=l.length:=by simp [Str.length]
theorem af1(x:Str):S x.cps.toList=x:=by cases x;simp
theorem al2(a b:List Nat):S a++S b=S (a++b):=by rw [<-af1 (S a++S b),akq]
section
variable{h:Hd}{a b l:List Nat}{i:Nat}{c:Nat}
theorem anj(hl:l.length<=LINE)(e:l[i]? = some c):gIx (.str (S l)) (.int (i:Nat)) h = .ok (.str (S [c])) h:=by
 unfold gIx;simp only [abj,if_pos hl,af0,kh e]
theorem aj1(hl:a.length+b.length<=LINE):iy (.str (S a)) (.str (S b)) h = .ok (.str (S (a++b))) h:=by
 unfold iy;simp only [abj,if_pos hl,al2]
theorem af2(hl:l.length<=LINE):qj [.str (S l)] h = .ok (.int l.length) h:=by
 unfold qj;simp only [abj,if_pos hl]
theorem ank(k:Nat)(hl:l.length<=LINE):ack (.str (S l)) none (some (k:Int)) h = .ok (.str (S (l.take k))) h:=by
 show gSl (.str (S l)) none (some (k:Int)) h=_;unfold gSl;simp only [abj,if_pos hl,af0,a3v]
end
section
variable{h:Hd}{i j:Int}{xs ys:List D}
theorem a2m:gIx (.tup xs) (.int i) h=(match atI xs i with | some d=>.ok d h | none=>.no):=rfl
theorem a6e:gIx (.rol xs) (.int i) h=(match atI xs i with | some d=>.ok d h | none=>.no):=rfl
theorem a6f{k:Nat}:gIx (.ref k) (.int i) h=(match yx (.ref k) h with | some xs=>(match atI xs i with | some d=>.ok d h | none=>.no) | none=>.no):=rfl
theorem a4n:qj [.tup xs] h = .ok (.int xs.length) h:=rfl
theorem v9:qj [.rol xs] h = .ok (.int xs.length) h:=rfl
theorem a95{k:Nat}:qj [.ref k] h=(match yx (.ref k) h with | some xs=>.ok (.int xs.length) h | none=>.no):=rfl
theorem jz:iy (.int i) (.int j) h = .ok (.int (i+j)) h:=rfl
theorem a2c:xj (.int i) (.int j) h = .ok (.int (i+j)) h:=rfl
open Classical in
theorem a0r:sr (.int i) (.int j) h=if CMul i j then .ok (.int (i*j)) h else .no:=by unfold sr;rfl
theorem jg(b:Bool):tru (.bl b) h = .ok b h:=rfl
theorem a96:tru (.int i) h = .ok (i != 0) h:=rfl
theorem a97:tru (.rol xs) h = .ok (!xs.isEmpty) h:=rfl
theorem a98:tru (.tup xs) h = .ok (!xs.isEmpty) h:=rfl
theorem a99:tru .non h = .ok false h:=rfl
theorem abk:hEq (.int i) (.int j) h = .ok (.bl (i == j)) h:=rfl
theorem af3:hNe (.int i) (.int j) h = .ok (.bl (!(i == j))) h:=rfl
theorem aj2(a b:Bool):hEq (.bl a) (.bl b) h = .ok (.bl (a == b)) h:=rfl
theorem aj3(a b:Bool):hNe (.bl a) (.bl b) h = .ok (.bl (!(a == b))) h:=rfl
theorem acz(x:D):gIs x .non h = .ok (.bl (a0a x)) h:=by cases x<;>rfl
theorem a3h(x:D):a00 x .non h = .ok (.bl (!a0a x)) h:=by cases x<;>rfl
theorem aj4(a b:Bool):gIs (.bl a) (.bl b) h = .ok (.bl (a == b)) h:=rfl
theorem a6g(a b:Bool):a00 (.bl a) (.bl b) h = .ok (.bl (a != b)) h:=rfl
theorem amg:a0a (.int i)=false:=rfl
theorem amh(x:Str):a0a (.str x)=false:=rfl
theorem ami:a0a .non=true:=rfl
theorem amj:a0a (.tup xs)=false:=rfl
end
end MI
namespace HND
open PySem PySem.Spec L2 MI AT
def aju:Str := " !\"#$&'()*+,-./0123456789:;<=>?@ABCDEFGHIJKLMNOPQRSTUVWXYZ[\\]^_`"
def ajv:Str := "abcdefghijklmnopqrstuvwxyz{|}~\n"
def sig:List Nat:=aju.cps.toList++ajv.cps.toList
theorem a9a:sig.length=95:=by decide +kernel
noncomputable def gw:SF:=n8 nq 1
theorem lits{h:Hd}:iy (.str aju) (.str ajv) h = .ok (.str (S sig)) h:=by
 rw [<-af1 aju,<-af1 ajv,aj1 (by decide +kernel)]
 rfl
theorem a2d:Pu gw 0 [] (.str (S sig)):=by
 refine Pu.of rfl (by simp) (r:=.ok (.str (S sig)) []) ?_ (by rw [m8 (kj _) (by simp)];rfl) (kj _)
 unfold gw;rw [gk];unfold nq;have e:=@lits [];unfold aju ajv at e;show toR (j5 (jx 0 _) _ [none] [])=_;simp only [o8,jx,sC,v7,yo,um,s2,sV,List.set_cons_zero,List.getElem?_cons_zero,dh,e,a8o]
end HND
namespace MI
open PySem PySem.Spec L2
theorem al3(n:Nat):rng 0 n=(List.range n).map λi:Nat=>D.int (i:Nat):=by
 unfold rng;exact List.map_congr_left λi _=>by rw [Int.zero_add]
theorem af4{n:Nat}(h:n<=LINE):B62 (n:Int):=by
 have:n<=16777216:=h
 unfold B62;omega
theorem aj5{n:Nat}(h:Hd)(z:n<=LINE):a1h [.int (n:Nat)] h = .ok ⟨(List.range n).map λi:Nat=>D.int (i:Nat),λ_=>True⟩ h:=by
 unfold a1h;simp only [af4 z,if_true,Int.toNat_natCast,al3]
theorem al4{f:SE}{τ:Sd}{h:Hd}{d:D}(e:f τ h = .ok d h):aj f dq τ h = .ok [d] h:=by unfold aj dq;rw [e];rfl
theorem a4o{f:SE}{τ:Sd}{h:Hd}{n:Nat}(e:f τ h = .ok (.int (n:Nat)) h)(z:n<=LINE):sRg a1h (aj f dq) τ h = .ok ⟨(List.range n).map λi:Nat=>D.int (i:Nat),λ_=>True⟩ h:=by
 unfold sRg;rw [al4 e,dh];exact aj5 h z
theorem bx{i:Nat}{τ:Sd}{h:Hd}{d:D}(e:τ[i]? = some (some d)):sV i τ h = .ok d h:=by unfold sV;rw [e]
theorem ue{fi:SI}{t:D->Option Sd}{fe:SE}{ix:List Nat}{τ:Sd}{h:Hd}{α:Type}(g F:α->D)(xs:List α)(e:fi τ h = .ok ⟨xs.map g,λ_=>True⟩ h)(z:xs.length<=LINE)
  (st:∀ x∈xs,a4a t fe (frs' ix τ) (g x) h = .ok (F x) h):v4 fi t fe ix τ h = .ok (.ref h.length) (h++[.lst (xs.map F)]):=by
 unfold v4;rw [e,dh];dsimp only;rw [if_pos (by rw [List.length_map];exact z),a3b g F st]
 rfl
theorem af5(fe:SE)(r:Sd)(x:D)(h:Hd):a4a t1 fe r x h=fe (some x::r) h:=rfl
theorem abl(i:Nat)(ix:List Nat)(τ:Sd):frs' (i::ix) τ=(τ[i]?).join::frs' ix τ:=rfl
theorem af6(τ:Sd):frs' [] τ=[]:=rfl
section
variable{f k f1 f2 f3:SE}{c c1 c2:ST}{g p q:SS}{τ τ1:Sd}{h h1 h2 h3 h4:Hd}{a b d v:D}{i:Nat}{t u:Bool}
theorem dm(d:D)(τ:Sd)(h:Hd):sC d τ h = .ok d h:=rfl
theorem anm{G:List D->Hd->R D}(e3:G [] h = .ok v h1):sA G dq τ h = .ok v h1:=e3
theorem ur{G:List D->Hd->R D}(e1:f τ h = .ok a h1)(e3:G [a] h1 = .ok v h2):sA G (aj f dq) τ h = .ok v h2:=by
 have:aj f dq τ h = .ok [a] h1:=by unfold aj;rw [e1];rfl
 unfold sA;rw [this,dh,e3]
theorem ph{G:List D->Hd->R D}(e1:f τ h = .ok a h1)(e2:k τ h1 = .ok b h2)(e3:G [a,b] h2 = .ok v h3):sA G (aj f (aj k dq)) τ h = .ok v h3:=by
 have:aj f (aj k dq) τ h = .ok [a,b] h2:=by unfold aj;rw [e1,dh,e2];rfl
 unfold sA;rw [this,dh,e3]
theorem a4p{G:List D->Hd->R D}(e0:f1 τ h = .ok d h1)(e1:f τ h1 = .ok a h2)(e2:k τ h2 = .ok b h3)(e3:G [d,a,b] h3 = .ok v h4):sA G (aj f1 (aj f (aj k dq))) τ h = .ok v h4:=by
 have:aj f1 (aj f (aj k dq)) τ h = .ok [d,a,b] h3:=by unfold aj;rw [e0,dh,e1,dh,e2];rfl
 unfold sA;rw [this,dh,e3]
theorem jw(e:f τ h = .ok d h1):j5 (jx i f) g τ h=g (τ.set i (some d)) h1:=by
 rw [o8];unfold jx;rw [e];rfl
theorem al5(e:f τ h = .ok d h1):jx i f τ h = .nx (τ.set i (some d)) h1:=by
 unfold jx;rw [e];rfl
theorem ye(e:p τ h = .nx τ1 h1):j5 p g τ h=g τ1 h1:=by rw [o8,e];rfl
theorem af7(e:p τ h = .rt d h1):j5 p g τ h = .rt d h1:=by rw [o8,e];rfl
theorem ifT(e:c τ h = .ok true h1):sIf c p q τ h=p τ h1:=by unfold sIf;rw [e];rfl
theorem ifF(e:c τ h = .ok false h1):sIf c p q τ h=q τ h1:=by unfold sIf;rw [e];rfl
theorem ifN(e:c τ h = .ok false h1):j5 (sIf c p sNx) g τ h=g τ h1:=by rw [o8,ifF e];rfl
theorem tof(e:f τ h = .ok (.bl t) h1):sT f τ h = .ok t h1:=by unfold sT;rw [e];rfl
theorem qz(e:f τ h = .ok d h1)(e':tru d h1 = .ok t h2):yt f τ h = .ok t h2:=by unfold yt;rw [e,dh,e']
theorem afx(e:c1 τ h = .ok true h1)(e':c2 τ h1 = .ok t h2):a3m c1 c2 τ h = .ok t h2:=by unfold a3m;rw [e,dh,if_pos rfl,e']
theorem amk(e:c1 τ h = .ok false h1):a3m c1 c2 τ h = .ok false h1:=by unfold a3m;rw [e,dh,if_neg (by simp)]
theorem orT(e:c1 τ h = .ok true h1):sOr c1 c2 τ h = .ok true h1:=by unfold sOr;rw [e,dh,if_pos rfl]
theorem orF(e:c1 τ h = .ok false h1)(e':c2 τ h1 = .ok t h2):sOr c1 c2 τ h = .ok t h2:=by unfold sOr;rw [e,dh,if_neg (by simp),e']
theorem aj6(e:c τ h = .ok t h1):a09 c τ h = .ok (!t) h1:=by unfold a09;rw [e];rfl
theorem a75(e:c τ h = .ok true h1):a09 c τ h = .ok false h1:=aj6 e
theorem al6(e:c τ h = .ok false h1):a09 c τ h = .ok true h1:=aj6 e
theorem sy(e:f τ h = .ok d h1):um f τ h = .rt d h1:=by unfold um;rw [e];rfl
theorem af8(e:f τ h = .ok (.bl true) h1)(e':k τ h1 = .ok d h2):zz f k τ h = .ok d h2:=by unfold zz;rw [e,dh];exact e'
theorem a6h{G:D->List D->Hd->R D}{A:SA}{ds:List D}(e1:f τ h = .ok d h1)(l:isL d h1=true)(e2:A τ h1 = .ok ds h2)(e3:G d ds h2 = .ok v h3):a1f (sML G f A) τ h = .nx τ h3:=by
 unfold a1f sML;rw [e1,dh,if_pos l,e2,dh,e3];rfl
theorem al7{G:D->List D->Hd->R D}{A:SA}{ds:List D}(e1:f τ h = .ok d h1)(l:isL d h1=true)(e2:A τ h1 = .ok ds h2)(e3:G d ds h2 = .ok v h3):sML G f A τ h = .ok v h3:=by
 unfold sML;rw [e1,dh,if_pos l,e2,dh,e3]
theorem arg1(e:f τ h = .ok d h1):aj f dq τ h = .ok [d] h1:=by unfold aj dq;rw [e];rfl
theorem gf{G:D->D->Hd->R D}(e1:f τ h = .ok a h1)(e2:k τ h1 = .ok b h2)(e3:G a b h2 = .ok v h3):s2 G f k τ h = .ok v h3:=by
 unfold s2;rw [e1,dh,e2,dh,e3]
theorem aml{G:D->Hd->R D}(e1:f τ h = .ok a h1)(e3:G a h1 = .ok v h2):s1 G f τ h = .ok v h2:=by
 unfold s1;rw [e1,dh,e3]
theorem al8{G:D->D->Hd->R D}(ht:τ[i]? = some (some a))(e:f τ h = .ok b h1)(e2:G a b h1 = .ok d h2):ady i G f τ h = .nx (τ.set i (some d)) h2:=by
 unfold ady;rw [ht];dsimp only;rw [e,v7,e2];rfl
theorem al9{G:SG}(e:f τ h = .ok d h1)(e2:G d τ h1 = .nx τ1 h2):afr f G τ h = .nx τ1 h2:=by
 unfold afr;rw [e,v7,e2]
theorem aj7(e1:f1 τ h = .ok v h1)(e2:f2 τ h1 = .ok a h2)(e3:f3 τ h2 = .ok b h3)(e4:put a b v h3=some h4):a86 f1 f2 f3 τ h = .nx τ h4:=by
 unfold a86;rw [e1,v7,e2,v7,e3,v7,e4]
theorem a76{fi:SI}{G:SG}{b:SS}{xs:List D}{ck:Hd->Prop}(e:fi τ h = .ok ⟨xs,ck⟩ h1):j5 (a9x fi G b) g τ h=thn (forL ck G b xs τ h1) g:=by
 rw [o8];unfold a9x;rw [e];rfl
theorem ad0{xs:List D}{ck:Hd->Prop}(e:f τ h = .ok d h1)(e2:afs d h1 = .ok ⟨xs,ck⟩ h1):sIt f τ h = .ok ⟨xs,ck⟩ h1:=by
 unfold sIt;rw [e,dh,e2]
theorem a9b{xs:List D}(e:h[i]? = some (.lst xs))(z:xs.length<LINE):aas (.ref i) [a] h = .ok .non (h.set i (.lst (xs++[a]))):=by
 unfold aas;simp only [e,if_pos z]
theorem af9{xs:List D}{j:Nat}{y:D}(e:h[i]? = some (.lst xs))(hj:xs[j]? = some y)(z:xs.length<=LINE):a2w (.ref i) [.int (j:Nat)] h = .ok y (h.set i (.lst (xs.eraseIdx j))):=by
 have lt:j<xs.length:=(List.getElem?_eq_some_iff.mp hj).1;have:ixN xs.length (j:Int)=some j:=by unfold ixN;rw [if_pos (by omega),if_pos (by omega)];simp
 unfold a2w;simp only [e,this,hj,if_pos z]
theorem a3i{xs:List D}{j:Nat}{y:D}(e:h[i]? = some (.lst xs))(hj:xs[j]? = some y):gIx (.ref i) (.int (j:Nat)) h = .ok y h:=by
 rw [a6f];unfold yx;simp only [e,kh hj]
theorem afy{xs:List D}{j:Nat}{y:D}(hj:xs[j]? = some y):gIx (.rol xs) (.int (j:Nat)) h = .ok y h:=by
 rw [a6e];simp only [kh hj]
theorem ad1{xs:List D}{j:Nat}{y:D}(hj:xs[j]? = some y):gIx (.tup xs) (.int (j:Nat)) h = .ok y h:=by
 rw [a2m];simp only [kh hj]
theorem div_ii{x y:Int}(c:0<y/\y<1073741824):a5j (.int x) (.int y) h = .ok (.int (x / y)) h:=by unfold a5j;exact if_pos c
theorem a0s{x y:Int}(c:0<y):yw (.int x) (.int y) h = .ok (.int (x % y)) h:=by unfold yw;exact if_pos c
theorem anp{x y:Int}(c:y<x):gGt (.int x) (.int y) h = .ok (.bl true) h:=by unfold gGt;simp only [c,decide_true]
theorem anq{x y:Int}(c:¬ y<x):gGt (.int x) (.int y) h = .ok (.bl false) h:=by unfold gGt;simp only [c,decide_false]
theorem aj8{x y:Int}(c:x<y):gLt (.int x) (.int y) h = .ok (.bl true) h:=by unfold gLt;simp only [c,decide_true]
theorem ajw{x y:Int}(c:¬ x<y):gLt (.int x) (.int y) h = .ok (.bl false) h:=by unfold gLt;simp only [c,decide_false]
theorem afa{x y:Int}(c:x=y):hEq (.int x) (.int y) h = .ok (.bl true) h:=by rw [abk,c,beq_self_eq_true]
theorem aj9{x y:Int}(c:¬ x=y):hEq (.int x) (.int y) h = .ok (.bl false) h:=by rw [abk,beq_eq_false_iff_ne.mpr c]
theorem a9c{x y:Int}(c:x=y):hNe (.int x) (.int y) h = .ok (.bl false) h:=by rw [af3,c,beq_self_eq_true];rfl
theorem aja(x:Int):ae8 (.int x) h = .ok (.int (-x)) h:=rfl
theorem ju{n:Nat}(h:n<=1000000):n<=LINE:=by show n<=16777216;omega
theorem a9d{n:Nat}(h:n<=1000000):n<LINE:=by show n<16777216;omega
theorem ajb:MI.wy [a,b] h = .ok (.tup [a,b]) h:=by unfold MI.wy;rw [if_pos (ju (by simp))]
theorem ala:MI.wy [a,b,v] h = .ok (.tup [a,b,v]) h:=by unfold MI.wy;rw [if_pos (ju (by simp))]
end
end MI
namespace SRC
open PySem PySem.Spec L2 MI AT
structure Src (o:O) (N:Nat):Prop where
 ex:∃ (cells:List Int) (a l c s:Int),o = .lst [.rol (cells.map D.int), .int a, .int l, .int c, .int s]/\0<=a/\0<=l/\0<=s/\s<2147483647/\0<=c/\c<=N
theorem Src.clo{o:O}{N:Nat}(P:Src o N):xg 0 o:=by
 obtain ⟨cells,a,l,c,s,rfl,_⟩:=P.ex;exact iw (xq (jj λx _=>di x)) (iw (di _) (iw (di _) (iw (di _) (iw (di _) w6))))
theorem Src.up{o:O}{N M:Nat}(P:Src o N)(h:N<=M):Src o M:=by
 obtain ⟨cells,a,l,c,s,e,h1,h2,h3,h4,h5,h6⟩:=P.ex;exact ⟨cells,a,l,c,s,e,h1,h2,h3,h4,h5,by omega⟩
noncomputable def ak:SF:=n8 ul 4
abbrev so(cells:List Int)(a l c s:Int):O:=.lst [.rol (cells.map D.int), .int a, .int l, .int c, .int s]
theorem a9e{xs:List D}{i j:Nat}{y:D}{h:Hd}(e:h[i]? = some (.lst xs))(hj:xs[j]? = some y):acl (.ref i) (.int (j:Nat)) h = .ok y h:=by
 unfold acl;simp only [e,kh hj]
theorem alb{G:D->D->Hd->R D}{fo fi fe:SE}{τ:Sd}{h h':Hd}{o i x y z:D}(e1:fo τ h = .ok o h)(e2:fi τ h = .ok i h)(e3:acl o i h = .ok x h)(e4:fe τ h = .ok y h)(e5:G x y h = .ok z h)(e6:put o i z h=some h'):vz G fo fi fe τ h = .nx τ h':=by
 unfold vz;rw [e1,v7,e2,v7,e3,v7,e4,v7,e5,v7,e6]
theorem anr{x y:Int}{h:Hd}(c:y<=x):gGe (.int x) (.int y) h = .ok (.bl true) h:=by show R.ok (D.bl (decide (y<=x))) h=_;rw [decide_eq_true c]
theorem ant{x y:Int}{h:Hd}(c:¬ y<=x):gGe (.int x) (.int y) h = .ok (.bl false) h:=by show R.ok (D.bl (decide (y<=x))) h=_;rw [decide_eq_false c]
theorem a9f{o:O}{N:Nat}{m:Int}(P:Src o N)(hN:N<=1000000000)(m0:0<m)(m1:m<1073741824):∃ r o',ak [.ref 0, .int m] [o] = .ok (.int r) [o']/\0<=r/\r<m/\Src o' (N+1):=by
 obtain ⟨cells,a,l,c,s,rfl,a0,l0,s0,s1,c0,c1⟩:=P.ex;unfold ak;rw [gk];show ∃ r o',toR (ul [some (.ref 0),some (.int m),none,none] [so cells a l c s])=_/\_;unfold ul;have last:∀ s':Int,0<=s'->s'<2147483647->∃ r q,0<=r/\r<m/\(s'+1+(c+1)*7919) ^ (3:Int).toNat % 2147483647=q/\(q*48271+(c+1)) ^ (2:Int).toNat % 2147483629 / 64 % m=r/\CMul (c+1) 7919/\CMul q 48271 /\
   (∀ h,a0m (.int (s'+1+(c+1)*7919)) (.int 3) h = .ok (.int ((s'+1+(c+1)*7919) ^ (3:Int).toNat)) h)/\∀ h,a0m (.int (q*48271+(c+1))) (.int 2) h = .ok (.int ((q*48271+(c+1)) ^ (2:Int).toNat)) h:=λs' h0 h1=>by
  have q0:0<=(s'+1+(c+1)*7919) ^ (3:Int).toNat % 2147483647:=Int.emod_nonneg _ (by decide)
  have q1:(s'+1+(c+1)*7919) ^ (3:Int).toNat % 2147483647<2147483647:=Int.emod_lt_of_pos _ (by decide)
  refine ⟨_,_,Int.emod_nonneg _ (by omega),Int.emod_lt_of_pos _ m0,rfl,rfl, .inr ⟨by decide,by decide⟩, .inr ⟨by decide,by decide⟩,λh=>aio ⟨by decide,by decide,by omega⟩,λh=>aio ⟨by decide,by decide,?_⟩⟩
  generalize (s'+1+(c+1)*7919) ^ (3:Int).toNat % 2147483647=q at q0 q1
  omega
 have x0:∀ {a l c s:Int},gIx (.ref 0) (.int 0) [so cells a l c s] = .ok (.rol (cells.map D.int)) [so cells a l c s]:=λ{a l c s}=>a3i (j:=0) rfl rfl;have x1:∀ {a l c s:Int},gIx (.ref 0) (.int 1) [so cells a l c s] = .ok (.int a) [so cells a l c s]:=λ{a l c s}=>a3i (j:=1) rfl rfl;have x2:∀ {a l c s:Int},gIx (.ref 0) (.int 2) [so cells a l c s] = .ok (.int l) [so cells a l c s]:=λ{a l c s}=>a3i (j:=2) rfl rfl;have x3:∀ {a l c s:Int},gIx (.ref 0) (.int 3) [so cells a l c s] = .ok (.int c) [so cells a l c s]:=λ{a l c s}=>a3i (j:=3) rfl rfl
 have x4:∀ {a l c s:Int},gIx (.ref 0) (.int 4) [so cells a l c s] = .ok (.int s) [so cells a l c s]:=λ{a l c s}=>a3i (j:=4) rfl rfl;have u3:∀ {a l c s:Int} {τ:Sd},τ[0]? = some (some (.ref 0))->vz xj (sV 0) (sC (.int 3)) (sC (.int 1)) τ [so cells a l c s] = .nx τ [so cells a l (c+1) s]:=λ{a l c s τ} h0=>alb (bx h0) (dm _ _ _) (a9e (j:=3) rfl rfl) (dm _ _ _) a2c rfl;have u1:∀ {a l c s:Int} {τ:Sd},τ[0]? = some (some (.ref 0))->vz xj (sV 0) (sC (.int 1)) (sC (.int 1)) τ [so cells a l c s] = .nx τ [so cells (a+1) l c s]:=λ{a l c s τ} h0=>alb (bx h0) (dm _ _ _) (a9e (j:=1) rfl rfl) (dm _ _ _) a2c rfl
 have p18:∀ {h:Hd},a0m (.int 10) (.int 18) h = .ok (.int 1000000000000000000) h:=λ{h}=>p18 h;have e1:∀ {a l c s:Int} {t2:Option D},0<l->toR (j5 (sIf (sT (s2 gGt (s2 gIx (sV 0) (sC (.int 2))) (sC (.int 0)))) (j5 (jx 3 (s2 yw (s2 gIx (sV 0) (sC (.int 2))) (sV 1))) (j5 (vz a5j (sV 0) (sC (.int 2)) (sV 1)) (um (sV 3)))) sNx) (j5 (jx 3 (s2 yw (s2 a0m (s2 iy (s2 iy (s2 gIx (sV 0) (sC (.int 4))) (sC (.int 1))) (s2 sr (s2 gIx (sV 0) (sC (.int 3))) (sC (.int 7919)))) (sC (.int 3))) (sC (.int 2147483647)))) (um (s2 yw (s2 a5j (s2 yw (s2 a0m (s2 iy (s2 sr (sV 3) (sC (.int 48271))) (s2 gIx (sV 0) (sC (.int 3)))) (sC (.int 2))) (sC (.int 2147483629))) (sC (.int 64))) (sV 1)))) [some (.ref 0),some (.int m),t2,none] [so cells a l c s]) = .ok (.int (l % m)) [so cells a (l / m) c s]:=λ{a l c s t2} hl=>by
  refine congrArg toR (af7 (Eq.trans (ifT (tof (gf (gf (bx rfl) (dm _ _ _) x2) (dm _ _ _) (anp hl)))) ?_));refine Eq.trans (jw (gf (gf (bx rfl) (dm _ _ _) x2) (bx rfl) (a0s m0))) ?_;refine Eq.trans (ye (alb (bx rfl) (dm _ _ _) (a9e (j:=2) rfl rfl) (bx rfl) (div_ii ⟨m0,m1⟩) rfl)) ?_;exact sy (bx rfl)
 have e2:∀ {a s':Int} {t2:Option D},0<=s'->s'<2147483647->∃ r,0<=r/\r<m/\toR (j5 (sIf (sT (s2 gGt (s2 gIx (sV 0) (sC (.int 2))) (sC (.int 0)))) (j5 (jx 3 (s2 yw (s2 gIx (sV 0) (sC (.int 2))) (sV 1))) (j5 (vz a5j (sV 0) (sC (.int 2)) (sV 1)) (um (sV 3)))) sNx) (j5 (jx 3 (s2 yw (s2 a0m (s2 iy (s2 iy (s2 gIx (sV 0) (sC (.int 4))) (sC (.int 1))) (s2 sr (s2 gIx (sV 0) (sC (.int 3))) (sC (.int 7919)))) (sC (.int 3))) (sC (.int 2147483647)))) (um (s2 yw (s2 a5j (s2 yw (s2 a0m (s2 iy (s2 sr (sV 3) (sC (.int 48271))) (s2 gIx (sV 0) (sC (.int 3)))) (sC (.int 2))) (sC (.int 2147483629))) (sC (.int 64))) (sV 1)))) [some (.ref 0),some (.int m),t2,none] [so cells a 0 (c+1) s']) = .ok (.int r) [so cells a 0 (c+1) s']:=λ{a s' t2} h0 h1=>by
  obtain ⟨r,q,r0,r1,eq,er,d1,d2,d3,d4⟩:=last s' h0 h1;refine ⟨r,r0,r1,?_⟩;refine Eq.trans (congrArg toR (ifN (tof (gf (gf (bx rfl) (dm _ _ _) x2) (dm _ _ _) (anq (by omega)))))) ?_
  refine Eq.trans (congrArg toR (jw (gf (gf (gf (gf (gf (bx rfl) (dm _ _ _) x4) (dm _ _ _) jz) (gf (gf (bx rfl) (dm _ _ _) x3) (dm _ _ _) (a0r.trans (if_pos d1))) jz) (dm _ _ _) (d3 _)) (dm _ _ _) (a0s (by decide))))) ?_
  rw [eq];refine Eq.trans (congrArg toR (sy (gf (gf (gf (gf (gf (gf (bx rfl) (dm _ _ _) (a0r.trans (if_pos d2))) (gf (bx rfl) (dm _ _ _) x3) jz) (dm _ _ _) (d4 _)) (dm _ _ _) (a0s (by decide))) (dm _ _ _) (div_ii ⟨by decide,by decide⟩)) (bx rfl) (a0s m0)))) ?_
  rw [er];rfl
 by_cases hA:l=0/\a<(cells.length:Int)
 ·obtain ⟨rfl,ha⟩:=hA;obtain ⟨j,rfl⟩:=Int.eq_ofNat_of_zero_le a0;have hj:j<cells.length:=by omega
  have gx:∀ {h:Hd},gIx (.rol (cells.map D.int)) (.int (j:Nat)) h = .ok (.int cells[j]) h:=λ{h}=>afy (by rw [List.getElem?_map,List.getElem?_eq_getElem hj];rfl)
  have tt:∀ {c s:Int} {t2 t3:Option D},a3m (sT (s2 hEq (s2 gIx (sV 0) (sC (.int 2))) (sC (.int 0)))) (sT (s2 gLt (s2 gIx (sV 0) (sC (.int 1))) (sA qj (aj (s2 gIx (sV 0) (sC (.int 0))) dq)))) [some (.ref 0),some (.int m),t2,t3] [so cells (j:Nat) 0 c s] = .ok true [so cells (j:Nat) 0 c s]:=λ{c s t2 t3} =>
   afx (tof (gf (gf (bx rfl) (dm _ _ _) x2) (dm _ _ _) (afa rfl))) (tof (gf (gf (bx rfl) (dm _ _ _) x1) (ur (gf (bx rfl) (dm _ _ _) x0) (v9.trans (by rw [List.length_map]))) (aj8 ha)))
  have s2':0<=(s*31+cells[j]) % 2147483647:=Int.emod_nonneg _ (by decide)
  have s3:(s*31+cells[j]) % 2147483647<2147483647:=Int.emod_lt_of_pos _ (by decide)
  have go:∀ {o':O} {g:SS},sIf (sT (s2 gGe (sV 2) (s2 a0m (sC (.int 10)) (sC (.int 18))))) (a86 (sV 2) (sV 0) (sC (.int 2))) (a86 (s2 yw (s2 iy (s2 sr (s2 gIx (sV 0) (sC (.int 4))) (sC (.int 31))) (sV 2)) (sC (.int 2147483647))) (sV 0) (sC (.int 4))) [some (.ref 0),some (.int m),some (.int cells[j]),none] [so cells ((j:Nat)+1) 0 (c+1) s] = .nx [some (.ref 0),some (.int m),some (.int cells[j]),none] [o']->
    toR (j5 (vz xj (sV 0) (sC (.int 3)) (sC (.int 1))) (j5 (sIf (a3m (sT (s2 hEq (s2 gIx (sV 0) (sC (.int 2))) (sC (.int 0)))) (sT (s2 gLt (s2 gIx (sV 0) (sC (.int 1))) (sA qj (aj (s2 gIx (sV 0) (sC (.int 0))) dq))))) (j5 (jx 2 (s2 gIx (s2 gIx (sV 0) (sC (.int 0))) (s2 gIx (sV 0) (sC (.int 1))))) (j5 (vz xj (sV 0) (sC (.int 1)) (sC (.int 1))) (sIf (sT (s2 gGe (sV 2) (s2 a0m (sC (.int 10)) (sC (.int 18))))) (a86 (sV 2) (sV 0) (sC (.int 2))) (a86 (s2 yw (s2 iy (s2 sr (s2 gIx (sV 0) (sC (.int 4))) (sC (.int 31))) (sV 2)) (sC (.int 2147483647))) (sV 0) (sC (.int 4)))))) sNx) g) [some (.ref 0),some (.int m),none,none] [so cells (j:Nat) 0 c s])=toR (g [some (.ref 0),some (.int m),some (.int cells[j]),none] [o']):=λ{o' g} e=>by
   refine Eq.trans (congrArg toR (ye (u3 rfl))) ?_;refine congrArg toR (ye (Eq.trans (ifT tt) ?_));refine Eq.trans (jw (gf (gf (bx rfl) (dm _ _ _) x0) (gf (bx rfl) (dm _ _ _) x1) gx)) ?_;exact Eq.trans (ye (u1 rfl)) e
  generalize cells[j]=x at *
  by_cases hB:(1000000000000000000:Int)<=x
  ·refine ⟨x % m,_,(go (o':=so cells ((j:Nat)+1) x (c+1) s) (Eq.trans (ifT (tof (gf (bx rfl) (gf (dm _ _ _) (dm _ _ _) p18) (anr hB)))) (aj7 (bx rfl) (bx rfl) (dm _ _ _) rfl))).trans (e1 (by omega)),Int.emod_nonneg _ (by omega),Int.emod_lt_of_pos _ m0,⟨cells,(j:Int)+1,x / m,c+1,s,rfl,by omega,Int.ediv_nonneg (by omega) (by omega),s0,s1,by omega,by omega⟩⟩
  ·obtain ⟨r,r0,r1,e⟩:=e2 (a:=(j:Nat)+1) (t2:=some (.int x)) s2' s3;exact ⟨r,_,(go (o':=so cells ((j:Nat)+1) 0 (c+1) ((s*31+x) % 2147483647)) (Eq.trans (ifF (tof (gf (bx rfl) (gf (dm _ _ _) (dm _ _ _) p18) (ant hB)))) (aj7 (gf (gf (gf (gf (bx rfl) (dm _ _ _) x4) (dm _ _ _) (a0r.trans (if_pos (.inr ⟨by decide,by decide⟩)))) (bx rfl) jz) (dm _ _ _) (a0s (by decide))) (bx rfl) (dm _ _ _) rfl))).trans e,r0,r1,⟨cells,(j:Int)+1,0,c+1,_,rfl,by omega,by omega,s2',s3,by omega,by omega⟩⟩
 ·have tt:a3m (sT (s2 hEq (s2 gIx (sV 0) (sC (.int 2))) (sC (.int 0)))) (sT (s2 gLt (s2 gIx (sV 0) (sC (.int 1))) (sA qj (aj (s2 gIx (sV 0) (sC (.int 0))) dq)))) [some (.ref 0),some (.int m),none,none] [so cells a l (c+1) s] = .ok false [so cells a l (c+1) s]:=by
   by_cases hl:l=0
   ·exact afx (tof (gf (gf (bx rfl) (dm _ _ _) x2) (dm _ _ _) (afa hl))) (tof (gf (gf (bx rfl) (dm _ _ _) x1) (ur (gf (bx rfl) (dm _ _ _) x0) (v9.trans (by rw [List.length_map]))) (ajw λz=>hA ⟨hl,z⟩)))
   ·exact amk (tof (gf (gf (bx rfl) (dm _ _ _) x2) (dm _ _ _) (aj9 hl)))
  by_cases hC:0<l
  ·exact ⟨l % m,_,(congrArg toR (ye (u3 rfl))).trans ((congrArg toR (ifN tt)).trans (e1 hC)),Int.emod_nonneg _ (by omega),Int.emod_lt_of_pos _ m0,⟨cells,a,l / m,c+1,s,rfl,a0,Int.ediv_nonneg (by omega) (by omega),s0,s1,by omega,by omega⟩⟩
  ·have:l=0:=by omega
   subst this;obtain ⟨r,r0,r1,e⟩:=e2 (a:=a) (t2:=none) s0 s1;exact ⟨r,_,(congrArg toR (ye (u3 rfl))).trans ((congrArg toR (ifN tt)).trans e),r0,r1,⟨cells,a,0,c+1,s,rfl,a0,by omega,s0,s1,by omega,by omega⟩⟩
theorem afb{o:O}{N:Nat}{m:Int}(P:Src o N)(hN:N<=1000000000)(m0:0<m)(m1:m<1073741824):∃ r o',Dr ak 2 [.int m] o (.int r) o'/\0<=r/\r<m/\Src o' (N+1):=by
 obtain ⟨r,o',e,r0,r1,P'⟩:=a9f P hN m0 m1;refine ⟨r,o',Dr.of rfl (by simp [di]) P.clo e (m8 (di _) ?_) (di _) P'.clo,r0,r1,P'⟩
 intro u hu
 simp at hu
 subst hu;exact v8 (by omega) P'.clo
end SRC
namespace EVX
open PySem PySem.Spec L2 MI
section
variable{i:Nat}{cs:Str->Bool}{fb fs p g:SS}{τ τ1 τ2:Sd}{h h1 h2:Hd}{c:Str}{f:SE}{ka:SA}{ds:List D}{F:SF}{n:Nat}
theorem ajc(e:p τ h = .ex c h1):j5 p g τ h = .ex c h1:=by unfold j5;rw [e]
theorem a9g(e:ka τ h = .ok ds h1)(l:ds.length<=100):a66 c ka τ h = .ex c h1:=by
 unfold a66;rw [e];show (if ds.length<=LINE then Fl.ex c h1 else .no)=_
 rw [if_pos (ju (by omega))]
theorem afc(hn:ds.length=n)(cd:∀ x∈ds,MI.clo 0 x)(e:F ds [] = .ex c h1):a0d n F ds h = .ex c h:=by
 unfold a0d;rw [if_pos cd,e];exact if_pos hn
theorem afd{d d':D}(cd:∀ x∈ds,MI.clo 0 x)(e:F ds [] = .ok d h1)(p:Pu F n ds d'):a0d n F ds h = .ok d' h:=by
 unfold a0d;rw [if_pos cd,e];exact p h
theorem ajd(e:fb τ h = .nx τ1 h1):afv i cs fb fs τ h = .nx τ1 h1:=by unfold afv;rw [e]
theorem alc(e:f τ h = .ex c h1):jx i f τ h = .ex c h1:=by unfold jx;rw [e];rfl
theorem qof{α:Type}{k:Sd->Hd->R α}{x:α}(e:k τ h = .ok x h1):qA k τ h = .ok x h1:=by unfold qA;rw [e];rfl
theorem amm(e:ka τ h = .ok ds h1):sA F ka τ h=F ds h1:=by unfold sA;rw [e];rfl
theorem afe{x:Str->Option Bool}{b:Bool}(e:τ[i]? = some (some (.exc c)))(e2:x c=some b):a79 i x τ h = .ok (.bl b) h:=by unfold a79;rw [e];dsimp only;rw [e2]
theorem je{d:D}(e:f τ h = .ok d h1)(e2:ka τ h1 = .ok ds h2):aj f ka τ h = .ok (d::ds) h2:=by
 unfold aj;rw [e,dh,e2];rfl
end
end EVX
namespace SRC
open PySem PySem.Spec L2 MI AT HND EVX
noncomputable def bu:SF:=n8 o9 2
theorem ints_map:∀ l:List Int,uq (l.map D.int)=some l
 | []=>rfl
 | a::l=>by rw [List.map_cons];simp only [uq,ints_map l,Option.map_some]
theorem ald{g:List D->Hd->R D}{k:SA}{τ:Sd}{h h1 h2:Hd}{ds:List D}{d:D}(e:k τ h = .ok ds h1)(eg:g ds h1 = .ok d h2):sA g k τ h = .ok d h2:=by
 unfold sA;rw [e,dh,eg]
def cell(x:Int):Int:=2*am2 x+(if decide (x<0)=true then 1 else 0)
theorem a9h(ns:List Int)(h:Hd):∃ o,Src o 0/\jd true 1 bu [.scr (ns.map D.int)] h = .ok (.ref h.length) (h++[o]):=by
 have cl:clos 0 ((ns.take 63).map D.int):=jj λx _=>di x;have z1:sZ (a71 (sV 0) oN (oS (sC (.int 63)))) [some (.scr (ns.map D.int)),none] [] = .ok (.rol ((ns.take 63).map D.int)) []:=by
  refine a1s (by
   show gSl (.scr (ns.map D.int)) none (some ((63:Nat):Int)) []=_;unfold gSl;simp only [a3v,List.map_take]) cl (by simp)
 have z2:sZ (v4 (sIt (sZ (a71 (sV 0) oN (oS (sC (.int 63)))))) t1 nj []) [some (.scr (ns.map D.int)),none] [] = .ok (.rol ((ns.take 63).map λx=>D.int (cell x))) []:=by
  refine a1s (ue D.int (λx=>D.int (cell x)) (ns.take 63) (ad0 z1 rfl) (ju (by simp;omega)) λx _=>?_) (jj λx _=>di _) (by simp)
  rw [af5];unfold nj;exact gf (gf (dm _ _ _) (ur (bx rfl) (aew _ _)) (a0r.trans (if_pos (.inl ⟨by decide,by decide⟩)))) (ur (gf (bx rfl) (dm _ _ _) rfl) rfl) jz
 have em:((ns.take 63).map λx=>D.int (cell x))=((ns.take 63).map cell).map D.int:=by rw [List.map_map];rfl
 rw [em] at z2
 generalize (ns.take 63).map cell=cs at z2
 have e:bu [.scr (ns.map D.int)] [] = .ok (.ref 0) [.lst [.rol (cs.map D.int), .int 0, .int 0, .int 0, .int (cs.sum % 2147483647)]]:=by
  unfold bu;rw [gk];show toR (o9 [some (.scr (ns.map D.int)),none] [])=_;unfold o9;refine Eq.trans (congrArg toR (jw z2)) ?_;have su:acg [.rol (cs.map D.int)] [] = .ok (.int cs.sum) []:=by unfold acg;simp only [ints_map]
  exact congrArg toR (sy (ald (je (bx rfl) (je (dm _ _ _) (je (dm _ _ _) (je (dm _ _ _) (je (gf (ur (bx rfl) su) (dm _ _ _) (a0s (by decide))) rfl))))) rfl))
 have P:Src (.lst [.rol (cs.map D.int), .int 0, .int 0, .int 0, .int (cs.sum % 2147483647)]) 0:=⟨cs,0,0,0,_,rfl,by decide,by decide,Int.emod_nonneg _ (by decide),Int.emod_lt_of_pos _ (by decide),by decide,by decide⟩
 exact ⟨_,P,acq rfl (by simpa [MI.clo] using (jj λx _=>di x:clos 0 (ns.map D.int))) e rfl P.clo h⟩
noncomputable def gw:SF:=n8 nq 1
theorem a2d:Pu gw 0 [] (.str (S sig)):=HND.a2d
theorem aje{a b:List Nat}{h:Hd}(l:a.length+b.length<=LINE):xj (.str (S a)) (.str (S b)) h = .ok (.str (S (a++b))) h:=by
 have:=aj1 (h:=h) l
 simpa [xj,iy,an6] using this
end SRC
namespace HND
open PySem PySem.Spec L2 MI AT
abbrev ig(i:Nat):D:=.int (i:Nat)
theorem a9i{k:Nat}(l:List Nat):clos k (l.map ig):=jj λx _=>di _
theorem all_map{α:Type}(f:α->D)(P:α->Prop):∀ (l:List D),(∀ x∈l,∃ r,P r/\x=f r)->∃ G:List α,l=G.map f/\∀ r∈G,P r
 | [],_=>⟨[],rfl,by simp⟩
 | x::l,h=>by
  obtain ⟨r,pr,rfl⟩:=h _ List.mem_cons_self;obtain ⟨G,rfl,pG⟩:=all_map f P l λy hy=>h y (List.mem_cons_of_mem _ hy);exact ⟨r::G,rfl,λq hq=>by
   rcases List.mem_cons.mp hq with rfl | h
   ·exact pr
   ·exact pG q h⟩
structure Table where
 tg:List Nat
 go:List (List Nat)
 ks:List Int
end HND
namespace MI
open PySem PySem.Spec L2
end MI
namespace PAP
open PySem PySem.Spec L2 MI AT HND
theorem anu(l:List Nat)(h:Hd):afs (.str (S l)) h = .ok ⟨l.map λc=>.str (S [c]),λ_=>True⟩ h:=by
 show R.ok (⟨uw (S l),λ_=>True⟩:Itm) _=_;unfold uw;rw [af0]
theorem ajf{f k:SE}{τ:Sd}{h h1:Hd}(e:f τ h = .ok (.bl false) h1):zz f k τ h = .ok (.bl false) h1:=by unfold zz;rw [e,dh]
theorem ajg{f:SE}{τ:Sd}{h h':Hd}{xs:List D}(hl:h'.length=h.length)(e:f τ h = .ok (.ref h'.length) (h'++[.lst xs]))(cx:clos h.length xs)(c:∀ o∈h',xg h.length o):sZ f τ h = .ok (.rol xs) h':=by
 unfold sZ;rw [e,a5w (by omega) (by simp) cx (by rw [<-hl];simpa [hl] using c)]
 rw [<-hl];simp
end PAP
namespace SRC
open PySem PySem.Spec L2 MI AT HND EVX
theorem anv{x y:Int}{h:Hd}(c:x<=y):gLe (.int x) (.int y) h = .ok (.bl true) h:=by
 show R.ok (D.bl (decide (x<=y))) h=_;rw [decide_eq_true c]
theorem anw{x y:Int}{h:Hd}(c:¬ x<=y):gLe (.int x) (.int y) h = .ok (.bl false) h:=by
 show R.ok (D.bl (decide (x<=y))) h=_;rw [decide_eq_false c]
theorem ale{c:ST}{f g:SE}{τ:Sd}{h h1:Hd}{r:R D}(e1:c τ h = .ok true h1)(e2:f τ h1=r):a81 c f g τ h=r:=by unfold a81;rw [e1,dh,if_pos rfl];exact e2
theorem alf{c:ST}{f g:SE}{τ:Sd}{h h1:Hd}{r:R D}(e1:c τ h = .ok false h1)(e2:g τ h1=r):a81 c f g τ h=r:=by unfold a81;rw [e1,dh,if_neg (by simp)];exact e2
end SRC
namespace BF
def walk(step:Nat->Nat->Nat)(r:Nat):List Nat->Nat
 | []=>r
 | c::p=>step (walk step r p) c
def Ok(s:Nat)(w:List Nat):Prop:=∀ c∈w,c<s
section
variable(s:Nat)(step:Nat->Nat->Nat)(K:Nat->Bool)
def fl:Nat->Nat->Bool
 | 0,r=>K r
 | k+1,r=>(List.range s).any λc=>fl k (step r c)
variable{s step K}
end
end BF
namespace SRC
open PySem PySem.Spec L2 MI AT HND EVX
abbrev cst(l:List Nat):List Int:=l.map λx:Nat=>(x:Int)
def pos(m:List Nat)(x:Nat):Nat:=(ixI (x:Int) (cst m)).getD 0
end SRC
namespace K21
open PySem PySem.Spec L2 MI
end K21
namespace K23
open PySem PySem.Spec L2 MI
end K23
namespace K22
open PySem PySem.Spec L2 MI
end K22
namespace K22
open PySem PySem.Spec L2 MI AT HND
section
variable(T:Table)
end
section
variable{T:Table}
theorem a9j{α:Type}(l:List α)(x:α):atI (l++[x]) (-1)=some x:=by
 have:ixN (l++[x]).length (-1)=some l.length:=by
  unfold ixN;rw [if_neg (by decide),List.length_append,List.length_singleton]
  rw [if_pos (by omega)]
  congr 1
  omega
 unfold atI;rw [this];simp
end
end K22
namespace K23
open PySem PySem.Spec L2 MI AT HND K22
section
variable{T:Table}
theorem alg{g:D->List D->Hd->R D}{f:SE}{k:SA}{τ:Sd}{h h1 h2 h3:Hd}{z:Str}{ds:List D}{v:D}(e1:f τ h = .ok (.str z) h1)(e2:k τ h1 = .ok ds h2)(e3:g (.str z) ds h2 = .ok v h3):sMS g f k τ h = .ok v h3:=by
 unfold sMS;rw [e1,dh];dsimp only;rw [e2,dh,e3]
end
end K23
namespace K21
open PySem PySem.Spec L2 MI AT HND K22 K23 EVX
section
variable{T:Table}
theorem afg{a b:D}(ha:MI.clo 0 a)(hb:MI.clo 0 b):∀ x∈[a,b],MI.clo 0 x:=by
 intro x hx
 simp only [List.mem_cons,List.not_mem_nil,or_false] at hx
 rcases hx with rfl | rfl
 ·exact ha
 ·exact hb
end
section
variable{T:Table}
theorem afh{f:SE}{τ:Sd}{h h1:Hd}{i:Int}(e:f τ h = .ok (.int i) h1):oS f τ h = .ok (some i) h1:=by unfold oS;rw [e];rfl
theorem afi{f:SE}{lo hi:SO}{τ:Sd}{h h1 h2 h3 h4:Hd}{d v:D}{a b:Option Int}(e:f τ h = .ok d h1)(e1:lo τ h1 = .ok a h2)(e2:hi τ h2 = .ok b h3)(e3:ack d a b h3 = .ok v h4):a71 f lo hi τ h = .ok v h4:=by
 unfold a71;rw [e,dh,e1,dh,e2,dh,e3]
end
end K21
namespace SRC
open PySem PySem.Spec L2 MI AT HND EVX K22 K23 K21
section
variable{T:Table}
noncomputable def ao:SF:=n8 SRC.m9 3
theorem qi{xs:List Int}(xl:xs.length<=10):Pu SRC.ao 2 [.tup (xs.map D.int),ig xs.length] (.bl true):=by
 refine Pu.of rfl (afg (a1r (jj λx _=>di x)) (di _)) (r:=.ok (.bl true) []) ?_ (m8 (a5u _) (by simp)) (a5u _)
 unfold SRC.ao;rw [gk];show toR (SRC.m9 [some (.tup (xs.map D.int)),some (ig xs.length),none] [])=_;unfold SRC.m9;have it:∀ h:Hd,j8 [.tup (xs.map D.int), .ty "tuple"] h = .ok (.bl true) h:=λh=>by simp [j8,a1k,tyD,a0b]
 refine Eq.trans (congrArg toR (ifN (orF (a75 (qz (ph (bx rfl) (dm _ _ _) (it _)) (jg _))) (tof (gf (ur (bx rfl) a4n) (bx rfl) (a9c (by rw [List.length_map]))))))) ?_
 refine Eq.trans (congrArg toR (a76 (ad0 (bx rfl) rfl))) ?_;have lp:=uh (g:=kN 2) (b:=SRC.lw) D.int
  (λpre τ hh=>∃ t2:Option D,τ=[some (.tup (xs.map D.int)),some (ig xs.length),t2]/\hh=[]) xs [some (.tup (xs.map D.int)),some (ig xs.length),none] [] ?_ ⟨none,rfl,rfl⟩
 ·obtain ⟨τ',h',e,t2,rfl,rfl⟩:=lp;refine Eq.trans (congrArg (λz=>toR (MI.thn z _)) e) ?_;rfl
 ·rintro pre x post τ hh all ⟨t2,rfl,rfl⟩
  refine ⟨_,_,rfl,[some (.tup (xs.map D.int)),some (ig xs.length),some (.int x)],[],?_,_,rfl,rfl⟩;unfold SRC.lw;have ii:∀ h:Hd,j8 [.int x, .ty "int"] h = .ok (.bl true) h:=λh=>by simp [j8,a1k,tyD,a0b]
  have ib:∀ h:Hd,j8 [.int x, .ty "bool"] h = .ok (.bl false) h:=λh=>by simp [j8,a1k,tyD,a0b]
  exact Eq.trans (ifF (orF (a75 (qz (ph (bx rfl) (dm _ _ _) (ii _)) (jg _))) (qz (ph (bx rfl) (dm _ _ _) (ib _)) (jg _)))) rfl
end
end SRC
namespace EVT
open PySem PySem.Spec L2 MI AT HND
section
variable{f g k f1 f2 f3:SE}{ka:SA}{c c1 c2:ST}{τ:Sd}{h h1 h2 h3:Hd}{a b d v:D}{i:Nat}{t u:Bool}{xs ys ds:List D}
theorem ajh(co:∀ o∈h,xg 0 o):sZ aaw τ h = .ok (.rod [] []) h:=by
 unfold sZ;show a5o h.length (.ok (.ref h.length) (h++[.dK []]))=_;rw [xr (d':=.rod [] []) ?_ ?_]
 ·simp
 ·unfold FU a0p;rw [if_neg (by simp only [MI.clo];omega)]
  simp [ux]
 ·simp only [List.take_left'];exact λo ho=>v8 (Nat.zero_le _) (co o ho)
end
end EVT
namespace K37
open PySem PySem.Spec L2 MI AT HND EVX K22 K23 K21
theorem afj(m:List Nat):(uc 10 m).length+1=(SPT.spt m).1:=by
 refine SPT.a4j (P:=λm=>(uc 10 m).length+1=(SPT.spt m).1) rfl (λl x ih=>?_) m;rw [a04,SPT.zb];unfold SPT.step
 split
 ·rw [List.length_append,List.length_singleton];show _=(SPT.spt l).1+1;omega
 ·rw [List.append_nil];exact ih
def rf(m:List Nat):Int:=match (uc 10 m).getLast? with | some i=>(i:Int) | none => -1
theorem abm(m:List Nat):(m.length:Int) - rf m=((SPT.spt m).2:Nat):=by
 refine SPT.a4j (P:=λm=>(m.length:Int) - rf m=((SPT.spt m).2:Nat)) rfl (λl x ih=>?_) m;have rn:rf (l++[x])=if x=10 then (l.length:Int) else rf l:=by
  unfold rf;rw [a04]
  by_cases z:x=10
  ·rw [if_pos z,if_pos z,List.getLast?_concat]
  ·rw [if_neg z,if_neg z,List.append_nil]
 rw [rn,SPT.zb,List.length_append,List.length_singleton];unfold SPT.step
 by_cases z:x=10
 ·rw [if_pos z,if_pos z];show ((l.length+1:Nat):Int) - (l.length:Nat)=((1:Nat):Int);omega
 ·rw [if_neg z,if_neg z];show ((l.length+1:Nat):Int) - _=(((SPT.spt l).2+1:Nat):Int);omega
abbrev spD(q:Nat × Nat):D:=.tup [ig q.1,ig q.2]
theorem a3j(n:Nat)(q:Nat × Nat):MI.clo n (spD q):=a1r (iw (di _) (iw (di _) w6))
theorem alh(m:List Nat)(h:Hd):a69 (.str (S m)) [.str "\n"] h = .ok (.int ((uc 10 m).length:Nat)) h:=by
 show R.ok (D.int (afw (S m) 10)) h=_;unfold afw;rw [a8u]
theorem anx(m:List Nat)(h:Hd):a6a (.str (S m)) [.str "\n"] h = .ok (.int (rf m)) h:=by
 show R.ok (D.int (rfC (S m) 10)) h=_;rw [ais];rfl
noncomputable def ie:SF:=n8 a6d 3
theorem a4q{t:List Nat}{p:Nat}(tl:t.length<=1000)(pl:p<=t.length):Pu ie 2 [.str (S t),ig p] (spD (SPT.spt (t.take p))):=by
 refine Pu.of rfl (K21.afg (kj _) (di _)) (r:=.ok (spD (SPT.spt (t.take p))) []) ?_ (m8 (a3j _ _) (by simp)) (a3j _ _)
 unfold ie;rw [gk];show toR (a6d [some (.str (S t)),some (ig p),none] [])=_;unfold a6d;refine Eq.trans (congrArg toR (jw (afi (bx rfl) rfl (afh (bx rfl)) (ank (l:=t) p (ju (by omega)))))) ?_
 have e1:=afj (t.take p);have e2:=abm (t.take p);rw [List.length_take,show min p t.length=p by omega] at e2
 refine Eq.trans (congrArg toR (sy (ph (gf (K23.alg (bx rfl) (arg1 (dm _ _ _)) (alh _ _)) (dm _ _ _) jz) (gf (bx rfl) (K23.alg (bx rfl) (arg1 (dm _ _ _)) (anx _ _)) (show MI.a07 (ig p) (.int (rf (t.take p))) [] = .ok (.int ((p:Int) - rf (t.take p))) [] from rfl)) ajb))) ?_
 rw [e2,show (((uc 10 (t.take p)).length:Nat):Int)+1=(((uc 10 (t.take p)).length+1:Nat):Int) by omega,e1]
 rfl
abbrev a7a:List D:=[.non, .bl true, .bl false, .str "1", .tup [.int 1], .rol [.int 1], .rod [] []]
noncomputable def iz:SF:=n8 km 1
noncomputable def bj:SF:=n8 (iu iz) 3
theorem puB{F:SF}{n:Nat}{ds:List D}{b:Bool}(hn:ds.length=n)(ca:∀ x∈ds,MI.clo 0 x)(e:F ds [] = .ok (.bl b) []):Pu F n ds (.bl b):=Pu.of hn ca e (m8 (a5u _) (by simp)) (a5u _)
theorem afk(i:Int):Pu iz 1 [.int i] (.bl true):=by
 refine puB rfl (by simp [MI.clo]) ?_
 unfold iz;rw [gk];show toR (km [some (.int i)] [])=_;unfold km;refine congrArg toR (sy (af8 (ph (bx rfl) (dm _ _ _) (show j8 [.int i, .ty "int"] [] = .ok (.bl true) [] by simp [j8,a1k,tyD,a0b])) ?_))
 unfold a2s;rw [ph (bx rfl) (dm _ _ _) (show j8 [.int i, .ty "bool"] [] = .ok (.bl false) [] by simp [j8,a1k,tyD,a0b]),dh]
 rfl
theorem zg{d:D}(hd:d∈a7a):MI.clo 0 d:=by
 simp only [a7a,List.mem_cons,List.not_mem_nil,or_false] at hd
 rcases hd with rfl | rfl | rfl | rfl | rfl | rfl | rfl<;>simp [MI.clo,MI.clos]
theorem afl{d:D}(hd:d∈a7a):Pu iz 1 [d] (.bl false):=by
 refine puB rfl (by intro x hx;rw [List.mem_singleton] at hx;subst hx;exact zg hd) ?_
 unfold iz;rw [gk];show toR (km [some d] [])=_;unfold km;have no:j8 [d, .ty "int"] [] = .ok (.bl false) []->toR (um (zz (sA j8 (aj (sV 0) (aj (sC (.ty "int")) dq))) (a2s (sA j8 (aj (sV 0) (aj (sC (.ty "bool")) dq))))) [some d] []) = .ok (.bl false) []:=λe=>congrArg toR (sy (PAP.ajf (ph (bx rfl) (dm _ _ _) e)));have yes:j8 [d, .ty "int"] [] = .ok (.bl true) []->j8 [d, .ty "bool"] [] = .ok (.bl true) []->toR (um (zz (sA j8 (aj (sV 0) (aj (sC (.ty "int")) dq))) (a2s (sA j8 (aj (sV 0) (aj (sC (.ty "bool")) dq))))) [some d] []) = .ok (.bl false) []:=λe1 e2=>by
  refine congrArg toR (sy (af8 (ph (bx rfl) (dm _ _ _) e1) ?_));unfold a2s;rw [ph (bx rfl) (dm _ _ _) e2,dh];rfl
 simp only [a7a,List.mem_cons,List.not_mem_nil,or_false] at hd
 rcases hd with rfl | rfl | rfl | rfl | rfl | rfl | rfl
 ·exact no (by simp [j8,a1k,tyD,a0b])
 ·exact yes (by simp [j8,a1k,tyD,a0b]) (by simp [j8,a1k,tyD,a0b])
 ·exact yes (by simp [j8,a1k,tyD,a0b]) (by simp [j8,a1k,tyD,a0b])
 ·exact no (by simp [j8,a1k,tyD,a0b])
 ·exact no (by simp [j8,a1k,tyD,a0b])
 ·exact no (by simp [j8,a1k,tyD,a0b])
 ·exact no (by simp [j8,a1k,tyD,a0b])
theorem anz{f g k:SE}{τ:Sd}{h:Hd}{a x b:Int}(e1:f τ h = .ok (.int a) h)(e2:g τ h = .ok (.int x) h)(e3:k τ h = .ok (.int b) h):sCh gLe gLe f g k τ h = .ok (.bl (decide (a<=x/\x<=b))) h:=by
 unfold sCh;rw [e1,dh,e2,dh]
 by_cases c:a<=x
 ·rw [SRC.anv c,dh];dsimp only;rw [e3,dh];show R.ok (D.bl (decide (x<=b))) h=_;simp [c]
 ·rw [SRC.anw c,dh];simp [c]
theorem wu(i lo hi:Int):Pu bj 3 [.int i, .int lo, .int hi] (.bl (decide (lo<=i/\i<=hi))):=by
 refine puB rfl (by simp [MI.clo]) ?_
 unfold bj;rw [gk];show toR (iu iz [some (.int i),some (.int lo),some (.int hi)] [])=_;unfold iu;exact congrArg toR (sy (af8 (ur (bx rfl) (afk i _)) (anz (bx (i:=1) rfl) (bx (i:=0) rfl) (bx (i:=2) rfl))))
theorem a6i{d:D}(hd:d∈a7a)(lo hi:Int):Pu bj 3 [d, .int lo, .int hi] (.bl false):=by
 refine puB rfl (by intro x hx;simp only [List.mem_cons,List.not_mem_nil,or_false] at hx;rcases hx with rfl | rfl | rfl;exact zg hd;exact di _;exact di _) ?_
 unfold bj;rw [gk];show toR (iu iz [some d,some (.int lo),some (.int hi)] [])=_;unfold iu;exact congrArg toR (sy (PAP.ajf (ur (bx rfl) (afl hd _))))
theorem afm{t:List Nat}(tl:t.length<=1000)(h:Hd):a3g (.str (S t)) [.str "\n"] h = .ok (.ref h.length) (h++[.lst ((SPT.lines t).map λm=>.str (S m))]):=by
 show (if ("\n" : Str).cps.toList=[10]/\(S t).length+1<=LINE then R.ok (D.ref h.length) (h++[O.lst ((SPT.lines t).map λm=>D.str (lnS m))]) else .no)=_
 rw [if_pos ⟨rfl,ju (by show t.toArray.size+1<=_;simp;omega)⟩]
 rfl
theorem a4r{ls:List (List Nat)}{k:Nat}{m:List Nat}(e:ls[k]? = some m):SPT.ln ls k=m.length:=by unfold SPT.ln;rw [e];rfl
theorem a9k(ls:List (List Nat)):∀ k,k<=ls.length->((ls.take k).map λm=>((m.length:Nat):Int)+1).sum=((SPT.off ls k:Nat):Int)
 | 0,_=>by rw [List.take_zero];rfl
 | k+1,h=>by
  have e:ls[k]? = some ls[k]:=List.getElem?_eq_getElem (by omega)
  rw [List.take_succ,e,List.map_append,List.sum_append,a9k ls k (by omega)]
  show _+(((ls[k].length:Nat):Int)+1+0)=((SPT.off ls k+(SPT.ln ls k+1):Nat):Int);rw [a4r e];omega
noncomputable def fj:SF:=n8 (jo bj) 4
section
variable{t:List Nat}
abbrev afz(t:List Nat):D:=.rol ((SPT.lines t).map λm=>.str (S m))
theorem a9l(n:Nat)(ls:List (List Nat)):clos n (ls.map λm=>D.str (S m)):=jj λm _=>kj _
theorem a4s(tl:t.length<=1000)(a b:D)(g:SS):j5 (jx 3 (sZ (sMS a3g (sV 0) (aj (sC (.str "\n")) dq)))) g [some (.str (S t)),some a,some b,none] []=g [some (.str (S t)),some a,some b,some (afz t)] [] :=
 jw (a1s (K23.alg (bx rfl) (arg1 (dm _ _ _)) (afm tl _)) (a9l _ _) (by simp))
theorem afn(h:Hd):qj [afz t] h = .ok (ig (SPT.lines t).length) h:=by rw [v9,List.length_map]
theorem a9m(tl:t.length<=1000){a b:D}(q:Pu bj 3 [a, .int 1,ig (SPT.lines t).length] (.bl false)):fj [.str (S t),a,b] [] = .ex "NoPlace" []:=by
 unfold fj;rw [gk];show toR (jo bj [some (.str (S t)),some a,some b,none] [])=_;unfold jo;refine Eq.trans (congrArg toR (a4s tl a b _)) ?_;exact congrArg toR (ajc (Eq.trans (ifT (orT (al6 (qz (a4p (bx rfl) (dm _ _ _) (ur (bx rfl) (afn _)) (q _)) (jg _))))) (a9g (arg1 (dm _ _ _)) (by simp))))
theorem ad2(tl:t.length<=1000){k:Nat}{m:List Nat}(e:(SPT.lines t)[k]? = some m)(ml:m.length<=1000){a b:D}(h:Hd):(s2 iy (sA qj (aj (s2 gIx (sV 3) (s2 MI.a07 (sV 1) (sC (.int 1)))) dq)) (sC (.int 1))) [some (.str (S t)),some (.int ((k:Nat)+1)),some b,some (afz t)] h = .ok (.int ((m.length:Nat)+1)) h:=by
 have sb:MI.a07 (.int ((k:Nat)+1)) (.int 1) h = .ok (ig k) h:=by
  show R.ok (D.int ((k:Int)+1 - 1)) h=_;rw [show (k:Int)+1 - 1=k by omega]
 exact gf (ur (gf (bx rfl) (gf (bx rfl) (dm _ _ _) sb) (afy (by rw [List.getElem?_map,e];rfl))) (af2 (ju (by omega)))) (dm _ _ _) jz
theorem a9n(tl:t.length<=1000){k:Nat}{m:List Nat}(e:(SPT.lines t)[k]? = some m)(ml:m.length<=1000){b:D}(q:Pu bj 3 [b, .int 1, .int ((m.length:Nat)+1)] (.bl false)):fj [.str (S t), .int ((k:Nat)+1),b] [] = .ex "NoPlace" []:=by
 have kl:k<(SPT.lines t).length:=(List.getElem?_eq_some_iff.mp e).1;unfold fj;rw [gk];show toR (jo bj [some (.str (S t)),some (.int ((k:Nat)+1)),some b,none] [])=_;unfold jo;refine Eq.trans (congrArg toR (a4s tl _ b _)) ?_;have q1:=wu ((k:Nat)+1) 1 (SPT.lines t).length;rw [decide_eq_true (by omega)] at q1
 exact congrArg toR (ajc (Eq.trans (ifT (orF (a75 (qz (a4p (bx rfl) (dm _ _ _) (ur (bx rfl) (afn _)) (q1 _)) (jg _))) (al6 (qz (a4p (bx rfl) (dm _ _ _) (ad2 tl e ml (a:=b) _) (q _)) (jg _))))) (a9g (arg1 (dm _ _ _)) (by simp))))
theorem afo(tl:t.length<=1000){k j:Nat}{m:List Nat}(e:(SPT.lines t)[k]? = some m)(ml:m.length<=1000)(hj:j<=m.length):fj [.str (S t), .int ((k:Nat)+1), .int ((j:Nat)+1)] [] = .ok (ig (SPT.off (SPT.lines t) k+j)) []:=by
 have kl:k<(SPT.lines t).length:=(List.getElem?_eq_some_iff.mp e).1;have ll:=wg t;unfold fj;rw [gk];show toR (jo bj [some (.str (S t)),some (.int ((k:Nat)+1)),some (.int ((j:Nat)+1)),none] [])=_;unfold jo;refine Eq.trans (congrArg toR (a4s tl _ _ _)) ?_;have q1:=wu ((k:Nat)+1) 1 (SPT.lines t).length;rw [decide_eq_true (by omega)] at q1
 have q2:=wu ((j:Nat)+1) 1 ((m.length:Nat)+1);rw [decide_eq_true (by omega)] at q2
 refine Eq.trans (congrArg toR (ifN (orF (a75 (qz (a4p (bx rfl) (dm _ _ _) (ur (bx rfl) (afn _)) (q1 _)) (jg _))) (a75 (qz (a4p (bx rfl) (dm _ _ _) (ad2 tl e ml (a:=.non) _) (q2 _)) (jg _)))))) ?_;have sb:MI.a07 (.int ((k:Nat)+1)) (.int 1) [] = .ok (ig k) []:=by
  show R.ok (D.int ((k:Int)+1 - 1)) []=_;rw [show (k:Int)+1 - 1=k by omega]
 have sl:sZ (a71 (sV 3) oN (oS (s2 MI.a07 (sV 1) (sC (.int 1))))) [some (.str (S t)),some (.int ((k:Nat)+1)),some (.int ((j:Nat)+1)),some (afz t)] [] = .ok (.rol (((SPT.lines t).take k).map λm=>.str (S m))) []:=by
  have e1:ack (afz t) none (some (k:Int)) [] = .ok (.ref 0) [.lst (((SPT.lines t).take k).map λm=>.str (S m))]:=by
   show R.ok (D.ref 0) [O.lst (a2f ((SPT.lines t).map λm=>D.str (S m)) none (some (k:Int)))]=_;rw [a3v,List.map_take]
  exact a1s (afi (bx rfl) rfl (afh (gf (bx rfl) (dm _ _ _) sb)) e1) (a9l _ _) (by simp)
 have cp:sZ (v4 (sIt (sZ (a71 (sV 3) oN (oS (s2 MI.a07 (sV 1) (sC (.int 1))))))) t1 (mq bj) []) [some (.str (S t)),some (.int ((k:Nat)+1)),some (.int ((j:Nat)+1)),some (afz t)] [] = .ok (.rol ((((SPT.lines t).take k).map λm=>((m.length:Nat):Int)+1).map D.int)) []:=by
  rw [List.map_map];refine a1s (ue (λm:List Nat=>D.str (S m)) (λm:List Nat=>D.int (((m.length:Nat):Int)+1)) ((SPT.lines t).take k) (ad0 sl rfl) (ju (by rw [List.length_take];omega)) λm hm=>?_) (jj λm _=>di _) (by simp)
  show mq bj [some (.str (S m))] []=_;unfold mq;obtain ⟨i,hi,em⟩:=List.getElem_of_mem (List.mem_of_mem_take hm);have il:m.length<=1000:=by
   have:=(SPT.xx t i m.length hi (by rw [a4r (List.getElem?_eq_getElem hi),em];exact Nat.le_refl _)).1
   omega
  exact gf (ur (bx rfl) (af2 (ju (by omega)))) (dm _ _ _) jz
 have sm:acg [.rol ((((SPT.lines t).take k).map λm=>((m.length:Nat):Int)+1).map D.int)] [] = .ok (ig (SPT.off (SPT.lines t) k)) []:=by
  unfold acg;dsimp only;rw [SRC.ints_map];dsimp only;rw [a9k _ _ (by omega)]
 refine Eq.trans (congrArg toR (sy (gf (gf (ur cp sm) (bx (i:=2) rfl) jz) (dm _ _ _) (show MI.a07 (.int (((SPT.off (SPT.lines t) k:Nat):Int)+((j:Nat)+1))) (.int 1) [] = .ok (.int (((SPT.off (SPT.lines t) k:Nat):Int)+((j:Nat)+1) - 1)) [] from rfl)))) ?_
 rw [show ((SPT.off (SPT.lines t) k:Nat):Int)+((j:Nat)+1) - 1=((SPT.off (SPT.lines t) k+j:Nat):Int) by omega]
 rfl
noncomputable def bf:SF:=n8 (lq fj) 5
theorem a0t{a b c:D}(ha:MI.clo 0 a)(hb:MI.clo 0 b)(hc:MI.clo 0 c):∀ x∈[a,b,c],MI.clo 0 x:=by
 intro x hx
 simp only [List.mem_cons,List.not_mem_nil,or_false] at hx
 rcases hx with rfl | rfl | rfl<;>assumption
theorem a9o{a b:D}(ca:MI.clo 0 a)(cb:MI.clo 0 b)(e:fj [.str (S t),a,b] [] = .ex "NoPlace" []):Pu bf 3 [.str (S t),a,b] .non:=by
 refine Pu.of rfl (a0t (kj _) ca cb) (r:=.ok .non []) ?_ (m8 a4g (by simp)) a4g
 unfold bf;rw [gk];show toR (lq fj [some (.str (S t)),some a,some b,none,none] [])=_;unfold lq;have ex:jx 4 (sA (a0d 3 fj) (qA (aj (sV 0) (aj (sV 1) (aj (sV 2) dq))))) [some (.str (S t)),some a,some b,none,none] [] = .ex "NoPlace" []:=alc ((amm (qof (je (bx rfl) (je (bx rfl) (je (bx rfl) rfl))))).trans (afc rfl (a0t (kj _) ca cb) e));refine congrArg toR (af7 ?_);unfold afv;rw [ex];show (if mj "NoPlace" = true then _ else _)=_
 rw [if_pos (by decide)]
 have hd:∀ g:SS,j5 (sIf (a3m (yt (a79 3 wj)) (a3m (yt (a79 3 oh)) (a09 (yt (a79 3 ik))))) (um (sC .non)) sNx) g ([some (.str (S t)),some a,some b,none,none].set 3 (some (.exc "NoPlace"))) [] = .rt .non []:=λg =>
  af7 (Eq.trans (ifT (afx (qz (afe (b:=true) rfl (by decide)) (jg _)) (afx (qz (afe (b:=true) rfl (by decide)) (jg _)) (al6 (qz (afe (b:=false) rfl (by decide)) (jg _)))))) (sy (dm _ _ _)))
 rw [hd]
theorem afp{a b:D}{p:Nat}(ca:MI.clo 0 a)(cb:MI.clo 0 b)(e:fj [.str (S t),a,b] [] = .ok (ig p) []):Pu bf 3 [.str (S t),a,b] (ig p):=by
 refine Pu.of rfl (a0t (kj _) ca cb) (r:=.ok (ig p) []) ?_ (m8 (di _) (by simp)) (di _)
 unfold bf;rw [gk];show toR (lq fj [some (.str (S t)),some a,some b,none,none] [])=_;unfold lq;have pu:Pu fj 3 [.str (S t),a,b] (ig p):=Pu.of rfl (a0t (kj _) ca cb) e (m8 (di _) (by simp)) (di _)
 have ex:jx 4 (sA (a0d 3 fj) (qA (aj (sV 0) (aj (sV 1) (aj (sV 2) dq))))) [some (.str (S t)),some a,some b,none,none] [] = .nx [some (.str (S t)),some a,some b,none,some (ig p)] []:=al5 ((amm (qof (je (bx rfl) (je (bx rfl) (je (bx rfl) rfl))))).trans (afd (a0t (kj _) ca cb) e pu));refine Eq.trans (congrArg toR (ye (ajd ex))) ?_;exact congrArg toR (sy (bx rfl))
end
theorem a9p{n x:Nat}{pre post:List Nat}(e:List.range n=pre++x::post):x=pre.length/\pre.length<n:=by
 have q:(List.range n)[pre.length]? = some x:=by rw [e,List.getElem?_append_right (Nat.le_refl _),Nat.sub_self];rfl
 obtain ⟨h1,h2⟩:=List.getElem?_eq_some_iff.mp q;rw [List.getElem_range] at h2;rw [List.length_range] at h1;exact ⟨h2.symm,h1⟩
abbrev sps(t:List Nat):List D:=(List.range (t.length+1)).map λp=>spD (SPT.spt (t.take p))
theorem a9q(n:Nat)(t:List Nat):clos n (sps t):=jj λp _=>a3j n _
theorem a2e(t:List Nat):sps t=((List.range t.length).map λp=>spD (SPT.spt (t.take p)))++[spD (SPT.spt t)]:=by
 unfold sps;rw [List.range_succ,List.map_append];show _++[spD (SPT.spt (t.take t.length))]=_;rw [List.take_length]
theorem abn(t:List Nat)(x:Nat):sps (t++[x])=sps t++[spD (SPT.spt (t++[x]))]:=by
 rw [a2e (t++[x]),List.length_append,List.length_singleton]
 congr 1
 refine List.map_congr_left λp hp=>?_;rw [List.mem_range] at hp;rw [List.take_append_of_le_length (by omega)]
theorem a9r{t:List Nat}{p:Nat}(h:p<=t.length):(sps t)[p]? = some (spD (SPT.spt (t.take p))):=by
 rw [List.getElem?_map,List.getElem?_range (by omega)]
 rfl
theorem a9s(t:List Nat):(sps t).length=t.length+1:=by rw [List.length_map,List.length_range]
theorem aji(x:Nat)(h:Hd):hEq (.str (S [x])) (.str "\n") h = .ok (.bl (decide (x=10))) h:=by
 unfold hEq;rw [if_pos ⟨rfl,rfl⟩];show R.ok (D.bl (S [x] == S [10])) h=_
 congr 2
 by_cases z:x=10
 ·subst z;simp
 ·rw [decide_eq_false z];refine beq_eq_false_iff_ne.mpr λe=>z ?_;have:=congrArg (λs:Str=>s.cps.toList) e;simpa using this
noncomputable def c7:SF:=n8 qx 5
theorem a9t{t:List Nat}(tl:t.length<=1000):Pu c7 1 [.str (S t)] (.rol (sps t)):=by
 refine Pu.of rfl (by intro x hx;rw [List.mem_singleton] at hx;subst hx;exact kj _) (r:=.ok (.ref 0) [.lst (sps t)]) ?_ (xr (yz (k:=18) (by omega) rfl (a9q _ _)) (by simp)) (xq (a9q _ _))
 have lp:=uh (g:=kN 2) (b:=p8) (λc:Nat=>D.str (S [c]))
  (λpre τ h=>∃ a b c:Option D,τ=[some (.str (S t)),some (.ref 0),a,b,c]/\h=[.lst (sps pre)])
  t [some (.str (S t)),some (.ref 0),none,none,none] [.lst (sps [])] ?_ ⟨none,none,none,rfl,rfl⟩
 ·obtain ⟨τ',h',e,a,b,c,rfl,rfl⟩:=lp;unfold c7;rw [gk];show toR (qx [some (.str (S t)),none,none,none,none] [])=_;unfold qx;refine Eq.trans (congrArg toR (jw (d:=.ref 0) (h1:=[.lst (sps [])]) (ur (ph (dm _ _ _) (dm _ _ _) ajb) rfl))) ?_;refine Eq.trans (congrArg toR (a76 (ad0 (bx rfl) (PAP.anu t _)))) ?_;refine Eq.trans (congrArg (λz=>toR (MI.thn z _)) e) ?_;rw [yo];exact congrArg toR (sy (bx rfl))
 ·rintro pre x post τ h all ⟨a,b,c,rfl,rfl⟩
  have pl:pre.length<=1000:=by rw [all,List.length_append,List.length_cons] at tl;omega
  have lx:∀ hh:Hd,hh=[.lst (sps pre)]->gIx (.ref 0) (.int (-1)) hh = .ok (spD (SPT.spt pre)) hh:=λhh e=>by
   subst e;rw [MI.a6f];show (match atI (sps pre) (-1) with | some d=>R.ok d _ | none=>.no)=_
   rw [a2e,a9j]
  refine ⟨_,_,rfl,[some (.str (S t)),some (.ref 0),some (.str (S [x])),some (ig (SPT.spt pre).1),some (ig (SPT.spt pre).2)],[.lst (sps (pre++[x]))],?_,_,_,_,rfl,rfl⟩;unfold p8;refine Eq.trans (ye (al9 (gf (bx rfl) (aml (dm _ _ _) (aja _)) (lx _ rfl)) rfl)) ?_;rw [abn,SPT.zb];refine a6h (bx rfl) rfl (arg1 ?_) (a9b (h:=[.lst (sps pre)]) (i:=0) (a:=spD (SPT.step (SPT.spt pre) x)) (xs:=sps pre) rfl (by rw [a9s];exact a9d (by omega)))
  unfold SPT.step
  by_cases z:x=10
  ·rw [if_pos z];exact SRC.ale (tof (gf (bx rfl) (dm _ _ _) ((aji x _).trans (by rw [decide_eq_true z])))) (ph (gf (bx rfl) (dm _ _ _) jz) (dm _ _ _) ajb)
  ·rw [if_neg z];exact SRC.alf (tof (gf (bx rfl) (dm _ _ _) ((aji x _).trans (by rw [decide_eq_false z])))) (ph (bx rfl) (gf (bx rfl) (dm _ _ _) jz) ajb)
abbrev P3:=Nat × Nat × Nat
abbrev p3D(p:P3):D:=.tup [ig p.1,ig p.2.1,ig p.2.2]
theorem a6j(n:Nat)(ps:List P3):clos n (ps.map p3D):=jj λp _=>a1r (iw (di _) (iw (di _) (iw (di _) w6)))
abbrev s3D(t:List Nat)(p:P3):D:=.tup [ig p.1,spD (SPT.spt (t.take p.2.1)),spD (SPT.spt (t.take p.2.2))]
theorem a0u(n:Nat)(t:List Nat)(ps:List P3):clos n (ps.map (s3D t)):=jj λp _=>a1r (iw (di _) (iw (a3j _ _) (iw (a3j _ _) w6)))
def POk(n:Nat)(ps:List P3):Prop:=∀ p∈ps,p.2.1<=n/\p.2.2<=n
noncomputable def g8:SF:=n8 (a1y ie) 2
theorem a3k{t:List Nat}{ps:List P3}(tl:t.length<=1000)(pl:ps.length<=1000)(h:POk t.length ps):g8 [.str (S t), .rol (ps.map p3D)] [] = .ok (.ref 0) [.lst (ps.map (s3D t))]:=by
 unfold g8;rw [gk];show toR (a1y ie [some (.str (S t)),some (.rol (ps.map p3D))] [])=_;unfold a1y;refine congrArg toR (sy (ue p3D (s3D t) ps (ad0 (bx rfl) rfl) (ju (by omega)) λp hp=>?_))
 obtain ⟨h1,h2⟩:=h p hp;show yc ie [some (ig p.1),some (ig p.2.1),some (ig p.2.2),some (.str (S t))] []=_;unfold yc;exact a4p (bx rfl) (ph (bx rfl) (bx rfl) (a4q tl h1 _)) (ph (bx rfl) (bx rfl) (a4q tl h2 _)) ala
theorem a9u{t:List Nat}{ps:List P3}:∀ x∈[D.str (S t), .rol (ps.map p3D)],MI.clo 0 x:=K21.afg (kj _) (xq (a6j _ _))
theorem abo{t:List Nat}{ps:List P3}(tl:t.length<=1000)(pl:ps.length<=1000)(h:POk t.length ps):Pu g8 2 [.str (S t), .rol (ps.map p3D)] (.rol (ps.map (s3D t))) :=
 Pu.of rfl a9u (a3k tl pl h) (xr (yz (k:=18) (by omega) rfl (a0u _ _ _)) (by simp)) (xq (a0u _ _ _))
noncomputable def bh:SF:=n8 (my SRC.ao) 4
theorem a77{t:List Nat}{ps:List P3}(pl:ps.length<=1000):Pu bh 3 [.rol (ps.map (s3D t)), .rol (ps.map (s3D t)), .int 3] (.bl true):=by
 have cd:MI.clo 0 (.rol (ps.map (s3D t))):=xq (a0u _ _ _);refine puB rfl (a0t cd cd (di _)) ?_;have lp:=uh (g:=kN 3) (b:=lz SRC.ao) ig
  (λpre τ h=>∃ a:Option D,τ=[some (.rol (ps.map (s3D t))),some (.rol (ps.map (s3D t))),some (.int 3),a]/\h=[])
  (List.range ps.length) [some (.rol (ps.map (s3D t))),some (.rol (ps.map (s3D t))),some (.int 3),none] [] ?_ ⟨none,rfl,rfl⟩
 ·obtain ⟨τ',h',e,a,rfl,rfl⟩:=lp;unfold bh;rw [gk];show toR (my SRC.ao [some (.rol (ps.map (s3D t))),some (.rol (ps.map (s3D t))),some (.int 3),none] [])=_;unfold my;have ln:qj [.rol (ps.map (s3D t))] [] = .ok (ig ps.length) []:=by rw [v9,List.length_map]
  refine Eq.trans (congrArg toR (ifN (orF (a75 (qz (ph (bx rfl) (dm _ _ _) (show j8 [.rol (ps.map (s3D t)), .ty "list"] [] = .ok (.bl true) [] by simp [j8,a1k,tyD,a0b])) (jg _))) (tof (gf (ur (bx rfl) ln) (ur (bx rfl) ln) (a9c rfl)))))) ?_
  refine Eq.trans (congrArg toR (a76 (a4o (n:=ps.length) (ur (bx rfl) ln) (ju (by omega))))) ?_
  refine Eq.trans (congrArg (λz=>toR (MI.thn z _)) e) ?_;rw [yo];exact congrArg toR (sy (dm _ _ _))
 ·rintro pre x post τ h all ⟨a,rfl,rfl⟩
  obtain ⟨rfl,hx⟩:=a9p all;refine ⟨_,_,rfl,[some (.rol (ps.map (s3D t))),some (.rol (ps.map (s3D t))),some (.int 3),some (ig pre.length)],[],?_,_,rfl,rfl⟩;have px:ps[pre.length]? = some ps[pre.length]:=List.getElem?_eq_getElem hx
  generalize ps[pre.length]=p at px
  have ix:gIx (.rol (ps.map (s3D t))) (ig pre.length) [] = .ok (s3D t p) []:=afy (by rw [List.getElem?_map,px];rfl)
  have i1:gIx (s3D t p) (.int 1) [] = .ok (spD (SPT.spt (t.take p.2.1))) []:=ad1 (j:=1) rfl;have i2:gIx (s3D t p) (.int 2) [] = .ok (spD (SPT.spt (t.take p.2.2))) []:=ad1 (j:=2) rfl;have ne:hNe (s3D t p) (s3D t p) [] = .ok (.bl false) []:=by
   unfold hNe;rw [if_pos ⟨rfl,rfl⟩];show R.ok (D.bl (!eqD (s3D t p) (s3D t p))) []=_;simp [eqD,a0c]
  unfold lz;refine Eq.trans (ifN (orF (a75 (qz (ph (gf (bx rfl) (bx rfl) ix) (dm _ _ _) (show j8 [s3D t p, .ty "tuple"] [] = .ok (.bl true) [] by simp [j8,a1k,tyD,a0b])) (jg _))) (orF (tof (gf (ur (gf (bx rfl) (bx rfl) ix) (show qj [s3D t p] [] = .ok (.int 3) [] from rfl)) (dm _ _ _) (a9c rfl))) (a75 (qz (ph (afi (gf (bx rfl) (bx rfl) ix) rfl (afh (dm _ _ _)) (show ack (s3D t p) none (some 1) [] = .ok (.tup [ig p.1]) [] from rfl)) (dm _ _ _) (SRC.qi (xs:=[(p.1:Int)]) (by simp) _)) (jg _)))))) ?_
  exact Eq.trans (ifF (orF (a75 (qz (ph (gf (gf (bx rfl) (bx rfl) ix) (dm _ _ _) i1) (dm _ _ _) (SRC.qi (xs:=[((SPT.spt (t.take p.2.1)).1:Int),((SPT.spt (t.take p.2.1)).2:Int)]) (by simp) _)) (jg _))) (orF (a75 (qz (ph (gf (gf (bx rfl) (bx rfl) ix) (dm _ _ _) i2) (dm _ _ _) (SRC.qi (xs:=[((SPT.spt (t.take p.2.2)).1:Int),((SPT.spt (t.take p.2.2)).2:Int)]) (by simp) _)) (jg _))) (tof (gf (gf (bx rfl) (bx rfl) ix) (gf (bx rfl) (bx rfl) ix) ne))))) rfl
end K37
namespace K37
open PySem PySem.Spec L2 MI AT HND EVX K22 K23 K21
open SRC (Src)
theorem dk{o:O}{N:Nat}{m:Int}(P:Src o N)(hN:N<=1000000000)(m0:0<m)(m1:m<1073741824):∃ (r:Nat) (o':O),(r:Int)<m/\Src o' (N+1)/\∀ h:Hd,jd false 2 SRC.ak [.ref 0, .int m] (o::h) = .ok (ig r) (o'::h):=by
 obtain ⟨r,o',e,r0,r1,P'⟩:=SRC.afb P hN m0 m1;obtain ⟨j,rfl⟩:=Int.eq_ofNat_of_zero_le r0;exact ⟨j,o',r1,P',λh=>e 0 _ rfl⟩
noncomputable def bz:SF:=n8 (qw SRC.ak SRC.gw) 6
theorem abp{o:O}{N:Nat}(P:Src o N)(hN:N<=999990000):∃ (t:List Nat) (o':O),t.length<=240/\Dr bz 1 [] o (.str (S t)) o'/\Src o' (N+250):=by
 obtain ⟨a,o1,a1,P1,c1⟩:=dk (m:=31) P (by omega) (by omega) (by omega)
 obtain ⟨b,o2,b1,P2,c2⟩:=dk (m:=6) P1 (by omega) (by omega) (by omega)
 obtain ⟨c,o3,c1',P3,c3⟩:=dk (m:=241) P2 (by omega) (by omega) (by omega)
 obtain ⟨n,u,hn,Pu,eu⟩:∃ (n:Nat) (u:O),n<=240/\Src u (N+3)/\∀ G:SS,j5 (sIf (sT (s2 hEq (sA (jd false 2 SRC.ak) (aj (sV 0) (aj (sC (.int 6)) dq))) (sC (.int 0)))) (jx 1 (sA (jd false 2 SRC.ak) (aj (sV 0) (aj (sC (.int 241)) dq)))) sNx) G [some (.ref 0),some (ig a),none,none,none,none] [o1]=G [some (.ref 0),some (ig n),none,none,none,none] [u]:=by
  by_cases z:b=0
  ·exact ⟨c,o3,by omega,P3,λG=>ye (Eq.trans (ifT (tof (gf (ph (bx rfl) (dm _ _ _) (c2 _)) (dm _ _ _) (afa (by omega))))) (al5 (ph (bx rfl) (dm _ _ _) (c3 _))))⟩
  ·exact ⟨a,o2,by omega,P2.up (by omega),λG=>ifN (tof (gf (ph (bx rfl) (dm _ _ _) (c2 _)) (dm _ _ _) (aj9 (by omega))))⟩
 have lp:=uh (g:=kN 4) (b:=p7 SRC.ak SRC.gw) ig
  (λpre τ h=>∃ (v:O) (t:List Nat) (i q:Option D),τ=[some (.ref 0),some (ig n),some (.str (S sig)),some (.str (S t)),i,q]/\h=[v]/\Src v (N+3+pre.length)/\t.length=pre.length)
  (List.range n) [some (.ref 0),some (ig n),some (.str (S sig)),some (.str (S [])),none,none] [u] ?_ ⟨u,[],none,none,rfl,rfl,Pu,rfl⟩
 ·obtain ⟨τ',h',e,v,t,i,q,rfl,rfl,Pv,tl⟩:=lp;rw [List.length_range] at Pv tl;refine ⟨t,v,by omega,Dr.of rfl (by simp) P.clo (r:=.ok (.str (S t)) [v]) ?_ (m8 (kj _) (by simpa using v8 (by omega) Pv.clo)) (kj _) Pv.clo,Pv.up (by omega)⟩
  unfold bz;rw [gk];show toR (qw SRC.ak SRC.gw [some (.ref 0),none,none,none,none,none] [o])=_;unfold qw;refine Eq.trans (congrArg toR (jw (ph (bx rfl) (dm _ _ _) (c1 _)))) ?_;refine Eq.trans (congrArg toR (eu _)) ?_;refine Eq.trans (congrArg toR (jw (anm (SRC.a2d _)))) ?_;refine Eq.trans (congrArg toR (jw (dm _ _ _))) ?_;refine Eq.trans (congrArg toR (a76 (a4o (n:=n) (bx rfl) (ju (by omega))))) ?_
  refine Eq.trans (congrArg (λz=>toR (MI.thn z _)) e) ?_;rw [yo];exact congrArg toR (sy (bx rfl))
 ·rintro pre x post τ h all ⟨v,t,i,q,rfl,rfl,Pv,tl⟩
  obtain ⟨rfl,hx⟩:=a9p all;obtain ⟨j,v1,j1,Q1,d1⟩:=dk (m:=142) Pv (by omega) (by omega) (by omega)
  have L:∀ k:Nat,k<=1000->k<=LINE:=λk hk=>ju (by omega)
  obtain ⟨x,ex⟩:∃ x:Nat,(a81 (sT (s2 gLt (sV 5) (sC (.int 95)))) (s2 gIx (sV 2) (sV 5)) (sC (.str "\n"))) [some (.ref 0),some (ig n),some (.str (S sig)),some (.str (S t)),some (ig pre.length),some (ig j)] [v1] = .ok (.str (S [x])) [v1]:=by
   by_cases z:j<95
   ·have gx:sig[j]? = some (sig[j]'(by rw [a9a];exact z)):=List.getElem?_eq_getElem _
    exact ⟨_,SRC.ale (tof (gf (bx rfl) (dm _ _ _) (aj8 (by omega)))) (gf (bx rfl) (bx rfl) (anj (L _ (by rw [a9a];omega)) gx))⟩
   ·exact ⟨10,SRC.alf (tof (gf (bx rfl) (dm _ _ _) (ajw (by omega)))) (dm _ _ _)⟩
  refine ⟨_,_,rfl,[some (.ref 0),some (ig n),some (.str (S sig)),some (.str (S (t++[x]))),some (ig pre.length),some (ig j)],[v1],?_,v1,t++[x],_,_,rfl,rfl,Q1.up (by rw [List.length_append,List.length_singleton];omega),by rw [List.length_append,List.length_append,tl];rfl⟩
  unfold p7;refine Eq.trans (jw (ph (bx rfl) (dm _ _ _) (d1 _))) ?_;exact al8 rfl ex (SRC.aje (L _ (by rw [List.length_singleton];omega)))
noncomputable def bw:SF:=n8 (ou SRC.ak) 5
theorem a9v{o:O}{N n:Nat}(P:Src o N)(hN:N<=999990000)(hn:n<=1000):∃ (ps:List P3) (o':O),ps.length<=12/\POk n ps/\Dr bw 2 [ig n] o (.rol (ps.map p3D)) o'/\Src o' (N+30):=by
 have w:=akz (c:=ud SRC.ak) (f:=nu SRC.ak)
  (λm τ h=>∃ (v:O) (ps:List P3) (p:Nat) (e:Option D),τ=[some (.ref 0),some (ig n),some (.ref 1),some (ig p),e]/\h=[v, .lst (ps.map p3D)]/\m=n - p/\p<=n/\ps.length<=12/\Src v (N+2*ps.length)/\POk n ps)
  (λτ h=>∃ (v:O) (ps:List P3) (p:Nat) (e:Option D),τ=[some (.ref 0),some (ig n),some (.ref 1),some (ig p),e]/\h=[v, .lst (ps.map p3D)]/\ps.length<=12/\Src v (N+2*ps.length)/\POk n ps)
  (λ_ _=>False) ?_ n 100000 [some (.ref 0),some (ig n),some (.ref 1),some (ig 0),none] [o, .lst []] (by omega) ⟨o,[],0,none,rfl,rfl,rfl,by omega,by simp,P,by intro p hp;simp at hp⟩
 ·rcases w with ⟨τ',h',e,v,ps,p,e',rfl,rfl,pl,Pv,ok⟩ | ⟨_,_,_,z⟩
  ·have one:∀ x∈List.take 1 [v,O.lst (ps.map p3D)],xg 1 x:=by
    intro x hx
    rw [show List.take 1 [v,O.lst (ps.map p3D)]=[v] from rfl,List.mem_singleton] at hx
    subst hx;exact v8 (by omega) Pv.clo
   refine ⟨ps,v,pl,ok,Dr.of rfl (by intro x hx;rw [List.mem_singleton] at hx;subst hx;exact di _) P.clo (r:=.ok (.ref 1) [v, .lst (ps.map p3D)]) ?_ (xr (yz (k:=18) (by omega) rfl (a6j _ _)) one) (xq (a6j _ _)) Pv.clo,Pv.up (by omega)⟩
   unfold bw;rw [gk];show toR (ou SRC.ak [some (.ref 0),some (ig n),none,none,none] [o])=_;unfold ou;refine Eq.trans (congrArg toR (jw (d:=.ref 1) (h1:=[o, .lst []]) rfl)) ?_;refine Eq.trans (congrArg toR (jw (dm _ _ _))) ?_;refine Eq.trans (congrArg toR (ye e)) ?_;exact congrArg toR (sy (bx rfl))
  ·exact z.elim
 ·rintro m τ h ⟨v,ps,p,e,rfl,rfl,rfl,hp,pl,Pv,ok⟩
  have ln:qj [.ref 1] [v, .lst (ps.map p3D)] = .ok (ig ps.length) [v, .lst (ps.map p3D)]:=by
   show R.ok (D.int ((ps.map p3D).length:Nat)) _=_;rw [List.length_map]
  by_cases z:p<n
  ·by_cases y:ps.length<12
   ·refine .inr ⟨_,afx (tof (gf (bx rfl) (bx rfl) (aj8 (by omega)))) (tof (gf (ur (bx rfl) ln) (dm _ _ _) (aj8 (by omega)))), .inl ?_⟩
    obtain ⟨a,v1,a1,P1,d1⟩:=dk (m:=9) Pv (by omega) (by omega) (by omega)
    obtain ⟨b,v2,b1,P2,d2⟩:=dk (m:=6) P1 (by omega) (by omega) (by omega)
    have mn:a6y [ig n, .int ((p:Int)+1+(a:Int))] [v1, .lst (ps.map p3D)] = .ok (ig (min n (p+1+a))) [v1, .lst (ps.map p3D)]:=by
     have q:(if ((p:Int)+1+(a:Int))<(n:Int) then ((p:Int)+1+(a:Int)) else (n:Int))=((min n (p+1+a):Nat):Int):=by split<;>omega
     show R.ok (D.int (if ((p:Int)+1+(a:Int))<(n:Int) then ((p:Int)+1+(a:Int)) else (n:Int))) _=_
     rw [q]
    refine ⟨[some (.ref 0),some (ig n),some (.ref 1),some (ig (min n (p+1+a))),some (ig (min n (p+1+a)))],[v2, .lst ((ps++[(b,p,min n (p+1+a))]).map p3D)],n - min n (p+1+a),?_,by omega,v2,ps++[(b,p,min n (p+1+a))],min n (p+1+a),_,rfl,rfl,rfl,by omega,by rw [List.length_append,List.length_singleton];omega,P2.up (by rw [List.length_append,List.length_singleton];omega),λr hr=>?_⟩
    ·unfold nu;refine Eq.trans (jw (ph (bx rfl) (gf (gf (bx rfl) (dm _ _ _) jz) (ph (bx rfl) (dm _ _ _) (d1 _)) jz) mn)) ?_;rw [List.map_append];refine Eq.trans (ye (a6h (bx rfl) rfl (arg1 (a4p (ph (bx rfl) (dm _ _ _) (d2 _)) (bx rfl) (bx (i:=4) rfl) ala)) (a9b (xs:=ps.map p3D) rfl (by rw [List.length_map];exact a9d (by omega))))) ?_
     exact al5 (bx rfl)
    ·rcases List.mem_append.mp hr with q | q
     ·exact ok r q
     ·rw [List.mem_singleton] at q;subst q;exact ⟨by show p<=n;omega,by show min n (p+1+a)<=n;omega⟩
   ·exact .inl ⟨_,afx (tof (gf (bx rfl) (bx rfl) (aj8 (by omega)))) (tof (gf (ur (bx rfl) ln) (dm _ _ _) (ajw (by omega)))),v,ps,p,e,rfl,rfl,pl,Pv,ok⟩
  ·exact .inl ⟨_,amk (tof (gf (bx rfl) (bx rfl) (ajw (by omega)))),v,ps,p,e,rfl,rfl,pl,Pv,ok⟩
section
variable{t:List Nat}
theorem a0v(tl:t.length<=1000){p:Nat}(hp:p<=t.length):Pu bf 3 [.str (S t),ig (SPT.spt (t.take p)).1,ig (SPT.spt (t.take p)).2] (ig p):=by
 obtain ⟨k,j,e,kl,jl,ep⟩:=SPT.a1v t p hp;have em:(SPT.lines t)[k]? = some (SPT.lines t)[k]:=List.getElem?_eq_getElem kl;rw [a4r em] at jl;have ml:(SPT.lines t)[k].length<=1000:=by
  have:=(SPT.xx t k (SPT.lines t)[k].length kl (by rw [a4r em];exact Nat.le_refl _)).1
  omega
 have g:=afo (t:=t) tl em ml jl;rw [<-ep] at g;rw [e];exact afp (di _) (di _) (by
  show fj [.str (S t), .int (((k+1:Nat):Int)), .int (((j+1:Nat):Int))] []=_;rw [show ((k+1:Nat):Int)=(k:Int)+1 by omega,show ((j+1:Nat):Int)=(j:Int)+1 by omega]
  exact g)
theorem a78(tl:t.length<=1000){i j:Int}(h:∀ p,p<=t.length->¬ (((SPT.spt (t.take p)).1:Int)=i/\((SPT.spt (t.take p)).2:Int)=j)):Pu bf 3 [.str (S t), .int i, .int j] .non:=by
 refine a9o (di _) (di _) ?_
 by_cases z:1<=i/\i<=((SPT.lines t).length:Int)
 ·obtain ⟨k,hk⟩:∃ k:Nat,i=(k:Int)+1:=⟨(i - 1).toNat,by omega⟩
  subst hk;have kl:k<(SPT.lines t).length:=by omega
  have em:(SPT.lines t)[k]? = some (SPT.lines t)[k]:=List.getElem?_eq_getElem kl;have ml:(SPT.lines t)[k].length<=1000:=by
   have:=(SPT.xx t k (SPT.lines t)[k].length kl (by rw [a4r em];exact Nat.le_refl _)).1
   omega
  refine a9n tl em ml ?_;have q:=wu j 1 (((SPT.lines t)[k].length:Nat)+1)
  rwa [decide_eq_false λy=>?_] at q
  obtain ⟨l,hl⟩:∃ l:Nat,j=(l:Int)+1:=⟨(j - 1).toNat,by omega⟩
  subst hl;obtain ⟨h1,h2⟩:=SPT.xx t k l kl (by rw [a4r em];omega)
  exact h _ h1 ⟨by rw [h2];show ((k+1:Nat):Int)=_;omega,by rw [h2];show ((l+1:Nat):Int)=_;omega⟩
 ·refine a9m tl ?_;have q:=wu i 1 (SPT.lines t).length
  rwa [decide_eq_false z] at q
theorem abq{p q:Nat}(hp:p<=t.length)(hq:q<=t.length)(e:SPT.spt (t.take p)=SPT.spt (t.take q)):p=q:=by
 obtain ⟨k,j,e1,_,_,ep⟩:=SPT.a1v t p hp;obtain ⟨k',j',e2,_,_,eq⟩:=SPT.a1v t q hq;rw [e1,e2] at e;simp only [Prod.mk.injEq] at e;have h1:k=k':=by omega
 have h2:j=j':=by omega
 subst h1 h2;omega
abbrev spI(t:List Nat):List (List Int):=(List.range (t.length+1)).map λp=>[((SPT.spt (t.take p)).1:Int),((SPT.spt (t.take p)).2:Int)]
theorem ad3:sps t=(spI t).map tI:=by unfold sps spI;rw [List.map_map];rfl
theorem ad4(i j:Int)(h:Hd):aiv (.tup [.int i, .int j]) (.rol (sps t)) h = .ok (.bl (decide ([i,j]∈spI t))) h:=by
 have e1:tupI (.tup [.int i, .int j])=some [i,j]:=rfl;have e2:(p6 (.rol (sps t)) h).bind a05=some (spI t):=by
  show a05 (sps t)=_;rw [ad3,a1x]
 unfold aiv;rw [e1,e2]
theorem a4t{i j:Int}:[i,j]∈spI t↔∃ p,p<=t.length/\((SPT.spt (t.take p)).1:Int)=i/\((SPT.spt (t.take p)).2:Int)=j:=by
 constructor
 ·intro h
  obtain ⟨p,hp,e⟩:=List.mem_map.mp h;rw [List.mem_range] at hp;simp only [List.cons.injEq,and_true] at e;exact ⟨p,by omega,e⟩
 ·rintro ⟨p,hp,h1,h2⟩
  exact List.mem_map.mpr ⟨p,List.mem_range.mpr (by omega),by rw [h1,h2]⟩
theorem a6k{l:List Int}:∀ {xs:List (List Int)},l∈xs->∃ j,ixT l xs=some j
 | [],h=>by cases h
 | a::xs,h=>by
  unfold ixT
  split
  ·exact ⟨0,rfl⟩
  ·rename_i e
   rcases List.mem_cons.mp h with h | h
   ·exact absurd h.symm e
   ·obtain ⟨j,hj⟩:=a6k h;exact ⟨j+1,by rw [hj];rfl⟩
theorem ajj{p:Nat}(hp:p<=t.length)(h:Hd):a06 (.rol (sps t)) [.tup [ig (SPT.spt (t.take p)).1,ig (SPT.spt (t.take p)).2]] h = .ok (ig p) h:=by
 have e1:tupI (.tup [ig (SPT.spt (t.take p)).1,ig (SPT.spt (t.take p)).2])=some [((SPT.spt (t.take p)).1:Int),((SPT.spt (t.take p)).2:Int)]:=rfl;have e2:(p6 (.rol (sps t)) h).bind a05=some (spI t):=by
  show a05 (sps t)=_;rw [ad3,a1x]
 obtain ⟨q,hq⟩:=a6k (a4t.mpr ⟨p,hp,rfl,rfl⟩);have qa:=(a91 hq).1;have ql:q<t.length+1:=by
  have:=(List.getElem?_eq_some_iff.mp qa).1
  rwa [List.length_map,List.length_range] at this
 rw [List.getElem?_map,List.getElem?_range ql] at qa;have:q=p:=by
  refine abq (t:=t) (by omega) hp ?_
  simp only [Option.map_some,Option.some.injEq,List.cons.injEq,and_true] at qa;exact Prod.ext (by omega) (by omega)
 subst this;unfold a06;rw [e2];dsimp only;rw [e1];show (match ixT _ (spI t) with | some j=>R.ok (D.int (j:Nat)) h | none=>.no)=_
 rw [hq]
theorem ali(q:Nat × Nat)(h:Hd):hNe (spD q) (spD q) h = .ok (.bl false) h:=by
 unfold hNe;rw [if_pos ⟨rfl,rfl⟩];show R.ok (D.bl (!eqD (spD q) (spD q))) h=_;simp [eqD,a0c]
end
noncomputable def abr:SF:=n8 (K37.abi bh SRC.ak bz SRC.ao bw bf SRC.bu c7 ie g8) 14
section
variable{t:List Nat}
abbrev τL(sc od:D)(t:List Nat)(a b c d e f g h i j:Option D):Sd:=[some sc,some (.ref 0),some od,some (.str (S t)),some (.rol (sps t)),a,b,c,d,e,f,g,h,i]
theorem alj{sc od:D}{a c d e f g h i j:Option D}{H:Hd}(tl:t.length<=1000){p:Nat}(hp:p<=t.length):K37.zc bh SRC.ak bz SRC.ao bw bf SRC.bu c7 ie g8 (τL sc od t a (some (ig p)) c d e f g h i j) H = .nx (τL sc od t a (some (ig p)) (some (ig p)) d e f g h i j) H:=by
 have ix:∀ hh:Hd,gIx (.rol (sps t)) (ig p) hh = .ok (spD (SPT.spt (t.take p))) hh:=λhh=>afy (a9r hp);have x0:∀ hh:Hd,gIx (spD (SPT.spt (t.take p))) (.int 0) hh = .ok (ig (SPT.spt (t.take p)).1) hh:=λhh=>ad1 (j:=0) rfl;have x1:∀ hh:Hd,gIx (spD (SPT.spt (t.take p))) (.int 1) hh = .ok (ig (SPT.spt (t.take p)).2) hh:=λhh=>ad1 (j:=1) rfl;have sp:∀ hh:Hd,jd false 2 ie [.str (S t),ig p] hh = .ok (spD (SPT.spt (t.take p))) hh:=λhh=>a4q tl hp hh;unfold K37.zc;refine Eq.trans (ifN (orF (a75 (qz (ph (ph (bx rfl) (bx rfl) (sp _)) (dm _ _ _) (SRC.qi (xs:=[((SPT.spt (t.take p)).1:Int),((SPT.spt (t.take p)).2:Int)]) (by simp) _)) (jg _))) (tof (gf (ph (bx rfl) (bx rfl) (sp _)) (gf (bx rfl) (bx rfl) (ix _)) (ali _ _))))) ?_
 refine Eq.trans (jw (a4p (bx rfl) (gf (gf (bx rfl) (bx rfl) (ix _)) (dm _ _ _) (x0 _)) (gf (gf (bx rfl) (bx rfl) (ix _)) (dm _ _ _) (x1 _)) (a0v tl hp _))) ?_;exact ifF (orF (a75 (qz (ph (ur (bx (i:=7) rfl) rfl) (dm _ _ _) (SRC.qi (xs:=[(p:Int)]) (by simp) _)) (jg _))) (tof (gf (bx (i:=7) rfl) (bx (i:=6) rfl) (a9c rfl))))
theorem alk{sc od:D}{a b c d e f g h i j:Option D}{u:O}{N k:Nat}(P:Src u N)(hN:N<=999990000)(tl:t.length<=1000):∃ (u':O) (e' f':Option D),Src u' (N+2)/\K37.wk bh SRC.ak bz SRC.ao bw bf SRC.bu c7 ie g8 (τL sc od t a b c d e f g h i j) [u] = .nx (τL sc od t a b c d e' f' g h i j) [u']:=by
 have w:=SPT.whole t;have col:∀ p,p<=t.length->(SPT.spt (t.take p)).1<=1002/\(SPT.spt (t.take p)).2<=1002:=λp hp=>by
  obtain ⟨k,j,e1,h1,h2,h3⟩:=SPT.a1v t p hp;have ll:=wg t;rw [e1];have:=(SPT.xx t k j h1 h2).1;exact ⟨by show k+1<=1002;omega,by show j+1<=1002;omega⟩
 have lx:∀ hh:Hd,gIx (.rol (sps t)) (.int (-1)) hh = .ok (spD (SPT.spt t)) hh:=λhh=>by rw [MI.a6e,a2e,a9j]
 have x0:∀ hh:Hd,gIx (spD (SPT.spt t)) (.int 0) hh = .ok (ig (SPT.spt t).1) hh:=λhh=>ad1 (j:=0) rfl;have c0:=col t.length (Nat.le_refl _);rw [List.take_length] at c0;obtain ⟨r1,u1,q1,P1,d1⟩:=dk (m:=((SPT.spt t).1:Int)+4) P (by omega) (by omega) (by omega)
 let cols:List Int:=(List.range (t.length+1)).map λp=>((SPT.spt (t.take p)).2:Int)
 have cne:cols≠[]:=by
  intro z
  have:=congrArg List.length z
  simp [cols] at this
 obtain ⟨mi,_⟩:=a7z cne;have mb:0<=mxI cols/\mxI cols<=1002:=by
  obtain ⟨p,hp,e⟩:=List.mem_map.mp mi;rw [List.mem_range] at hp;have:=col p (by omega)
  omega
 have mx:∀ hh:Hd,a4f [.rol (cols.map D.int)] hh = .ok (.int (mxI cols)) hh:=λhh=>ai6 cne
 generalize mxI cols=mm at mx mb
 obtain ⟨r2,u2,q2,P2,d2⟩:=dk (m:=mm+4) P1 (by omega) (by omega) (by omega)
 have cp:∀ τ:Sd,τ[4]? = some (some (.rol (sps t)))->sZ (v4 (sIt (sV 4)) (tN 2) (K37.a1z bh SRC.ak bz SRC.ao bw bf SRC.bu c7 ie g8) []) τ [u1] = .ok (.rol (cols.map D.int)) [u1]:=λτ h4=>by
  have e:cols.map D.int=(List.range (t.length+1)).map λp=>ig (SPT.spt (t.take p)).2:=by unfold cols;rw [List.map_map];rfl
  rw [e];refine a1s (ue (λp:Nat=>spD (SPT.spt (t.take p))) (λp:Nat=>ig (SPT.spt (t.take p)).2) (List.range (t.length+1)) (ad0 (bx h4) rfl) (ju (by rw [List.length_range];omega)) λp _=>rfl) (jj λp _=>di _) (by intro o ho;rw [List.mem_singleton] at ho;subst ho;exact v8 (by omega) P1.clo)
 have sb:∀ (r:Nat) (hh:Hd),MI.a07 (ig r) (.int 1) hh = .ok (.int ((r:Int) - 1)) hh:=λr hh=>rfl;have one:∀ (τ:Sd) (g:SS),τ[1]? = some (some (.ref 0))->τ[4]? = some (some (.rol (sps t)))->j5 (jx 9 (sA MI.wy (aj (s2 MI.a07 (sA (jd false 2 SRC.ak) (aj (sV 1) (aj (s2 iy (s2 gIx (s2 gIx (sV 4) (s1 ae8 (sC (.int 1)))) (sC (.int 0))) (sC (.int 4))) dq))) (sC (.int 1))) (aj (s2 MI.a07 (sA (jd false 2 SRC.ak) (aj (sV 1) (aj (s2 iy (sA a4f (aj (sZ (v4 (sIt (sV 4)) (tN 2) (K37.a1z bh SRC.ak bz SRC.ao bw bf SRC.bu c7 ie g8) [])) dq)) (sC (.int 4))) dq))) (sC (.int 1))) dq)))) g τ [u]=g (τ.set 9 (some (.tup [.int ((r1:Int) - 1), .int ((r2:Int) - 1)]))) [u2]:=λτ g h1 h4 =>
  jw (ph (gf (ph (bx h1) (gf (gf (gf (bx h4) (aml (dm _ _ _) (aja _)) (lx _)) (dm _ _ _) (x0 _)) (dm _ _ _) jz) (d1 _)) (dm _ _ _) (sb _ _)) (gf (ph (bx h1) (gf (ur (cp τ h4) (mx _)) (dm _ _ _) jz) (d2 _)) (dm _ _ _) (sb _ _)) ajb)
 have y0:∀ (i j:Int) (hh:Hd),gIx (.tup [.int i, .int j]) (.int 0) hh = .ok (.int i) hh:=λi j hh=>ad1 (j:=0) rfl;have y1:∀ (i j:Int) (hh:Hd),gIx (.tup [.int i, .int j]) (.int 1) hh = .ok (.int j) hh:=λi j hh=>ad1 (j:=1) rfl
 by_cases z:[(r1:Int) - 1,(r2:Int) - 1]∈spI t
 ·obtain ⟨p,hp,h1,h2⟩:=a4t.mp z;refine ⟨u2,some (.tup [.int ((r1:Int) - 1), .int ((r2:Int) - 1)]),some (ig p),P2,?_⟩;unfold K37.wk;refine Eq.trans (one _ _ rfl rfl) ?_;have ixs:=ajj (t:=t) hp [u2];have pls:=a0v (t:=t) tl hp [u2];unfold ig at ixs pls;rw [h1,h2] at ixs pls;refine Eq.trans (jw (SRC.ale (tof (gf (bx (i:=9) rfl) (bx rfl) ((ad4 _ _ _).trans (by rw [decide_eq_true z])))) (al7 (bx rfl) rfl (arg1 (bx (i:=9) rfl)) ixs))) ?_
  exact Eq.trans (ifF (tof (gf (a4p (bx rfl) (gf (bx (i:=9) rfl) (dm _ _ _) (y0 _ _ _)) (gf (bx (i:=9) rfl) (dm _ _ _) (y1 _ _ _)) pls) (bx (i:=10) rfl) (a9c rfl)))) rfl
 ·refine ⟨u2,some (.tup [.int ((r1:Int) - 1), .int ((r2:Int) - 1)]),some .non,P2,?_⟩;have pls:=a78 (t:=t) (i:=(r1:Int) - 1) (j:=(r2:Int) - 1) tl (λp hp y=>z (a4t.mpr ⟨p,hp,y.1,y.2⟩)) [u2];unfold K37.wk;refine Eq.trans (one _ _ rfl rfl) ?_;refine Eq.trans (jw (SRC.alf (tof (gf (bx (i:=9) rfl) (bx rfl) ((ad4 _ _ _).trans (by rw [decide_eq_false z])))) (dm _ _ _))) ?_
  exact Eq.trans (ifF (tof (gf (a4p (bx rfl) (gf (bx (i:=9) rfl) (dm _ _ _) (y0 _ _ _)) (gf (bx (i:=9) rfl) (dm _ _ _) (y1 _ _ _)) pls) (bx (i:=10) rfl) (show hNe .non .non _ = .ok (.bl false) _ from rfl)))) rfl
end
theorem yf{u:O}{N:Nat}(P:Src u N)(k:Nat):∀ o∈[u],xg k o:=λo ho=>by rw [List.mem_singleton] at ho;subst ho;exact v8 (Nat.zero_le _) P.clo
theorem eq_self(ps:List P3)(h:Hd):aiq true (.rol (ps.map p3D)) (.rol (ps.map p3D)) h = .ok (.bl false) h:=by
 unfold aiq p6;dsimp only;have al:(ps.map p3D).all (pur 59)=true:=by
  rw [List.all_eq_true]
  intro x hx
  obtain ⟨p,_,rfl⟩:=List.mem_map.mp hx;rfl
 rw [if_pos ⟨al,al⟩];have e:a0c (ps.map p3D) (ps.map p3D)=true:=by
  induction ps with
  | nil=>rfl
  | cons p ps ih =>
   rw [List.map_cons];show (eqD (p3D p) (p3D p) && a0c (ps.map p3D) (ps.map p3D))=true;rw [ih (by rw [List.map_cons,List.all_cons,Bool.and_eq_true] at al;exact al.2),Bool.and_true]
   simp [eqD,a0c]
 rw [e];rfl
theorem ajk(ns:List Int):∃ h',K37.abr [.scr (ns.map D.int)] [] = .ok (.bl true) h':=by
 obtain ⟨o,P,e0⟩:=SRC.a9h ns [];obtain ⟨od,o1,od1,P1,c1⟩:=dk (m:=7) P (by omega) (by omega) (by omega)
 have jl:od<a7a.length:=by show od<7;omega
 have gx:a7a[od]? = some a7a[od]:=List.getElem?_eq_getElem jl;have gm:a7a[od]∈a7a:=List.getElem_mem jl
 generalize a7a[od]=oD at gx gm
 obtain ⟨t,o2,tl,e2,P2⟩:=abp P1 (by omega)
 have c2:jd false 1 bz [.ref 0] [o1] = .ok (.str (S t)) [o2]:=e2 0 _ rfl;have ls:∀ hh:Hd,qj [.rol (sps t)] hh = .ok (.int ((t.length:Int)+1)) hh:=λhh=>by rw [v9,a9s];congr 2
 have ln:∀ hh:Hd,qj [.str (S t)] hh = .ok (ig t.length) hh:=λhh=>af2 (ju (by omega))
 obtain ⟨a,o3,a1,P3',c3⟩:=dk (m:=(t.length:Int)+1) P2 (by omega) (by omega) (by omega)
 obtain ⟨b,o4,b1,P4,c4⟩:=dk (m:=(t.length:Int)+1) P3' (by omega) (by omega) (by omega)
 let four:List Nat:=[a,0,t.length,b]
 have fl:∀ p∈four,p<=t.length:=by
  intro p hp
  simp only [four,List.mem_cons,List.not_mem_nil,or_false] at hp;omega
 let sc:D:=.scr (ns.map D.int)
 have lp1:=uh (g:=kN 6) (b:=K37.zc bh SRC.ak bz SRC.ao bw bf SRC.bu c7 ie g8) ig
  (λpre τ hh=>∃ (p q:Option D),τ=τL sc oD t (some (ig a)) p q none none none none none none none/\hh=[o4])
  four (τL sc oD t (some (ig a)) none none none none none none none none none) [o4] ?_ ⟨none,none,rfl,rfl⟩
 ·obtain ⟨τ1,h1,l1,p1,q1,rfl,rfl⟩:=lp1;have lp2:=uh (g:=kN 8) (b:=K37.wk bh SRC.ak bz SRC.ao bw bf SRC.bu c7 ie g8) ig
   (λpre τ hh=>∃ (u:O) (d e f:Option D),τ=τL sc oD t (some (ig a)) p1 q1 d e f none none none none/\hh=[u]/\Src u (1000+2*pre.length))
   (List.range 6) (τL sc oD t (some (ig a)) p1 q1 none none none none none none none) [o4] ?_ ⟨o4,none,none,none,rfl,rfl,P4.up (by omega)⟩
  ·obtain ⟨τ2,h2,l2,u,d,e,f,rfl,rfl,Pu⟩:=lp2;rw [List.length_range] at Pu;obtain ⟨n,u1,n1,Q1,d1⟩:=dk (m:=(t.length:Int)+1) Pu (by omega) (by omega) (by omega)
   obtain ⟨ps,u2,pl,pok,e3,Q2⟩:=a9v (n:=n) Q1 (by omega) (by omega)
   have pok':POk t.length ps:=λp hp=>by have:=pok p hp;exact ⟨by omega,by omega⟩
   have d2:jd false 2 bw [.ref 0,ig n] [u1] = .ok (.rol (ps.map p3D)) [u2]:=e3 0 _ rfl
   let W:D:=.rol (ps.map (s3D t))
   have sf:∀ hh:Hd,jd false 2 g8 [.str (S t), .rol (ps.map p3D)] hh = .ok W hh:=λhh=>abo (by omega) (by omega) pok' hh
   have st:jd true 2 g8 [.str (S t), .rol (ps.map p3D)] [u2] = .ok (.ref 1) [u2, .lst (ps.map (s3D t))]:=acq rfl a9u (a3k (by omega) (by omega) pok') rfl (a0u _ _ _) [u2]
   have an:∀ hh:Hd,jd false 3 bh [W,W, .int 3] hh = .ok (.bl true) hh:=λhh=>a77 (by omega) hh
   let xs:List D:=ps.map (s3D t)++[.non]
   obtain ⟨y0,hy⟩:∃ y,xs[0]? = some y:=⟨_,List.getElem?_eq_getElem (by simp [xs])⟩
   have H2:∀ zs:List D,clos 0 zs->∀ k,∀ o∈[u2,O.lst zs],xg k o:=λzs cz k o ho=>by
    simp only [List.mem_cons,List.not_mem_nil,or_false] at ho
    rcases ho with rfl | rfl
    ·exact v8 (Nat.zero_le _) Q2.clo
    ·exact qp.mpr λy hy=>acp (Nat.zero_le _) (qp.mp cz y hy)
   have xc:clos 0 (xs.eraseIdx 0):=qp.mpr λy hy=>by
    have hy:=List.mem_of_mem_eraseIdx hy
    rcases List.mem_append.mp hy with q | q
    ·exact qp.mp (a0u 0 t ps) y q
    ·rw [List.mem_singleton] at q;subst q;exact a4g
   refine ⟨[u2, .lst (xs.eraseIdx 0)],?_⟩;unfold K37.abr;rw [gk];show toR (K37.abi bh SRC.ak bz SRC.ao bw bf SRC.bu c7 ie g8 [some sc,none,none,none,none,none,none,none,none,none,none,none,none,none] [])=_;unfold K37.abi;refine Eq.trans (congrArg toR (jw (ur (bx rfl) e0))) ?_;have tp:∀ τ:Sd,sA MI.wy (aj (sC .non) (aj (sC (.bl true)) (aj (sC (.bl false)) (aj (sC (.str "1")) (aj (sA MI.wy (aj (sC (.int 1)) dq)) (aj (sZ (sA a83 (aj (sC (.int 1)) dq))) (aj (sZ aaw) dq))))))) τ [o] = .ok (.tup a7a) [o]:=λτ =>
    SRC.ald (je (dm _ _ _) (je (dm _ _ _) (je (dm _ _ _) (je (dm _ _ _) (je (ur (dm _ _ _) rfl) (je (a1s (xs:=[.int 1]) (ur (dm _ _ _) rfl) (iw (di _) w6) (yf P _)) (je (EVT.ajh (yf P 0)) rfl))))))) (by unfold MI.wy;rw [if_pos (ju (by simp))])
   refine Eq.trans (congrArg toR (jw (gf (tp _) (ph (bx rfl) (dm _ _ _) (c1 _)) (ad1 gx)))) ?_;refine Eq.trans (congrArg toR (jw (ur (bx rfl) c2))) ?_;refine Eq.trans (congrArg toR (jw (ur (bx rfl) (a9t (by omega) _)))) ?_
   refine Eq.trans (congrArg toR (jw (ph (bx rfl) (ur (bx rfl) (ls _)) (c3 _)))) ?_;have zf:∀ τ:Sd,τ[1]? = some (some (.ref 0))->τ[3]? = some (some (.str (S t)))->τ[4]? = some (some (.rol (sps t)))->τ[5]? = some (some (ig a))->sZ (sA a83 (aj (sV 5) (aj (sC (.int 0)) (aj (sA qj (aj (sV 3) dq)) (aj (sA (jd false 2 SRC.ak) (aj (sV 1) (aj (sA qj (aj (sV 4) dq)) dq))) dq))))) τ [o3] = .ok (.rol (four.map ig)) [o4]:=λτ h1 h3 h4 h5 =>
    PAP.ajg rfl (SRC.ald (je (bx h5) (je (dm _ _ _) (je (ur (bx h3) (ln _)) (je (ph (bx h1) (ur (bx h4) (ls _)) (c4 _)) rfl)))) rfl) (a9i four) (yf P4 _)
   refine Eq.trans (congrArg toR (a76 (ad0 (zf _ rfl rfl rfl rfl) rfl))) ?_;refine Eq.trans (congrArg (λz=>toR (MI.thn z _)) l1) ?_;rw [yo];refine Eq.trans (congrArg toR (a76 (a4o (n:=6) (dm _ _ _) (ju (by omega))))) ?_
   refine Eq.trans (congrArg (λz=>toR (MI.thn z _)) l2) ?_;rw [yo];have w1:=(SPT.whole t).1;have em:(SPT.lines t)[0]? = some (SPT.lines t)[0]:=List.getElem?_eq_getElem (by omega)
   have ml:(SPT.lines t)[0].length<=1000:=by
    have:=(SPT.xx t 0 (SPT.lines t)[0].length (by omega) (by rw [a4r em];exact Nat.le_refl _)).1
    omega
   have b1:∀ hh:Hd,jd false 3 bf [.str (S t),oD, .int 1] hh = .ok .non hh:=λhh=>a9o (zg gm) (di _) (a9m (by omega) (a6i gm _ _)) hh
   have b2:∀ hh:Hd,jd false 3 bf [.str (S t), .int 1,oD] hh = .ok .non hh:=λhh=>a9o (di _) (zg gm) (a9n (k:=0) (by omega) em ml (a6i gm _ _)) hh
   have nn:∀ hh:Hd,a00 .non .non hh = .ok (.bl false) hh:=λhh=>rfl;refine Eq.trans (congrArg toR (ifN (orF (tof (gf (a4p (bx rfl) (bx (i:=2) rfl) (dm _ _ _) (b1 _)) (dm _ _ _) (nn _))) (tof (gf (a4p (bx rfl) (dm _ _ _) (bx (i:=2) rfl) (b2 _)) (dm _ _ _) (nn _)))))) ?_;refine Eq.trans (congrArg toR (jw (ph (bx rfl) (ph (bx rfl) (gf (ur (bx rfl) (ln _)) (dm _ _ _) jz) (d1 _)) d2))) ?_;have cw:∀ τ:Sd,τ[11]? = some (some (.rol (ps.map p3D)))->τ[4]? = some (some (.rol (sps t)))->sZ (v4 (sIt (sV 11)) (tN 3) (K37.a2a bh SRC.ak bz SRC.ao bw bf SRC.bu c7 ie g8) [4]) τ [u2] = .ok W [u2]:=λτ h11 h4=>by
    refine a1s (ue p3D (s3D t) ps (ad0 (bx h11) rfl) (ju (by omega)) λp hp=>?_) (a0u _ _ _) (yf Q2 _)
    obtain ⟨g1,g2⟩:=pok' p hp;have fr:frs' [4] τ=[some (.rol (sps t))]:=by rw [abl,af6,h4];rfl
    rw [fr];show K37.a2a bh SRC.ak bz SRC.ao bw bf SRC.bu c7 ie g8 [some (ig p.1),some (ig p.2.1),some (ig p.2.2),some (.rol (sps t))] [u2]=_;exact a4p (bx rfl) (gf (bx rfl) (bx rfl) (afy (a9r g1))) (gf (bx rfl) (bx rfl) (afy (a9r g2))) ala
   refine Eq.trans (congrArg toR (jw (cw _ rfl rfl))) ?_;have zl:∀ (τ:Sd) (zs:List O),(∀ o∈zs,xg zs.length o)->τ[11]? = some (some (.rol (ps.map p3D)))->sZ (sA yr (aj (sV 11) dq)) τ zs = .ok (.rol (ps.map p3D)) zs:=λτ zs cz h11=>a1s (ur (bx h11) rfl) (a6j _ _) cz;refine Eq.trans (congrArg toR (jw (ph (bx rfl) (zl _ _ (yf Q2 _) rfl) (sf _)))) ?_;refine Eq.trans (congrArg toR (jw (ph (bx rfl) (zl _ _ (yf Q2 _) rfl) st))) ?_;refine Eq.trans (congrArg toR (ye (a6h (bx rfl) rfl (arg1 (dm _ _ _)) (a9b (h:=[u2, .lst (ps.map (s3D t))]) (i:=1) (a:=.non) rfl (by rw [List.length_map];exact a9d (by omega)))))) ?_
   have po:=af9 (h:=[u2, .lst xs]) (i:=1) (j:=0) rfl hy (ju (by simp only [xs,List.length_append,List.length_map,List.length_singleton];omega))
   refine Eq.trans (congrArg toR (ye (a6h (bx rfl) rfl (arg1 (dm _ _ _)) po))) ?_;refine Eq.trans (congrArg toR (jw (zl _ _ (H2 _ xc _) rfl))) ?_;refine Eq.trans (congrArg toR (ifN (orF (a75 (qz (a4p (ph (bx rfl) (bx rfl) (sf _)) (bx rfl) (dm _ _ _) (an _)) (jg _))) (tof (gf (bx (i:=11) rfl) (bx (i:=13) rfl) (eq_self ps _)))))) ?_;exact congrArg toR (sy (a4p (bx rfl) (bx rfl) (dm _ _ _) (an _)))
  ·rintro pre x post τ hh all ⟨u,d,e,f,rfl,rfl,Pu⟩
   obtain ⟨rfl,hx⟩:=a9p all;obtain ⟨u',e',f',Q,q⟩:=alk (t:=t) (sc:=sc) (od:=oD) (a:=some (ig a)) (b:=p1) (c:=q1) (d:=some (ig pre.length)) (e:=e) (f:=f) (g:=none) (h:=none) (i:=none) (j:=none) (k:=0) Pu (by omega) (by omega)
   exact ⟨_,_,rfl,_,_,q,u',_,e',f',rfl,rfl,Q.up (by rw [List.length_append,List.length_singleton];omega)⟩
 ·rintro pre x post τ hh all ⟨p,q,rfl,rfl⟩
  have hx:x∈four:=by rw [all];simp
  exact ⟨_,_,rfl,_,_,alj (j:=none) (by omega) (fl x hx),_,_,rfl,rfl⟩
end K37
namespace L2
open PySem PySem.Spec PySem.W PyProof.Rows
theorem afq{K:Frag}{C:Addr}(q:excIn K C [.type "ValueError", .type "Exception", .type "BaseException", .type "object"] "ValueError.__new__" = true):XCls K C:=by
 unfold excIn at q
 split at q
 ·rename_i dd cd sl lo
  split at q
  ·rename_i C' bm k0 k1 k2 k3 n k5 mo ss;simp only [Bool.and_eq_true,beq_iff_eq,Bool.not_eq_true'] at q;obtain ⟨⟨⟨⟨⟨e1,e2⟩,nd⟩,tl⟩,no⟩,ni⟩:=q;subst e1 e2;cases cd
   dsimp only at mo nd no ni;subst mo nd;obtain ⟨l⟩:=sl;simp only at ss;subst ss;exact ⟨_,_,_,_,bm,_,_,_,_,_,dd,k0,k1,k2,k3,k5,lo,no,ni,tl⟩
  ·cases q
 ·cases q
end L2
namespace K37
open PySem PySem.Spec L2 MI
def abt(K:PySem.W.Frag):Sp:=λvs H Q _=>∃ (a:Addr) (ns:List Int),vs=[.ref a]/\SqF K H a (ns.map V.int)/\ns.length<=63/\∀ H',Q (.bl true) H'
theorem a3l{K:PySem.W.Frag}{ι:List Addr}{H:Hp}:∀ ns:List Int,Reps K ι H (ns.map V.int) (ns.map D.int)
 | []=>.nil
 | n::ns=>.cons (.int n) (a3l ns)
theorem ajl{K:PySem.W.Frag}(vs:List V)(H:Hp)(Q:VK)(E:XK)(h:abt K vs H Q E):rz K 1 K37.abr vs H Q E:=by
 obtain ⟨a,ns,rfl,hS,hl,q⟩:=h;obtain ⟨h',e⟩:=K37.ajk ns;refine ⟨rfl,[],[.scr (ns.map D.int)],[], .cons (.scr hS (a3l ns)) .nil,⟨List.nodup_nil,rfl,λi a o z=>by simp at z⟩,?_⟩
 rw [e]
 intro ι' H' b g r hr
 cases r
 exact q H'
theorem ajm{K:PySem.W.Frag}{H:Hp}{a:Addr}{vs:List V}(hO:Only H)(hS:SqL K H a vs):SqF K H a vs:=by
 rcases hS with r | r
 ·rcases r with r | ⟨o,r⟩
  ·rcases hO a with z | ⟨o,xs,z⟩<;>rw [z] at r<;>cases r
  ·exact .inl ⟨o,r⟩
 ·exact .inr (.inr r)
abbrev fo(x:Str)(t:Stmt)(kV dc pm:Value)(an:Option Addr)(cd ct:Value):=PySem.W.fnOf x x (xf t) (gq t) (aq t) .none kV dc pm an cd ct
def Df(K:PySem.W.Frag)(f:Addr)(nm:Str)(i:Nat):Prop:=∃ oc od kV dc pm an cd ct sl,PySem.W.nsIn K mainGlobals nm=some (some (.ref f))/\K.lookup f=some ⟨oc,od, .func (fo nm (top i) kV dc pm an cd ct),sl⟩/\PySem.W.codeIn K cd nm=true/\PySem.W.keepIn K (.ref f)=true
theorem df{K:PySem.W.Frag}{f:Addr}{nm:Str}{i:Nat}(d:Df K f nm i):∃ e,PySem.W.nsIn K mainGlobals nm=some (some (.ref f))/\Fun K nm nm (top i) f e:=by
 obtain ⟨_,_,_,_,_,_,_,_,_,a,l,c,k⟩:=d;exact ⟨_,a,ah3 l c k⟩
theorem ajn{l:PySem.W.OpenLaw}{w:World}{K:PySem.W.Frag}{h:Heap}{mg:Str->Option Value}{fa f1 f2 f3 f4 f5 f6 f7 f8 f9 f10 f11 f12 f13 f14 f15:Addr}(X:K.In h)(G:h.Ns mainGlobals mg)(hfa:mg "law" = some (.ref fa))
  (d1:Df K f1 "is_number" 7)
  (d2:Df K f2 "is_number_from" 8)
  (d3:Df K f3 "spot" 10)
  (d4:Df K f4 "place_at" 11)
  (d5:Df K f5 "spots" 12)
  (d6:Df K f6 "_law_source" 14)
  (d7:Df K f7 "_law_draw" 15)
  (d8:Df K f8 "_law_signs" 16)
  (d9:Df K f9 "_law_numbers" 18)
  (d10:Df K f10 "_law_lines" 19)
  (d11:Df K f11 "_law_spots" 20)
  (d12:Df K f12 "_law_pieces" 21)
  (d13:Df K f13 "_law_place" 22)
  (d14:Df K f14 "_law_answers" 23)
  (d15:Df K f15 "law" 24)
  {y_NoPlace y_ReachError y_NoBook y_NoText y_Unlike:Addr}
  (xg_NoPlace:PySem.W.nsIn K mainGlobals "NoPlace" = some (some (.ref y_NoPlace)))
  (xg_ReachError:PySem.W.nsIn K mainGlobals "ReachError" = some (some (.ref y_ReachError)))
  (xg_NoBook:PySem.W.nsIn K mainGlobals "NoBook" = some (some (.ref y_NoBook)))
  (xg_NoText:PySem.W.nsIn K mainGlobals "NoText" = some (some (.ref y_NoText)))
  (xg_Unlike:PySem.W.nsIn K mainGlobals "Unlike" = some (some (.ref y_Unlike)))
  (xc_NoPlace:XCls K y_NoPlace)
  (xk_NoPlace:XKit K y_NoPlace)
  (xe_NoPlace_ReachError:PySem.W.exmOne K (.ref y_NoPlace) (.ref y_ReachError)=some true)
  (xi_NoPlace_NoBook_NoText_Unlike:PySem.W.kitAny K (.ref y_NoPlace) [.ref y_NoBook, .ref y_NoText, .ref y_Unlike]=some false)
  (xi_NoPlace_ValueError:PySem.W.kitOne K (.ref y_NoPlace) (.type "ValueError")=some true)
  (xi_NoPlace_NoPlace:PySem.W.kitOne K (.ref y_NoPlace) (.ref y_NoPlace)=some true)
  (z1:PySem.W.nsIn K mainGlobals "ValueError" = some none) (z2:PySem.W.nsIn K mainGlobals "abs" = some none) (z3:PySem.W.nsIn K mainGlobals "bool" = some none) (z4:PySem.W.nsIn K mainGlobals "int" = some none) (z5:PySem.W.nsIn K mainGlobals "isinstance" = some none) (z6:PySem.W.nsIn K mainGlobals "len" = some none) (z7:PySem.W.nsIn K mainGlobals "list" = some none) (z8:PySem.W.nsIn K mainGlobals "max" = some none) (z9:PySem.W.nsIn K mainGlobals "min" = some none) (z10:PySem.W.nsIn K mainGlobals "range" = some none) (z11:PySem.W.nsIn K mainGlobals "sum" = some none) (z12:PySem.W.nsIn K mainGlobals "tuple" = some none)  :
  ∃ fd:FuncData,(∀ (s:Shared) (v:Value),BindsTo s fd ⟨[v],[]⟩ [("_law_script",v)])/\∀ base:Heap,K.In base->base.Ns mainGlobals mg->FnOk l.prog w K mg base CX0 5 fa fd ["_law_script"] (abt K):=by
 obtain ⟨_,a1,F1⟩:=df d1;have b1:=F1.binds (ps:=["thing"]) λ_ _ _ _ _ _ us hl=>match us,hl with | [_],_=>rfl
 obtain ⟨_,a2,F2⟩:=df d2;have b2:=F2.binds (ps:=["thing", "low", "high"]) λ_ _ _ _ _ _ us hl=>match us,hl with | [_,_,_],_=>rfl
 obtain ⟨_,a3,F3⟩:=df d3;have b3:=F3.binds (ps:=["text", "at"]) λ_ _ _ _ _ _ us hl=>match us,hl with | [_,_],_=>rfl
 obtain ⟨_,a4,F4⟩:=df d4;have b4:=F4.binds (ps:=["text", "line", "column"]) λ_ _ _ _ _ _ us hl=>match us,hl with | [_,_,_],_=>rfl
 obtain ⟨_,a5,F5⟩:=df d5;have b5:=F5.binds (ps:=["text", "pieces"]) λ_ _ _ _ _ _ us hl=>match us,hl with | [_,_],_=>rfl
 obtain ⟨_,a6,F6⟩:=df d6;have b6:=F6.binds (ps:=["_law_script"]) λ_ _ _ _ _ _ us hl=>match us,hl with | [_],_=>rfl
 obtain ⟨_,a7,F7⟩:=df d7;have b7:=F7.binds (ps:=["_law_left", "_law_many"]) λ_ _ _ _ _ _ us hl=>match us,hl with | [_,_],_=>rfl
 obtain ⟨_,a8,F8⟩:=df d8;have b8:=F8.binds (ps:=[]) λ_ _ _ _ _ _ us hl=>match us,hl with | [],_=>rfl
 obtain ⟨_,a9,F9⟩:=df d9;have b9:=F9.binds (ps:=["_law_found", "_law_many"]) λ_ _ _ _ _ _ us hl=>match us,hl with | [_,_],_=>rfl
 obtain ⟨_,a10,F10⟩:=df d10;have b10:=F10.binds (ps:=["_law_left"]) λ_ _ _ _ _ _ us hl=>match us,hl with | [_],_=>rfl
 obtain ⟨_,a11,F11⟩:=df d11;have b11:=F11.binds (ps:=["_law_text"]) λ_ _ _ _ _ _ us hl=>match us,hl with | [_],_=>rfl
 obtain ⟨_,a12,F12⟩:=df d12;have b12:=F12.binds (ps:=["_law_left", "_law_many"]) λ_ _ _ _ _ _ us hl=>match us,hl with | [_,_],_=>rfl
 obtain ⟨_,a13,F13⟩:=df d13;have b13:=F13.binds (ps:=["_law_text", "_law_line", "_law_column"]) λ_ _ _ _ _ _ us hl=>match us,hl with | [_,_,_],_=>rfl
 obtain ⟨_,a14,F14⟩:=df d14;have b14:=F14.binds (ps:=["_law_found", "_law_due", "_law_many"]) λ_ _ _ _ _ _ us hl=>match us,hl with | [_,_,_],_=>rfl
 obtain ⟨_,a15,F15⟩:=df d15;have e:=hfa.symm.trans (PySem.W.mg_of X G a15);cases e
 obtain ⟨oc,od,kV15,dc15,pm15,an15,cd15,ct15,sl,rfl,lk,hc⟩:=id F15.ex;have b15:=F15.binds (ps:=["_law_script"]) λ_ _ _ _ _ _ us hl=>match us,hl with | [_],_=>rfl
 have M:Nm mg:=⟨PySem.W.mg_none_of X G z1,PySem.W.mg_none_of X G z2,PySem.W.mg_none_of X G z3,PySem.W.mg_none_of X G z4,PySem.W.mg_none_of X G z5,PySem.W.mg_none_of X G z6,PySem.W.mg_none_of X G z7,PySem.W.mg_none_of X G z8,PySem.W.mg_none_of X G z9,PySem.W.mg_none_of X G z10,PySem.W.mg_none_of X G z11,PySem.W.mg_none_of X G z12⟩;have Z:Xn K mg y_NoPlace y_ReachError y_NoBook y_NoText y_Unlike:=⟨PySem.W.mg_of X G xg_NoPlace,PySem.W.mg_of X G xg_ReachError,PySem.W.mg_of X G xg_NoBook,PySem.W.mg_of X G xg_NoText,PySem.W.mg_of X G xg_Unlike,xg_NoPlace,xc_NoPlace,xk_NoPlace,xe_NoPlace_ReachError,xi_NoPlace_NoBook_NoText_Unlike,xi_NoPlace_ValueError,xi_NoPlace_NoPlace⟩
 refine ⟨PySem.W.fnOf "law" "law" (xf (top 24)) (gq (top 24)) (aq (top 24)) .none kV15 dc15 pm15 an15 cd15 ct15,λs v=>.of_eq rfl,λbase _ _=>?_⟩;have D_0:Dn l.prog w K mg base 1 "is_number" ["thing"] (rz K 1 (K37.iz)) _ _:=⟨o7 F1 am6 (m_0 M),PySem.W.mg_of X G a1,F1.kp,b1⟩;have D_1:Dn l.prog w K mg base 2 "is_number_from" ["thing", "low", "high"] (rz K 3 (K37.bj)) _ _:=⟨o7 F2 am7 (m_1 D_0 (by decide)),PySem.W.mg_of X G a2,F2.kp,b2⟩
 have D_2:Dn l.prog w K mg base 1 "spot" ["text", "at"] (rz K 2 (K37.ie)) _ _:=⟨o7 F3 am8 (m_2 ),PySem.W.mg_of X G a3,F3.kp,b3⟩;have D_3:DnX l.prog w K mg base 3 "place_at" ["text", "line", "column"] (spX K mg 3 (K37.fj)) _ _:=⟨aes F4 am9 (m_3 M Z D_1 (by decide)),PySem.W.mg_of X G a4,F4.kp,b4⟩
 have D_4:Dn l.prog w K mg base 2 "spots" ["text", "pieces"] (rz K 2 (K37.g8)) _ _:=⟨o7 F5 ama (m_4 D_2 (by decide)),PySem.W.mg_of X G a5,F5.kp,b5⟩
 have D_5:Dn l.prog w K mg base 1 "_law_source" ["_law_script"] (rz K 1 (SRC.bu)) _ _:=⟨o7 F6 amb (m_5 M),PySem.W.mg_of X G a6,F6.kp,b6⟩;have D_6:Dn l.prog w K mg base 1 "_law_draw" ["_law_left", "_law_many"] (rz K 2 (SRC.ak)) _ _:=⟨o7 F7 amc (m_6 M),PySem.W.mg_of X G a7,F7.kp,b7⟩;have D_7:Dn l.prog w K mg base 1 "_law_signs" [] (rz K 0 (SRC.gw)) _ _:=⟨o7 F8 amd (m_7 ),PySem.W.mg_of X G a8,F8.kp,b8⟩;have D_8:Dn l.prog w K mg base 1 "_law_numbers" ["_law_found", "_law_many"] (rz K 2 (SRC.ao)) _ _:=⟨o7 F9 ame (m_8 M),PySem.W.mg_of X G a9,F9.kp,b9⟩
 have D_9:Dn l.prog w K mg base 2 "_law_lines" ["_law_left"] (rz K 1 (K37.bz)) _ _:=⟨o7 F10 amf (m_9 M D_6 (by decide) D_7 (by decide)),PySem.W.mg_of X G a10,F10.kp,b10⟩
 have D_10:Dn l.prog w K mg base 1 "_law_spots" ["_law_text"] (rz K 1 (K37.c7)) _ _:=⟨o7 F11 aiw (ane ),PySem.W.mg_of X G a11,F11.kp,b11⟩;have D_11:Dn l.prog w K mg base 2 "_law_pieces" ["_law_left", "_law_many"] (rz K 2 (K37.bw)) _ _:=⟨o7 F12 aix (anf M D_6 (by decide)),PySem.W.mg_of X G a12,F12.kp,b12⟩
 have D_12:Dn l.prog w K mg base 4 "_law_place" ["_law_text", "_law_line", "_law_column"] (rz K 3 (K37.bf)) _ _:=⟨o7 F13 aiy (ang M Z D_3 (by decide)),PySem.W.mg_of X G a13,F13.kp,b13⟩
 have D_13:Dn l.prog w K mg base 2 "_law_answers" ["_law_found", "_law_due", "_law_many"] (rz K 3 (K37.bh)) _ _:=⟨o7 F14 aiz (anh M D_8 (by decide)),PySem.W.mg_of X G a14,F14.kp,b14⟩
 have D_14:Dn l.prog w K mg base 5 "law" ["_law_script"] (rz K 1 (K37.abr)) _ _:=⟨o7 F15 aj0 (ani M D_13 (by decide) D_6 (by decide) D_9 (by decide) D_8 (by decide) D_11 (by decide) D_12 (by decide) D_5 (by decide) D_10 (by decide) D_2 (by decide) D_4 (by decide)),PySem.W.mg_of X G a15,F15.kp,b15⟩
 exact D_14.ok.imp ajl
theorem walk{l:PySem.W.OpenLaw}{q:Program}{loose:List Str}{XP:(Str->Option Value)->Heap->Prop}{YP:World->Heap->Prop}{d:DefRec}{K:Params->PySem.W.Frag}(hn:l.most=some 63)(hdf:d.params.defaults=[])
  (hY:∀ (w:World) (h:Heap),YP w h->(K w.params).In h)
  (F:∀ (w:World) (mg:Str->Option Value) (fa:Addr) (h:Heap),(K w.params).In h->h.Ns mainGlobals mg->mg d.name=some (.ref fa)->
   ∃ fd:FuncData,(∀ (s:Shared) (u:Value),BindsTo s fd ⟨[u],[]⟩ [("_law_script",u)])/\∀ base:Heap,(K w.params).In base->base.Ns mainGlobals mg->FnOk l.prog w (K w.params) mg base CX0 5 fa fd ["_law_script"] (abt (K w.params))) :
  PySem.W.WalkO q loose XP YP l.row.toRowW d [] (λf vs=>PySem.call f vs) :=
 L2.adq (n:=63) (k:=5) (x := "_law_script") (CX:=λ_=>CX0) (sp:=λw=>abt (K w.params)) hn (by decide) hdf ⟨rfl,by decide,by decide,rfl⟩ hY F (λ_ _ a ns hl hO hS=>⟨a,ns,rfl,ajm hO hS,hl,λ_=>rfl⟩) λ_ _ _ _ _ z=>z
end K37
open PySem PySem.W PyProof.Rows
theorem K37.said:PySem.Challenge.rw_nearreach_k37_spots_there_and_back.wellSaid=true:=by kernel_rfl
noncomputable def K37.hq:Program:=view PySem.Challenge.pw_nearreach_k37_spots_there_and_back [PySem.Challenge.pw_nearreach_k37_spots_there_and_back.main.body.length - 1]
noncomputable def K37.hl:List Str:=PySem.Challenge.pw_nearreach_k37_spots_there_and_back.boundNames
local macro_rules | `(tactic| o_head $H) => `(tactic| refine PySem.W.holds_open (q:=K37.hq) (loose:=K37.hl) (Xt:=fun _=>true) (XP:=fun _ _=>True) (Yf:=Hook.obs $H) (Ya:=Hook.val $H) (YP:=Hook.says $H) (N:=20000) ?hl (Hook.of $H) (Hook.keeps $H) (fun _ _=>trivial) (fun _ _ _ _ _=>trivial) (by rfl) (by rfl) (by rfl) (fun _ _=>recFacts_nil rfl) (by rfl) (by assumption) (by decide +kernel) ⟨rfl,rfl,rfl,rfl,rfl,by decide +kernel⟩ ?hw ?hc)
set_option maxRecDepth 100000 in
set_option maxHeartbeats 0 in
theorem PySem.Challenge.cw_nearreach_k37_spots_there_and_back_holds : PySem.Challenge.rw_nearreach_k37_spots_there_and_back.Holds := by
 w_on;refine holds_law K37.said fun said=>?_;k_head
 (case hw=>w_witness2)
 (case hl=>intro w;kernel_rfl)
 k_fill
 refine K37.walk (l:=PySem.Challenge.rw_nearreach_k37_spots_there_and_back) rfl rfl (fun w h Y=>PySem.W.kIn_of Y) ?F
 case F =>
  intro w mg fa h KX G hmg
  refine' K37.ajn KX G hmg ?_ ?_ ?_ ?_ ?_ ?_ ?_ ?_ ?_ ?_ ?_ ?_ ?_ ?_ ?_ ?xg_NoPlace ?xg_ReachError ?xg_NoBook ?xg_NoText ?xg_Unlike ?xc_NoPlace ?xk_NoPlace ?xe_NoPlace_ReachError ?xi_NoPlace_NoBook_NoText_Unlike ?xi_NoPlace_ValueError ?xi_NoPlace_NoPlace ?_ ?_ ?_ ?_ ?_ ?_ ?_ ?_ ?_ ?_ ?_ ?_
  all_goals first | k_is | exact ⟨_,_,_,_,_,_,_,_,_,by k_is,by k_is,by k_is,by k_is⟩ | skip
  (case xc_NoPlace=>exact L2.afq (by kernel_rfl))
  (case xk_NoPlace=>constructor<;>first | k_is | kernel_rfl)
  (case xe_NoPlace_ReachError=>kernel_rfl)
  (case xi_NoPlace_NoBook_NoText_Unlike=>kernel_rfl)
  (case xi_NoPlace_ValueError=>kernel_rfl)
  (case xi_NoPlace_NoPlace=>kernel_rfl)
