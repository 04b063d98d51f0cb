import PyProof.Rows.All
import Wide.All
import OpenK.AllK
import Wide.FinOn
import Lean
import PyProof.EqAt
import PyProof.EqKinds
import PyProof.TupleCall
import PyProof.ListStr
import PyProof.TupleOfStr
import PyProof.ConsumeWalk
import PyProof.SliceStr2
import PyProof.CompUse
import PyProof.Rows.SetFrom
import PyProof.SetRoads
import PyProof.StrLawsIn
import PyProof.Rows.StrIndexOr
import PyProof.Rows.StrJoin2
import PyProof.Rows.SumAny
import PyProof.WalkInts
import PyProof.SeqI3
import PyProof.Draws
import PyProof.ZipIter
import PyProof.EnumMake
import Wide.Txt2
import PyProof.Rows.SortWalk
import PyProof.ListRange
import PyProof.Rows.Range3
import KE.KStateDown
import PyProof.ReprRoads
import PyProof.CallFns
import KE.KTryDeep
import PyProof.ExcBaseAll.ValueError
import KE.KTryMore
import KE.KIsNot
import PyProof.ExcAttrAll.ValueError
import PyProof.NsDelKeeps
import PySem.SetOps
import PyProof.SetScanFacts
import PyProof.Walks
import PyProof.CollectWalk
import KE.KRevIter
import PyProof.CollectIter
import PyProof.WalksS
import PyProof.DictItems
import KE.KPairComp
import KE.IntBitsLaws
import PyProof.WalksMore
import PySem.Challenge.RW_nearreach_k42_rounds
set_option Elab.async false
set_option linter.all false
set_option maxRecDepth 100000
namespace L2
open PySem PySem.Spec PyProof.Rows
abbrev Key:=Sum Int Str
def a5v:Key->Value->Bool
 | .inl k,v=>Value.isInt k v
 | .inr x,v=>Value.isStrOf x v
def az3(w:World):Key->Int
 | .inl k=>hashInt k
 | .inr x=>hashStr w x
theorem p6:∀ {k:Key} {v:Value},a5v k v=true->(∃ i t,k=Sum.inl i/\v=Value.int i t)\/(∃ x t,k=Sum.inr x/\v=Value.str x t)
 | .inl i,v,h=>by
  obtain ⟨t,e⟩:=Value.isInt_shape (k:=i) (v:=v) h;exact .inl ⟨i,t,rfl,e⟩
 | .inr x,v,h=>by
  obtain ⟨t,e⟩:=Value.isStrOf_shape (x:=x) (v:=v) h;exact .inr ⟨x,t,rfl,e⟩
theorem afg(i:Int)(t:Tok):a5v (.inl i) (.int i t)=true:=by simp [a5v,Value.isInt]
theorem afh(x:Str)(t:Tok):a5v (.inr x) (.str x t)=true:=by simp [a5v,Value.isStrOf]
theorem arh(a b:Int):decide ((Sum.inl a:Key)=Sum.inl b)=(a == b):=by
 by_cases e:a=b
 ·subst e;simp
 ·have h:¬ (Sum.inl a:Key)=Sum.inl b:=λq=>e (Sum.inl.inj q);rw [decide_eq_false h];exact (beq_eq_false_iff_ne.mpr e).symm
theorem ari(a b:Str):decide ((Sum.inr a:Key)=Sum.inr b)=decide (a=b):=by
 by_cases e:a=b
 ·subst e;simp
 ·have h:¬ (Sum.inr a:Key)=Sum.inr b:=λq=>e (Sum.inr.inj q);rw [decide_eq_false h,decide_eq_false e]
theorem arj(a:Int)(b:Str):decide ((Sum.inl a:Key)=Sum.inr b)=false:=decide_eq_false (λq=>nomatch q)
theorem ark(a:Str)(b:Int):decide ((Sum.inr a:Key)=Sum.inl b)=false:=decide_eq_false (λq=>nomatch q)
def km(prog:Program)(w:World):PySem.KeyKind prog w Key where
 is:=a5v
 hash:=az3 w
 inj:=λv a b ha hb=>by
  rcases p6 ha with ⟨i,t,rfl,rfl⟩ | ⟨x,t,rfl,rfl⟩
  ·rcases p6 hb with ⟨j,u,rfl,e⟩ | ⟨y,u,rfl,e⟩
   ·injection e with e1 _;rw [e1]
   ·exact nomatch e
  ·rcases p6 hb with ⟨j,u,rfl,e⟩ | ⟨y,u,rfl,e⟩
   ·exact nomatch e
   ·injection e with e1 _;rw [e1]
 byValue:=λk v h=>by
  rcases p6 h with ⟨i,t,rfl,rfl⟩ | ⟨x,t,rfl,rfl⟩<;>rfl
 pyHash:=λhv h=>by
  rcases p6 hv with ⟨i,t,rfl,rfl⟩ | ⟨x,t,rfl,rfl⟩
  ·exact wpAny_pyHash_int h
  ·exact wpAny_pyHash_str h
 eqBool:=λhu hv h=>by
  rcases p6 hu with ⟨i,t,rfl,rfl⟩ | ⟨x,t,rfl,rfl⟩
  ·rcases p6 hv with ⟨j,u,rfl,rfl⟩ | ⟨y,u,rfl,rfl⟩
   ·rw [arh] at h;exact wpAny_eqBool_int h
   ·rw [arj] at h;exact SeqAt.EqAt.int_str i t y u _ _ _ _ h
  ·rcases p6 hv with ⟨j,u,rfl,rfl⟩ | ⟨y,u,rfl,rfl⟩
   ·rw [ark] at h;exact SeqAt.EqAt.str_int x t j u _ _ _ _ h
   ·rw [ari] at h;exact wpAny_eqBool_str h
 «strs»:=λk x t v h=>by
  rcases p6 h with ⟨i,u,rfl,e⟩ | ⟨y,u,rfl,e⟩
  ·exact nomatch e
  ·injection e with e1 _
   subst e1
   cases v<;>rfl
theorem ae1(prog:Program)(w:World)(k:Key)(v:Value):(km prog w).is k v=a5v k v:=rfl
theorem ab3(prog:Program)(w:World)(i:Int)(t:Tok):(km prog w).is (.inl i) (.int i t)=true:=afg i t
theorem ab4(prog:Program)(w:World)(x:Str)(t:Tok):(km prog w).is (.inr x) (.str x t)=true:=afh x t
inductive V where
 | non | bl (b:Bool) | int (i:Int) | str (x:Str) | byt (b:Array UInt8) | flt (b:UInt64) | ref (a:Addr) | ty (n:String)
 deriving DecidableEq
def RelV:V->Value->Prop
 | .non,u=>u=Value.none
 | .bl b,u=>u=Value.bool b
 | .int i,u=>∃ t,u=Value.int i t
 | .str x,u=>∃ t,u=Value.str x t
 | .byt b,u=>∃ t,u=Value.bytes b t
 | .flt b,u=>∃ t,u=Value.float b t
 | .ref a,u=>u=Value.ref a
 | .ty n,u=>u=Value.type n
abbrev Vals:List V->List Value->Prop:=Paired RelV
theorem Vals.length{xs:List V}{us:List Value}(r:Vals xs us):xs.length=us.length:=Paired.length r
theorem Vals.get:∀ {xs:List V} {us:List Value} {i:Nat} {x:V},Vals xs us->xs[i]? = some x->∃ u,us[i]? = some u/\RelV x u
 | _,_,_,_, .nil,e=>by simp at e
 | _,_,0,_, .cons r _,e=>by simp at e;subst e;exact ⟨_,rfl,r⟩
 | _,_,i+1,x, .cons _ t,e=>by
  obtain ⟨u,h1,h2⟩:=Vals.get (i:=i) (x:=x) t (by simpa using e)
  exact ⟨u,by simpa using h1,h2⟩
theorem Vals.set{x:V}{u:Value}(r:RelV x u):∀ {xs:List V} {us:List Value} (i:Nat),Vals xs us->Vals (xs.set i x) (us.set i u)
 | _,_,_, .nil=>.nil
 | _,_,0, .cons _ t=>.cons r t
 | _,_,i+1, .cons q t=>.cons q (Vals.set r i t)
theorem Vals.append:∀ {xs ys:List V} {us ws:List Value},Vals xs us->Vals ys ws->Vals (xs++ys) (us++ws)
 | _,_,_,_, .nil,s=>s
 | _,_,_,_, .cons r t,s=>.cons r (Vals.append t s)
theorem Vals.take:∀ {xs:List V} {us:List Value} (n:Nat),Vals xs us->Vals (xs.take n) (us.take n)
 | _,_,0,_=>.nil
 | _,_,_+1, .nil=>.nil
 | _,_,n+1, .cons r t=>.cons r (Vals.take n t)
theorem Vals.drop:∀ {xs:List V} {us:List Value} (n:Nat),Vals xs us->Vals (xs.drop n) (us.drop n)
 | _,_,0,r=>r
 | _,_,_+1, .nil=>.nil
 | _,_,n+1, .cons _ t=>Vals.drop n t
def RelO:Option V->Option Value->Prop
 | some v,some u=>RelV v u
 | none,none=>True
 | _,_=>False
def KV{κ:Type}:List (κ × V)->List (κ × Value)->Prop:=Paired λ(p:κ × V) (q:κ × Value)=>p.1=q.1/\RelV p.2 q.2
def kV:Key->V
 | .inl i=>.int i
 | .inr x=>.str x
inductive HO where
 | lst (xs:List V)
 | tup (xs:List V)
 | dK (kvs:List (Key × V)) | dT (kvs:List (List Key × V))
 | set (S:Int->Bool) (n:Nat)
 | ins (C dx:Addr) (fs:List (Str × V))
 | own (x:Addr)
 | xd (fs:List (Str × V))
 | met (f x:Addr)
 | rng (lo hi:Int)
 | frz (o:Obj) (u:HO)
 | tbl (ps:Array Value)
 | ext (φ:Heap->Prop)
abbrev Hp:=Addr->Option HO
def upd(H:Hp)(a:Addr)(o:HO):Hp:=λb=>if b=a then some o else H b
theorem mq{H:Hp}{a:Addr}{o:HO}:upd H a o a=some o:=by unfold upd;rw [if_pos rfl]
theorem jf{H:Hp}{a b:Addr}{o:HO}(h:b≠a):upd H a o b=H b:=by unfold upd;rw [if_neg h]
theorem awc{H:Hp}{a b:Addr}{o u:HO}(h:H a=some o)(h':H b=some u)(d:o≠u):a≠b:=by
 intro e;subst e;rw [h] at h';exact d (Option.some.inj h')
theorem jo{H:Hp}{a b:Addr}{o:HO}(h:H a=some o)(h':H b=none):a≠b:=by
 intro e;subst e;rw [h] at h';cases h'
section
variable(P:Program)(w:World)
def ObjOk(H:Hp)(h:Heap)(a:Addr):HO->Prop
 | .lst xs=>xs.length<=sizeLine/\∃ (its:List Value) (n:Nat),Vals xs its/\h.get? a=some { cls:=.type "list",data:=.seq its.toArray n }
 | .tup xs=>xs.length<=sizeLine/\∃ its:List Value,Vals xs its/\IsTup h a its.toArray
 | .dK kvs=>kvs.length<=sizeLine/\(a == sysModules)=false/\∃ vs,KV kvs vs/\h.DictOf (km P w) a vs
 | .dT kvs=>kvs.length<=sizeLine/\(a == sysModules)=false/\∃ xs:List (List Key × Addr × Value),
   Paired (λ(p:List Key × V) (q:List Key × Addr × Value)=>p.1=q.1/\H q.2.1=some (.tup (p.1.map kV))/\RelV p.2 q.2.2) kvs xs /\
   ∃ o es ep,h.get? a=some o/\o.ExactDict/\o.data = .dict es ep/\es.toList=xs.map (entryOfKey (tupleKind (km P w)))/\(xs.map (·.1)).Nodup
 | .set S n=>h.SetOf (intKind P w) a S n
 | .ins C dx fs=>H dx=some (.own a)/\fs.length<=1000/\dx≠a/\h.get? a=some (PySem.W.instObj C dx) /\
   ∃ mA,h.Ns1 dx mA/\(∀ f,RelO (fs.lookup f) (mA f))/\PySem.Within mA (fs.map (·.1))
 | .own _=>∃ o,h.get? a=some o
 | .xd fs=>∃ mA,h.Ns1 a mA/\∀ f,RelO (fs.lookup f) (mA f)
 | .rng lo hi=>∃ t u v,h.get? a=some { cls:=.type "range",data:=.fields #[.int lo t, .int hi u, .int 1 v] }
 | .frz o u=>h.get? a=some o/\ObjOk H h a u
 | .tbl ps=>h.get? a=some { cls:=.none,data:=.fields ps }
 | .met f x=>h.get? a=some (PySem.W.methodObj (.ref f) (.ref x))
 | .ext φ=>φ h/\(∃ o,h.get? a=some o)/\∀ h1 h2:Heap,φ h1->(∀ o,h1.get? a=some o->h2.get? a=some o)->φ h2
def HOk(H:Hp)(h:Heap):Prop:=∀ a o,H a=some o->ObjOk P w H h a o
end
section
variable{P:Program}{w:World}{H H':Hp}{h h':Heap}{a:Addr}{o:HO}
theorem ObjOk.lt(x:ObjOk P w H h a o):a<h.objs.size:=by
 cases o with
 | lst xs=>obtain ⟨_,_,_,_,e⟩:=x;exact Heap.lt_size e
 | tup xs=>obtain ⟨_,_,_,p⟩:=x;exact p.lt
 | dK kvs=>obtain ⟨_,_,_,_,o,_,_,e,_⟩:=x;exact Heap.lt_size e
 | dT kvs=>obtain ⟨_,_,_,_,o,_,_,e,_⟩:=x;exact Heap.lt_size e
 | set S n=>obtain ⟨o,_,_,_,e,_⟩:=x;exact Heap.lt_size e
 | ins C dx fs=>obtain ⟨_,_,_,e,_⟩:=x;exact Heap.lt_size e
 | own y=>obtain ⟨_,e⟩:=x;exact Heap.lt_size e
 | xd fs=>obtain ⟨_,⟨_,_,_,e,_⟩,_⟩:=x;exact Heap.lt_size e
 | rng lo hi=>obtain ⟨_,_,_,e⟩:=x;exact Heap.lt_size e
 | frz ob u=>obtain ⟨e,_⟩:=x;exact Heap.lt_size e
 | tbl ps=>exact Heap.lt_size (show h.get? a=some _ from x)
 | met f y=>exact Heap.lt_size (show h.get? a=some _ from x)
 | ext φ=>obtain ⟨_,⟨_,e⟩,_⟩:=x;exact Heap.lt_size e
theorem Paired.mapP{α β:Type}{F G:α->β->Prop}:∀ {l₁:List α} {l₂:List β},Paired F l₁ l₂->(∀ a b,F a b->G a b)->Paired G l₁ l₂
 | _,_, .nil,_=>.nil
 | _,_, .cons r t,f=>.cons (f _ _ r) (Paired.mapP t f)
theorem ObjOk.stay(x:ObjOk P w H h a o)(k:∀ b u,(b=a\/H b=some (.own a))->h.get? b=some u->h'.get? b=some u)
  (ho:∀ b,H b=some (.own a)->H' b=some (.own a)) (ht:∀ b xs,H b=some (.tup xs)->H' b=some (.tup xs)):ObjOk P w H' h' a o:=by
 induction o with
 | lst xs=>obtain ⟨z,its,n,r,e⟩:=x;exact ⟨z,its,n,r,k _ _ (.inl rfl) e⟩
 | tup xs=>obtain ⟨z,its,r,ob,e,c⟩:=x;exact ⟨z,its,r,ob,k _ _ (.inl rfl) e,c⟩
 | dK kvs=>obtain ⟨z,y,vs,r,ob,es,ep,e,c⟩:=x;exact ⟨z,y,vs,r,ob,es,ep,k _ _ (.inl rfl) e,c⟩
 | dT kvs =>
  obtain ⟨z,y,xs,r,ob,es,ep,e,c⟩:=x;exact ⟨z,y,xs,Paired.mapP r λp q z=>⟨z.1,ht _ _ z.2.1,z.2.2⟩,ob,es,ep,k _ _ (.inl rfl) e,c⟩
 | set S n=>obtain ⟨ob,es,ep,t,e,c⟩:=x;exact ⟨ob,es,ep,t,k _ _ (.inl rfl) e,c⟩
 | ins C dx fs =>
  obtain ⟨d,z,ne,e,mA,⟨od,es,ep,e2,c⟩,r⟩:=x;exact ⟨ho _ d,z,ne,k _ _ (.inl rfl) e,mA,⟨od,es,ep,k _ _ (.inr d) e2,c⟩,r⟩
 | own y=>obtain ⟨ob,e⟩:=x;exact ⟨ob,k _ _ (.inl rfl) e⟩
 | xd fs=>obtain ⟨mA,⟨od,es,ep,e,c⟩,r⟩:=x;exact ⟨mA,⟨od,es,ep,k _ _ (.inl rfl) e,c⟩,r⟩
 | rng lo hi=>obtain ⟨t,u,v,e⟩:=x;exact ⟨t,u,v,k _ _ (.inl rfl) e⟩
 | frz ob u ih=>obtain ⟨e,q⟩:=x;exact ⟨k _ _ (.inl rfl) e,ih q⟩
 | tbl ps =>
  have e:h.get? a=some { cls:=.none,data:=.fields ps }:=x;show h'.get? a=some { cls:=.none,data:=.fields ps };exact k a _ (.inl rfl) e
 | met f y =>
  have e:h.get? a=some (PySem.W.methodObj (.ref f) (.ref y)):=x;show h'.get? a=some (PySem.W.methodObj (.ref f) (.ref y));exact k a _ (.inl rfl) e
 | ext φ=>obtain ⟨p,⟨o,e⟩,st⟩:=x;exact ⟨st _ _ p λo q=>k _ _ (.inl rfl) q,⟨o,k _ _ (.inl rfl) e⟩,st⟩
theorem HOk.lt(x:HOk P w H h)(e:H a=some o):a<h.objs.size:=(x a o e).lt
theorem HOk.fresh(x:HOk P w H h)(e:h.objs.size<=a):H a=none:=by
 cases q:H a with
 | none=>rfl
 | some u=>exact absurd (Nat.lt_of_lt_of_le (x.lt q) e) (Nat.lt_irrefl _)
theorem HOk.kept(x:HOk P w H h)(k:∀ b u,h.get? b=some u->h'.get? b=some u):HOk P w H h':=λa o e =>
 (x a o e).stay (λb u _ q=>k b u q) (λ_ q=>q) λ_ _ q=>q
theorem HOk.laid(x:HOk P w H h)(k:∀ b u,h.get? b=some u->h'.get? b=some u)(hp:h.objs.size<=a)(new:ObjOk P w (upd H a o) h' a o):HOk P w (upd H a o) h':=λb u e=>by
 have hn:=x.fresh hp
 by_cases hb:b=a
 ·subst hb;rw [mq] at e;cases e;exact new
 ·rw [jf hb] at e;exact (x b u e).stay (λc v _ q=>k c v q) (λc q=>by rw [jf (jo q hn)];exact q) λc xs q=>by rw [jf (jo q hn)];exact q
end
def Rd(H:Hp)(a:Addr)(u:HO):Prop:=H a=some u\/∃ o,H a=some (.frz o u)
theorem Rd.of{H:Hp}{a:Addr}{u:HO}(h:H a=some u):Rd H a u:=.inl h
theorem Rd.ok{P:Program}{w:World}{H:Hp}{h:Heap}{a:Addr}{u:HO}(r:Rd H a u)(x:HOk P w H h):ObjOk P w H h a u:=by
 rcases r with r | ⟨o,r⟩
 ·exact x a u r
 ·obtain ⟨_,q⟩:=x a _ r;exact q
def Mut:Option HO->Prop
 | some (.lst _)=>True
 | some (.dK _)=>True
 | some (.dT _)=>True
 | some (.set _ _)=>True
 | some (.ins _ _ _)=>True
 | some (.ext _)=>True
 | _=>False
section
variable{P:Program}{w:World}{H:Hp}{h h':Heap}{x e:Addr}{o':HO}
theorem HOk.write(ok:HOk P w H h)(mu:Mut (H x))(he:e=x\/H e=some (.own x))(k:∀ b u,b≠e->h.get? b=some u->h'.get? b=some u)(heo:∃ u,h'.get? e=some u)
  (new:ObjOk P w (upd H x o') h' x o'):HOk P w (upd H x o') h':=λb u q=>by
 have nown:∀ c y,H c=some (.own y)->c≠x:=λc y r z=>by subst z;rw [r] at mu;exact mu
 have ntup:∀ c xs,H c=some (.tup xs)->c≠x:=λc xs r z=>by subst z;rw [r] at mu;exact mu
 by_cases hb:b=x
 ·subst hb;rw [mq] at q;cases q;exact new
 ·rw [jf hb] at q
  by_cases hbe:b=e
  ·have q':H b=some (.own x):=by
    rcases he with z | z
    ·exact absurd (hbe.trans z) hb
    ·rw [hbe];exact z
   rw [q] at q';cases q'
   obtain ⟨v,hv⟩:=heo;exact ⟨v,by rw [hbe];exact hv⟩
  ·refine (ok b u q).stay (λc v hc r=>k c v ?_ r) (λc r=>by rw [jf (nown c b r)];exact r) λc xs r=>by rw [jf (ntup c xs r)];exact r
   rcases hc with rfl | hc
   ·exact hbe
   ·rintro rfl
    rcases he with z | z
    ·exact nown c b hc z
    ·rw [hc] at z;cases z;exact hb rfl
end
structure Un (fs ex:List Addr) (H H':Hp) (h h':Heap):Prop where
 keep:∀ b o,h.get? b=some o->H b=none->b ∉ fs->b ∉ ex->h'.get? b=some o
 slot:∀ b o,h.get? b=some o->H b=none->b∈fs->b ∉ ex->∃ sl,h'.get? b=some { o with slots:=sl }
 free:∀ b o,h.get? b=some o->H b=none->b ∉ ex->H' b=none
 there:∀ b o,h.get? b=some o->b ∉ ex->∃ o',h'.get? b=some o'
 tups:∀ b xs,H b=some (.tup xs)->H' b=some (.tup xs)
 frzs:∀ b o u,H b=some (.frz o u)->H' b=some (.frz o u)
 tbls:∀ b ps,H b=some (.tbl ps)->∃ more,H' b=some (.tbl (ps++more))
section
variable{fs fs' ex ex':List Addr}{H H1 H2:Hp}{h h1 h2 h':Heap}{a x e:Addr}{o:HO}
theorem Un.any(u:Un fs ex H H1 h h1){b:Addr}{ob:Obj}(q:h.get? b=some ob)(n:H b=none)(hx:b ∉ ex):∃ sl,h1.get? b=some { ob with slots:=sl }:=by
 by_cases hb:b∈fs
 ·exact u.slot b ob q n hb hx
 ·exact ⟨ob.slots,u.keep b ob q n hb hx⟩
theorem Un.kept(k:∀ b u,h.get? b=some u->h'.get? b=some u):Un fs ex H H h h' :=
 ⟨λb ob q _ _ _=>k b ob q,λb ob q _ _ _=>⟨ob.slots,k b ob q⟩,λ_ _ _ n _=>n,λb ob q _=>⟨ob,k b ob q⟩,λ_ _ q=>q,λ_ _ _ q=>q,λ_ ps q=>⟨#[],by rw [q];simp⟩⟩
theorem Un.refl:Un fs ex H H h h:=Un.kept λ_ _ q=>q
theorem Un.laid(k:∀ b u,h.get? b=some u->h'.get? b=some u)(hp:h.objs.size<=a)(hn:H a=none):Un fs ex H (upd H a o) h h' where
 keep:=λb u q _ _ _=>k b u q
 slot:=λb u q _ _ _=>⟨u.slots,k b u q⟩
 free:=λb u q n _=>by rw [jf (Nat.ne_of_lt (Nat.lt_of_lt_of_le (Heap.lt_size q) hp))];exact n
 there:=λb u q _=>⟨u,k b u q⟩
 tups:=λb xs q=>by rw [jf (jo q hn)];exact q
 frzs:=λb u xs q=>by rw [jf (jo q hn)];exact q
 tbls:=λb ps q=>⟨#[],by rw [jf (jo q hn),q];simp⟩
theorem Un.write(mu:Mut (H x))(he:e=x\/H e=some (.own x))(k:∀ b u,b≠e->h.get? b=some u->h'.get? b=some u)(heo:∃ u,h'.get? e=some u):Un fs ex H (upd H x o) h h':=by
 have hx:∀ b,H b=none->b≠x:=λb n z=>by subst z;rw [n] at mu;exact mu
 have hb:∀ b,H b=none->b≠e:=λb n z=>by
  subst z
  rcases he with r | r
  ·exact hx b n r
  ·rw [n] at r;cases r
 have hm:∀ b u,H b=some u->¬ Mut (some u)->b≠x:=λb u q nm z=>by subst z;rw [q] at mu;exact nm mu
 refine ⟨λb u q n _ _=>k b u (hb b n) q,λb u q n _ _=>⟨u.slots,k b u (hb b n) q⟩,λb u q n _=>by rw [jf (hx b n)];exact n,λb u q _=>?_,
  λb xs q=>by rw [jf (hm b _ q λz=>z)];exact q,λb u xs q=>by rw [jf (hm b _ q λz=>z)];exact q,λb ps q=>⟨#[],by rw [jf (hm b _ q λz=>z),q];simp⟩⟩
 by_cases hbe:b=e
 ·subst hbe;exact heo
 ·exact ⟨u,k b u hbe q⟩
end
def trk(h:Heap)(H:Hp):List Addr:=(List.range h.objs.size).filter λa=>(H a).isSome
def ajd(h:Heap)(H:Hp):Heap:=PySem.W.hideAll h (trk h H)
theorem afi(h:Heap)(H:Hp):(ajd h H).objs.size=h.objs.size:=PySem.W.hideAll_size _ _
theorem aje{h:Heap}{H:Hp}{b:Addr}{o:Obj}(e:h.get? b=some o)(n:H b=none):(ajd h H).get? b=some o :=
 PySem.W.hideAll_get _ e λhm=>by
  have q:(H b).isSome=true:=(List.mem_filter.mp hm).2;rw [n] at q;simp at q
theorem ao1{h:Heap}{H:Hp}{b:Addr}{o:Obj}(e:(ajd h H).get? b=some o):h.get? b=some o/\H b=none:=by
 have e':h.get? b=some o:=PySem.W.of_hideAll (trk h H) e;refine ⟨e',?_⟩
 cases q:H b with
 | none=>rfl
 | some x =>
  have hm:b∈trk h H:=List.mem_filter.mpr ⟨List.mem_range.mpr (Heap.lt_size e'),by simp [q]⟩
  have z:(ajd h H).get? b=none:=PySem.W.hideAll_none (trk h H) hm;rw [z] at e;cases e
structure Mod (K:PySem.W.Frag) (mg:Str->Option Value) (base:Heap):Prop where
 kin:K.In base
 glob:base.Ns mainGlobals mg
 blt:∃ mb,base.Ns builtinsNs mb/\∀ x:Str,x ≠ "__name__"->mb x=bootBuiltins x
 nolimit:base.NoLimit
structure Cx where
 prog:Program
 w:World
 K:PySem.W.Frag
 mg:Str->Option Value
 base:Heap
 A:Around
 N:List Str
 s₀:Shared
 H₀:Hp
 env:Env
 outer:List Env
 stack:List Env
 ex:List Addr
 fn:Str->Bool
 calm:Bool
 pn:List (Addr × Obj)
 xe:Value->Shared->Prop
def frs(l:List Env):List Addr:=l.filterMap (·.frame)
abbrev Cx.fs(X:Cx):List Addr:=frs X.outer
def Vis(sc:Scope)(x:Str):Prop:=sc.names.lookup x=some .local\/sc.names.lookup x=some .cell\/sc.names.lookup x=some .free
def Loc(sc:Scope)(x:Str):Prop:=sc.names.lookup x=some .local\/sc.names.lookup x=some .cell
def Look(env:Env)(h:Heap)(m:Str->Option Value)(x:Str)(u:Value):Prop :=
 (env.kindOf x=some .local/\m x=some u)\/((env.kindOf x=some .cell\/env.kindOf x=some .free)/\∃ c,env.cells.lookup x=some c/\h.IsCell c (some u))
structure Cx.Ok (X:Cx):Prop where
 mod:Mod X.K X.mg X.base
 kind:X.env.scope.kind = .function
 glob:X.env.globals=mainGlobals
 blt:X.env.builtins=builtinsNs
 above:X.s₀.heap.objs.size<=X.env.locals
 inj:∀ x y c,X.env.cells.lookup x=some c->X.env.cells.lookup y=some c->x=y
 has:∀ x,(X.env.kindOf x=some .cell\/X.env.kindOf x=some .free)->∃ c,X.env.cells.lookup x=some c
 cab:∀ x c,X.fn x=true->X.env.cells.lookup x=some c->X.s₀.heap.objs.size<=c
 hd:X.calm=true->X.A.handled=none
 frames:X.A.frames=some X.stack
 stk:X.stack=X.outer\/(X.stack=X.env::X.outer/\X.env.frame=some X.env.locals)
 exf:∀ b∈X.ex,b≠X.env.locals/\∀ x c,X.env.cells.lookup x=some c->c≠b
 bs:∀ b o,X.base.get? b=some o->X.s₀.heap.get? b=some o/\X.H₀ b=none
 bsz:X.base.objs.size<=X.s₀.heap.objs.size
 noex:∀ b o,X.base.get? b=some o->b ∉ X.ex
 exfs:∀ b∈X.ex,b ∉ X.fs
 funs:X.s₀.heap.FunFrames X.base X.outer
 frf:∀ b∈X.fs,X.H₀ b=none
structure Inv (X:Cx) (pins:List (Addr × Obj)) (σ:List (Option V)) (H:Hp) (s:Shared):Prop where
 ok:X.Ok
 os:s.os=X.s₀.os
 bare:AllBare s.gens
 base:Un X.fs X.ex X.H₀ H X.s₀.heap s.heap
 loc:∃ m,s.heap.Ns X.env.locals m/\∀ (i:Nat) (x:Str) (v:V),X.N[i]? = some x->σ[i]? = some (some v)->Vis X.env.scope x->∃ u,RelV v u/\Look X.env s.heap m x u
 cell:∀ x c,X.env.cells.lookup x=some c->∃ v,s.heap.IsCell c v
 free:H X.env.locals=none
 freeC:∀ x c,X.env.cells.lookup x=some c->H c=none
 pin:∀ p∈X.pn++pins,s.heap.get? p.1=some p.2/\H p.1=none/\p.1≠X.env.locals/\p.1 ∉ X.fs/\∀ v,p.2.data≠.cell v
 hok:HOk X.prog X.w H s.heap
 len:σ.length=X.N.length
section
variable{X:Cx}{pins:List (Addr × Obj)}{σ:List (Option V)}{H H':Hp}{s:Shared}{h':Heap}
theorem Cx.Ok.nofr(ok:X.Ok){b:Addr}{o:Obj}(e:X.base.get? b=some o):b ∉ X.fs:=λhb=>by
 have:=(ok.funs.mem hb).1
 rw [e] at this;cases this
theorem Inv.bs(I:Inv X pins σ H s):∀ b o,X.base.get? b=some o->s.heap.get? b=some o/\H b=none:=λb o e =>
 ⟨I.base.keep b o (I.ok.bs b o e).1 (I.ok.bs b o e).2 (I.ok.nofr e) (I.ok.noex b o e),I.base.free b o (I.ok.bs b o e).1 (I.ok.bs b o e).2 (I.ok.noex b o e)⟩
theorem Inv.bk(I:Inv X pins σ H s):∀ b o,X.base.get? b=some o->s.heap.get? b=some o:=λb o e=>(I.bs b o e).1
theorem Inv.mod(I:Inv X pins σ H s):Mod X.K X.mg X.base:=I.ok.mod
theorem Inv.kIn(I:Inv X pins σ H s):X.K.In s.heap:=I.ok.mod.kin.keeps I.bk
theorem Inv.fr(I:Inv X pins σ H s):∃ m,Fr X.base X.env.locals s.heap m :=
 let ⟨m,hn,_⟩:=I.loc
 ⟨m,hn,I.bk,Nat.le_trans I.ok.bsz I.ok.above⟩
theorem Inv.lt(I:Inv X pins σ H s):X.env.locals<s.heap.objs.size:=let ⟨_,hn,_⟩:=I.loc;hn.lt
theorem Inv.sz(I:Inv X pins σ H s):X.s₀.heap.objs.size<=s.heap.objs.size:=Nat.le_trans I.ok.above (Nat.le_of_lt I.lt)
theorem Inv.nofs(I:Inv X pins σ H s){a:Addr}(h:s.heap.objs.size<=a):a ∉ X.fs:=λhb=>by
 obtain ⟨_,o,ho,_⟩:=I.ok.funs.mem hb;exact absurd (Nat.lt_of_lt_of_le (Heap.lt_size ho) (Nat.le_trans I.sz h)) (Nat.lt_irrefl _)
theorem Inv.cne(I:Inv X pins σ H s):∀ x c,X.env.cells.lookup x=some c->c≠X.env.locals:=λx c e z=>by
 obtain ⟨v,o,ho,hd⟩:=I.cell x c e;obtain ⟨m,⟨o',es,ep,ho',hd',_⟩,_⟩:=I.loc;rw [z,ho'] at ho;cases ho;rw [hd'] at hd;cases hd
theorem Inv.funs(I:Inv X pins σ H s):s.heap.FunFrames X.base X.outer:=by
 have all:∀ (l:List Env),(∀ b∈frs l,b∈X.fs)->X.s₀.heap.FunFrames X.base l->s.heap.FunFrames X.base l:=by
  intro l
  induction l with
  | nil=>intro _ _;trivial
  | cons env r ih =>
   intro hs hl
   obtain ⟨hk,⟨L,o,hf,hn,ho,hd⟩,hr⟩:=hl;have hL:L∈X.fs:=hs L (by unfold frs;rw [List.filterMap_cons,hf];exact List.mem_cons_self)
   obtain ⟨sl,e⟩:=I.base.slot L o ho (I.ok.frf L hL) hL λz=>I.ok.exfs L z hL;exact ⟨hk,⟨L,_,hf,hn,e,hd⟩,ih (λb hb=>hs b (by unfold frs;rw [List.filterMap_cons,hf];exact List.mem_cons_of_mem _ hb)) hr⟩
 exact all X.outer (λ_ hb=>hb) I.ok.funs
theorem Inv.stack(I:Inv X pins σ H s):s.heap.FunFrames X.base X.stack:=by
 rcases I.ok.stk with e | ⟨e,hf⟩
 ·rw [e];exact I.funs
 ·rw [e];obtain ⟨m,hn,_⟩:=I.loc;refine .cons (by rw [I.ok.kind];decide) hf hn ?_ I.funs
  exact Heap.get?_none_of_le (Nat.le_trans I.ok.bsz I.ok.above)
theorem Inv.stkSub(I:Inv X pins σ H s):∀ b∈frs X.stack,b∈X.env.locals::X.fs:=λb hb=>by
 rcases I.ok.stk with e | ⟨e,hf⟩
 ·rw [e] at hb;exact List.mem_cons_of_mem _ hb
 ·rw [e] at hb;unfold frs at hb;rw [List.filterMap_cons,hf] at hb;exact hb
theorem Inv.stkFree(I:Inv X pins σ H s):∀ b∈frs X.stack,H b=none:=λb hb=>by
 rcases List.mem_cons.mp (I.stkSub b hb) with e | hb
 ·rw [e];exact I.free
 ·obtain ⟨_,o,ho,_⟩:=I.ok.funs.mem hb;exact I.base.free b o ho (I.ok.frf b hb) λz=>I.ok.exfs b z hb
theorem Inv.step{g':Array GenState}{t':Nat}{d':Drawn}{ch:List Addr}(I:Inv X pins σ H s)
  (hch:∀ b∈ch,(b∈X.ex\/X.s₀.heap.objs.size<=b)/\b≠X.env.locals/\(∀ x c,X.env.cells.lookup x=some c->c≠b)/\∀ p∈X.pn++pins,p.1≠b)
  (keep:∀ b o,b≠X.env.locals->b ∉ X.fs->b ∉ ch->s.heap.get? b=some o->H b=none->h'.get? b=some o)
  (slot:∀ b o,b≠X.env.locals->b∈X.fs->b ∉ ch->s.heap.get? b=some o->H b=none->∃ sl,h'.get? b=some { o with slots:=sl }) (free:∀ b o,b ∉ ch->s.heap.get? b=some o->H b=none->H' b=none)
  (there:∀ b o,b ∉ ch->s.heap.get? b=some o->∃ o',h'.get? b=some o')
  (tups:∀ b xs,H b=some (.tup xs)->H' b=some (.tup xs)) (frzs:∀ b o u,H b=some (.frz o u)->H' b=some (.frz o u)) (tbls:∀ b ps,H b=some (.tbl ps)->∃ more,H' b=some (.tbl (ps++more)))
  (ns:∀ m,s.heap.Ns X.env.locals m->h'.Ns X.env.locals m) (hok:HOk X.prog X.w H' h') (hg:AllBare g') :
  Inv X pins σ H' { s with heap:=h',gens:=g',drawn:=d',toks:=t' }:=by
 have neL:∀ b o,X.s₀.heap.get? b=some o->b≠X.env.locals:=λb o e=>Nat.ne_of_lt (Nat.lt_of_lt_of_le (Heap.lt_size e) I.ok.above);have neC:∀ b o,X.s₀.heap.get? b=some o->b ∉ X.ex->b ∉ ch:=λb o e hx hb=>by
  rcases (hch b hb).1 with z | z
  ·exact hx z
  ·exact absurd (Nat.lt_of_lt_of_le (Heap.lt_size e) z) (Nat.lt_irrefl _)
 have cellK:∀ x c,X.env.cells.lookup x=some c->∀ v,s.heap.IsCell c v->h'.IsCell c v:=λx c e v ⟨o,ho,hd⟩=>by
  have nch:c ∉ ch:=λz=>(hch c z).2.2.1 x c e rfl
  by_cases hc:c∈X.fs
  ·obtain ⟨sl,q⟩:=slot c o (I.cne x c e) hc nch ho (I.freeC x c e);exact ⟨_,q,hd⟩
  ·exact ⟨o,keep c o (I.cne x c e) hc nch ho (I.freeC x c e),hd⟩
 refine ⟨I.ok,I.os,hg,⟨λb o e n hb hx=>?_,λb o e n hb hx=>?_,λb o e n hx=>?_,λb o e hx=>?_,λb xs e=>tups b xs (I.base.tups b xs e),λb o xs e=>frzs b o xs (I.base.frzs b o xs e),λb ps e=>?_⟩,?_,λx c e=>?_,?_,λx c e=>?_,λp hp=>?_,hok,I.len⟩
 ·exact keep b o (neL b o e) hb (neC b o e hx) (I.base.keep b o e n hb hx) (I.base.free b o e n hx)
 ·obtain ⟨sl,e1⟩:=I.base.slot b o e n hb hx;obtain ⟨sl',e2⟩:=slot b _ (neL b o e) hb (neC b o e hx) e1 (I.base.free b o e n hx);exact ⟨sl',e2⟩
 ·obtain ⟨o',e1⟩:=I.base.there b o e hx;exact free b o' (neC b o e hx) e1 (I.base.free b o e n hx)
 ·obtain ⟨o',e1⟩:=I.base.there b o e hx;exact there b o' (neC b o e hx) e1
 ·obtain ⟨m1,e1⟩:=I.base.tbls b ps e;obtain ⟨m2,e2⟩:=tbls b _ e1;exact ⟨m1++m2,by rw [e2,Array.append_assoc]⟩
 ·obtain ⟨m,hn,hl⟩:=I.loc;refine ⟨m,ns m hn,λi x v e1 e2 e3=>?_⟩;obtain ⟨u,r,l⟩:=hl i x v e1 e2 e3;refine ⟨u,r,?_⟩
  rcases l with l | ⟨k,c,e,z⟩
  ·exact .inl l
  ·exact .inr ⟨k,c,e,cellK x c e _ z⟩
 ·obtain ⟨v,z⟩:=I.cell x c e;exact ⟨v,cellK x c e v z⟩
 ·obtain ⟨m,⟨o,_,_,ho,_⟩,_⟩:=I.loc;exact free _ o (λz=>(hch _ z).2.1 rfl) ho I.free
 ·obtain ⟨v,o,ho,hd⟩:=I.cell x c e;exact free c o (λz=>(hch c z).2.2.1 x c e rfl) ho (I.freeC x c e)
 ·obtain ⟨e,n,ne,nf,d⟩:=I.pin p hp;have nch:p.1 ∉ ch:=λz=>(hch p.1 z).2.2.2 p hp rfl;exact ⟨keep p.1 p.2 ne nf nch e n,free p.1 p.2 nch e n,ne,nf,d⟩
theorem Inv.un{t':Nat}(I:Inv X pins σ H s)(u:Un X.fs [] H H' s.heap h')(hok:HOk X.prog X.w H' h'):Inv X pins σ H' { s with heap:=h',toks:=t' }:=by
 obtain ⟨m,⟨o,es,ep,ho,r⟩,_⟩:=id I.loc;obtain ⟨sl,hL⟩:=u.any ho I.free (by simp)
 exact I.step (g':=s.gens) (d':=s.drawn) (ch:=[]) (λ_ z=>nomatch z) (λb o _ hb _ e n=>u.keep b o e n hb (by simp)) (λb o _ hb _ e n=>u.slot b o e n hb (by simp)) (λb o _ e n=>u.free b o e n (by simp)) (λb o _ e=>u.there b o e (by simp)) u.tups u.frzs u.tbls (λm' hm=>by
  obtain ⟨o',es',ep',ho',r'⟩:=hm;rw [ho] at ho';cases ho'
  exact ⟨_,es',ep',hL,r'⟩) hok I.bare
theorem Inv.call{g':Array GenState}{t':Nat}{d':Drawn}{ch:List Addr}(I:Inv X pins σ H s)(u:Un (frs X.stack) ch H H' s.heap h')(hok:HOk X.prog X.w H' h')(hg:AllBare g')
  (hch:∀ b∈ch,(b∈X.ex\/X.s₀.heap.objs.size<=b)/\b≠X.env.locals/\(∀ x c,X.env.cells.lookup x=some c->c≠b)/\∀ p∈X.pn++pins,p.1≠b) :
  Inv X pins σ H' { s with heap:=h',gens:=g',drawn:=d',toks:=t' }:=by
 obtain ⟨m,⟨o,es,ep,ho,r⟩,_⟩:=id I.loc;obtain ⟨sl,hL⟩:=u.any ho I.free λz=>(hch _ z).2.1 rfl;exact I.step (ch:=ch) hch (λb o hL hb hc e n=>u.keep b o e n (λz=>(List.mem_cons.mp (I.stkSub b z)).elim hL hb) hc) (λb o _ _ hc e n=>u.any e n hc) (λb o hc e n=>u.free b o e n hc) (λb o hc e=>u.there b o e hc) u.tups u.frzs u.tbls (λm' hm=>by
  obtain ⟨o',es',ep',ho',r'⟩:=hm;rw [ho] at ho';cases ho'
  exact ⟨_,es',ep',hL,r'⟩) hok hg
theorem Inv.turned{t':Nat}{it:Addr}(I:Inv X pins σ H s)(k:∀ b o,b≠it->s.heap.get? b=some o->h'.get? b=some o)(hn:H it=none)(hL:it≠X.env.locals)
  (h1:it∈X.ex\/X.s₀.heap.objs.size<=it) (h2:∀ x c,X.env.cells.lookup x=some c->c≠it) (h3:∀ p∈X.pn++pins,p.1≠it):Inv X pins σ H { s with heap:=h',toks:=t' }:=by
 have nit:∀ b u,H b=some u->b≠it:=λb u e z=>by rw [z,hn] at e;cases e
 refine I.step (g':=s.gens) (d':=s.drawn) (ch:=[it]) (λb hb=>?_) (λb o _ _ hc e _=>k b o (λz=>hc (by simp [z])) e) (λb o _ _ hc e _=>⟨o.slots,k b o (λz=>hc (by simp [z])) e⟩) (λ_ _ _ _ n=>n)
  (λb o hc e=>⟨o,k b o (λz=>hc (by simp [z])) e⟩) (λ_ _ e=>e) (λ_ _ _ e=>e) (λb ps e=>⟨#[],by rw [e];simp⟩) (λm hm=>?_) (λb u e=>?_) I.bare
 ·have e:b=it:=by simpa using hb
  subst e;exact ⟨h1,hL,h2,h3⟩
 ·obtain ⟨o,es,ep,ho,r⟩:=hm;exact ⟨o,es,ep,k _ o (Ne.symm hL) ho,r⟩
 ·refine (I.hok b u e).stay (λc v hc q=>k c v ?_ q) (λ_ q=>q) λ_ _ q=>q
  rcases hc with z | z
  ·rw [z];exact nit b u e
  ·exact nit c _ z
theorem Inv.tok(I:Inv X pins σ H s)(t:Nat):Inv X pins σ H { s with toks:=t }:=I.un (h':=s.heap) (t':=t) Un.refl I.hok
theorem Inv.kept{t':Nat}(I:Inv X pins σ H s)(k:∀ b u,s.heap.get? b=some u->h'.get? b=some u):Inv X pins σ H { s with heap:=h',toks:=t' }:=I.un (Un.kept k) (I.hok.kept k)
theorem Inv.laid{a:Addr}{o:HO}{t':Nat}(I:Inv X pins σ H s)(k:∀ b u,s.heap.get? b=some u->h'.get? b=some u)(hp:s.heap.objs.size<=a)(new:ObjOk X.prog X.w (upd H a o) h' a o) :
  Inv X pins σ (upd H a o) { s with heap:=h',toks:=t' }:=I.un (Un.laid k hp (I.hok.fresh hp)) (I.hok.laid k hp new)
theorem Inv.write{x e:Addr}{o:HO}{t':Nat}(I:Inv X pins σ H s)(mu:Mut (H x))(he:e=x\/H e=some (.own x))(k:∀ b u,b≠e->s.heap.get? b=some u->h'.get? b=some u)(heo:∃ u,h'.get? e=some u)
  (new:ObjOk X.prog X.w (upd H x o) h' x o):Inv X pins σ (upd H x o) { s with heap:=h',toks:=t' }:=I.un (Un.write mu he k heo) (I.hok.write mu he k heo new)
theorem Inv.weak{σ':List (Option V)}(I:Inv X pins σ H s)(hl:σ'.length=σ.length)(w:∀ (i:Nat) v,σ'[i]? = some (some v)->σ[i]? = some (some v)):Inv X pins σ' H s :=
 ⟨I.ok,I.os,I.bare,I.base,let ⟨m,hn,hl'⟩:=I.loc; ⟨m,hn,λi x v e1 e2 e3=>hl' i x v e1 (w i v e2) e3⟩,I.cell,I.free,I.freeC,I.pin,I.hok,hl.trans I.len⟩
theorem Inv.pins_of{pins':List (Addr × Obj)}(I:Inv X pins σ H s)(h:∀ p∈pins',s.heap.get? p.1=some p.2/\H p.1=none/\p.1≠X.env.locals/\p.1 ∉ X.fs/\∀ v,p.2.data≠.cell v):Inv X pins' σ H s :=
 ⟨I.ok,I.os,I.bare,I.base,I.loc,I.cell,I.free,I.freeC,λp hp=>(List.mem_append.mp hp).elim (λz=>I.pin p (List.mem_append_left _ z)) (h p),I.hok,I.len⟩
theorem aca{N:List Str}(hN:N.Nodup){i j:Nat}{x:Str}(a:N[i]? = some x)(b:N[j]? = some x):i=j:=by
 obtain ⟨h1,e1⟩:=List.getElem?_eq_some_iff.mp a;obtain ⟨h2,e2⟩:=List.getElem?_eq_some_iff.mp b;exact (List.getElem_inj hN).mp (e1.trans e2.symm)
theorem a9j{M:Model}{A:Around}{E:Value->Shared->Prop}{i:Nat}{x:Str}{v:V}{u:Value}{Q:Unit->Shared->Prop}(I:Inv X pins σ H s)(hN:X.N.Nodup)(hi:X.N[i]? = some x)(hx:Loc X.env.scope x)(r:RelV v u)
  (h:∀ s',Inv X pins (σ.set i (some v)) H s'->(∃ a,Heap.SameBut a s.heap s'.heap/\(a=X.env.locals\/X.env.cells.lookup x=some a))->Q () s') (hf:X.fn x=true\/X.env.scope.names.lookup x=some .local:=by first | exact .inl rfl | exact .inr rfl | assumption):wpAny M A (storeName X.env x u) Q E s:=by
 obtain ⟨m,hn,hl⟩:=id I.loc;have hcls:(X.env.scope.kind == .class || (X.env.scope.kind == .module && X.env.locals != X.env.globals))=false:=by rw [I.ok.kind];rfl
 have hiσ:i<σ.length:=by rw [I.len];exact (List.getElem?_eq_some_iff.mp hi).1
 have cne:=I.cne;have tracked:∀ {a:Addr} {h':Heap},(∃ o,s.heap.get? a=some o/\H a=none)->Heap.SameBut a s.heap h'->HOk X.prog X.w H h':=λ{a h'} ha hs b ob e=>by
  obtain ⟨_,_,hfree⟩:=ha;refine (I.hok b ob e).stay (λc w' hc q=>(hs.2 c ?_).trans q) (λ_ q=>q) λ_ _ q=>q
  rintro rfl
  rcases hc with rfl | hc
  ·rw [hfree] at e;cases e
  ·rw [hfree] at hc;cases hc
 rcases hx with hk | hk
 ·refine wpAny_storeName_local hk hn (λh' hn' hs=>?_) hcls;obtain ⟨oL,_,_,hoL,_⟩:=id hn;refine h _ ⟨I.ok,I.os,I.bare,⟨λb o e n hb hx=>?_,λb o e n hb hx=>?_,I.base.free,λb o e hx=>?_,I.base.tups,I.base.frzs,I.base.tbls⟩,⟨_,hn',λj y v' e1 e2 e3=>?_⟩,λy c e=>?_,I.free,I.freeC,λp hp=>?_,tracked ⟨oL,hoL,I.free⟩ hs,by simpa using I.len⟩ ⟨_,hs, .inl rfl⟩
  ·exact (hs.2 b (Nat.ne_of_lt (Nat.lt_of_lt_of_le (Heap.lt_size e) I.ok.above))).trans (I.base.keep b o e n hb hx)
  ·obtain ⟨sl,e1⟩:=I.base.slot b o e n hb hx;exact ⟨sl,(hs.2 b (Nat.ne_of_lt (Nat.lt_of_lt_of_le (Heap.lt_size e) I.ok.above))).trans e1⟩
  ·obtain ⟨o',e1⟩:=I.base.there b o e hx;exact ⟨o',(hs.2 b (Nat.ne_of_lt (Nat.lt_of_lt_of_le (Heap.lt_size e) I.ok.above))).trans e1⟩
  ·by_cases hj:j=i
   ·subst hj;rw [hi] at e1;cases e1
    rw [List.getElem?_set_self hiσ] at e2;cases e2
    exact ⟨u,r, .inl ⟨hk,by simp⟩⟩
   ·rw [List.getElem?_set_ne (Ne.symm hj)] at e2;obtain ⟨u',r',q⟩:=hl j y v' e1 e2 e3;refine ⟨u',r',?_⟩
    rcases q with ⟨k,e⟩ | ⟨k,c,e,z⟩
    ·refine .inl ⟨k,?_⟩;have:y≠x:=λe=>hj (aca hN e1 (e ▸ hi));simp [this,e]
    ·exact .inr ⟨k,c,e,z.sameBut hs (cne y c e)⟩
  ·obtain ⟨w',z⟩:=I.cell y c e;exact ⟨w',z.sameBut hs (cne y c e)⟩
  ·obtain ⟨e,n,ne,nf,d⟩:=I.pin p hp;exact ⟨(hs.2 p.1 ne).trans e,n,ne,nf,d⟩
 ·have hfn:X.fn x=true:=by
   rcases hf with z | z
   ·exact z
   ·rw [z] at hk;cases hk
  obtain ⟨c,hc⟩:=I.ok.has x (.inl hk);obtain ⟨w',z⟩:=I.cell x c hc;refine wpAny_storeName_cell I.ok.kind hk hc z (λh' hc' hs=>?_);obtain ⟨oc,hoc,hocd⟩:=id z;refine h { s with heap:=h' } ⟨I.ok,I.os,I.bare,⟨λb o e n hb hx=>?_,λb o e n hb hx=>?_,I.base.free,λb o e hx=>?_,I.base.tups,I.base.frzs,I.base.tbls⟩,⟨m,hn.sameBut hs (Ne.symm (cne x c hc)),λj y v' e1 e2 e3=>?_⟩,λy c' e=>?_,I.free,I.freeC,λp hp=>?_,tracked ⟨oc,hoc,I.freeC x c hc⟩ hs,by simpa using I.len⟩ ⟨c,hs, .inr hc⟩
  ·exact (hs.2 b (Nat.ne_of_lt (Nat.lt_of_lt_of_le (Heap.lt_size e) (I.ok.cab x c hfn hc)))).trans (I.base.keep b o e n hb hx)
  ·obtain ⟨sl,e1⟩:=I.base.slot b o e n hb hx;exact ⟨sl,(hs.2 b (Nat.ne_of_lt (Nat.lt_of_lt_of_le (Heap.lt_size e) (I.ok.cab x c hfn hc)))).trans e1⟩
  ·obtain ⟨o',e1⟩:=I.base.there b o e hx;exact ⟨o',(hs.2 b (Nat.ne_of_lt (Nat.lt_of_lt_of_le (Heap.lt_size e) (I.ok.cab x c hfn hc)))).trans e1⟩
  ·by_cases hj:j=i
   ·subst hj;rw [hi] at e1;cases e1
    rw [List.getElem?_set_self hiσ] at e2;cases e2
    exact ⟨u,r, .inr ⟨.inl hk,c,hc,hc'⟩⟩
   ·rw [List.getElem?_set_ne (Ne.symm hj)] at e2;obtain ⟨u',r',q⟩:=hl j y v' e1 e2 e3;refine ⟨u',r',?_⟩
    rcases q with q | ⟨k,c',e,z'⟩
    ·exact .inl q
    ·refine .inr ⟨k,c',e,z'.sameBut hs ?_⟩
     rintro rfl
     exact hj (aca hN e1 (I.ok.inj _ _ _ e hc ▸ hi))
  ·by_cases hcc:c'=c
   ·subst hcc;exact ⟨_,hc'⟩
   ·obtain ⟨w2,z2⟩:=I.cell y c' e;exact ⟨w2,z2.sameBut hs hcc⟩
  ·obtain ⟨e,n,ne,nf,d⟩:=I.pin p hp;refine ⟨(hs.2 p.1 ?_).trans e,n,ne,nf,d⟩
   intro q
   rw [q,hoc] at e;have q':oc=p.2:=Option.some.inj e;exact d w' (by rw [<-q'];exact hocd)
theorem a3p{M:Model}{A:Around}{E:Value->Shared->Prop}{i:Nat}{x:Str}{v:V}{u:Value}{Q:Unit->Shared->Prop}(I:Inv X pins σ H s)(hN:X.N.Nodup)(hi:X.N[i]? = some x)(hx:Loc X.env.scope x)(r:RelV v u)
  (h:∀ s',Inv X pins (σ.set i (some v)) H s'->Q () s') (hf:X.fn x=true\/X.env.scope.names.lookup x=some .local:=by first | exact .inl rfl | exact .inr rfl | assumption):wpAny M A (storeName X.env x u) Q E s :=
 a9j I hN hi hx r (λs' I' _=>h s' I') hf
end
abbrev XK:=Value->Option Addr->Hp->Prop
abbrev St:=List (Option V)
abbrev VK:=V->Hp->Prop
abbrev TE:=St->Hp->VK->Prop
abbrev TT:=St->Hp->(Bool->Hp->Prop)->Prop
abbrev TA:=St->Hp->(List V->Hp->Prop)->Prop
structure Ends where
 nx:St->Hp->Prop
 rt:VK
 bk:St->Hp->Prop:=λ_ _=>False
 ct:St->Hp->Prop:=λ_ _=>False
abbrev TS:=Ends->St->Hp->Prop
def EP(X:Cx)(pins:List (Addr × Obj))(σ:St)(Q:VK)(u:Value)(s':Shared):Prop:=∃ v H',Inv X pins σ H' s'/\RelV v u/\Q v H'
def TP(X:Cx)(pins:List (Addr × Obj))(σ:St)(Q:Bool->Hp->Prop)(b:Bool)(s':Shared):Prop:=∃ H',Inv X pins σ H' s'/\Q b H'
def AP(X:Cx)(pins:List (Addr × Obj))(σ:St)(Q:List V->Hp->Prop)(us:List Value)(s':Shared):Prop:=∃ vs H',Inv X pins σ H' s'/\Vals vs us/\Q vs H'
def SP(X:Cx)(pins:List (Addr × Obj))(D:Ends)(f:Flow)(s':Shared):Prop :=
 match f with
 | .next=>∃ σ' H',Inv X pins σ' H' s'/\D.nx σ' H'
 | .brk=>∃ σ' H',Inv X pins σ' H' s'/\D.bk σ' H'
 | .cont=>∃ σ' H',Inv X pins σ' H' s'/\D.ct σ' H'
 | .ret u=>∃ v σ' H',Inv X pins σ' H' s'/\RelV v u/\D.rt v H'
def PE(X:Cx)(e:Expr)(t:TE):Prop :=
 ∀ (pins:List (Addr × Obj)) (s:Shared) (σ:St) (H:Hp) (Q:VK),Inv X pins σ H s->t σ H Q->wpAny (model X.prog X.w) X.A (eval e X.env) (EP X pins σ Q) X.xe s
def PT(X:Cx)(e:Expr)(t:TT):Prop :=
 ∀ (pins:List (Addr × Obj)) (s:Shared) (σ:St) (H:Hp) (Q:Bool->Hp->Prop),Inv X pins σ H s->t σ H Q->wpAny (model X.prog X.w) X.A (isTrue e X.env (eval e X.env)) (TP X pins σ Q) X.xe s
def PW(X:Cx)(e:Expr)(t:TT):Prop :=
 ∀ (whole:Sem Value) (pins:List (Addr × Obj)) (s:Shared) (σ:St) (H:Hp) (Q:Bool->Hp->Prop),Inv X pins σ H s->t σ H Q->wpAny (model X.prog X.w) X.A (isTrue e X.env whole) (TP X pins σ Q) X.xe s
theorem PW.pt{X:Cx}{e:Expr}{t:TT}(h:PW X e t):PT X e t:=h _
def PA(X:Cx)(es:List Expr)(t:TA):Prop :=
 ∀ (pos:Pos) (pins:List (Addr × Obj)) (s:Shared) (σ:St) (H:Hp) (Q:List V->Hp->Prop),Inv X pins σ H s->t σ H Q->wpAny (model X.prog X.w) X.A (spliced (backTo pos (starEach es X.env))) (AP X pins σ Q) X.xe s
def PS(X:Cx)(st:Stmt)(t:TS):Prop :=
 ∀ (pins:List (Addr × Obj)) (s:Shared) (σ:St) (H:Hp) (D:Ends),Inv X pins σ H s->t D σ H->wpAny (model X.prog X.w) X.A (exec st X.env) (SP X pins D) X.xe s
def PSs(X:Cx)(st:List Stmt)(t:TS):Prop :=
 ∀ (pins:List (Addr × Obj)) (s:Shared) (σ:St) (H:Hp) (D:Ends),Inv X pins σ H s->t D σ H->wpAny (model X.prog X.w) X.A (execs st X.env) (SP X pins D) X.xe s
theorem thn{α:Type}{t:Sem α}{Q Q':α->Shared->Prop}{M:Model}{A:Around}{E:Value->Shared->Prop}{s:Shared}(h:wpAny M A t Q E s)(hQ:∀ a s,Q a s->Q' a s):wpAny M A t Q' E s:=wpAny_mono h hQ λ_ _ x=>x
section
variable{X:Cx}
def az4(i:Nat):TE:=λσ H Q=>∃ v,σ[i]? = some (some v)/\Q v H
def tC(v:V):TE:=λ_ H Q=>Q v H
theorem arl{i:Nat}{x:Str}{pos:Pos}(hN:X.N[i]? = some x)(hv:Vis X.env.scope x)(hd:(x == ("__debug__" : Str))=false:=by decide)(hcd:(x == ("__classdict__" : Str))=false:=by decide):PE X (.Name x pos) (az4 i):=by
 intro pins s σ H Q I h
 obtain ⟨v,e,h⟩:=h;obtain ⟨m,hn,hl⟩:=I.loc;obtain ⟨u,r,l⟩:=hl i x v hN e hv;have fin:EP X pins σ Q u s:=⟨v,H,I,r,h⟩
 rcases l with ⟨hk,hm⟩ | ⟨hk,c,hc,hcell⟩
 ·exact wpAny_Name (wpAny_loadName_local I.ok.kind hk hn hm fin) hd
 ·rcases hk with hk | hk
  ·exact wpAny_Name (wpAny_loadName_cell I.ok.kind hk hc hcell fin) hd
  ·exact wpAny_Name (wpAny_loadName_free I.ok.kind hk hc hcell fin hcd) hd
theorem arn{i j pos}:PE X (.Constant (.int i) j pos) (tC (.int i)):=λ_ _ _ H _ I h=>wpAny_Constant_int ⟨.int i,H,I.tok _,⟨_,rfl⟩,h⟩
theorem awd{b j pos}:PE X (.Constant (.bool b) j pos) (tC (.bl b)):=λ_ _ _ H _ I h=>Constant_bool ⟨.bl b,H,I,rfl,h⟩
theorem aro{j pos}:PE X (.Constant .none j pos) (tC .non):=λ_ _ _ H _ I h=>Constant_none ⟨.non,H,I,rfl,h⟩
theorem arp{x j pos}:PE X (.Constant (.str x) j pos) (tC (.str x)):=λ_ _ _ H _ I h=>Calls.Constant_str ⟨.str x,H,I.tok _,⟨_,rfl⟩,h⟩
def Gl(X:Cx)(x:Str):Prop:=X.env.kindOf x=some .globalImplicit
theorem afj{E:Value->Shared->Prop}{pins:List (Addr × Obj)}{s:Shared}{σ:St}{H:Hp}{x:Str}{u:Value}{pos:Pos}{Q:Value->Shared->Prop}(I:Inv X pins σ H s)(hg:Gl X x)(hm:X.mg x=some u)(h:Q u s)
  (hd:(x == ("__debug__" : Str))=false:=by decide):wpAny (model X.prog X.w) X.A (eval (.Name x pos) X.env) Q E s :=
 Calls.Name_function_global I.ok.kind hg (Calls.loadGlobal_global (by rw [I.ok.glob];exact I.mod.glob.keeps I.bk) hm h) hd
theorem a5w{E:Value->Shared->Prop}{pins:List (Addr × Obj)}{s:Shared}{σ:St}{H:Hp}{x:Str}{u:Value}{pos:Pos}{Q:Value->Shared->Prop}(I:Inv X pins σ H s)(hg:Gl X x)(hm:X.mg x=none)(hv:bootBuiltins x=some u)(h:Q u s)
  (hn:x ≠ "__name__":=by decide) (hd:(x == ("__debug__" : Str))=false:=by decide):wpAny (model X.prog X.w) X.A (eval (.Name x pos) X.env) Q E s:=by
 obtain ⟨mb,h1,h2⟩:=I.mod.blt;exact Calls.Name_function_global I.ok.kind hg (Calls.loadGlobal_builtin (by rw [I.ok.glob];exact I.mod.glob.keeps I.bk) hm (by rw [I.ok.blt];exact h1.keeps I.bk) ((h2 x hn).trans hv) h) hd
theorem ao2{x:Str}{v:V}{u:Value}{pos:Pos}(hg:Gl X x)(hm:X.mg x=none)(hv:bootBuiltins x=some u)(r:RelV v u)(hn:x ≠ "__name__":=by decide)(hd:(x == ("__debug__" : Str))=false:=by decide):PE X (.Name x pos) (tC v) :=
 λ_ _ _ H _ I h=>a5w I hg hm hv ⟨v,H,I,r,h⟩ hn hd
variable{a b:Expr}{ta tb:TE}{pos:Pos}
variable{tA tB':TT}{rest:List Expr}
def az5(t u:TT):TT:=λσ H Q=>t σ H λc H1=>if c=true then u σ H1 Q else Q false H1
def tOr(t u:TT):TT:=λσ H Q=>t σ H λc H1=>if c=true then Q true H1 else u σ H1 Q
def az6(t:TT):TT:=λσ H Q=>t σ H λc H1=>Q (!c) H1
theorem ao3(ha:PT X a tA):PW X (.BoolOp .And [a] pos) tA:=by
 intro wh pins s σ H Q I h
 refine isTrue_and (thn (ha pins s σ H Q I h) λc s1 e=>?_)
 cases c with
 | true=>exact isTrue_and_nil e
 | false=>exact e
theorem arq(ha:PT X a tA):PW X (.BoolOp .Or [a] pos) tA:=by
 intro wh pins s σ H Q I h
 refine isTrue_or (thn (ha pins s σ H Q I h) λc s1 e=>?_)
 cases c with
 | false=>exact isTrue_or_nil e
 | true=>exact e
theorem ars(ha:PT X a tA)(hb:PW X (.BoolOp .And (b::rest) pos) tB'):PW X (.BoolOp .And (a::b::rest) pos) (az5 tA tB'):=by
 intro wh pins s σ H Q I h
 refine isTrue_and (thn (ha pins s σ H _ I h) λc s1 ⟨H1,I1,q1⟩=>?_)
 cases c with
 | true=>exact hb wh pins s1 σ H1 Q I1 q1
 | false=>exact ⟨H1,I1,q1⟩
theorem awe(ha:PT X a tA)(hb:PW X (.BoolOp .Or (b::rest) pos) tB'):PW X (.BoolOp .Or (a::b::rest) pos) (tOr tA tB'):=by
 intro wh pins s σ H Q I h
 refine isTrue_or (thn (ha pins s σ H _ I h) λc s1 ⟨H1,I1,q1⟩=>?_)
 cases c with
 | true=>exact ⟨H1,I1,q1⟩
 | false=>exact hb wh pins s1 σ H1 Q I1 q1
theorem art(ha:PT X a tA):PT X (.UnaryOp .Not a pos) (az6 tA):=by
 intro pins s σ H Q I h
 exact isTrue_not (ha pins s σ H (λc H1=>Q (!c) H1) I h)
def awf(ta tb:TE):TE:=λσ H Q=>ta σ H λx H1=>∃ c,x = .bl c/\if c=true then tb σ H1 Q else Q (.bl false) H1
theorem aru{op}{t:TE}(h:PE X a t):PE X (.BoolOp op [a] pos) t:=λpins s σ H Q I hw=>BoolOp_one (h pins s σ H Q I hw)
theorem arv(ha:PE X a ta)(hb:PE X (.BoolOp .And (b::rest) pos) tb):PE X (.BoolOp .And (a::b::rest) pos) (awf ta tb):=by
 intro pins s σ H Q I h
 refine BoolOp_and (thn (ha pins s σ H _ I h) λv s1 ⟨x,H1,I1,r1,q1⟩=>?_);obtain ⟨c,rfl,q1⟩:=q1;cases r1
 refine wpAny_truthy_bool ?_
 cases c with
 | true=>exact hb pins s1 σ H1 Q I1 q1
 | false=>exact ⟨.bl false,H1,I1,rfl,q1⟩
def tIf(t:TT)(ta tb:TE):TE:=λσ H Q=>t σ H λc H1=>if c=true then ta σ H1 Q else tb σ H1 Q
theorem ajf{c:Expr}(hc:PT X c tA)(ha:PE X a ta)(hb:PE X b tb):PE X (.IfExp c a b pos) (tIf tA ta tb):=by
 intro pins s σ H Q I h
 refine wpAny_IfExp (thn (hc pins s σ H _ I h) λd s1 ⟨H1,I1,q1⟩=>?_)
 cases d with
 | true=>exact ha pins s1 σ H1 Q I1 q1
 | false=>exact hb pins s1 σ H1 Q I1 q1
end
def SqL(K:PySem.W.Frag)(H:Hp)(a:Addr)(xs:List V):Prop :=
 Rd H a (.lst xs) \/
  ∃ (o:Obj) (its:Array Value) (n:Nat),K.lookup a=some o/\o.cls = .type "list"/\o.dict=none/\o.data = .seq its n/\its.size<=sizeLine/\Vals xs its.toList
def SqT(K:PySem.W.Frag)(H:Hp)(a:Addr)(xs:List V):Prop :=
 Rd H a (.tup xs) \/
  ∃ (o:Obj) (its:Array Value) (n:Nat),K.lookup a=some o/\o.cls = .type "tuple"/\o.data = .seq its n/\its.size<=sizeLine/\Vals xs its.toList
def az7:Value->Option V
 | .none=>some .non
 | .bool b=>some (.bl b)
 | .int i _=>some (.int i)
 | .str x _=>some (.str x)
 | .bytes b _=>some (.byt b)
 | .float b _=>some (.flt b)
 | .ref a=>some (.ref a)
 | .type n=>some (.ty n)
 | _=>none
theorem RelV.abs{x:V}{u:Value}(r:RelV x u):az7 u=some x:=by
 cases x with
 | non=>cases r;rfl
 | bl _=>cases r;rfl
 | int _=>obtain ⟨t,rfl⟩:=r;rfl
 | str _=>obtain ⟨t,rfl⟩:=r;rfl
 | byt _=>obtain ⟨t,rfl⟩:=r;rfl
 | flt _=>obtain ⟨t,rfl⟩:=r;rfl
 | ref _=>cases r;rfl
 | ty _=>cases r;rfl
theorem RelV.inj{x y:V}{u:Value}(r:RelV x u)(q:RelV y u):x=y:=Option.some.inj (r.abs.symm.trans q.abs)
theorem Vals.inj:∀ {xs ys:List V} {us:List Value},Vals xs us->Vals ys us->xs=ys
 | _,_,_, .nil, .nil=>rfl
 | _,_,_, .cons r t, .cons r' t'=>by rw [r.inj r',Vals.inj t t']
section
variable{X:Cx}{pins:List (Addr × Obj)}{σ:St}{H:Hp}{s:Shared}{a:Addr}{xs ys:List V}
theorem SqL.of{K:PySem.W.Frag}(h:H a=some (.lst xs)):SqL K H a xs:=.inl (.inl h)
theorem SqT.of{K:PySem.W.Frag}(h:H a=some (.tup xs)):SqT K H a xs:=.inl (.inl h)
theorem Inv.list(I:Inv X pins σ H s)(h:SqL X.K H a xs):∃ its:List Value,Vals xs its/\PlainL s.heap a its.toArray/\xs.length<=sizeLine:=by
 rcases h with h | ⟨o,its,n,hk,hc,hd,hs,hz,r⟩
 ·obtain ⟨z,its,n,r,e⟩:=h.ok I.hok;exact ⟨its,r,⟨_,n,e,rfl,rfl,rfl⟩,z⟩
 ·refine ⟨its.toList,r,⟨o,n,I.kIn a o hk,hc,hd,by simpa using hs⟩,?_⟩
  have e:=r.length;simp only [Array.length_toList] at e;omega
theorem Inv.tuple(I:Inv X pins σ H s)(h:SqT X.K H a xs):∃ its:List Value,Vals xs its/\IsTup s.heap a its.toArray/\xs.length<=sizeLine:=by
 rcases h with h | ⟨o,its,n,hk,hc,hs,hz,r⟩
 ·obtain ⟨z,its,r,p⟩:=h.ok I.hok;exact ⟨its,r,p,z⟩
 ·refine ⟨its.toList,r,⟨o,I.kIn a o hk,hc,n,by simpa using hs⟩,?_⟩
  have e:=r.length;simp only [Array.length_toList] at e;omega
theorem Inv.list_inj(I:Inv X pins σ H s)(h:SqL X.K H a xs)(h':SqL X.K H a ys):xs=ys:=by
 obtain ⟨its,r,⟨o,n,e,_,_,d⟩,_⟩:=I.list h;obtain ⟨its',r',⟨o',n',e',_,_,d'⟩,_⟩:=I.list h';rw [e] at e';cases e'
 rw [d] at d'
 injection d' with d1 _
 have:its=its':=by simpa using congrArg Array.toList d1
 subst this;exact r.inj r'
theorem Inv.tuple_inj(I:Inv X pins σ H s)(h:SqT X.K H a xs)(h':SqT X.K H a ys):xs=ys:=by
 obtain ⟨its,r,⟨o,e,_,n,d⟩,_⟩:=I.tuple h;obtain ⟨its',r',⟨o',e',_,n',d'⟩,_⟩:=I.tuple h';rw [e] at e';cases e'
 rw [d] at d'
 injection d' with d1 _
 have:its=its':=by simpa using congrArg Array.toList d1
 subst this;exact r.inj r'
end
abbrev Cx.wish(X:Cx)(E:Value->Shared->Prop):Cx:={ X with xe:=E }
abbrev Cx.nox(X:Cx):Cx:=X.wish λ_ _=>False
theorem Cx.Ok.wish{X:Cx}(ok:X.Ok)(E:Value->Shared->Prop):(X.wish E).Ok :=
 ⟨ok.mod,ok.kind,ok.glob,ok.blt,ok.above,ok.inj,ok.has,ok.cab,ok.hd,ok.frames,ok.stk,ok.exf,ok.bs,ok.bsz,ok.noex,ok.exfs,ok.funs,ok.frf⟩
theorem Cx.Ok.unwish{X:Cx}{E:Value->Shared->Prop}(ok:(X.wish E).Ok):X.Ok :=
 ⟨ok.mod,ok.kind,ok.glob,ok.blt,ok.above,ok.inj,ok.has,ok.cab,ok.hd,ok.frames,ok.stk,ok.exf,ok.bs,ok.bsz,ok.noex,ok.exfs,ok.funs,ok.frf⟩
section
variable{X:Cx}{pins:List (Addr × Obj)}{σ:St}{H:Hp}{s:Shared}{E:Value->Shared->Prop}
theorem Inv.wish(I:Inv X pins σ H s)(E:Value->Shared->Prop):Inv (X.wish E) pins σ H s:=⟨I.ok.wish E,I.os,I.bare,I.base,I.loc,I.cell,I.free,I.freeC,I.pin,I.hok,I.len⟩
theorem Inv.unwish(I:Inv (X.wish E) pins σ H s):Inv X pins σ H s:=⟨I.ok.unwish,I.os,I.bare,I.base,I.loc,I.cell,I.free,I.freeC,I.pin,I.hok,I.len⟩
theorem SP.unwish{D:Ends}{f:Flow}{s':Shared}(h:SP (X.wish E) pins D f s'):SP X pins D f s':=by
 cases f with
 | next=>obtain ⟨σ',H',I,q⟩:=h;exact ⟨σ',H',I.unwish,q⟩
 | brk=>obtain ⟨σ',H',I,q⟩:=h;exact ⟨σ',H',I.unwish,q⟩
 | cont=>obtain ⟨σ',H',I,q⟩:=h;exact ⟨σ',H',I.unwish,q⟩
 | ret u=>obtain ⟨v,σ',H',I,r,q⟩:=h;exact ⟨v,σ',H',I.unwish,r,q⟩
theorem PSs.nox{st:List Stmt}{t:TS}(h:PSs X.nox st t):PSs X st t:=λpins s σ H D I hw =>
 wpAny_mono (h pins s σ H D (I.wish _) hw) (λ_ _ q=>q.unwish) λ_ _ z=>False.elim z
end
section
variable{X:Cx}{st:Stmt}{rest:List Stmt}{t u:TS}{e:Expr}{te:TE}{pos:Pos}
def awg:TS:=λD σ H=>D.nx σ H
def az8(t u:TS):TS:=λD σ H=>t { D with nx:=u D } σ H
theorem ao4:PSs X [] awg:=λ_ _ σ H _ I h=>wpAny_execs_nil ⟨σ,H,I,h⟩
theorem ajg(h1:PS X st t)(h2:PSs X rest u):PSs X (st::rest) (az8 t u):=by
 intro pins s σ H D I h
 refine wpAny_execs_cons (thn (h1 pins s σ H { D with nx:=u D } I h) λf s1 q=>?_)
 cases f with
 | next =>
  obtain ⟨σ',H',I',q⟩:=q;exact h2 pins s1 σ' H' D I' q
 | ret v=>exact q
 | brk=>exact q
 | cont=>exact q
theorem ao5(h1:PS X st t):PSs X [st] t:=by
 intro pins s σ H D I h
 refine wpAny_execs_cons (thn (h1 pins s σ H D I h) λf s1 q=>?_)
 cases f with
 | next=>exact wpAny_execs_nil q
 | ret v=>exact q
 | brk=>exact q
 | cont=>exact q
theorem Inv.quiet{pins:List (Addr × Obj)}{σ:St}{H:Hp}{s:Shared}(I:Inv X pins σ H s):interactive X.env=false:=by simp [interactive,I.ok.kind]
def awh(te:TE):TS:=λD σ H=>te σ H λ_ H1=>D.nx σ H1
theorem ao6(he:PE X e te)(hs:swapsWith e none pos.line X.env=pure false:=by rfl):PS X (.Expr e pos) (awh te):=by
 intro pins s σ H D I h
 exact wpAny_Expr_any (thn (he pins s σ H _ I h) λv s1 ⟨x,H1,I1,r1,q1⟩=>⟨σ,H1,I1,q1⟩) I.quiet hs
def az9(te:TE):TS:=λD σ H=>te σ H D.rt
theorem arw(he:PE X e te):PS X (.Return (some e) pos) (az9 te):=by
 intro pins s σ H D I h
 exact wpAny_Return_some (thn (he pins s σ H _ I h) λv s1 ⟨x,H1,I1,r1,q1⟩=>⟨x,σ,H1,I1,r1,q1⟩)
def aza(c:TT)(t u:TS):TS:=λD σ H=>c σ H λb H1=>if b=true then t D σ H1 else u D σ H1
theorem awi{c:Expr}{a b:List Stmt}{tc:TT}(hc:PT X c tc)(ha:PSs X a t)(hb:PSs X b u):PS X (.If c a b pos) (aza tc t u):=by
 intro pins s σ H D I h
 refine wpAny_If (thn (hc pins s σ H _ I h) λd s1 ⟨H1,I1,q1⟩=>?_)
 cases d with
 | true=>exact ha pins s1 σ H1 D I1 q1
 | false=>exact hb pins s1 σ H1 D I1 q1
end
abbrev TG:=V->St->Hp->(St->Hp->Prop)->Prop
abbrev TGs:=List V->St->Hp->(St->Hp->Prop)->Prop
def PG(X:Cx)(target:Expr)(t:TG):Prop :=
 ∀ (pins:List (Addr × Obj)) (s:Shared) (σ:St) (H:Hp) (v:V) (u:Value) (Q:St->Hp->Prop),Inv X pins σ H s->RelV v u->t v σ H Q->
  wpAny (model X.prog X.w) X.A (assign target X.env u) (λ_ s'=>∃ σ' H',Inv X pins σ' H' s'/\Q σ' H') X.xe s
def PGs(X:Cx)(ts:List Expr)(t:TGs):Prop :=
 ∀ (pins:List (Addr × Obj)) (s:Shared) (σ:St) (H:Hp) (vs:List V) (us:List Value) (Q:St->Hp->Prop),Inv X pins σ H s->Vals vs us->t vs σ H Q->
  wpAny (model X.prog X.w) X.A (assignInOrder ((assignEach ts X.env).map (·.2)) us) (λ_ s'=>∃ σ' H',Inv X pins σ' H' s'/\Q σ' H') X.xe s
abbrev arx:=V->V->V->Hp->(Hp->Prop)->Prop
def awj(X:Cx)(t:arx):Prop :=
 ∀ (pins:List (Addr × Obj)) (s:Shared) (σ:St) (H:Hp) (o i v:V) (ov iv u:Value) (Q:Hp->Prop),Inv X pins σ H s->RelV o ov->RelV i iv->RelV v u->t o i v H Q->
  wpAny (model X.prog X.w) X.A (setItem ov iv u) (λ_ s'=>∃ H',Inv X pins σ H' s'/\Q H') X.xe s
abbrev TIp:=V->V->Hp->VK->Prop
def PIp(X:Cx)(op:Operator)(t:TIp):Prop :=
 ∀ (pins:List (Addr × Obj)) (s:Shared) (σ:St) (H:Hp) (x y:V) (v u:Value) (Q:VK),Inv X pins σ H s->RelV x v->RelV y u->t x y H Q->
  wpAny (model X.prog X.w) X.A (inplaceOp op v u) (EP X pins σ Q) X.xe s
section
variable{X:Cx}{pos:Pos}
def ae2(i:Nat):TG:=λv σ H Q=>Q (σ.set i (some v)) H
theorem n8{i:Nat}{x:Str}(hN:X.N.Nodup)(hi:X.N[i]? = some x)(hx:Loc X.env.scope x)(hf:X.fn x=true\/X.env.scope.names.lookup x=some .local:=by first | exact .inl rfl | exact .inr rfl | assumption):PG X (.Name x pos) (ae2 i):=by
 intro pins s σ H v u Q I r h
 exact wpAny_assign_Name (a3p I hN hi hx r (λs' I'=>⟨_,H,I',h⟩) hf)
def azb:TGs:=λvs σ H Q=>vs=[]/\Q σ H
def arz(t:TG)(u:TGs):TGs:=λvs σ H Q=>∃ v r,vs=v::r/\t v σ H λσ' H'=>u r σ' H' Q
theorem ao7:PGs X [] azb:=by
 intro pins s σ H vs us Q I r h
 obtain ⟨e,h⟩:=h;subst e;cases r
 exact assignInOrder_nil ⟨σ,H,I,h⟩
theorem ajh{e:Expr}{es:List Expr}{t:TG}{u:TGs}(h1:PG X e t)(h2:PGs X es u)
  (hs:(assignEach (e::es) X.env).map (·.2)=assign e X.env::(assignEach es X.env).map (·.2):=by rfl):PGs X (e::es) (arz t u):=by
 intro pins s σ H vs us Q I r h
 obtain ⟨v,vr,e1,h⟩:=h;subst e1
 cases r with
 | cons r rr =>
  rw [hs];refine assignInOrder_cons (thn (h1 pins s σ H _ _ _ I r h) λ_ s1 ⟨σ1,H1,I1,q1⟩=>?_);exact h2 pins s1 σ1 H1 _ _ Q I1 rr q1
def a4k(K:PySem.W.Frag)(n:Nat)(t:TGs):TG:=λv σ H Q=>∃ a xs,v = .ref a/\SqT K H a xs/\xs.length=n/\t xs σ H Q
theorem as3{es:List Expr}{k:Nat}{t:TGs}{n:Nat}(hc:X.calm=true)(h:PGs X es t)
  (hn:(assignEach es X.env).length=n:=by rfl) (hst:(assignEach es X.env).findIdx? (·.1)=none:=by rfl):PG X (.Tuple es k pos) (a4k X.K n t):=by
 intro pins s σ H v u Q I r hw
 obtain ⟨a,xs,e1,hq,hl,hw⟩:=hw;subst e1;cases r
 obtain ⟨its,rv,ht,hz⟩:=I.tuple hq;refine assign_Tuple_tuple (I.ok.hd hc) ht (by simp [hn,<-hl,rv.length]) hst λh' hx=>?_
 have I1:Inv X pins σ H { s with heap:=h' }:=I.kept (t':=s.toks) λb o e=>hx b o (Nat.ne_of_lt (Heap.lt_size e)) e
 exact h pins _ σ H xs _ Q I1 (by simpa using rv) hw
def ab5(to ti:TE)(t:arx):TG:=λv σ H Q=>to σ H λo H1=>ti σ H1 λi H2=>t o i v H2 λH3=>Q σ H3
theorem as4{o i:Expr}{to ti:TE}{t:arx}(ho:PE X o to)(hi:PE X i ti)(hs:awj X t)
  (ha:∀ v,assign (.Subscript o i pos) X.env v=(do
   let ov <-holding [v] (eval o X.env)
   let iv <-holding [v,ov] (eval i X.env)
   standAt pos
   holding [v,ov,iv] (setItem ov iv v)
   release [v,ov,iv] []):=by intro _;rfl):PG X (.Subscript o i pos) (ab5 to ti t):=by
 intro pins s σ H v u Q I r h
 rw [ha];refine wpAny_bind (wpAny_holding (thn (ho pins s σ H _ I h) λov s1 ⟨x,H1,I1,r1,q1⟩=>?_));refine wpAny_bind (wpAny_holding (thn (hi pins s1 σ H1 _ I1 q1) λiv s2 ⟨y,H2,I2,r2,q2⟩=>?_));refine wpAny_bind (wpAny_standAt (wpAny_bind (wpAny_holding (thn (hs pins s2 σ H2 x y v ov iv u _ I2 r1 r2 r q2) λ_ s3 ⟨H3,I3,q3⟩=>?_))));exact wpAny_release ⟨σ,H3,I3,q3⟩
def avv(te:TE)(g:TG):TS:=λD σ H=>te σ H λx H1=>g x σ H1 D.nx
theorem am5{tg e:Expr}{te:TE}{g:TG}(he:PE X e te)(hg:PG X tg g)(hs:swapsWithSole [tg] e pos.line X.env=pure false:=by rfl)(hw:swappedStores [tg] e X.env=pure none:=by rfl)
  (h1:(assignEach [tg] X.env).map (·.2)=[assign tg X.env]:=by rfl):PS X (.Assign [tg] e pos) (avv te g):=by
 intro pins s σ H D I h
 refine wpAny_Assign_stores (thn (he pins s σ H _ I h) λv s1 ⟨x,H1,I1,r1,q1⟩=>?_) hs hw;rw [h1];exact thn (hg pins s1 σ H1 x v _ I1 r1 q1) λ_ s2 q=>q
theorem as5{i:Nat}{x:Str}{e:Expr}{te:TE}{pos':Pos}(hN:X.N.Nodup)(hi:X.N[i]? = some x)(hx:Loc X.env.scope x)(he:PE X e te)(hs:swapsWith e (some (.Name x pos')) pos.line X.env=pure false:=by rfl)(hf:X.fn x=true\/X.env.scope.names.lookup x=some .local:=by first | exact .inl rfl | exact .inr rfl | assumption) :
  PS X (.Assign [.Name x pos'] e pos) (avv te (ae2 i)):=by
 intro pins s σ H D I h
 refine wpAny_Assign_Name (thn (he pins s σ H _ I h) λv s1 ⟨y,H1,I1,r1,q1⟩=>?_) hs;exact a3p I1 hN hi hx r1 (λs2 I2=>⟨_,H1,I2,q1⟩) hf
def azc(i:Nat)(te:TE)(ti:TIp):TS:=λD σ H=>∃ x,σ[i]? = some (some x)/\te σ H λy H1=>ti x y H1 λz H2=>D.nx (σ.set i (some z)) H2
theorem as6{i:Nat}{x:Str}{e:Expr}{te:TE}{op:Operator}{ti:TIp}{pos':Pos}(hN:X.N.Nodup)(hi:X.N[i]? = some x)(hx:Loc X.env.scope x)(he:PE X e te)(ho:PIp X op ti)(hf:X.fn x=true\/X.env.scope.names.lookup x=some .local:=by first | exact .inl rfl | exact .inr rfl | assumption) :
  PS X (.AugAssign (.Name x pos') op e pos) (azc i te ti):=by
 intro pins s σ H D I h
 obtain ⟨v,e1,h⟩:=h;obtain ⟨m,hn,hl⟩:=I.loc;have vis:Vis X.env.scope x:=by rcases hx with k | k;exact .inl k;exact .inr (.inl k)
 obtain ⟨u,r,l⟩:=hl i x v hi e1 vis;refine wpAny_AugAssign_Name ?_;have go:wpAny (model X.prog X.w) X.A (eval e X.env) (λw s₂=>wpAny (model X.prog X.w) X.A (inplaceOp op u w) (λr s₃=>wpAny (model X.prog X.w) X.A (storeName X.env x r) (λ_=>SP X pins D .next) X.xe s₃) X.xe s₂) X.xe s:=by
  refine thn (he pins s σ H _ I h) λw s1 ⟨y,H1,I1,r1,q1⟩=>?_;refine thn (ho pins s1 σ H1 v y u w _ I1 r r1 q1) λz s2 ⟨zv,H2,I2,r2,q2⟩=>?_;exact a3p I2 hN hi hx r2 (λs3 I3=>⟨_,H2,I3,q2⟩) hf
 rcases l with ⟨hk,hm⟩ | ⟨hk,c,hc,hcell⟩
 ·exact wpAny_loadName_local I.ok.kind hk hn hm go
 ·rcases hk with hk | hk
  ·exact wpAny_loadName_cell I.ok.kind hk hc hcell go
  ·rcases hx with k | k
   ·have:X.env.scope.names.lookup x=some .free:=hk
    rw [k] at this;cases this
   ·have:X.env.scope.names.lookup x=some .free:=hk
    rw [k] at this;cases this
def awk(to ti te:TE)(tget:V->V->Hp->VK->Prop)(tip:TIp)(tset:arx):TS:=λD σ H=>to σ H λo H1=>ti σ H1 λi H2=>tget o i H2 λx H3=>te σ H3 λy H4=>tip x y H4 λz H5=>tset o i z H5 λH6=>D.nx σ H6
def ay4(X:Cx)(t:V->V->Hp->VK->Prop):Prop :=
 ∀ (pins:List (Addr × Obj)) (s:Shared) (σ:St) (H:Hp) (o i:V) (ov iv:Value) (Q:VK),Inv X pins σ H s->RelV o ov->RelV i iv->t o i H Q->
  wpAny (model X.prog X.w) X.A (getItem ov iv) (EP X pins σ Q) X.xe s
theorem ao8{o i e:Expr}{to ti te:TE}{tget:V->V->Hp->VK->Prop}{tip:TIp}{tset:arx}{op:Operator}{tpos:Pos}(ho:PE X o to)(hi:PE X i ti)(hg:ay4 X tget)(he:PE X e te)(hp:PIp X op tip)(hs:awj X tset)
  (ha:∀ ov iv new,augStore i ov iv new=(do holding [new,ov,iv] (setItem ov iv new);release [new,ov,iv] [];pure .next):=by intros;rfl):PS X (.AugAssign (.Subscript o i tpos) op e pos) (awk to ti te tget tip tset):=by
 intro pins s σ H D I h
 refine wpAny_AugAssign_SubscriptAny (thn (ho pins s σ H _ I h) λov s1 ⟨x1,H1,I1,r1,q1⟩=>?_) ha;refine thn (hi pins s1 σ H1 _ I1 q1) λiv s2 ⟨x2,H2,I2,r2,q2⟩=>?_;refine thn (hg pins s2 σ H2 x1 x2 ov iv _ I2 r1 r2 q2) λold s3 ⟨x3,H3,I3,r3,q3⟩=>?_;refine thn (he pins s3 σ H3 _ I3 q3) λv s4 ⟨x4,H4,I4,r4,q4⟩=>?_;refine thn (hp pins s4 σ H4 x3 x4 old v _ I4 r3 r4 q4) λnew s5 ⟨x5,H5,I5,r5,q5⟩=>?_;exact thn (hs pins s5 σ H5 x1 x2 x5 ov iv new _ I5 r1 r2 r5 q5) λ_ s6 ⟨H6,I6,q6⟩=>⟨σ,H6,I6,q6⟩
end
section
variable{X:Cx}{pos:Pos}
def as7(c:TT)(tb:TS):TS:=λD σ H=>∃ W:Nat->St->Hp->Prop,(∃ m,W m σ H)/\∀ m σ H,W m σ H->
 c σ H λb H1=>if b=true then ∃ N:St->Hp->Prop,(∀ σ' H',N σ' H'->∃ m',m'<m/\W m' σ' H')/\tb { D with nx:=N,ct:=N,bk:=D.nx } σ H1 else D.nx σ H1
theorem aji{c:Expr}{body:List Stmt}{tc:TT}{tb:TS}(hp:PassesOwn (model X.prog X.w) X.A X.env X.xe)(hc:PT X c tc)(hb:PSs X body tb):PS X (.While c body [] pos) (as7 tc tb):=by
 intro pins s σ H D I h
 obtain ⟨W,⟨m0,w0⟩,turn⟩:=h;refine wpAny_While (codeAny_whileLoop (λn s'=>∃ σ' H',Inv X pins σ' H' s'/\W n σ' H') ?_ m0 ⟨σ,H,I,w0⟩)
 rintro n s1 ⟨σ1,H1,I1,w1⟩
 refine wpAny_passesOwn hp (thn (hc pins s1 σ1 H1 _ I1 (turn n σ1 H1 w1)) λb s2 ⟨H2,I2,q2⟩=>?_)
 cases b with
 | true =>
  obtain ⟨N,hN,q2⟩:=q2;rw [if_pos rfl];refine wpAny_passesOwn hp (thn (hb pins s2 σ1 H2 _ I2 q2) λf s3 q3=>?_)
  cases f with
  | next =>
   obtain ⟨σ3,H3,I3,n3⟩:=q3;obtain ⟨m',hm,w3⟩:=hN σ3 H3 n3;exact ⟨m',hm,σ3,H3,I3,w3⟩
  | cont =>
   obtain ⟨σ3,H3,I3,n3⟩:=q3;obtain ⟨m',hm,w3⟩:=hN σ3 H3 n3;exact ⟨m',hm,σ3,H3,I3,w3⟩
  | brk=>exact q3
  | ret v=>exact q3
 | false =>
  rw [if_neg Bool.false_ne_true];exact wpAny_execs_nil ⟨σ1,H2,I2,q2⟩
end
structure It where
 go:Nat->Hp->Prop
 yld:Nat->Hp->V->Hp->Prop
 stop:Nat->Hp->Prop
def ab1(X:Cx)(pins:List (Addr × Obj))(H:Hp)(b:Addr):Prop :=
 H b=none/\b≠X.env.locals/\b ∉ X.fs/\(b∈X.ex\/X.s₀.heap.objs.size<=b)/\(∀ x c,X.env.cells.lookup x=some c->c≠b)/\∀ p∈X.pn++pins,p.1≠b
theorem Inv.fpOk{X:Cx}{pins:List (Addr × Obj)}{σ:St}{H H':Hp}{s:Shared}{b:Addr}(I:Inv X pins σ H s)(hb:s.heap.objs.size<=b)(hn:H' b=none):ab1 X pins H' b:=by
 refine ⟨hn,Nat.ne_of_gt (Nat.lt_of_lt_of_le I.lt hb),I.nofs hb, .inr (Nat.le_trans I.sz hb),λx c e z=>?_,λp hp z=>?_⟩
 ·obtain ⟨v,q⟩:=I.cell x c e;exact absurd (Nat.lt_of_lt_of_le q.lt (by rw [z];exact hb)) (Nat.lt_irrefl _)
 ·exact absurd (Nat.lt_of_lt_of_le (Heap.lt_size (I.pin p hp).1) (by rw [z];exact hb)) (Nat.lt_irrefl _)
structure Turn (P:Program) (w:World) (K:PySem.W.Frag) (tg:Expr) (J:It) (fp:List Addr) (it:Addr) (tn:Nat->Heap->Prop):Prop where
 mem:it∈fp
 obj:∀ i h,tn i h->∀ b∈fp,∃ o,h.get? b=some o/\∀ v,o.data≠.cell v
 keep:∀ i h h',tn i h->(∀ b∈fp,∀ o,h.get? b=some o->h'.get? b=some o)->tn i h'
 item:∀ (X:Cx),X.prog=P->X.w=w->X.K=K->X.calm=true->∀ (i:Nat) (pins:List (Addr × Obj)) (s:Shared) (σ:St) (H:Hp) (E:Value->Shared->Prop),Inv X pins σ H s->(∀ b∈fp,ab1 X pins H b)->tn i s.heap->J.go i H->
  wpAny (model P w) X.A (pyNext (.ref it)) (λr s1=>∃ u,r=some u /\
   wpAny (model P w) X.A (letOwnedTupleGo tg (.ref it) u) (λ_ s2=>∃ x H',Inv X pins σ H' s2/\RelV x u/\J.yld i H x H'/\tn (i+1) s2.heap/\∀ b∈fp,H' b=none) E s1) E s
 done:∀ (X:Cx),X.prog=P->X.w=w->X.K=K->X.calm=true->∀ (i:Nat) (pins:List (Addr × Obj)) (s:Shared) (σ:St) (H:Hp) (E:Value->Shared->Prop),Inv X pins σ H s->(∀ b∈fp,ab1 X pins H b)->tn i s.heap->J.stop i H->
  wpAny (model P w) X.A (pyNext (.ref it)) (λr s1=>r=none/\Inv X pins σ H s1) E s
 self:∀ (A:Around) (i:Nat) (s:Shared) (Q:Value->Shared->Prop) (E:Value->Shared->Prop),tn i s.heap->Q (.ref it) s->wpAny (model P w) A (pyIter (.ref it)) Q E s
abbrev TI:=St->Hp->(It->Hp->Prop)->Prop
def PIE(X:Cx)(pins:List (Addr × Obj))(σ:St)(tg:Expr)(R:It->Hp->Prop)(itv:Value)(s2:Shared):Prop :=
 ∃ (it:Addr) (fp:List Addr) (tn:Nat->Heap->Prop) (J:It) (H':Hp),itv = .ref it/\Inv X pins σ H' s2/\Turn X.prog X.w X.K tg J fp it tn/\tn 0 s2.heap/\(∀ b∈fp,ab1 X pins H' b)/\R J H'
def PI(X:Cx)(tg iter:Expr)(wi:TI):Prop :=
 ∀ (pins:List (Addr × Obj)) (s:Shared) (σ:St) (H:Hp) (R:It->Hp->Prop),Inv X pins σ H s->wi σ H R->
  wpAny (model X.prog X.w) X.A (eval iter X.env) (λv s1=>wpAny (model X.prog X.w) X.A (pyIter v) (PIE X pins σ tg R) X.xe s1) X.xe s
theorem ajj{M:Model}{A:Around}{E:Value->Shared->Prop}{s:Shared}{tg:Expr}{it:Addr}{u:Value}{o:Obj}{n:String}{vs:Array Value}{Q:Unit->Shared->Prop}(ho:s.heap.get? it=some o)(hc:o.cls = .type n)(hd:o.data = .fields vs)
  (hn:["enumerate", "zip", "dict_itemiterator", "dict_reverseitemiterator", "odict_iterator", "itertools.zip_longest", "itertools.pairwise"].contains n=false) (hQ:Q () s):wpAny M A (letOwnedTupleGo tg (.ref it) u) Q E s:=by
 unfold letOwnedTupleGo
 cases tg<;>first
  | exact wpAny_pure hQ
  | (cases u<;>first
    | exact wpAny_pure hQ
    | (refine wpAny_bind (wpAny_load ho ?_)
       rw [hc,hd];show wpAny M A (if (["enumerate", "zip", "dict_itemiterator", "dict_reverseitemiterator", "odict_iterator", "itertools.zip_longest", "itertools.pairwise"].contains n && vs[0]? == some (rawInt _))=true then _ else _) Q E s
       rw [if_neg (by intro h;rw [hn,Bool.false_and] at h;cases h)]
       exact wpAny_pure hQ))
def Itl(K:PySem.W.Frag)(a:Addr):It :=
 ⟨λi H=>∃ xs x,SqL K H a xs/\xs[i]? = some x,λi H x H'=>H'=H/\∀ xs,SqL K H a xs->xs[i]? = some x,λi H=>∃ xs,SqL K H a xs/\xs.length<=i⟩
def Itt(K:PySem.W.Frag)(a:Addr):It :=
 ⟨λi H=>∃ xs x,SqT K H a xs/\xs[i]? = some x,λi H x H'=>H'=H/\∀ xs,SqT K H a xs->xs[i]? = some x,λi H=>∃ xs,SqT K H a xs/\xs.length<=i⟩
def Itr(lo:Int)(n:Nat):It:=⟨λi _=>i<n,λi H x H'=>H'=H/\x = .int (lo+i),λi _=>n<=i⟩
theorem afk{P:Program}{w:World}{K:PySem.W.Frag}{tg:Expr}(a it:Addr):Turn P w K tg (Itl K a) [it] it (λi h=>h.IsListIter it a i) where
 mem:=by simp
 obj:=λi h st b hb=>by
  have e:b=it:=by simpa using hb
  subst e;obtain ⟨o,e,c,d⟩:=st;exact ⟨o,e,λv z=>by rw [d] at z;cases z⟩
 keep:=λi h h' st k=>st.at λo e=>k it (by simp) o e
 item:=by
  intro X hP hw hK hc i pins s σ H E I hf st hg
  subst hP hw hK;obtain ⟨xs,x,hq,hx⟩:=hg;obtain ⟨its,rv,p,hz⟩:=I.list hq;obtain ⟨u,hu,ru⟩:=rv.get hx;obtain ⟨f0,f1,f2,f3,f4,f5⟩:=hf it (by simp)
  refine wpAny_pyNext_list_item st p.isList (x:=u) (by simpa using hu) λh' st' sb=>?_
  have I1:Inv X pins σ H { s with heap:=h' }:=I.turned (t':=s.toks) (λb o hb e=>(sb.2 b hb).trans e) f0 f1 f3 f4 f5
  obtain ⟨o,e,c,d⟩:=id st';exact ⟨u,rfl,ajj (s:={ s with heap:=h' }) e c d (by decide) ⟨x,H,I1,ru,⟨rfl,λys hy=>by rw [I.list_inj hy hq];exact hx⟩,st',λb hb=>(hf b hb).1⟩⟩
 done:=by
  intro X hP hw hK hc i pins s σ H E I hf st hg
  subst hP hw hK;obtain ⟨xs,hq,hx⟩:=hg;obtain ⟨its,rv,p,hz⟩:=I.list hq;obtain ⟨f0,f1,f2,f3,f4,f5⟩:=hf it (by simp)
  have hl:=rv.length;exact wpAny_pyNext_list_end (I.ok.hd hc) st p.isList (by simp;omega) λh' eb=>⟨rfl,I.turned (t':=s.toks) (λb o hb e=>eb b o hb e) f0 f1 f3 f4 f5⟩
 self:=λ_ _ _ _ _ st h=>wpAny_pyIter_listiter st h
theorem ae3{P:Program}{w:World}{K:PySem.W.Frag}{tg:Expr}(a it:Addr):Turn P w K tg (Itt K a) [it] it (λi h=>h.IsTupleIter it a i) where
 mem:=by simp
 obj:=λi h st b hb=>by
  have e:b=it:=by simpa using hb
  subst e;obtain ⟨o,e,c,d⟩:=st;exact ⟨o,e,λv z=>by rw [d] at z;cases z⟩
 keep:=λi h h' st k=>st.at λo e=>k it (by simp) o e
 item:=by
  intro X hP hw hK hc i pins s σ H E I hf st hg
  subst hP hw hK;obtain ⟨xs,x,hq,hx⟩:=hg;obtain ⟨its,rv,p,hz⟩:=I.tuple hq;obtain ⟨u,hu,ru⟩:=rv.get hx;obtain ⟨f0,f1,f2,f3,f4,f5⟩:=hf it (by simp)
  refine wpAny_pyNext_tuple_item st (show s.heap.IsTuple a its.toArray from p) (x:=u) (by simpa using hu) λh' st' sb=>?_
  have I1:Inv X pins σ H { s with heap:=h' }:=I.turned (t':=s.toks) (λb o hb e=>(sb.2 b hb).trans e) f0 f1 f3 f4 f5
  obtain ⟨o,e,c,d⟩:=id st';exact ⟨u,rfl,ajj (s:={ s with heap:=h' }) e c d (by decide) ⟨x,H,I1,ru,⟨rfl,λys hy=>by rw [I.tuple_inj hy hq];exact hx⟩,st',λb hb=>(hf b hb).1⟩⟩
 done:=by
  intro X hP hw hK hc i pins s σ H E I hf st hg
  subst hP hw hK;obtain ⟨xs,hq,hx⟩:=hg;obtain ⟨its,rv,p,hz⟩:=I.tuple hq;obtain ⟨f0,f1,f2,f3,f4,f5⟩:=hf it (by simp)
  have hl:=rv.length;exact wpAny_pyNext_tuple_end (I.ok.hd hc) st (show s.heap.IsTuple a its.toArray from p) (by simp;omega) λh' eb=>⟨rfl,I.turned (t':=s.toks) (λb o hb e=>eb b o hb e) f0 f1 f3 f4 f5⟩
 self:=λ_ _ _ _ _ st h=>wpAny_pyIter_tupleiter st h
theorem ae4{P:Program}{w:World}{K:PySem.W.Frag}{tg:Expr}(it:Addr)(lo:Int)(n:Nat):Turn P w K tg (Itr lo n) [it] it (λi h=>IsRangeIter h it (lo+(i:Nat)*1) ((n:Int) - (i:Nat)) 1) where
 mem:=by simp
 obj:=λi h st b hb=>by
  have e:b=it:=by simpa using hb
  subst e;exact ⟨_,st,λv z=>by
   have z':Data.fields _=Data.cell v:=z
   cases z'⟩
 keep:=λi h h' st k=>k it (by simp) _ st
 item:=by
  intro X hP hw hK hc i pins s σ H E I hf st hg
  subst hP hw hK;obtain ⟨f0,f1,f2,f3,f4,f5⟩:=hf it (by simp)
  have W:=Walks.range (prog:=X.prog) (w:=X.w) (I.ok.hd hc) it lo 1 n;refine W.item i s _ _ hg st λv h' tk hv st' kk=>?_;obtain ⟨t,rfl⟩:=hv;have I1:Inv X pins σ H { s with heap:=h',toks:=tk }:=I.turned (λb o hb e=>kk b o (by simpa using hb) e) f0 f1 f3 f4 f5
  refine ⟨_,rfl,ajj (s:={ s with heap:=h',toks:=tk }) (n := "range_iterator") st' rfl rfl (by decide) ⟨.int (lo+i),H,I1,⟨t,?_⟩,⟨rfl,rfl⟩,st',λb hb=>(hf b hb).1⟩⟩
  rw [Int.mul_one]
 done:=by
  intro X hP hw hK hc i pins s σ H E I hf st hg
  subst hP hw hK;obtain ⟨f0,f1,f2,f3,f4,f5⟩:=hf it (by simp)
  exact wpAny_pyNext_range_end (I.ok.hd hc) st (by have:n<=i:=hg;omega) λh' eb=>⟨rfl,I.turned (t':=s.toks) (λb o hb e=>eb b o hb e) f0 f1 f3 f4 f5⟩
 self:=λ_ _ _ _ _ st h=>wpAny_pyIter_rangeiter st h
section
variable{X:Cx}{tg:Expr}
def awl(K:PySem.W.Frag)(tl:TE):TI:=λσ H R=>tl σ H λx H1=>∃ a,x = .ref a/\(∃ xs,SqL K H1 a xs)/\R (Itl K a) H1
def azd(K:PySem.W.Frag)(tl:TE):TI:=λσ H R=>tl σ H λx H1=>∃ a,x = .ref a/\(∃ xs,SqT K H1 a xs)/\R (Itt K a) H1
theorem afl{l:Expr}{tl:TE}(hl:PE X l tl):PI X tg l (awl X.K tl):=by
 intro pins s σ H R I h
 refine thn (hl pins s σ H _ I h) λv s1 ⟨x,H1,I1,r1,q1⟩=>?_;obtain ⟨a,e,⟨xs,hq⟩,q⟩:=q1;subst e;cases r1
 obtain ⟨its,rv,p,hz⟩:=I1.list hq;refine wpAny_pyIter_list p.isList ?_;refine ⟨s1.heap.objs.size,[s1.heap.objs.size],_,_,H1,rfl,I1.kept (t':=s1.toks) λb o e=>Heap.get?_push_of_some _ e,afk a _,⟨_,Heap.get?_push_size _ rfl,rfl,rfl⟩,λb hb=>?_,q⟩;have e:b=s1.heap.objs.size:=by simpa using hb
 subst e;exact I1.fpOk (Nat.le_refl _) (I1.hok.fresh (Nat.le_refl _))
theorem as8{l:Expr}{tl:TE}(hl:PE X l tl):PI X tg l (azd X.K tl):=by
 intro pins s σ H R I h
 refine thn (hl pins s σ H _ I h) λv s1 ⟨x,H1,I1,r1,q1⟩=>?_;obtain ⟨a,e,⟨xs,hq⟩,q⟩:=q1;subst e;cases r1
 obtain ⟨its,rv,p,hz⟩:=I1.tuple hq;refine wpAny_pyIter_tuple (show s1.heap.IsTuple a its.toArray from p) ?_
 refine ⟨s1.heap.objs.size,[s1.heap.objs.size],_,_,H1,rfl,I1.kept (t':=s1.toks) λb o e=>Heap.get?_push_of_some _ e,ae3 a _,⟨_,Heap.get?_push_size _ rfl,rfl,rfl⟩,λb hb=>?_,q⟩;have e:b=s1.heap.objs.size:=by simpa using hb
 subst e;exact I1.fpOk (Nat.le_refl _) (I1.hok.fresh (Nat.le_refl _))
theorem acb{pins:List (Addr × Obj)}{σ:St}{H:Hp}{s:Shared}{R:It->Hp->Prop}{E:Value->Shared->Prop}{lo hi:Int}{t u v:Tok}{tk:Nat}(I:Inv X pins σ H s)(h1 : -(2 ^ 62)<=lo)(h2:lo<2 ^ 62)(h3 : -(2 ^ 62)<=hi)(h4:hi<2 ^ 62)
  (q:R (Itr lo (hi - lo).toNat) H):wpAny (model X.prog X.w) X.A (pyIter (.ref s.heap.objs.size)) (PIE X pins σ tg R) E { s with heap:=s.heap.push { cls:=.type "range",data:=.fields #[.int lo t, .int hi u, .int 1 v] },toks:=tk }:=by
 refine wpAny_pyIter_range (IsRange.new ..) (small_one h1 h2 h3 h4) ?_;have I1:Inv X pins σ H { s with heap:=s.heap.push { cls:=.type "range",data:=.fields #[.int lo t, .int hi u, .int 1 v] },toks:=tk }:=I.kept λb o e=>Heap.get?_push_of_some _ e
 refine ⟨(s.heap.push { cls:=.type "range",data:=.fields #[.int lo t, .int hi u, .int 1 v] }).objs.size,[(s.heap.push { cls:=.type "range",data:=.fields #[.int lo t, .int hi u, .int 1 v] }).objs.size],_,_,H,rfl,
  I1.kept (t':=tk) λb o e=>Heap.get?_push_of_some _ e,ae4 _ lo (hi - lo).toNat,?_,λb hb=>?_,q⟩
 ·have e1:lo+((0:Nat):Int)*1=lo:=by simp
  have e2:(((hi - lo).toNat:Nat):Int) - ((0:Nat):Int)=Builtin.Range.rangeSize lo hi 1:=by rw [rangeSize_one];split<;>omega
  show IsRangeIter _ _ (lo+((0:Nat):Int)*1) ((((hi - lo).toNat:Nat):Int) - ((0:Nat):Int)) 1;rw [e1,e2];exact Heap.get?_push_size _ rfl
 ·have e:b=(s.heap.push { cls:=.type "range",data:=.fields #[.int lo t, .int hi u, .int 1 v] }).objs.size:=by simpa using hb
  subst e;exact I1.fpOk (Nat.le_refl _) (I1.hok.fresh (Nat.le_refl _))
def awm(ta:TA):TI:=λσ H R=>ta σ H λvs H1=>∃ j:Int,vs=[.int j] /\ -(2 ^ 62)<=j/\j<2 ^ 62/\R (Itr 0 j.toNat) H1
def awn(ta:TA):TI:=λσ H R=>ta σ H λvs H1=>∃ i j:Int,vs=[.int i, .int j]/\(-(2 ^ 62)<=i/\i<2 ^ 62 /\ -(2 ^ 62)<=j/\j<2 ^ 62)/\R (Itr i (j - i).toNat) H1
theorem afm{a:Expr}{ta:TA}{p pos:Pos}(hg:Gl X "range")(hm:X.mg "range" = none)(ha:PA X [a] ta)(hs:starEach [a] X.env=[(false,eval a X.env)]:=by rfl):PI X tg (.Call (.Name "range" p) [a] [] pos) (awm ta):=by
 intro pins s σ H R I h
 refine Call_ (a5w I hg hm boot_range (PyProof.Rows.callWith_type1 (thn (ha pos pins s σ H _ I h) λus s1 ⟨vs,H1,I1,r1,q1⟩=>?_) hs rfl));obtain ⟨j,e,q1,q2,q⟩:=q1;subst e
 cases r1 with
 | cons r rr =>
  cases rr
  obtain ⟨t,rfl⟩:=r;exact call_range_1 (acb I1 (by omega) (by omega) q1 q2 (by simpa using q))
theorem afn{a b:Expr}{ta:TA}{p pos:Pos}(hg:Gl X "range")(hm:X.mg "range" = none)(ha:PA X [a,b] ta)(hs:starEach [a,b] X.env=[(false,eval a X.env),(false,eval b X.env)]:=by rfl)(hs2:starEach [b] X.env=[(false,eval b X.env)]:=by rfl) :
  PI X tg (.Call (.Name "range" p) [a,b] [] pos) (awn ta):=by
 intro pins s σ H R I h
 refine Call_ (a5w I hg hm boot_range (PyProof.Rows.callWith_type1 (thn (ha pos pins s σ H _ I h) λus s1 ⟨vs,H1,I1,r1,q1⟩=>?_) (by rw [hs,hs2]) (by rw [hs2];rfl)))
 obtain ⟨i,j,e,⟨q1,q2,q3,q4⟩,q⟩:=q1;subst e
 cases r1 with
 | cons r rr =>
  cases rr with
  | cons r' rr =>
   cases rr
   obtain ⟨t,rfl⟩:=r;obtain ⟨t',rfl⟩:=r';exact call_range_2 (acb I1 q1 q2 q3 q4 q)
def aze(wi:TI)(g:TG)(tb:TS):TS:=λD σ H=>wi σ H λJ H1=>∃ W:Nat->Nat->St->Hp->Prop,(∃ m,W 0 m σ H1)/\∀ i m σ H,W i m σ H->
 (J.stop i H/\D.nx σ H)\/(J.go i H/\∃ N:St->Hp->Prop,(∀ σ' H',N σ' H'->∃ m',m'<m/\W (i+1) m' σ' H')/\∀ x H',J.yld i H x H'->g x σ H' λσ2 H2=>tb { D with nx:=N,ct:=N,bk:=D.nx } σ2 H2)
def a71(fp:List Addr)(h:Heap):List (Addr × Obj):=fp.filterMap λb=>(h.get? b).map λo=>(b,o)
theorem u6{fp:List Addr}{h:Heap}{b:Addr}{o:Obj}(hb:b∈fp)(e:h.get? b=some o):(b,o)∈a71 fp h:=List.mem_filterMap.mpr ⟨b,hb,by rw [e];rfl⟩
theorem afo{fp:List Addr}{h:Heap}{p:Addr × Obj}(hp:p∈a71 fp h):p.1∈fp/\h.get? p.1=some p.2:=by
 obtain ⟨b,hb,e⟩:=List.mem_filterMap.mp hp
 cases q:h.get? b with
 | none=>rw [q] at e;cases e
 | some o =>
  rw [q] at e;have e':(b,o)=p:=Option.some.inj e;subst e';exact ⟨hb,q⟩
theorem Inv.pinned{pins:List (Addr × Obj)}{σ:St}{H:Hp}{s:Shared}{fp:List Addr}(I:Inv X pins σ H s)(hf:∀ b∈fp,ab1 X pins H b)(ho:∀ b∈fp,∃ o,s.heap.get? b=some o/\∀ v,o.data≠.cell v):Inv X (pins++a71 fp s.heap) σ H s :=
 I.pins_of λp hp=>(List.mem_append.mp hp).elim (λz=>I.pin p (List.mem_append_right _ z)) λz=>by
  obtain ⟨hb,e⟩:=afo z;obtain ⟨f0,f1,f2,_⟩:=hf p.1 hb;obtain ⟨o,e',d⟩:=ho p.1 hb;rw [e] at e';cases e'
  exact ⟨e,f0,f1,f2,d⟩
theorem Inv.unpinned{pins pl:List (Addr × Obj)}{σ:St}{H:Hp}{s:Shared}(I:Inv X (pins++pl) σ H s):Inv X pins σ H s:=I.pins_of λp hp=>I.pin p (List.mem_append_right _ (List.mem_append_left _ hp))
theorem as9{iter:Expr}{body:List Stmt}{wi:TI}{g:TG}{tb:TS}{pos:Pos}(hp:PassesOwn (model X.prog X.w) X.A X.env X.xe)(hc:X.calm=true)(hi:PI X tg iter wi)(hg:PG X tg g)(hb:PSs X body tb)
  (hs:∀ x,foldedSetIterable iter X.env x=pure x:=by intro _;rfl):PS X (.For tg iter body [] pos) (aze wi g tb):=by
 intro pins s σ H D I h
 refine wpAny_For (thn (hi pins s σ H _ I h) λv s1 h1=>thn h1 λitv s2 h2=>?_) hs;obtain ⟨it,fp,tn,J,H2,e,I2,T,st2,f2,W,⟨m0,w0⟩,turn⟩:=h2;subst e;have stat:∀ {H':Hp},(∀ b∈fp,H' b=none)->∀ b∈fp,ab1 X pins H' b:=λhn b hb=>⟨hn b hb,(f2 b hb).2⟩;refine codeAny_forLoop_any (λn s'=>∃ i σ' H',Inv X pins σ' H' s'/\tn i s'.heap/\(∀ b∈fp,H' b=none)/\W i n σ' H') ?_ m0 ⟨0,σ,H2,I2,st2,λb hb=>(f2 b hb).1,w0⟩
 rintro n s3 ⟨i,σ3,H3,I3,st3,fr3,w3⟩
 rcases turn i n σ3 H3 w3 with ⟨stop,qn⟩ | ⟨go,N,hN,step⟩
 ·refine wpAny_passesOwn hp (thn (T.done X rfl rfl rfl hc i pins s3 σ3 H3 X.xe I3 (stat fr3) st3 stop) λr s4 ⟨hr,I4⟩=>?_);subst hr;exact wpAny_execs_nil ⟨σ3,H3,I4,qn⟩
 ·refine wpAny_passesOwn hp (thn (T.item X rfl rfl rfl hc i pins s3 σ3 H3 X.xe I3 (stat fr3) st3 go) λr s4 ⟨u,hr,h4⟩=>?_);subst hr;refine wpAny_passesOwn hp (thn h4 λ_ s5 ⟨x,H5,I5,r5,y5,st5,fr5⟩=>?_);have I5':=I5.pinned (stat fr5) (T.obj _ _ st5);refine wpAny_passesOwn hp (thn (hg _ s5 σ3 H5 x u _ I5' r5 (step x H5 y5)) λ_ s6 ⟨σ6,H6,I6,q6⟩=>?_);refine wpAny_passesOwn hp (thn (hb _ s6 σ6 H6 _ I6 q6) λf s7 q7=>?_);have again:∀ {σ7:St} {H7:Hp},Inv X (pins++a71 fp s5.heap) σ7 H7 s7->N σ7 H7->∃ m,m<n/\∃ i σ' H',Inv X pins σ' H' s7/\tn i s7.heap/\(∀ b∈fp,H' b=none)/\W i m σ' H':=λ{σ7 H7} I7 n7=>by
   obtain ⟨m',hm,w7⟩:=hN σ7 H7 n7;refine ⟨m',hm,i+1,σ7,H7,I7.unpinned,T.keep _ _ _ st5 λb hb o e=>(I7.pin (b,o) (List.mem_append_right _ (List.mem_append_right _ (u6 hb e)))).1,λb hb=>?_,w7⟩;obtain ⟨o,e,d⟩:=T.obj _ _ st5 b hb;exact (I7.pin (b,o) (List.mem_append_right _ (List.mem_append_right _ (u6 hb e)))).2.1
  cases f with
  | next=>obtain ⟨σ7,H7,I7,n7⟩:=q7;exact again I7 n7
  | cont=>obtain ⟨σ7,H7,I7,n7⟩:=q7;exact again I7 n7
  | brk=>obtain ⟨σ7,H7,I7,q7⟩:=q7;exact ⟨σ7,H7,I7.unpinned,q7⟩
  | ret v=>obtain ⟨x7,σ7,H7,I7,r7,q7⟩:=q7;exact ⟨x7,σ7,H7,I7.unpinned,r7,q7⟩
end
abbrev R2:=V->V->Hp->VK->Prop
def OpR(X:Cx)(f:Value->Value->Sem Value)(r:R2):Prop :=
 ∀ (pins:List (Addr × Obj)) (s:Shared) (σ:St) (H:Hp) (x y:V) (v u:Value) (Q:VK),Inv X pins σ H s->RelV x v->RelV y u->r x y H Q->
  wpAny (model X.prog X.w) X.A (f v u) (EP X pins σ Q) X.xe s
def UnR(X:Cx)(f:Value->Sem Value)(r:V->Hp->VK->Prop):Prop :=
 ∀ (pins:List (Addr × Obj)) (s:Shared) (σ:St) (H:Hp) (x:V) (v:Value) (Q:VK),Inv X pins σ H s->RelV x v->r x H Q->
  wpAny (model X.prog X.w) X.A (f v) (EP X pins σ Q) X.xe s
def CallR(X:Cx)(f:Value)(r:List V->Hp->VK->Prop):Prop :=
 ∀ (pins:List (Addr × Obj)) (s:Shared) (σ:St) (H:Hp) (xs:List V) (us:List Value) (Q:VK),Inv X pins σ H s->Vals xs us->r xs H Q->
  wpAny (model X.prog X.w) X.A (call f us) (EP X pins σ Q) X.xe s
def azf(X:Cx)(r:V->Hp->(Bool->Hp->Prop)->Prop):Prop :=
 ∀ (pins:List (Addr × Obj)) (s:Shared) (σ:St) (H:Hp) (x:V) (v:Value) (Q:Bool->Hp->Prop),Inv X pins σ H s->RelV x v->r x H Q->
  wpAny (model X.prog X.w) X.A (truthy v) (TP X pins σ Q) X.xe s
def tOp(r:R2)(ta tb:TE):TE:=λσ H Q=>ta σ H λx H1=>tb σ H1 λy H2=>r x y H2 Q
def tUn(r:V->Hp->VK->Prop)(ta:TE):TE:=λσ H Q=>ta σ H λx H1=>r x H1 Q
def rI(C:Int->Int->Prop)(g:Int->Int->V):R2:=λx y H Q=>∃ i j,x = .int i/\y = .int j/\C i j/\Q (g i j) H
def rI0(g:Int->Int->V):R2:=λx y H Q=>∃ i j,x = .int i/\y = .int j/\Q (g i j) H
def rU(g:Int->V):V->Hp->VK->Prop:=λx H Q=>∃ i,x = .int i/\Q (g i) H
section
variable{X:Cx}{a b c:Expr}{ta tb tc:TE}{pos:Pos}
theorem awo(ha:PE X a ta)(hb:PE X b tb){pins:List (Addr × Obj)}{s:Shared}{σ:St}{H:Hp}{R:V->V->Hp->Prop}(I:Inv X pins σ H s)
  (h:ta σ H λx H1=>tb σ H1 λy H2=>R x y H2) {Q:Value->Shared->Prop} {f:Value->Value->Sem Value}
  (hf:∀ v u s2 x y H2,Inv X pins σ H2 s2->RelV x v->RelV y u->R x y H2->wpAny (model X.prog X.w) X.A (f v u) Q X.xe s2) :
  wpAny (model X.prog X.w) X.A (eval a X.env) (λv s₁=>wpAny (model X.prog X.w) X.A (eval b X.env) (λu s₂=>wpAny (model X.prog X.w) X.A (f v u) Q X.xe s₂) X.xe s₁) X.xe s:=by
 refine thn (ha pins s σ H _ I h) λv s1 ⟨x,H1,I1,r1,q1⟩=>?_;refine thn (hb pins s1 σ H1 _ I1 q1) λu s2 ⟨y,H2,I2,r2,q2⟩=>?_;exact hf v u s2 x y H2 I2 r1 r2 q2
theorem awp{op:Operator}{r:R2}(ho:OpR X (binaryOp op) r)(ha:PE X a ta)(hb:PE X b tb):PE X (.BinOp a op b pos) (tOp r ta tb):=by
 intro pins s σ H Q I h
 exact wpAny_BinOp (awo ha hb I h λv u s2 x y H2 I2 rx ry q=>ho pins s2 σ H2 x y v u Q I2 rx ry q)
theorem awq{op:UnaryOp}{r:V->Hp->VK->Prop}(ho:UnR X (unaryOp op) r)(ha:PE X a ta):PE X (.UnaryOp op a pos) (tUn r ta):=by
 intro pins s σ H Q I h
 exact UnaryOp_ (thn (ha pins s σ H _ I h) λv s1 ⟨x,H1,I1,r1,q1⟩=>ho pins s1 σ H1 x v Q I1 r1 q1)
theorem opI{f:Value->Value->Sem Value}{C:Int->Int->Prop}{g:Int->Int->Int}
  (rule:∀ (i j:Int) (t u:Tok) (s:Shared) (Q:Value->Shared->Prop) (E:Value->Shared->Prop),C i j->Q (.int (g i j) s.toks) { s with toks:=s.toks+1 }->wpAny (model X.prog X.w) X.A (f (.int i t) (.int j u)) Q E s) :
  OpR X f (rI C λi j=>.int (g i j)):=by
 intro pins s σ H x y v u Q I rx ry h
 obtain ⟨i,j,rfl,rfl,hc,q⟩:=h;obtain ⟨t,rfl⟩:=rx;obtain ⟨t',rfl⟩:=ry;exact rule i j t t' s _ _ hc ⟨.int (g i j),H,I.tok _,⟨_,rfl⟩,q⟩
theorem awr{f:Value->Value->Sem Value}{g:Int->Int->Int}
  (rule:∀ (i j:Int) (t u:Tok) (s:Shared) (Q:Value->Shared->Prop) (E:Value->Shared->Prop),Q (.int (g i j) s.toks) { s with toks:=s.toks+1 }->wpAny (model X.prog X.w) X.A (f (.int i t) (.int j u)) Q E s) :
  OpR X f (rI0 λi j=>.int (g i j)):=by
 intro pins s σ H x y v u Q I rx ry h
 obtain ⟨i,j,rfl,rfl,q⟩:=h;obtain ⟨t,rfl⟩:=rx;obtain ⟨t',rfl⟩:=ry;exact rule i j t t' s _ _ ⟨.int (g i j),H,I.tok _,⟨_,rfl⟩,q⟩
theorem avw{f:Value->Value->Sem Value}{g:Int->Int->Bool}
  (rule:∀ (i j:Int) (t u:Tok) (s:Shared) (Q:Value->Shared->Prop) (E:Value->Shared->Prop),Q (.bool (g i j)) s->wpAny (model X.prog X.w) X.A (f (.int i t) (.int j u)) Q E s) :
  OpR X f (rI0 λi j=>.bl (g i j)):=by
 intro pins s σ H x y v u Q I rx ry h
 obtain ⟨i,j,rfl,rfl,q⟩:=h;obtain ⟨t,rfl⟩:=rx;obtain ⟨t',rfl⟩:=ry;exact rule i j t t' s _ _ ⟨.bl (g i j),H,I,rfl,q⟩
def aws(i j:Int):Prop:=0<j/\j<1073741824
def ay5(i j:Int):Prop:=0<=j/\j<=1000000/\i.natAbs<2 ^ 64
def CMul(i j:Int):Prop:=(-(2 ^ 64)<i/\i<2 ^ 64)\/(-(2 ^ 64)<j/\j<2 ^ 64)
theorem CMul.ok{i j:Int}(h:CMul i j):IntMulOk i j:=by
 rcases h with ⟨h1,h2⟩ | ⟨h1,h2⟩
 ·exact .of_left (intBits_le_64 h1 h2)
 ·exact .of_right (intBits_le_64 h1 h2)
theorem asa:OpR X (binaryOp .Add) (rI0 λi j=>.int (i+j)):=awr λ_ _ _ _ _ _ _ q=>add_int q
theorem asb:OpR X (binaryOp .Sub) (rI0 λi j=>.int (i - j)):=awr λ_ _ _ _ _ _ _ q=>sub_int q
theorem am6:OpR X (binaryOp .Mult) (rI CMul λi j=>.int (i*j)):=opI λ_ _ _ _ _ _ _ hc q=>mul_int q hc.ok
theorem ao9:OpR X (binaryOp .FloorDiv) (rI aws λi j=>.int (i / j)):=opI λi j _ _ _ _ _ hc q=>by
 have h1:(0:Int)<j:=hc.1;have h2:j<1073741824:=hc.2;exact floordiv_int (by omega) (by rw [Int.fdiv_eq_ediv_of_nonneg i (by omega)];exact q) (.inl (PyProof.noPylong_small (by omega)))
theorem asd:OpR X (binaryOp .Mod) (rI (λ_ j=>0<j) λi j=>.int (i % j)):=opI λi j _ _ _ _ _ hc q=>by
 have h1:(0:Int)<j:=hc;exact mod_int' (by omega) (by rw [Int.fmod_eq_emod_of_nonneg i (by omega)];exact q)
theorem ase:OpR X (binaryOp .Pow) (rI ay5 λi j=>.int (i ^ j.toNat)):=opI λ_ _ _ _ _ _ _ hc q=>pow_int_small hc.1 hc.2.1 hc.2.2 q
theorem a4m:OpR X (inplaceOp .Add) (rI0 λi j=>.int (i+j)):=awr λ_ _ _ _ _ _ _ q=>iadd_int q
theorem ajk:OpR X (inplaceOp .FloorDiv) (rI aws λi j=>.int (i / j)):=opI λi j _ _ _ _ _ hc q=>by
 have h1:(0:Int)<j:=hc.1;have h2:j<1073741824:=hc.2;exact ifloordiv_int (by omega) (by rw [Int.fdiv_eq_ediv_of_nonneg i (by omega)];exact q) (.inl (PyProof.noPylong_small (by omega)))
theorem unI{f:Value->Sem Value}{g:Int->Int}
  (rule:∀ (i:Int) (t:Tok) (s:Shared) (Q:Value->Shared->Prop) (E:Value->Shared->Prop),Q (.int (g i) s.toks) { s with toks:=s.toks+1 }->wpAny (model X.prog X.w) X.A (f (.int i t)) Q E s) :
  UnR X f (rU λi=>.int (g i)):=by
 intro pins s σ H x v Q I rx h
 obtain ⟨i,rfl,q⟩:=h;obtain ⟨t,rfl⟩:=rx;exact rule i t s _ _ ⟨.int (g i),H,I.tok _,⟨_,rfl⟩,q⟩
theorem asf:UnR X (unaryOp .USub) (rU λi=>.int (-i)):=unI λ_ _ _ _ _ q=>neg_int q
end
section
variable{X:Cx}{a b c:Expr}{ta tb tc:TE}{pos:Pos}
theorem a4z{pins:List (Addr × Obj)}{σ:St}{H:Hp}{s:Shared}{Q:VK}{k k':Bool}(I:Inv X pins σ H s)(q:Q (.bl k) H)(e:k=k'):EP X pins σ Q (.bool k') s:=by
 subst e;exact ⟨.bl k,H,I,rfl,q⟩
theorem a7q:OpR X (compareOp .Lt) (rI0 λi j=>.bl (decide (i<j))):=avw λ_ _ _ _ _ _ _ q=>lt_int q
theorem ash:OpR X (compareOp .LtE) (rI0 λi j=>.bl (decide (i<=j))):=avw λ_ _ _ _ _ _ _ q=>le_int q
theorem asi:OpR X (compareOp .Gt) (rI0 λi j=>.bl (decide (j<i))):=avw λ_ _ _ _ _ _ _ q=>gt_int q
theorem afp:OpR X (compareOp .GtE) (rI0 λi j=>.bl (decide (j<=i))):=avw λ_ _ _ _ _ _ _ q=>ge_int q
theorem uf:OpR X (compareOp .Lt) (λx y H Q=>∃ i j,x = .str i/\y = .str j/\Q (.bl (decide (i.cps.toList<j.cps.toList))) H):=by
 intro pins s σ H x y v u Q I rx ry h
 obtain ⟨i,j,rfl,rfl,q⟩:=h;obtain ⟨t,rfl⟩:=rx;obtain ⟨t',rfl⟩:=ry;exact lt_str (a4z I q rfl)
theorem afq:OpR X (compareOp .In) (λx y H Q=>∃ i j,x = .str i/\y = .str j/\Q (.bl (!(Builtin.Str.occurrences j i 0 j.length 1).isEmpty)) H):=by
 intro pins s σ H x y v u Q I rx ry h
 obtain ⟨i,j,rfl,rfl,q⟩:=h;obtain ⟨t,rfl⟩:=rx;obtain ⟨t',rfl⟩:=ry;exact in_str (a4z I q rfl)
theorem afr:OpR X (compareOp .Is) (λx y H Q=>y = .non/\Q (.bl (decide (x = .non))) H):=by
 intro pins s σ H x y v u Q I rx ry h
 obtain ⟨rfl,q⟩:=h;cases ry
 refine is_none_gen (a4z I q ?_)
 cases x<;>first
  | (cases rx;rfl)
  | (obtain ⟨t,rfl⟩:=rx;rfl)
theorem ab6:OpR X (compareOp .IsNot) (λx y H Q=>y = .non/\Q (.bl (!decide (x = .non))) H):=by
 intro pins s σ H x y v u Q I rx ry h
 obtain ⟨rfl,q⟩:=h;cases ry
 refine isnot_none_gen (a4z I q ?_)
 cases x<;>first
  | (cases rx;rfl)
  | (obtain ⟨t,rfl⟩:=rx;rfl)
theorem a9k:OpR X (compareOp .NotIn) (λx y H Q=>∃ i j,x = .str i/\y = .str j/\Q (.bl (!(!(Builtin.Str.occurrences j i 0 j.length 1).isEmpty))) H):=by
 intro pins s σ H x y v u Q I rx ry h
 obtain ⟨i,j,rfl,rfl,q⟩:=h;obtain ⟨t,rfl⟩:=rx;obtain ⟨t',rfl⟩:=ry;exact notIn_str (a4z I q rfl)
theorem OpR.or{f:Value->Value->Sem Value}{r r':R2}(h:OpR X f r)(h':OpR X f r'):OpR X f (λx y H Q=>r x y H Q\/r' x y H Q):=by
 intro pins s σ H x y v u Q I rx ry q
 rcases q with q | q
 ·exact h pins s σ H x y v u Q I rx ry q
 ·exact h' pins s σ H x y v u Q I rx ry q
theorem jg(b:Expr){op:CmpOp}(h:op≠.In:=by decide)(h2:op≠.NotIn:=by decide):behindInMarks op b=false:=by
 have e1:(op == CmpOp.In)=false:=by cases op<;>first | rfl | exact absurd rfl h
 have e2:(op == CmpOp.NotIn)=false:=by cases op<;>first | rfl | exact absurd rfl h2
 cases b<;>simp [behindInMarks,e1,e2]
theorem aoa{op:CmpOp}{r:R2}(ho:OpR X (compareOp op) r)(ha:PE X a ta)(hb:PE X b tb)(hm:behindInMarks op b=false):PE X (.Compare a [op] [b] pos) (tOp r ta tb):=by
 intro pins s σ H Q I h
 exact wpAny_Compare1 (awo ha hb I h λv u s2 x y H2 I2 rx ry q=>ho pins s2 σ H2 x y v u Q I2 rx ry q) hm
def asj(t:TE):TT:=λσ H Q=>t σ H λx H'=>∃ k,x = .bl k/\Q k H'
theorem aob{op:CmpOp}{r:R2}(ho:OpR X (compareOp op) r)(ha:PE X a ta)(hb:PE X b tb)(hm:behindInMarks op b=false):PT X (.Compare a [op] [b] pos) (asj (tOp r ta tb)):=by
 intro pins s σ H Q I h
 refine wpAny_isTrue_Compare1 (thn (ha pins s σ H _ I h) λv s1 ⟨x,H1,I1,r1,q1⟩=>thn (hb pins s1 σ H1 _ I1 q1) λu s2 ⟨y,H2,I2,r2,q2⟩ =>
  thn (ho pins s2 σ H2 x y v u _ I2 r1 r2 q2) λc s3 ⟨z,H3,I3,r3,k,e,q3⟩=>?_) hm
 subst e;cases r3
 exact wpAny_truthy_bool ⟨H3,I3,q3⟩
def awt(K:PySem.W.Frag)(x:V)(H:Hp)(k:Bool):Prop :=
 match x with
 | .non=>k=false
 | .bl b=>k=b
 | .int i=>k=(i != 0)
 | .str y=>y.length<=sizeLine/\k=((y.length:Int) != 0)
 | .byt y=>y.size<=sizeLine/\k=((y.size:Int) != 0)
 | .ref p=>(∃ xs,SqL K H p xs/\k = !xs.isEmpty)\/(∃ xs,SqT K H p xs/\k = !xs.isEmpty)\/∃ kvs,H p=some (.dK kvs)/\k = !kvs.isEmpty
 | _=>False
theorem ae5{κ:Type}{kvs:List (κ × V)}{vs:List (κ × Value)}(r:KV kvs vs):(!vs.isEmpty) = !kvs.isEmpty:=by
 cases r<;>rfl
theorem a72{xs:List V}{its:List Value}(r:Vals xs its):(!its.toArray.isEmpty) = !xs.isEmpty:=by
 cases r<;>simp
theorem a5a:(sizeLine:Nat)<2 ^ 63:=by rw [sizeLine_eq];decide
theorem asl:azf X (λx H Q=>∃ k,awt X.K x H k/\Q k H):=by
 intro pins s σ H x v Q I rx h
 obtain ⟨k,e,q⟩:=h;have hl:=a5a;have hs:sizeLine=16777216:=sizeLine_eq
 cases x with
 | non =>
  cases rx
  have e':k=false:=e;subst e';exact truthy_none ⟨H,I,q⟩
 | bl b =>
  cases rx
  have e':k=b:=e;subst e';exact wpAny_truthy_bool ⟨H,I,q⟩
 | int i =>
  obtain ⟨t,rfl⟩:=rx;have e':k=(i != 0):=e;subst e';exact PySem.P.truthy_int ⟨H,I,q⟩
 | str y =>
  obtain ⟨t,rfl⟩:=rx;obtain ⟨hy,e'⟩:y.length<=sizeLine/\k=((y.length:Int) != 0):=e;subst e';exact PySem.P.truthy_str (by omega) ⟨H,I.tok _,q⟩
 | byt y =>
  obtain ⟨t,rfl⟩:=rx;obtain ⟨hy,e'⟩:y.size<=sizeLine/\k=((y.size:Int) != 0):=e;subst e';exact PySem.W.truthy_bytes (by omega) ⟨H,I.tok _,q⟩
 | ref p =>
  cases rx
  have e':(∃ xs,SqL X.K H p xs/\k = !xs.isEmpty)\/(∃ xs,SqT X.K H p xs/\k = !xs.isEmpty)\/∃ kvs,H p=some (.dK kvs)/\k = !kvs.isEmpty:=e
  rcases e' with ⟨xs,hx,e'⟩ | ⟨xs,hx,e'⟩ | ⟨kvs,hx,e'⟩
  ·subst e';obtain ⟨its,r,pl,hz⟩:=I.list hx;have hlen:=r.length;exact wpAny_truthy_list pl.isList (by simp only [List.size_toArray];omega) ⟨H,I.tok _,by rw [a72 r];exact q⟩
  ·subst e';obtain ⟨its,r,pl,hz⟩:=I.tuple hx;have hlen:=r.length;exact truthy_tuple pl (by simp only [List.size_toArray];omega) ⟨H,I.tok _,by rw [a72 r];exact q⟩
  ·subst e';obtain ⟨hz,hS,vs,r,m⟩:kvs.length<=sizeLine/\(p == sysModules)=false/\∃ vs,KV kvs vs/\s.heap.DictOf (km X.prog X.w) p vs:=I.hok p _ hx;have hlen:kvs.length=vs.length:=Paired.length r;exact wpAny_truthy_dict hS m (by omega) ⟨H,I.tok _,by rw [ae5 r];exact q⟩
 | _=>exact (show False from e).elim
theorem ajl(ha:PE X a ta)(he:∀ whole,isTrue a X.env whole=(do let v <-whole;standAt a.pos;holding [v] (truthy v))) :
  PT X a (λσ H Q=>ta σ H λx H'=>∃ k,awt X.K x H' k/\Q k H'):=by
 intro pins s σ H Q I h
 exact isTrue_plain (thn (ha pins s σ H _ I h) λv s1 ⟨x,H1,I1,r1,q1⟩=>asl pins s1 σ H1 x v Q I1 r1 q1) (he _)
theorem ae6:OpR X (binaryOp .Add) (λx y H Q=>∃ i j,x = .str i/\y = .str j/\i.length+j.length<=sizeLine/\Q (.str (i++j)) H):=by
 intro pins s σ H x y v u Q I rx ry h
 obtain ⟨i,j,rfl,rfl,hz,q⟩:=h;obtain ⟨t,rfl⟩:=rx;obtain ⟨t',rfl⟩:=ry;exact add_str (λt' tk=>⟨.str (i++j),H,I.tok _,⟨_,rfl⟩,q⟩) hz
theorem v6:OpR X (inplaceOp .Add) (λx y H Q=>∃ i j,x = .str i/\y = .str j/\i.length+j.length<=sizeLine/\Q (.str (i++j)) H):=by
 intro pins s σ H x y v u Q I rx ry h
 obtain ⟨i,j,rfl,rfl,hz,q⟩:=h;obtain ⟨t,rfl⟩:=rx;obtain ⟨t',rfl⟩:=ry;exact iadd_str (λt' tk=>⟨.str (i++j),H,I.tok _,⟨_,rfl⟩,q⟩) hz
theorem vals1{x:V}{us:List Value}(r:Vals [x] us):∃ u,us=[u]/\RelV x u:=by
 cases r with
 | cons r1 r2=>cases r2;exact ⟨_,rfl,r1⟩
theorem vals2{x y:V}{us:List Value}(r:Vals [x,y] us):∃ u w',us=[u,w']/\RelV x u/\RelV y w':=by
 cases r with
 | cons r1 r2 =>
  cases r2 with
  | cons r3 r4=>cases r4;exact ⟨_,_,rfl,r1,r3⟩
theorem ajm:CallR X (.builtin "abs") (λxs H Q=>∃ i,xs=[.int i]/\Q (.int (if i<0 then -i else i)) H):=by
 intro pins s σ H xs us Q I r h
 obtain ⟨i,rfl,q⟩:=h;obtain ⟨u,rfl,t,rfl⟩:=vals1 r;exact call_abs_int λu tk=>⟨.int (if i<0 then -i else i),H,I.tok _,⟨_,rfl⟩,q⟩
theorem afs(hc:X.calm=true):CallR X (.builtin "min") (λxs H Q=>∃ i j,xs=[.int i, .int j]/\Q (.int (if j<i then j else i)) H):=by
 intro pins s σ H xs us Q I r h
 obtain ⟨i,j,rfl,q⟩:=h;obtain ⟨u,w',rfl,⟨t,rfl⟩,⟨t',rfl⟩⟩:=vals2 r;refine min_two_ints (I.ok.hd hc) λh' tk k=>⟨_,H,I.kept k,?_,q⟩
 by_cases hj:j<i
 ·rw [if_pos hj,if_pos hj];exact ⟨_,rfl⟩
 ·rw [if_neg hj,if_neg hj];exact ⟨_,rfl⟩
theorem aft:CallR X (.type "int") (λxs H Q=>(∃ i,xs=[.int i]/\Q (.int i) H)\/∃ k,xs=[.bl k]/\Q (.int (if k then 1 else 0)) H):=by
 intro pins s σ H xs us Q I r h
 rcases h with ⟨i,rfl,q⟩ | ⟨k,rfl,q⟩
 ·obtain ⟨u,rfl,t,rfl⟩:=vals1 r;exact call_int_int ⟨.int i,H,I,⟨_,rfl⟩,q⟩
 ·obtain ⟨u,rfl,r1⟩:=vals1 r;cases r1
  exact call_int_bool ⟨.int (if k then 1 else 0),H,I.tok _,⟨_,rfl⟩,q⟩
end
structure ObjM (h:Heap) (x dx C:Addr) (mA:Str->Option Value):Prop where
 obj:h.get? x=some (PySem.W.instObj C dx)
 ns:h.Ns1 dx mA
 ne:dx≠x
theorem afu{h:Heap}{dx:Addr}{mA:Str->Option Value}(n:h.Ns1 dx mA):∃ od,h.get? dx=some od/\∀ name,PySem.W.lookIn name od=some (mA name):=by
 obtain ⟨o,es,ep,ho,hd,hk,_,hm⟩:=n;refine ⟨o,ho,λname=>?_⟩;have e:=hm name;unfold nsFind findBy at e;rw [<-Array.find?_toList] at e;unfold PySem.W.lookIn;rw [hd];dsimp only
 split
 ·rename_i y q;rw [q] at e;exact congrArg some e
 ·rename_i q;rw [q] at e;have a:es.toList.any (·.refKey)=false:=by
   rw [List.any_eq_false]
   intro y hy
   obtain ⟨z,t,hkey⟩:=hk y (Array.mem_toList_iff.mp hy);simp [DictEntry.refKey,hkey]
  have a':¬ es.toList.any (·.refKey)=true:=by rw [a];exact Bool.false_ne_true
  rw [if_neg a'];exact congrArg some e
theorem ObjM.look{h:Heap}{x dx C:Addr}{mA:Str->Option Value}(I:ObjM h x dx C mA):∃ od,PySem.W.InstAt h x (PySem.W.instObj C dx) C (some od)/\∀ name,PySem.W.lookIn name od=some (mA name) :=
 let ⟨od,ho,hl⟩:=afu I.ns
 ⟨od,⟨I.obj,rfl,rfl,ho⟩,hl⟩
theorem RelO.some_of{v:V}{o:Option Value}(r:RelO (some v) o):∃ u,o=some u/\RelV v u:=by
 cases o with
 | none=>exact (show False from r).elim
 | some u=>exact ⟨u,rfl,r⟩
section
variable{P:Program}{w:World}{H H':Hp}{h h':Heap}{a C dx:Addr}{fs fs':List (Str × V)}
theorem aoc(hok:HOk P w H h)(e:H a=some (.ins C dx fs)):∃ mA,ObjM h a dx C mA/\(∀ f,RelO (fs.lookup f) (mA f))/\PySem.Within mA (fs.map (·.1))/\fs.length<=1000/\H dx=some (.own a):=by
 obtain ⟨d,z,ne,ob,mA,n,r,q⟩:=(show ObjOk P w H h a (.ins C dx fs) from hok a _ e)
 exact ⟨mA,⟨ob,n,ne⟩,r,q,z,d⟩
end
structure Cls (K:PySem.W.Frag) (C:Addr):Prop where
 pg:PySem.W.plainGet K C Str.empty=true
 hd:PySem.W.hasDictIn K C=true
 po:PySem.W.plainOver K C=true
 sa:PySem.W.findIn K (.ref C) "__setattr__" = some (some (.builtin "object.__setattr__"))
theorem Cls.get{K:PySem.W.Frag}{C:Addr}(c:Cls K C)(f:Str):PySem.W.plainGet K C f=true:=c.pg
section
variable{X:Cx}{pins:List (Addr × Obj)}{σ:St}{H:Hp}{s:Shared}{A:Around}{E:Value->Shared->Prop}{Q:Value->Shared->Prop}{c:Value}{b:Bool}
inductive TyOf (K:PySem.W.Frag) (H:Hp):V->Value->Prop where
 | non:TyOf K H .non (.type "NoneType")
 | bl (x:Bool):TyOf K H (.bl x) (.type "bool")
 | int (i:Int):TyOf K H (.int i) (.type "int")
 | str (x:Str):TyOf K H (.str x) (.type "str")
 | flt (x:UInt64):TyOf K H (.flt x) (.type "float")
 | lst {a:Addr} {xs:List V} (e:H a=some (.lst xs)):TyOf K H (.ref a) (.type "list")
 | frz {a:Addr} {o:Obj} {xs:List V} (e:H a=some (.frz o (.lst xs))):TyOf K H (.ref a) (.type "list")
 | tup {a:Addr} {xs:List V} (e:H a=some (.tup xs)):TyOf K H (.ref a) (.type "tuple")
 | dK {a:Addr} {kvs:List (Key × V)} (e:H a=some (.dK kvs)):TyOf K H (.ref a) (.type "dict")
 | dT {a:Addr} {kvs:List (List Key × V)} (e:H a=some (.dT kvs)):TyOf K H (.ref a) (.type "dict")
 | ins {a C dx:Addr} {fs:List (Str × V)} (e:H a=some (.ins C dx fs)) (cl:Cls K C) (ha:PySem.W.findIn K (.ref C) "__class__" = some (some (.builtin "object.__class__")))
   (hn:PySem.W.specialIn K (.builtin "object.__class__") "__get__" = some (some (.builtin "getset_descriptor.__get__"))) (htk:PySem.W.takesIn K (.builtin "object.__class__")=some true)
   (hm:PySem.W.mroIn K C (.type "object")=some true):TyOf K H (.ref a) (.ref C)
theorem afv{x:V}{u t:Value}(I:Inv X pins σ H s)(rx:RelV x u)(ty:TyOf X.K H x t)(e:PySem.W.kitOne X.K t c=some b)(h:∀ tk,Q (.bool b) { s with toks:=tk }) :
  wpAny (model X.prog X.w) A (call (.builtin "isinstance") [u,c]) Q E s:=by
 cases ty with
 | non=>cases (show u=Value.none from rx);exact PySem.W.kia_one PySem.W.kitx_none I.kIn True.intro e (λz=>nomatch z) h
 | bl y=>cases (show u=Value.bool y from rx);exact PySem.W.kia_one PySem.W.kitx_bool I.kIn True.intro e (λz=>nomatch z) h
 | int i=>obtain ⟨t,q⟩:=(show ∃ t,u=Value.int i t from rx);cases q;exact PySem.W.kia_one PySem.W.kitx_int I.kIn True.intro e (λz=>nomatch z) h
 | str y=>obtain ⟨t,q⟩:=(show ∃ t,u=Value.str y t from rx);cases q;exact PySem.W.kia_one PySem.W.kitx_str I.kIn True.intro e (λz=>nomatch z) h
 | flt y=>obtain ⟨t,q⟩:=(show ∃ t,u=Value.float y t from rx);cases q;exact PySem.W.kia_one PySem.W.kitx_float I.kIn True.intro e (λz=>nomatch z) h
 | @lst a xs ea =>
  cases (show u=Value.ref a from rx)
  obtain ⟨_,_,n,_,h1⟩:=(show ObjOk X.prog X.w H s.heap a (.lst xs) from I.hok a _ ea)
  exact PySem.W.kia_one PySem.W.kitx_list I.kIn ⟨_,h1,rfl⟩ e (λz=>nomatch z) h
 | @frz a ob xs ea =>
  cases (show u=Value.ref a from rx)
  obtain ⟨_,_,_,n,_,h1⟩:=(show ObjOk X.prog X.w H s.heap a (.frz ob (.lst xs)) from I.hok a _ ea)
  exact PySem.W.kia_one PySem.W.kitx_list I.kIn ⟨_,h1,rfl⟩ e (λz=>nomatch z) h
 | @tup a xs ea =>
  cases (show u=Value.ref a from rx)
  obtain ⟨_,_,_,p⟩:=(show ObjOk X.prog X.w H s.heap a (.tup xs) from I.hok a _ ea)
  obtain ⟨o,h1,h2,_⟩:=p;exact PySem.W.kia_one PySem.W.kitx_tuple I.kIn ⟨o,h1,h2⟩ e (λz=>nomatch z) h
 | @dK a kvs ea =>
  cases (show u=Value.ref a from rx)
  obtain ⟨_,_,vs,_,p⟩:=(show ObjOk X.prog X.w H s.heap a (.dK kvs) from I.hok a _ ea)
  obtain ⟨o,es,ep,h1,h2,_⟩:=p;exact PySem.W.kia_one PySem.W.kitx_dict I.kIn ⟨o,h1,h2.1⟩ e (λz=>nomatch z) h
 | @dT a kvs ea =>
  cases (show u=Value.ref a from rx)
  obtain ⟨_,_,xs,_,o,es,ep,h1,h2,_⟩:=(show ObjOk X.prog X.w H s.heap a (.dT kvs) from I.hok a _ ea)
  exact PySem.W.kia_one PySem.W.kitx_dict I.kIn ⟨o,h1,h2.1⟩ e (λz=>nomatch z) h
 | @ins a C dx fs ea cl ha hn htk hm =>
  cases (show u=Value.ref a from rx)
  obtain ⟨mA,O,_⟩:=aoc I.hok ea;obtain ⟨od,J,_⟩:=O.look;exact PySem.W.kia_one (PySem.W.kitx_own (cl.get _) cl.hd ha hn htk hm) I.kIn J e (λz=>nomatch z) h
end
structure Room (k:Nat) (A:Around):Prop where
 hd:A.handled=none
 dp:A.depth+3*k+5<recursionLimit
 un:A.units+16*k+200<cLine
 gd:A.guards=some []
theorem Room.mono{j k:Nat}{A:Around}(r:Room k A)(h:j<=k):Room j A:=⟨r.hd,by have:=r.dp;omega,by have:=r.un;omega,r.gd⟩
theorem Room.deeper{k:Nat}{A:Around}(r:Room (k+1) A)(env:Env):Room k (A.deeper env) :=
 ⟨r.hd,by have:=r.dp;show A.depth+1+3*k+5<_;omega,by have:=r.un;show A.units+3+16*k+200<_;omega,r.gd⟩
theorem Room.depth{k:Nat}{A:Around}(r:Room k A):A.depth<recursionLimit:=by have:=r.dp;omega
theorem Room.units{k:Nat}{A:Around}(r:Room k A):A.units+64<cLine:=by have:=r.un;omega
def ay6:TA:=λ_ H Q=>Q [] H
def awu(ta:TE)(tr:TA):TA:=λσ H Q=>ta σ H λx H1=>tr σ H1 λxs H2=>Q (x::xs) H2
section
variable{X:Cx}{e:Expr}{es:List Expr}{te:TE}{t:TA}{pos:Pos}
theorem afw:PA X [] ay6:=λ_ _ _ _ H Q I h=>Calls.spliced_nil ⟨[],H,I, .nil,h⟩
theorem a7r(ha:PE X e te)(hr:PA X es t)(hs:starEach (e::es) X.env=(false,eval e X.env)::starEach es X.env:=by rfl):PA X (e::es) (awu te t):=by
 intro pos pins s σ H Q I h
 rw [hs];show wpAny _ _ (spliced ((false,eval e X.env)::backTo pos (starEach es X.env))) _ _ s;refine Calls.spliced_cons (thn (ha pins s σ H _ I h) λu s1 ⟨x,H1,I1,r1,q1⟩=>?_);exact thn (hr pos pins s1 σ H1 _ I1 q1) λus s2 ⟨xs,H2,I2,r2,q2⟩=>⟨x::xs,H2,I2, .cons r1 r2,q2⟩
def azg(t:TA):TE:=λσ H Q=>t σ H λxs H1=>xs.length<=sizeLine/\∀ p,H1 p=none->Q (.ref p) (upd H1 p (.tup xs))
def azh(t:TA):TE:=λσ H Q=>t σ H λxs H1=>xs.length<=sizeLine/\∀ p,H1 p=none->Q (.ref p) (upd H1 p (.lst xs))
theorem asm{x1}(h:PA X es t):PE X (.Tuple es x1 pos) (azg t):=by
 intro pins s σ H Q I hq
 refine wpAny_Tuple_spliced (thn (h pos pins s σ H _ I hq) λus s1 ⟨xs,H1,I1,r,z,q⟩=>⟨by rw [<-r.length];exact z,?_⟩)
 have hf:H1 s1.heap.objs.size=none:=I1.hok.fresh (Nat.le_refl _);refine ⟨.ref s1.heap.objs.size,upd H1 s1.heap.objs.size (.tup xs),I1.laid (t':=s1.toks) (λb u e=>Heap.get?_push_of_some _ e) (Nat.le_refl _) ?_,rfl,q _ hf⟩;exact ⟨z,us,r,⟨_,Heap.get?_push_size _ rfl,rfl,_,rfl⟩⟩
theorem asn(h:PA X es t):PE X (.List es pos) (azh t):=by
 intro pins s σ H Q I hq
 refine wpAny_List_spliced (thn (h pos pins s σ H _ I hq) λus s1 ⟨xs,H1,I1,r,z,q⟩=>⟨by rw [<-r.length];exact z,?_⟩)
 have hf:H1 s1.heap.objs.size=none:=I1.hok.fresh (Nat.le_refl _);refine ⟨.ref s1.heap.objs.size,upd H1 s1.heap.objs.size (.lst xs),I1.laid (t':=s1.toks) (λb u e=>Heap.get?_push_of_some _ e) (Nat.le_refl _) ?_,rfl,q _ hf⟩;exact ⟨z,us,0,r,Heap.get?_push_size _ rfl⟩
end
abbrev Sp:=List V->Hp->VK->XK->Prop
abbrev CXT:=List Env->Hp->Shared->XK->Value->Shared->Prop
structure Env0 (P:Program) (w:World) (K:PySem.W.Frag) (mg:Str->Option Value) (base:Heap) (A:Around) (outer:List Env) (s:Shared) (H:Hp):Prop where
 frames:A.frames=some outer
 mod:Mod K mg base
 bs:∀ b o,base.get? b=some o->s.heap.get? b=some o/\H b=none
 bsz:base.objs.size<=s.heap.objs.size
 funs:s.heap.FunFrames base outer
 frf:∀ b∈frs outer,H b=none
 hok:HOk P w H s.heap
 bare:AllBare s.gens
def CE(outer:List Env)(P:Program)(w:World)(H:Hp)(s:Shared)(Q:VK)(u:Value)(s':Shared):Prop :=
 ∃ v H',s'.os=s.os/\AllBare s'.gens/\Un (frs outer) [] H H' s.heap s'.heap/\HOk P w H' s'.heap/\RelV v u/\Q v H'
def CR(CX:CXT)(outer:List Env)(P:Program)(w:World)(H:Hp)(s:Shared)(Q:VK)(E:XK)(r:Result)(s':Shared):Prop :=
 match r with
 | .ok (.ret u)=>CE outer P w H s Q u s'
 | .ok _=>False
 | .error e=>CX outer H s E e s'
structure FnOk (P:Program) (w:World) (K:PySem.W.Frag) (mg:Str->Option Value) (base:Heap) (CX:CXT) (k:Nat) (f:Addr) (fd:FuncData) (ps:List Str) (sp:Sp):Prop where
 len:∀ vs H Q E,sp vs H Q E->vs.length=ps.length
 run:∀ (A:Around) (outer:List Env) (s:Shared) (H:Hp) (args:Args) (us:List Value) (vs:List V) (Q:VK) (E:XK),Room k A->Env0 P w K mg base A outer s H->BindsTo s fd args (ps.zip us)->Vals vs us->sp vs H Q E->
  codeAny (model P w) A (.call (.ref f) args) (CR CX outer P w H s Q E) s
theorem FnOk.imp{P:Program}{w:World}{K:PySem.W.Frag}{mg:Str->Option Value}{base:Heap}{CX:CXT}{k:Nat}{f:Addr}{fd:FuncData}{ps:List Str}{sp sp':Sp}(F:FnOk P w K mg base CX k f fd ps sp)
  (h:∀ vs H Q E,sp' vs H Q E->sp vs H Q E):FnOk P w K mg base CX k f fd ps sp' :=
 ⟨λvs H Q E q=>F.len vs H Q E (h _ _ _ _ q),λA outer s H args us vs Q E hr he hb hv hs=>F.run A outer s H args us vs Q E hr he hb hv (h _ _ _ _ hs)⟩
section
variable{X:Cx}{pins:List (Addr × Obj)}{σ:St}{H:Hp}{s s':Shared}
theorem Inv.env0(I:Inv X pins σ H s):Env0 X.prog X.w X.K X.mg X.base X.A X.stack s H :=
 ⟨I.ok.frames,I.ok.mod,I.bs,Nat.le_trans I.ok.bsz I.sz,I.stack,I.stkFree,I.hok,I.bare⟩
theorem Inv.after{Q:VK}{u:Value}(I:Inv X pins σ H s)(h:CE X.stack X.prog X.w H s Q u s'):EP X pins σ Q u s':=by
 obtain ⟨v,H',os,bare,un,hok,r,q⟩:=h;obtain ⟨hh,g,d,t,os'⟩:=s';obtain rfl:os'=s.os:=os;exact ⟨v,H',I.call (h':=hh) (g':=g) (d':=d) (t':=t) (ch:=[]) un hok bare (λb z=>absurd z (by simp)),r,q⟩
end
def aso(sp:Sp)(dvs:List V)(E:XK)(t:TA):TE:=λσ H Q=>t σ H λvs H1=>sp (vs++dvs) H1 Q E
def Binds(K:PySem.W.Frag)(fd:FuncData)(ps:List Str)(ds:List Value):Prop :=
 ∀ (s:Shared) (us:List Value),K.In s.heap->(us++ds).length=ps.length->BindsTo s fd ⟨us,[]⟩ (ps.zip (us++ds))
theorem Binds.all{K:PySem.W.Frag}{fd:FuncData}{ps:List Str}(h:∀ us:List Value,us.length=ps.length->bindArgs fd ⟨us,[]⟩=pure (ps.zip us)):Binds K fd ps []:=λs us _ hl=>by
 rw [List.append_nil] at hl ⊢;exact .of_eq (h us hl)
def acd(CX:CXT)(X:Cx)(E:XK):Prop:=∀ (pins:List (Addr × Obj)) (σ:St) (H:Hp) (s:Shared) (e:Value) (s':Shared),Inv X pins σ H s->CX X.stack H s E e s'->X.xe e s'
section
variable{X:Cx}{CX:CXT}{k:Nat}{f C:Addr}{fd:FuncData}{ps:List Str}{sp:Sp}{dvs:List V}{ds:List Value}{E:XK}{x m:Str}{p pos apos:Pos}{e o:Expr}{es:List Expr}{ta:TE}{t:TA}
theorem am7{pins:List (Addr × Obj)}{σ:St}{H:Hp}{s:Shared}{Q:VK}{us:List Value}{vs:List V}(F:FnOk X.prog X.w X.K X.mg X.base CX k f fd ps sp)(hr:Room k X.A)(hb:Binds X.K fd ps ds)(hd:Vals dvs ds)(hx:acd CX X E)
  (I:Inv X pins σ H s) (r:Vals vs us) (h:sp (vs++dvs) H Q E):wpAny (model X.prog X.w) X.A (call (.ref f) us) (EP X pins σ Q) X.xe s:=by
 have r2:Vals (vs++dvs) (us++ds):=r.append hd;have hl:(us++ds).length=ps.length:=by rw [<-r2.length];exact F.len _ _ _ _ h
 refine wpAny_call (codeAny_mono (F.run X.A X.stack s H ⟨us,[]⟩ (us++ds) (vs++dvs) Q E hr I.env0 (hb s us I.kIn hl) r2 h) λr s' hq=>?_)
 cases r with
 | error e=>exact hx pins σ H s e s' I hq
 | ok fl =>
  cases fl with
  | ret u=>exact I.after hq
  | next=>exact False.elim hq
  | brk=>exact False.elim hq
  | cont=>exact False.elim hq
theorem aod(F:FnOk X.prog X.w X.K X.mg X.base CX k f fd ps sp)(hr:Room k X.A)(hg:Gl X x)(hm:X.mg x=some (.ref f))(hk:PySem.W.keepIn X.K (.ref f)=true)(hb:Binds X.K fd ps ds)(hd:Vals dvs ds)(hx:acd CX X E)
  (ha:PA X (e::es) t) (hdb:(x == ("__debug__" : Str))=false:=by decide) (he:starEach (e::es) X.env=(false,eval e X.env)::starEach es X.env:=by rfl) (hpl:(backTo pos (starEach es X.env)).any (·.1)=false:=by rfl) :
  PE X (.Call (.Name x p) (e::es) [] pos) (aso sp dvs E t):=by
 intro pins s σ H Q I h
 refine wpAny_Call_Name_kw (afj I hg hm ?_ hdb);refine PySem.W.callWith_K (h₀:=X.base) I.ok.mod.kin hk (thn (ha pos pins s σ H _ I h) λus s1 ⟨vs,H1,I1,r,q⟩=>⟨I1.kIn,?_⟩) he hpl;exact am7 F hr hb hd hx I1 r q
theorem ajn(F:FnOk X.prog X.w X.K X.mg X.base CX k f fd ps sp)(hr:Room k X.A)(hg:Gl X x)(hm:X.mg x=some (.ref f))(hk:PySem.W.keepIn X.K (.ref f)=true)(hb:Binds X.K fd ps ds)(hd:Vals dvs ds)(hx:acd CX X E)
  (hdb:(x == ("__debug__" : Str))=false:=by decide):PE X (.Call (.Name x p) [] [] pos) (aso sp dvs E ay6):=by
 intro pins s σ H Q I h
 refine wpAny_Call_Name_kw (afj I hg hm ?_ hdb);exact PySem.W.callWith_K0 I.kIn hk (am7 (us:=[]) F hr hb hd hx I .nil h)
end
structure FnScope (N P:List Str) (sc:Scope):Prop where
 kind:sc.kind = .function
 co:sc.isCoroutine=false
 gen:sc.isGenerator=false
 nd:N.Nodup
 pre:N.take P.length=P
 par:∀ x∈P,sc.names.lookup x=some .local\/sc.names.lookup x=some .cell
 nofree:∀ y∈sc.names,y.2≠.free
theorem a9l{kindOf:Str->Option NameKind}{x:Str}:∀ {binds:List (Str × Value)} {m:Str->Option Value},(∀ v,(x,v) ∉ binds)->bindL kindOf binds m x=m x
 | [],_,_=>rfl
 | (n,v)::r,m,h=>by
  unfold bindL;rw [a9l λw hw=>h w (List.mem_cons_of_mem _ hw)]
  split
  ·have:x≠n:=by rintro rfl;exact h v List.mem_cons_self
   simp [this]
  ·rfl
theorem a9m{kindOf:Str->Option NameKind}{x:Str}:∀ {binds:List (Str × Value)} {m:Str->Option Value},(∀ v,(x,v) ∉ binds)->bindC kindOf binds m x=m x
 | [],_,_=>rfl
 | (n,v)::r,m,h=>by
  unfold bindC;rw [a9m λw hw=>h w (List.mem_cons_of_mem _ hw)]
  split
  ·rfl
  ·have:x≠n:=by rintro rfl;exact h v List.mem_cons_self
   simp [this]
theorem a9n{kindOf:Str->Option NameKind}{x:Str}{v:Value}:∀ {P:List Str} {vs:List Value} {i:Nat} {m:Str->Option Value},P.Nodup->P[i]? = some x->vs[i]? = some v->kindOf x=some .local->
  bindL kindOf (P.zip vs) m x=some v
 | [],_,_,_,_,h,_,_=>by simp at h
 | _::_,[],_,_,_,_,h,_=>by simp at h
 | p::P,w::vs,0,m,nd,h1,h2,hk=>by
  simp at h1 h2;subst h1;subst h2
  show bindL kindOf ((p,w)::P.zip vs) m p=_;unfold bindL;rw [a9l λv hv=>(List.nodup_cons.mp nd).1 (List.of_mem_zip hv).1,if_pos hk];simp
 | p::P,w::vs,i+1,m,nd,h1,h2,hk=>by
  show bindL kindOf ((p,w)::P.zip vs) m x=_;unfold bindL;exact a9n (i:=i) (List.nodup_cons.mp nd).2 (by simpa using h1) (by simpa using h2) hk
theorem a9o{kindOf:Str->Option NameKind}{x:Str}{v:Value}:∀ {P:List Str} {vs:List Value} {i:Nat} {m:Str->Option Value},P.Nodup->P[i]? = some x->vs[i]? = some v->kindOf x≠some .local->
  bindC kindOf (P.zip vs) m x=some v
 | [],_,_,_,_,h,_,_=>by simp at h
 | _::_,[],_,_,_,_,h,_=>by simp at h
 | p::P,w::vs,0,m,nd,h1,h2,hk=>by
  simp at h1 h2;subst h1;subst h2
  show bindC kindOf ((p,w)::P.zip vs) m p=_;unfold bindC;rw [a9m λv hv=>(List.nodup_cons.mp nd).1 (List.of_mem_zip hv).1,if_neg hk];simp
 | p::P,w::vs,i+1,m,nd,h1,h2,hk=>by
  show bindC kindOf ((p,w)::P.zip vs) m x=_;unfold bindC;exact a9o (i:=i) (List.nodup_cons.mp nd).2 (by simpa using h1) (by simpa using h2) hk
def start(N:List Str)(vs:List V):St:=vs.map some++List.replicate (N.length - vs.length) none
def a1n(CX:CXT)(P:Program)(w:World)(K:PySem.W.Frag)(mg:Str->Option Value)(base:Heap)(N:List Str)(qual:Str)(scope:Scope)(f:Addr)(cd:Value)(A:Around)(outer:List Env)(s:Shared)(H:Hp)(E:XK):Cx where
 prog:=P
 w:=w
 K:=K
 mg:=mg
 base:=base
 A:=A.deeper (envOfC qual scope s.heap.objs.size f cd)
 N:=N
 s₀:=s
 H₀:=H
 env:=envOfC qual scope s.heap.objs.size f cd
 outer:=outer
 stack:=envOfC qual scope s.heap.objs.size f cd::outer
 ex:=[]
 calm:=true
 fn:=λ_=>true
 pn:=[]
 xe:=λe s'=>wpAny (model P w) (A.deeper (envOfC qual scope s.heap.objs.size f cd)) (leaving (envOfC qual scope s.heap.objs.size f cd) e) (λ_ s''=>CX outer H s E e s'') (λe' s''=>CX outer H s E e' s'') s'
theorem ace{sc:Scope}{n:Nat}{x:Str}(h:sc.names.lookup x=some .cell):∃ c,(cellsFrom n sc.names []).lookup x=some c:=by
 have q:=PySem.W.cellsFrom_some sc.names n [] (.inl h);exact Option.isSome_iff_exists.mp q
theorem afx{CX:CXT}{P:Program}{w:World}{K:PySem.W.Frag}{mg:Str->Option Value}{base:Heap}{N ps:List Str}{qual:Str}{scope:Scope}{f:Addr}{cd:Value}{A:Around}{outer:List Env}{s s1:Shared}{H:Hp}{E:XK}{us:List Value}{vs:List V}
  (S:FnScope N ps scope) (hd:A.handled=none) (e0:Env0 P w K mg base A outer s H) (hl:vs.length=ps.length) (r:Vals vs us)
  (x:InCallC s s.heap.objs.size (bindL (envOfC qual scope s.heap.objs.size f cd).kindOf (ps.zip us) λ_=>none) (cellsFrom (s.heap.objs.size+1) scope.names []) (bindC (envOfC qual scope s.heap.objs.size f cd).kindOf (ps.zip us) λ_=>none) s1) :
  Inv (a1n CX P w K mg base N qual scope f cd A outer s H E) [] (start N vs) H s1:=by
 have hpl:ps.length<=N.length:=by have:=congrArg List.length S.pre;rw [List.length_take] at this;omega
 obtain ⟨h1,tk,rfl,hk⟩:=x.done;have noA:∀ b:Addr,b ∉ (a1n CX P w K mg base N qual scope f cd A outer s H E).ex:=λb z=>absurd (show b∈([]:List Addr) from z) (by simp)
 refine ⟨⟨e0.mod,S.kind,rfl,rfl,Nat.le_refl _,λy z c h1 h2=>?_,λy hy=>?_,λy c _ h=>?_,λ_=>hd,Around.frames_deeper e0.frames, .inr ⟨rfl,rfl⟩,λb z=>absurd z (noA b),e0.bs,e0.bsz,λb _ _=>noA b,λb z=>absurd z (noA b),e0.funs,e0.frf⟩,
  rfl,e0.bare,Un.kept hk,⟨_,x.toInCall.ns,λi y v h1 h2 h3=>?_⟩,λy c h=>⟨_,x.cell y c h⟩,e0.hok.fresh (Nat.le_refl _),λy c h=>?_,λp hp=>absurd (show p∈([]:List (Addr × Obj)) from hp) (by simp),e0.hok.kept hk,?_⟩
 ·exact name_of_addr x.apart (PySem.mem_of_lookup h1) (PySem.mem_of_lookup h2)
 ·have hy:scope.names.lookup y=some .cell\/scope.names.lookup y=some .free:=hy
  rcases hy with hy | hy
  ·exact ace hy
  ·exact absurd rfl (S.nofree _ (PySem.mem_of_lookup hy))
 ·exact Nat.le_of_lt (x.above y c (PySem.mem_of_lookup h))
 ·have hi:i<vs.length:=by
   unfold start at h2
   by_cases hi:i<vs.length
   ·exact hi
   ·rw [List.getElem?_append_right (by simpa using hi)] at h2
    rw [List.getElem?_replicate] at h2
    split at h2<;>cases h2
  have ha:vs[i]? = some v:=by
   unfold start at h2;rw [List.getElem?_append_left (by simpa using hi),List.getElem?_map] at h2
   cases e:vs[i]? with
   | none=>rw [e] at h2;cases h2
   | some a=>rw [e] at h2;cases h2;rfl
  obtain ⟨u,hu,rv⟩:=r.get ha;have hp:ps[i]? = some y:=by
   rw [<-S.pre,List.getElem?_take_of_lt (by omega)];exact h1
  have ndP:ps.Nodup:=by rw [<-S.pre];exact S.nd.sublist (List.take_sublist _ _)
  refine ⟨u,rv,?_⟩
  rcases S.par y (List.mem_of_getElem? hp) with k | k
  ·exact .inl ⟨k,a9n ndP hp hu k⟩
  ·obtain ⟨c,e⟩:=ace (n:=s.heap.objs.size+1) k;refine .inr ⟨.inl k,c,e,?_⟩;have q:=x.cell y c e;rw [a9o ndP hp hu (by show scope.names.lookup y≠_;rw [k];decide)] at q
   exact q
 ·exact e0.hok.fresh (Nat.le_of_lt (x.above y c (PySem.mem_of_lookup h)))
 ·unfold start;show _=N.length;rw [List.length_append,List.length_map,List.length_replicate];omega
theorem awv{CX:CXT}{P:Program}{w:World}{K:PySem.W.Frag}{mg:Str->Option Value}{base:Heap}{k:Nat}{f:Addr}{name qual:Str}{params:Arguments}{body:List Stmt}{scope:Scope}{dV kV doc pm cdv ct oc:Value}{an od:Option Addr}
  {osl:Array (Option Value)} {N ps:List Str} {sp:Sp} (lk:K.lookup f=some ⟨oc,od, .func (PySem.W.fnOf name qual params body scope dV kV doc pm an cdv ct),osl⟩) (hcd:PySem.W.codeIn K cdv qual=true) (S:FnScope N ps scope)
  (len:∀ vs H Q E,sp vs H Q E->vs.length=ps.length)
  (hbody:∀ (A:Around) (outer:List Env) (s:Shared) (H:Hp) (vs:List V) (Q:VK) (E:XK),Room k (A.deeper (envOfC qual scope s.heap.objs.size f cdv))->sp vs H Q E->
   ∃ t,PSs (a1n CX P w K mg base N qual scope f cdv A outer s H E) body t/\t { nx:=λ_ H'=>Q .non H',rt:=Q } (start N vs) H) :
  FnOk P w K mg base CX (k+1) f (PySem.W.fnOf name qual params body scope dV kV doc pm an cdv ct) ps sp:=by
 refine ⟨len,λA outer s H args us vs Q E hr e0 hb r hsp=>?_⟩;have hl:=len _ _ _ _ hsp;have KX:K.In s.heap:=e0.mod.kin.keeps λb o e=>(e0.bs b o e).1;have lim:s.heap.NoLimit:=e0.mod.nolimit.keeps λb o e=>(e0.bs b o e).1;have hkind:∀ y∈ps.zip us,scope.names.lookup y.1=some .local\/(scope.names.lookup y.1=some .cell/\((cellsFrom (s.heap.objs.size+1) scope.names []).lookup y.1).isSome=true):=λ⟨n,v⟩ hy=>by
  rcases S.par n (List.of_mem_zip hy).1 with q | q
  ·exact .inl q
  ·exact .inr ⟨q,PySem.W.cellsFrom_some _ _ _ (.inl q)⟩
 refine codeAny_call_function hr.depth (KX _ _ lk) rfl S.co S.gen rfl (PySem.W.codeRec_of KX hcd) (hb _ _ _ _ ?_);refine wpAny_newFunctionEnv_cells S.kind hkind λenv he s1 x=>?_;subst he;refine ⟨lim.keeps x.toInCall.keep,codeAny_func ?_⟩;obtain ⟨t,ht,hq⟩:=hbody A outer s H vs Q E (hr.deeper _) hsp;have I:Inv (a1n CX P w K mg base N qual scope f cdv A outer s H E) [] (start N vs) H s1:=afx S hr.hd e0 hl r x;refine wpAny_mono (ht [] s1 (start N vs) H _ I hq) (λfl s' hs=>?_) λe s' hs=>hs;have fin:∀ {σ':St} {H':Hp} {v:V} {u:Value},Inv (a1n CX P w K mg base N qual scope f cdv A outer s H E) [] σ' H' s'->RelV v u->Q v H'->CE outer P w H s Q u s' :=
  λ{σ' H' v u} J rv q=>⟨v,H',J.os,J.bare,J.base,J.hok,rv,q⟩
 cases fl with
 | ret u =>
  obtain ⟨v,σ',H',J,rv,q⟩:=hs;exact fin J rv q
 | next =>
  obtain ⟨σ',H',J,q⟩:=hs;exact fin (v:=V.non) (u:=Value.none) J rfl q
 | brk =>
  obtain ⟨_,_,_,q⟩:=hs;exact False.elim q
 | cont =>
  obtain ⟨_,_,_,q⟩:=hs;exact False.elim q
section
variable{X:Cx}{x:Str}{p pos:Pos}{e:Expr}{es:List Expr}{t:TA}{id T:String}{r:List V->Hp->VK->Prop}
def tCB(r:List V->Hp->VK->Prop)(t:TA):TE:=λσ H Q=>t σ H λvs H1=>r vs H1 Q
theorem ajo(hc:CallR X (.builtin id) r)(hg:Gl X x)(hm:X.mg x=none)(hv:bootBuiltins x=some (.builtin id))(ha:PA X (e::es) t)(hn:x ≠ "__name__":=by decide)(hdb:(x == ("__debug__" : Str))=false:=by decide)
  (he:starEach (e::es) X.env=(false,eval e X.env)::starEach es X.env:=by rfl) (hpl:(backTo pos (starEach es X.env)).any (·.1)=false:=by rfl):PE X (.Call (.Name x p) (e::es) [] pos) (tCB r t):=by
 intro pins s σ H Q I h
 refine wpAny_Call_Name_kw (a5w I hg hm hv ?_ hn hdb);exact PyProof.Rows.callWith_builtin1 (thn (ha pos pins s σ H _ I h) λus s1 ⟨vs,H1,I1,r1,q1⟩=>hc pins s1 σ H1 vs us Q I1 r1 q1) he hpl
theorem afy(hc:CallR X (.type T) r)(hg:Gl X x)(hm:X.mg x=none)(hv:bootBuiltins x=some (.type T))(ha:PA X (e::es) t)(hn:x ≠ "__name__":=by decide)(hdb:(x == ("__debug__" : Str))=false:=by decide)
  (he:starEach (e::es) X.env=(false,eval e X.env)::starEach es X.env:=by rfl) (hpl:(backTo pos (starEach es X.env)).any (·.1)=false:=by rfl):PE X (.Call (.Name x p) (e::es) [] pos) (tCB r t):=by
 intro pins s σ H Q I h
 refine wpAny_Call_Name_kw (a5w I hg hm hv ?_ hn hdb);exact PyProof.Rows.callWith_type1 (thn (ha pos pins s σ H _ I h) λus s1 ⟨vs,H1,I1,r1,q1⟩=>hc pins s1 σ H1 vs us Q I1 r1 q1) he hpl
end
end L2
namespace HT
open PySem PyProof.Rows
section
variable{prog:Program}{w:World}{A:Around}{E:Value->Shared->Prop}{s:Shared}
theorem aoe{t b:Addr}{vs ws:List Value}{Q:Value->Shared->Prop}(ht:IsTup s.heap t vs.toArray)(hb:IsTup s.heap b ws.toArray)(hv:vs≠[])
  (h1:ws=[]->Q (.ref t) s) (h2:ws≠[]->Q (.ref s.heap.objs.size) { s with heap:=s.heap.push { cls:=.type "tuple",data:=.seq (vs++ws).toArray } })
  (hsz:vs.length+ws.length<=sizeLine):wpAny (model prog w) A (binaryOp .Add (.ref t) (.ref b)) Q E s:=by
 obtain ⟨⟨cls,dd,data,sl⟩,ho,hc,n,hd⟩:=id ht;obtain ⟨⟨cls2,dd2,data2,sl2⟩,ho2,hc2,n2,hd2⟩:=id hb;simp only at hc hd hc2 hd2;subst hc hd hc2 hd2;have e:vs.toArray++ws.toArray=(vs++ws).toArray:=by simp
 by_cases hw:ws=[]
 ·exact concat_meets ⟨_,ho,rfl⟩ ⟨_,ho2,rfl⟩ noFill_tuple_add seq_tuple_add PySem.F.slot_tuple_add PySem.F.entry_tuple_add (PySem.F.args_tuple_add_2 _ _)
   (tuple_addW1 t b vs.toArray ws.toArray n n2 dd dd2 sl sl2 (by simpa using hv) (by simp [hw])) ⟨ho,ho2,h1 hw⟩
 ·refine concat_meets ⟨_,ho,rfl⟩ ⟨_,ho2,rfl⟩ noFill_tuple_add seq_tuple_add PySem.F.slot_tuple_add PySem.F.entry_tuple_add (PySem.F.args_tuple_add_2 _ _)
   (tuple_addW2 t b vs.toArray ws.toArray n n2 dd dd2 sl sl2 (by simpa using hv) (by simpa using hw) (by rw [List.size_toArray,List.size_toArray];exact hsz)) ⟨ho,ho2,?_⟩
  rw [e];exact h2 hw
def sIx(n d:Nat):Option Int->Nat
 | none=>d
 | some v=>if v<0 then (v+(n:Int)).toNat else min v.toNat n
theorem acf(n d:Nat):sIx n d none=d:=rfl
theorem afz(n d k:Nat):sIx n d (some (k:Int))=min k n:=by
 show (if (k:Int)<0 then ((k:Int)+(n:Int)).toNat else min (k:Int).toNat n)=min k n
 rw [if_neg (by omega),Int.toNat_natCast]
theorem ag0(n d:Nat)(hd:d<=n)(o:Option Int):sIx n d o<=n:=by
 cases o with
 | none=>exact hd
 | some v =>
  show (if v<0 then (v+(n:Int)).toNat else min v.toNat n)<=n
  by_cases hv:v<0
  ·rw [if_pos hv];omega
  ·rw [if_neg hv];exact Nat.min_le_right _ _
theorem ag1(v:Int)(n d:Nat):(if v<0 then max (v+(n:Int)) 0 else min v (n:Int))=((sIx n d (some v):Nat):Int):=by
 show (if v<0 then max (v+(n:Int)) 0 else min v (n:Int))=(((if v<0 then (v+(n:Int)).toNat else min v.toNat n):Nat):Int)
 by_cases hv:v<0
 ·simp only [if_pos hv];omega
 ·simp only [if_neg hv];omega
theorem ae7(lo hi:Option Int)(n:Nat):Builtin.Slice.sliceAdjust lo hi 1 (n:Int)=(((sIx n 0 lo:Nat):Int),((sIx n n hi:Nat):Int)):=by
 have h1:¬ ((1:Int)<0):=by omega
 unfold Builtin.Slice.sliceAdjust;simp only [h1,if_false];refine Prod.ext ?_ ?_
 ·cases lo with
  | none=>rfl
  | some v=>exact ag1 v n 0
 ·cases hi with
  | none=>rfl
  | some v=>exact ag1 v n n
theorem ae8(i j:Nat):Builtin.Slice.slicePlaces (i:Int) (j:Int) 1=j - i:=by
 unfold Builtin.Slice.slicePlaces;have h1:(1:Int) > 0:=by omega
 simp only [h1,if_true,Int.ediv_one]
 split<;>omega
theorem a73{v:Value}{o:Option Int}{Q:Option Int->Shared->Prop}(p:IsPart v o)(h:Q o s):wpAny (model prog w) A (Builtin.Slice.slicePartIndex v) Q E s:=by
 cases p with
 | none=>exact slicePart_none h
 | int i t=>exact slicePart_int h
theorem a1g{sl:Addr}{vl vu:Value}{lo hi:Option Int}{n:Nat}{Q:Int × Int × Nat->Shared->Prop}(hs:s.heap.IsSliceOf sl vl vu .none)(pl:IsPart vl lo)(pu:IsPart vu hi)
  (h:Q (((sIx n 0 lo:Nat):Int),1,sIx n n hi - sIx n 0 lo) s):wpAny (model prog w) A (Builtin.Slice.sliceApplied (.ref sl) (pure (n:Int))) Q E s:=by
 obtain ⟨os,hos,hcs,hds⟩:=id hs;unfold Builtin.Slice.sliceApplied Builtin.Slice.sliceFields;refine wpAny_bind (wpAny_bind (wpAny_field hos hds (x:=vl) rfl (wpAny_bind (wpAny_field hos hds (x:=vu) rfl (wpAny_bind (wpAny_field hos hds (x:=.none) rfl (wpAny_pure ?_)))))));refine wpAny_bind (slicePart_none ?_);show wpAny _ _ (if ((1:Int) == 0)=true then _ else _) _ _ s
 rw [if_neg (by decide)]
 refine wpAny_bind (a73 pl (wpAny_bind (a73 pu (wpAny_bind (wpAny_pure ?_)))));show wpAny _ _ (match Builtin.Slice.sliceAdjust lo hi 1 (n:Int) with | (lo,hi)=>pure (lo,(1:Int),Builtin.Slice.slicePlaces lo hi 1)) _ _ s
 rw [ae7 lo hi n];show wpAny _ _ (pure (((sIx n 0 lo:Nat):Int),(1:Int),Builtin.Slice.slicePlaces ((sIx n 0 lo:Nat):Int) ((sIx n n hi:Nat):Int) 1)) _ _ s;rw [ae8];exact wpAny_pure h
theorem ajp(xs:Array Value)(i k:Nat):((List.range k).filterMap λ(m:Nat)=>xs[((i:Int)+(m:Int)*1).toNat]?).toArray=((xs.toList.drop i).take k).toArray:=by
 have e:(λ(m:Nat)=>xs[((i:Int)+(m:Int)*1).toNat]?)=λm=>xs[i+m]?:=by
  funext m
  have:((i:Int)+(m:Int)*1).toNat=i+m:=by omega
  rw [this]
 rw [e];have:=pick_run xs i k;rw [List.filterMap_map] at this;have e2:((λx=>xs[x]?) ∘ λx=>i+x)=λm=>xs[i+m]?:=rfl;rw [e2] at this;rw [this]
theorem a4n{t sl:Addr}{items:Array Value}{vl vu:Value}{lo hi:Option Int}{Q:Value->Shared->Prop}(ht:IsTup s.heap t items)(hs:s.heap.IsSliceOf sl vl vu .none)(pl:IsPart vl lo)(pu:IsPart vu hi)
  (hw:¬ (sIx items.size 0 lo=0/\sIx items.size items.size hi=items.size))
  (h:Q (.ref s.heap.objs.size) { s with heap:=s.heap.push { cls:=.type "tuple",data:=.seq ((items.toList.drop (sIx items.size 0 lo)).take (sIx items.size items.size hi - sIx items.size 0 lo)).toArray } })
  (hsz:items.size<=sizeLine):wpAny (model prog w) A (getItem (.ref t) (.ref sl)) Q E s:=by
 have htake:sizeOk (.seq ((items.toList.drop (sIx items.size 0 lo)).take (sIx items.size items.size hi - sIx items.size 0 lo)).toArray):=by
  show ((items.toList.drop (sIx items.size 0 lo)).take (sIx items.size items.size hi - sIx items.size 0 lo)).toArray.size<=sizeLine;rw [List.size_toArray,List.length_take,List.length_drop,Array.length_toList];omega
 have hj:sIx items.size items.size hi<=items.size:=ag0 _ _ (Nat.le_refl _) hi;obtain ⟨os,hos,hcs,hds⟩:=id hs;have hTs:s.TypeIs (.ref sl) "slice":=⟨os,hos,hcs⟩;unfold getItem
 try with_reducible refine wpAny_holding ?_
 first | refine wpAny_bind (wpAny_pure ?_) | skip
 refine wpAny_bind (wpAny_sequenceKey ht.typeIs (by decide) ?_)
 refine wpAny_bind (wpAny_callSpecial?_slot (name:=Str.ofString "__getitem__") ht.typeIs PyProof.Rows.slot_tuple_getitem
  (wpAny_call_entry PyProof.Rows.slot_tuple_getitem ht.typeIs entry_tuple_getitem ?_ (args_tuple_getitem _ _)))
 show wpAny _ _ (Builtin.Tuple.tupleItemsOf (.ref t)>>=_) _ _ s;refine wpAny_bind (tupleItemsOf_ ht ?_);refine wpAny_bind (wpAny_typeOf hTs ?_);rw [if_pos (by decide)]
 refine wpAny_bind (a1g hs pl pu ?_);have hno:¬ ((((sIx items.size 0 lo:Nat):Int) == 0 && (1:Int) == 1 && (sIx items.size items.size hi - sIx items.size 0 lo) == items.size)=true):=by
  intro q
  rw [Bool.and_eq_true,Bool.and_eq_true] at q;have q1:((sIx items.size 0 lo:Nat):Int)=0:=eq_of_beq q.1.1;have q2:sIx items.size items.size hi - sIx items.size 0 lo=items.size:=eq_of_beq q.2;exact hw ⟨by omega,by omega⟩
 show wpAny _ _ (if (((sIx items.size 0 lo:Nat):Int) == 0 && (1:Int) == 1 && (sIx items.size items.size hi - sIx items.size 0 lo) == items.size)=true then _ else _) _ _ s
 rw [if_neg hno,ajp]
 first
  | exact wpAny_bind (m:=Builtin.Tuple.tupleExact _) (wpAny_newObj_type (wpAny_pure ⟨_,rfl,wpAny_pure h⟩) htake)
  | exact wpAny_bind (m:=Builtin.Tuple.tupleExact _) (wpAny_newObj_type (wpAny_bind (wpAny_pure (wpAny_pure ⟨_,rfl,wpAny_pure h⟩))) htake)
  | exact wpAny_bind (wpAny_bind (m:=Builtin.Tuple.tupleExact _) (wpAny_newObj_type (wpAny_pure (wpAny_pure ⟨_,rfl,wpAny_pure h⟩)) htake))
  | exact wpAny_bind (wpAny_bind (m:=Builtin.Tuple.tupleExact _) (wpAny_newObj_type (wpAny_pure ⟨_,rfl,wpAny_pure h⟩) htake))
end
end HT
namespace L2
open PySem PySem.Spec PyProof.Rows
abbrev TO:=St->Hp->(Option Int->Hp->Prop)->Prop
def PO(X:Cx)(e:Option Expr)(t:TO):Prop :=
 ∀ (pins:List (Addr × Obj)) (s:Shared) (σ:St) (H:Hp) (Q:Option Int->Hp->Prop),Inv X pins σ H s->t σ H Q->
  wpAny (model X.prog X.w) X.A (evalPart e X.env) (λu s'=>∃ o H',Inv X pins σ H' s'/\IsPart u o/\Q o H') X.xe s
def aof:TO:=λ_ H Q=>Q none H
def aww(t:TE):TO:=λσ H Q=>t σ H λx H1=>∃ i,x = .int i/\Q (some i) H1
theorem intsAre_of{ns:List Int}:∀ {us:List Value},Vals (ns.map V.int) us->IntsAre us ns:=by
 induction ns with
 | nil=>intro us r;rw [List.map_nil] at r;cases r;exact .nil
 | cons n ns ih =>
  intro us r
  rw [List.map_cons] at r
  cases r with
  | cons r1 r2 =>
   obtain ⟨t,e⟩:=r1;subst e;exact .cons n t (ih r2)
section
variable{X:Cx}{e:Expr}{te:TE}{lo hi:Option Expr}{tl th:TO}{pos p2:Pos}
theorem aog:PO X none aof:=by
 intro pins s σ H Q I h
 rw [evalPart_none];exact wpAny_pure ⟨none,H,I, .none,h⟩
theorem aoh(h:PE X e te):PO X (some e) (aww te):=by
 intro pins s σ H Q I hw
 rw [evalPart_some];refine thn (h pins s σ H _ I hw) λu s1 ⟨x,H1,I1,r1,q1⟩=>?_;obtain ⟨i,rfl,q⟩:=q1;obtain ⟨t,rfl⟩:=r1;exact ⟨some i,H1,I1, .int i t,q⟩
def SlR(X:Cx)(r:V->Option Int->Option Int->Hp->VK->Prop):Prop :=
 ∀ (pins:List (Addr × Obj)) (s:Shared) (σ:St) (H:Hp) (x:V) (v vl vu:Value) (lo hi:Option Int) (sl:Addr) (Q:VK),Inv X pins σ H s->RelV x v->s.heap.IsSliceOf sl vl vu .none->IsPart vl lo->IsPart vu hi->r x lo hi H Q->
  ∃ T id,typeLookup (.type T) "__getitem__" = pure (some (.builtin id))/\s.TypeIs v T/\wpAny (model X.prog X.w) X.A (getItem v (.ref sl)) (EP X pins σ Q) X.xe s
theorem SlR.or{r r':V->Option Int->Option Int->Hp->VK->Prop}(h:SlR X r)(h':SlR X r'):SlR X (λx lo hi H Q=>r x lo hi H Q\/r' x lo hi H Q):=by
 intro pins s σ H x v vl vu lo hi sl Q I rx hs pl pu q
 rcases q with q | q
 ·exact h pins s σ H x v vl vu lo hi sl Q I rx hs pl pu q
 ·exact h' pins s σ H x v vl vu lo hi sl Q I rx hs pl pu q
def tSl(r:V->Option Int->Option Int->Hp->VK->Prop)(te:TE)(tl th:TO):TE:=λσ H Q=>te σ H λx H1=>tl σ H1 λl H2=>th σ H2 λu H3=>r x l u H3 Q
theorem ajq{r:V->Option Int->Option Int->Hp->VK->Prop}(hr:SlR X r)(he:PE X e te)(hl:PO X lo tl)(hu:PO X hi th):PE X (.Subscript e (.Slice lo hi none p2) pos) (tSl r te tl th):=by
 intro pins s σ H Q I h
 refine Subscript_ (thn (he pins s σ H _ I h) λv s1 ⟨x,H1,I1,r1,q1⟩=>?_);refine wpAny_Slice (thn (hl pins s1 σ H1 _ I1 q1) λvl s2 ⟨l,H2,I2,pl,q2⟩=>thn (hu pins s2 σ H2 _ I2 q2) λvu s3 ⟨u,H3,I3,pu,q3⟩=>?_);rw [evalPart_none];refine wpAny_pure ?_;have I4:Inv X pins σ H3 { s3 with heap:=s3.heap.push { cls:=.type "slice",data:=.fields #[vl,vu, .none] } }:=I3.kept (t':=s3.toks) λb ob q=>Heap.get?_push_of_some _ q
 obtain ⟨T,id,hT,ht,hg⟩:=hr pins { s3 with heap:=s3.heap.push { cls:=.type "slice",data:=.fields #[vl,vu, .none] } } σ H3 x v vl vu l u s3.heap.objs.size Q I4 r1 (Heap.IsSliceOf.new ..) pl pu q3
 show wpAny (model X.prog X.w) X.A (subscriptTail e (.Slice lo hi none p2) v (.ref s3.heap.objs.size)) (EP X pins σ Q) X.xe { s3 with heap:=s3.heap.push { cls:=.type "slice",data:=.fields #[vl,vu, .none] } }
 exact tail_any (ops:=[.ref s3.heap.objs.size,v]) ht hT hg (by with_unfolding_all rfl)
def am8(xs:List V)(lo hi:Option Int):List V:=(xs.drop (HT.sIx xs.length 0 lo)).take (HT.sIx xs.length xs.length hi - HT.sIx xs.length 0 lo)
theorem a5x(xs:List V)(lo hi:Option Int):(am8 xs lo hi).length<=xs.length:=by
 unfold am8;rw [List.length_take,List.length_drop];omega
def awx(K:PySem.W.Frag):V->Option Int->Option Int->Hp->VK->Prop:=λx lo hi H Q=>∃ a xs,x = .ref a/\SqT K H a xs /\
 ¬ (HT.sIx xs.length 0 lo=0/\HT.sIx xs.length xs.length hi=xs.length)/\∀ p,H p=none->Q (.ref p) (upd H p (.tup (am8 xs lo hi)))
theorem asp:SlR X (awx X.K):=by
 intro pins s σ H x v vl vu lo hi sl Q I rx hs pl pu h
 obtain ⟨a,xs,rfl,hx,hw,q⟩:=h;cases rx
 obtain ⟨its,r,ht,hz⟩:=I.tuple hx;have hlen:its.toArray.size=xs.length:=by rw [List.size_toArray];exact r.length.symm
 refine ⟨"tuple",_,PyProof.Rows.slot_tuple_getitem.lookup,ht.typeIs,?_⟩;refine HT.a4n ht hs pl pu (by rw [hlen];exact hw) ?_ (by rw [hlen];exact hz)
 rw [hlen];refine ⟨.ref s.heap.objs.size,_,I.laid (t':=s.toks) (o:=.tup (am8 xs lo hi)) (λb ob q=>Heap.get?_push_of_some _ q) (Nat.le_refl _) ?_,rfl,q _ (I.hok.fresh (Nat.le_refl _))⟩;exact ⟨Nat.le_trans (a5x xs lo hi) hz,_,(r.drop (HT.sIx xs.length 0 lo)).take (HT.sIx xs.length xs.length hi - HT.sIx xs.length 0 lo),IsTup.new _ _⟩
def asq(K:PySem.W.Frag):R2:=λx y H Q=>∃ a b xs ys,x = .ref a/\y = .ref b/\SqT K H a xs/\SqT K H b ys/\xs≠[]/\xs.length+ys.length<=sizeLine /\
 (ys=[]->Q (.ref a) H)/\(ys≠[]->∀ p,H p=none->Q (.ref p) (upd H p (.tup (xs++ys))))
theorem Vals.nil_iff{xs:List V}{us:List Value}(r:Vals xs us):us=[]↔xs=[]:=by
 cases r with
 | nil=>simp
 | cons _ _=>simp
theorem aoi:OpR X (binaryOp .Add) (asq X.K):=by
 intro pins s σ H x y v u Q I rx ry h
 obtain ⟨a,b,xs,ys,rfl,rfl,ha,hb,hx,hz,q1,q2⟩:=h;cases rx
 cases ry
 obtain ⟨its,r1,p1,_⟩:=I.tuple ha;obtain ⟨its2,r2,p2,_⟩:=I.tuple hb;refine HT.aoe p1 p2 (λz=>hx (r1.nil_iff.mp z)) (λz=>⟨.ref a,H,I,rfl,q1 (r2.nil_iff.mp z)⟩) (λz=>?_) (by rw [<-r1.length,<-r2.length];exact hz)
 refine ⟨.ref s.heap.objs.size,_,I.laid (t':=s.toks) (o:=.tup (xs++ys)) (λb ob q=>Heap.get?_push_of_some _ q) (Nat.le_refl _) ?_,rfl,q2 (λw=>z (r2.nil_iff.mpr w)) _ (I.hok.fresh (Nat.le_refl _))⟩;exact ⟨by rw [List.length_append];exact hz,_,r1.append r2,IsTup.new _ _⟩
end
def ixN(n:Nat)(i:Int):Option Nat:=if 0<=i then (if i<n then some i.toNat else none) else if -(n:Int)<=i then some (i+n).toNat else none
def atI{α:Type}(xs:List α)(i:Int):Option α:=(ixN xs.length i).bind λj=>xs[j]?
theorem ag2{n:Nat}{i:Int}{j:Nat}(h:ixN n i=some j):seqIndex? i n=some j/\j<n /\ -(n:Int)<=i/\i<n:=by
 unfold ixN at h
 by_cases h0:0<=i
 ·rw [if_pos h0] at h
  by_cases h1:i<n
  ·rw [if_pos h1] at h;have e:i.toNat=j:=Option.some.inj h;exact ⟨by rw [seqIndex_of h0 h1,e],by omega,by omega,h1⟩
  ·rw [if_neg h1] at h;cases h
 ·rw [if_neg h0] at h
  by_cases h1 : -(n:Int)<=i
  ·rw [if_pos h1] at h;have e:(i+n).toNat=j:=Option.some.inj h;exact ⟨by rw [seqIndex_neg (by omega) h1,e],by omega,h1,by omega⟩
  ·rw [if_neg h1] at h;cases h
theorem a7s{α:Type}{xs:List α}{i:Int}{v:α}(h:atI xs i=some v):∃ j,seqIndex? i xs.length=some j/\xs[j]? = some v/\j<xs.length /\ -(xs.length:Int)<=i/\i<xs.length:=by
 unfold atI at h
 cases e:ixN xs.length i with
 | none=>rw [e] at h;cases h
 | some j =>
  rw [e] at h;obtain ⟨h1,h2,h3,h4⟩:=ag2 e;exact ⟨j,h1,h,h2,h3,h4⟩
theorem v7{α:Type}{xs:List α}{j:Nat}{v:α}(h:xs[j]? = some v):atI xs (j:Int)=some v:=by
 have hj:j<xs.length:=(List.getElem?_eq_some_iff.mp h).1;have e:ixN xs.length (j:Int)=some j:=by
  unfold ixN;rw [if_pos (by omega),if_pos (by omega)];simp
 unfold atI;rw [e];exact h
def ab7(b:Expr):Prop:=∀ o i,subscripted b false o i=operate [o,i] (getItem o i)
def IxR(X:Cx)(r:R2):Prop :=
 ∀ (value slice:Expr) (pins:List (Addr × Obj)) (s:Shared) (σ:St) (H:Hp) (x y:V) (v u:Value) (Q:VK),Inv X pins σ H s->RelV x v->RelV y u->r x y H Q->
  subscripted slice false v u=operate [v,u] (getItem v u)->wpAny (model X.prog X.w) X.A (subscriptTail value slice v u) (EP X pins σ Q) X.xe s
def MtR(X:Cx)(id:String)(r:V->List V->Hp->VK->Prop):Prop :=
 ∀ (pins:List (Addr × Obj)) (s:Shared) (σ:St) (H:Hp) (x:V) (xs:List V) (v:Value) (us:List Value) (Q:VK),Inv X pins σ H s->RelV x v->Vals xs us->r x xs H Q->
  wpAny (model X.prog X.w) X.A (call (.builtin id) (v::us)) (EP X pins σ Q) X.xe s
section
variable{X:Cx}{a b:Expr}{ta tb:TE}{pos:Pos}
theorem IxR.or{r r':R2}(h:IxR X r)(h':IxR X r'):IxR X (λx y H Q=>r x y H Q\/r' x y H Q):=by
 intro value slice pins s σ H x y v u Q I rx ry q hs
 rcases q with q | q
 ·exact h value slice pins s σ H x y v u Q I rx ry q hs
 ·exact h' value slice pins s σ H x y v u Q I rx ry q hs
theorem awy{r:R2}(hr:IxR X r)(ha:PE X a ta)(hb:PE X b tb)(hs:ab7 b):PE X (.Subscript a b pos) (tOp r ta tb):=by
 intro pins s σ H Q I h
 exact Subscript_ (awo ha hb I h λv u s2 x y H2 I2 rx ry q=>hr a b pins s2 σ H2 x y v u Q I2 rx ry q (hs _ _))
def avx(K:PySem.W.Frag):R2:=λx y H Q=>∃ p xs i v,x = .ref p/\y = .int i/\SqL K H p xs/\atI xs i=some v/\Q v H
def ay7(K:PySem.W.Frag):R2:=λx y H Q=>∃ p xs i v,x = .ref p/\y = .int i/\SqT K H p xs/\atI xs i=some v/\Q v H
def ay8:R2:=λx y H Q=>∃ z i c,x = .str z/\y = .int i/\z.length<=sizeLine/\atI z.cps.toList i=some c/\Q (.str ⟨#[c]⟩) H
theorem aoj:IxR X (avx X.K):=by
 intro value slice pins s σ H x y v u Q I rx ry h hs
 obtain ⟨p,xs,i,z,rfl,rfl,hq,he,q⟩:=h;cases rx
 obtain ⟨t,rfl⟩:=ry;obtain ⟨its,r,pl,hz⟩:=I.list hq;obtain ⟨j,h1,h2,h3,h4,h5⟩:=a7s he;obtain ⟨w,ew,rw'⟩:=r.get h2;have hl:=r.length;have hn:=a5a;have fin:EP X pins σ Q w s:=⟨z,H,I,rw',q⟩
 by_cases h0:0<=i
 ·have hj:i.toNat=j:=by
   rw [seqIndex_of h0 h5] at h1;exact Option.some.inj h1
  exact item_listR pl.isList h0 (by omega) (by rw [hj];simpa using ew) fin hs
 ·have hj:(i+(its.toArray.size:Int)).toNat=j:=by
   rw [seqIndex_neg (by omega) h4] at h1
   rw [List.size_toArray,<-hl];exact Option.some.inj h1
  exact subscriptTail_builtinR (x:=w) pl.isList.typeIs slot_list_getitem.lookup
   (wpAny_getItem_list_neg (Q:=λr s'=>r=w/\EP X pins σ Q r s') pl.isList (by omega) (by rw [List.size_toArray]<;>omega) (by omega) (by rw [hj];simpa using ew) ⟨rfl,fin⟩) hs
theorem a5y:IxR X (ay7 X.K):=by
 intro value slice pins s σ H x y v u Q I rx ry h hs
 obtain ⟨p,xs,i,z,rfl,rfl,hq,he,q⟩:=h;cases rx
 obtain ⟨t,rfl⟩:=ry;obtain ⟨its,r,pl,hz⟩:=I.tuple hq;obtain ⟨j,h1,h2,h3,h4,h5⟩:=a7s he;obtain ⟨w,ew,rw'⟩:=r.get h2;have hl:=r.length;have hn:=a5a;have fin:EP X pins σ Q w s:=⟨z,H,I,rw',q⟩;exact subscriptTail_builtinR (x:=w) pl.typeIs slot_tuple_getitem.lookup
  (getItem_tuple (j:=j) (Q:=λr s'=>r=w/\EP X pins σ Q r s') pl (by omega) (by omega) (by rw [List.size_toArray,<-hl];exact h1) (by simpa using ew) ⟨rfl,fin⟩) hs
theorem asr:IxR X ay8:=by
 intro value slice pins s σ H x y v u Q I rx ry h hs
 obtain ⟨z,i,c,rfl,rfl,hz,he,q⟩:=h;obtain ⟨t,rfl⟩:=rx;obtain ⟨t',rfl⟩:=ry;obtain ⟨j,h1,h2,h3,h4,h5⟩:=a7s he;have hl:z.cps.toList.length=z.length:=by simp [Str.length]
 rw [hl] at h1 h4 h5;have hn:=a5a;exact tail_any (typeIs_str s z t) slot_str_getitem.lookup (getItem_str (c:=c) (by
  have e1:decide (i < -(2 ^ 63:Int))=false:=decide_eq_false (by omega)
  have e2:decide (i≥2 ^ 63)=false:=decide_eq_false (by omega)
  rw [e1,e2,Bool.or_false]) (by rw [h1];simpa using h2) ⟨.str ⟨#[c]⟩,H,I.tok _,⟨_,rfl⟩,q⟩) hs
def rIx(K:PySem.W.Frag):R2:=λx y H Q=>avx K x y H Q\/ay7 K x y H Q\/ay8 x y H Q
theorem ass:IxR X (rIx X.K):=aoj.or (a5y.or asr)
theorem ae9(its:List Value)(n j:Nat)(u:Value):Obj.mapSeq (·.setIfInBounds j u) { cls:=.type "list",data:=.seq its.toArray n }={ cls:=.type "list",data:=.seq (its.set j u).toArray n }:=by
 simp [Obj.mapSeq]
theorem Inv.lst{pins:List (Addr × Obj)}{σ:St}{H:Hp}{s:Shared}{p:Addr}{xs:List V}(I:Inv X pins σ H s)(h:H p=some (.lst xs)) :
  ∃ (its:List Value) (n:Nat),Vals xs its/\s.heap.get? p=some { cls:=.type "list",data:=.seq its.toArray n }/\xs.length<=sizeLine:=by
 obtain ⟨z,its,n,r,e⟩:=I.hok p _ h;exact ⟨its,n,r,e,z⟩
theorem Inv.lstUpd{pins:List (Addr × Obj)}{σ:St}{H:Hp}{s:Shared}{p:Addr}{xs ys:List V}{its its':List Value}{n n':Nat}{f:Obj->Obj}(I:Inv X pins σ H s)(h:H p=some (.lst xs))
  (ho:s.heap.get? p=some { cls:=.type "list",data:=.seq its.toArray n }) (hf:f { cls:=.type "list",data:=.seq its.toArray n }={ cls:=.type "list",data:=.seq its'.toArray n' }) (r:Vals ys its') (hz:ys.length<=sizeLine) (t:Nat) :
  Inv X pins σ (upd H p (.lst ys)) { s with heap:=s.heap.update p f,toks:=t }:=by
 have e:(s.heap.update p f).get? p=some { cls:=.type "list",data:=.seq its'.toArray n' }:=by
  rw [Heap.get?_update_self f ho (by rw [hf]<;>rfl),hf]
 refine I.write (x:=p) (e:=p) (by rw [h];trivial) (.inl rfl) (λb u hb q=>(Heap.get?_update_other _ _ (Ne.symm hb)).trans q) ⟨_,e⟩ ?_
 exact ⟨hz,its',n',r,e⟩
def asu:V->V->V->Hp->(Hp->Prop)->Prop:=λo i v H Q=>∃ p xs k j,o = .ref p/\i = .int k/\H p=some (.lst xs)/\ixN xs.length k=some j/\Q (upd H p (.lst (xs.set j v)))
theorem set_list:awj X asu:=by
 intro pins s σ H o i v ov iv u Q I ro ri rv h
 obtain ⟨p,xs,k,j,rfl,rfl,hp,hj,q⟩:=h;cases ro
 obtain ⟨t,rfl⟩:=ri;obtain ⟨its,n,r,ho,hz⟩:=I.lst hp;obtain ⟨h1,h2,h3,h4⟩:=ag2 hj;have hl:=r.length;have hn:=a5a;have I':Inv X pins σ (upd H p (.lst (xs.set j v))) { s with heap:=s.heap.update p (Obj.mapSeq (·.setIfInBounds j u)) } :=
  I.lstUpd hp ho (ae9 its n j u) (r.set rv j) (by rw [List.length_set];exact hz) s.toks
 by_cases h0:0<=k
 ·have hk:k.toNat=j:=by
   rw [seqIndex_of h0 h4] at h1;exact Option.some.inj h1
  exact PySem.W.ki_setAt ho h0 (by omega) (by rw [List.size_toArray,<-hl];exact h4) (by rw [hk];exact ⟨_,I',q⟩)
 ·have hk:(k+(its.toArray.size:Int)).toNat=j:=by
   rw [seqIndex_neg (by omega) h3] at h1
   rw [List.size_toArray,<-hl];exact Option.some.inj h1
  exact PySem.W.ki_setBack ho (by omega) (by rw [List.size_toArray,<-hl];exact h3) (by omega) (by rw [hk];exact ⟨_,I',q⟩)
theorem a9p(lo hi:Option Int)(n:Nat):(sliceBounds lo hi none n).1=((HT.sIx n 0 lo:Nat):Int)/\(sliceBounds lo hi none n).2.1=((HT.sIx n n hi:Nat):Int)/\(sliceBounds lo hi none n).2.2=1:=by
 refine ⟨?_,?_,rfl⟩
 ·cases lo with
  | none=>simp [sliceBounds,HT.sIx]
  | some i =>
   simp only [sliceBounds,HT.sIx,Option.getD_none,show (1:Int) > 0 by decide,if_true]
   by_cases h:i<0
   ·simp only [h,if_true]<;>omega
   ·simp only [h,if_false]<;>omega
 ·cases hi with
  | none=>simp [sliceBounds,HT.sIx]
  | some i =>
   simp only [sliceBounds,HT.sIx,Option.getD_none,show (1:Int) > 0 by decide,if_true]
   by_cases h:i<0
   ·simp only [h,if_true]<;>omega
   ·simp only [h,if_false]<;>omega
theorem a7t(its:List Value)(lo hi:Option Int):slicePick its.toArray lo hi none=((its.drop (HT.sIx its.length 0 lo)).take (HT.sIx its.length its.length hi - HT.sIx its.length 0 lo)).toArray:=by
 obtain ⟨h1,h2,h3⟩:=a9p lo hi its.toArray.size;unfold slicePick;rw [h1,h2,h3];simp only [sliceRange_one,pick_run,List.size_toArray]<;>rfl
def awz(K:PySem.W.Frag):V->Option Int->Option Int->Hp->VK->Prop:=λx lo hi H Q=>∃ a xs,x = .ref a/\SqL K H a xs/\∀ p,H p=none->Q (.ref p) (upd H p (.lst (am8 xs lo hi)))
theorem aok:SlR X (awz X.K):=by
 intro pins s σ H x v vl vu lo hi sl Q I rx hs pl pu h
 obtain ⟨a,xs,rfl,hx,q⟩:=h;cases rx
 obtain ⟨its,r,ht,hz⟩:=I.list hx;have hlen:=r.length;refine ⟨"list",_,slot_list_getitem.lookup,ht.isList.typeIs,?_⟩;refine wpAny_getItem_list_slice ht.isList hs pl pu .none (by simp) ?_ (by rw [List.size_toArray]<;>omega)
 rw [a7t,<-hlen];refine ⟨.ref s.heap.objs.size,_,I.laid (t':=s.toks) (o:=.lst (am8 xs lo hi)) (λb ob q=>Heap.get?_push_of_some _ q) (Nat.le_refl _) ?_,rfl,q _ (I.hok.fresh (Nat.le_refl _))⟩;exact ⟨Nat.le_trans (a5x xs lo hi) hz,_,0,(r.drop (HT.sIx xs.length 0 lo)).take (HT.sIx xs.length xs.length hi - HT.sIx xs.length 0 lo),Heap.get?_push_size _ rfl⟩
def a3c:V->Bool
 | .non=>true
 | .bl _=>true
 | .int _=>true
 | .str _=>true
 | _=>false
def eqV:V->V->Bool
 | .non, .non=>true
 | .bl a, .bl b=>a == b
 | .bl a, .int b=>(if a then 1 else 0) == b
 | .int a, .bl b=>a == (if b then 1 else 0)
 | .int a, .int b=>a == b
 | .str a, .str b=>a == b
 | _,_=>false
theorem ag3{A:Around}{s:Shared}{y x:V}{u v:Value}(ry:RelV y u)(rx:RelV x v)(fy:a3c y=true)(fx:a3c x=true):SeqAt.EqAt A s u v (eqV y x):=by
 cases y with
 | non =>
  cases ry
  cases x with
  | non=>cases rx;exact SeqAt.EqAt.same _
  | bl b=>cases rx;exact SeqAt.EqAt.none_bool b
  | int b=>obtain ⟨t,rfl⟩:=rx;exact SeqAt.EqAt.none_int b t
  | str b=>obtain ⟨t,rfl⟩:=rx;exact SeqAt.EqAt.none_str b t
  | _=>exact absurd (show false=true from fx) Bool.false_ne_true
 | bl a =>
  cases ry
  cases x with
  | non=>cases rx;exact SeqAt.EqAt.bool_none a
  | bl b=>cases rx;exact SeqAt.EqAt.bool_bool a b
  | int b=>obtain ⟨t,rfl⟩:=rx;exact SeqAt.EqAt.bool_int a b t
  | str b=>obtain ⟨t,rfl⟩:=rx;exact SeqAt.EqAt.bool_str a b t
  | _=>exact absurd (show false=true from fx) Bool.false_ne_true
 | int a =>
  obtain ⟨t',rfl⟩:=ry
  cases x with
  | non=>cases rx;exact SeqAt.EqAt.int_none a t'
  | bl b=>cases rx;exact SeqAt.EqAt.int_bool a t' b
  | int b=>obtain ⟨t,rfl⟩:=rx;exact SeqAt.EqAt.int_int a t' b t
  | str b=>obtain ⟨t,rfl⟩:=rx;exact SeqAt.EqAt.int_str a t' b t
  | _=>exact absurd (show false=true from fx) Bool.false_ne_true
 | str a =>
  obtain ⟨t',rfl⟩:=ry
  cases x with
  | non=>cases rx;exact SeqAt.EqAt.str_none a t'
  | bl b=>cases rx;exact SeqAt.EqAt.str_bool a t' b
  | int b=>obtain ⟨t,rfl⟩:=rx;exact SeqAt.EqAt.str_int a t' b t
  | str b=>obtain ⟨t,rfl⟩:=rx;exact SeqAt.EqAt.str_str a t' b t
  | _=>exact absurd (show false=true from fx) Bool.false_ne_true
 | _=>exact absurd (show false=true from fy) Bool.false_ne_true
def eqU(x:V)(u:Value):Bool:=match u with
 | .none=>eqV .non x
 | .bool b=>eqV (.bl b) x
 | .int i _=>eqV (.int i) x
 | .str z _=>eqV (.str z) x
 | _=>false
theorem am9{x y:V}{u:Value}(r:RelV y u)(f:a3c y=true):eqU x u=eqV y x:=by
 cases y with
 | non=>cases r;rfl
 | bl b=>cases r;rfl
 | int i=>obtain ⟨t,rfl⟩:=r;rfl
 | str z=>obtain ⟨t,rfl⟩:=r;rfl
 | _=>exact absurd (show false=true from f) Bool.false_ne_true
theorem a5z{x:V}:∀ {xs:List V} {us:List Value},Vals xs us->xs.all a3c=true->us.any (eqU x)=xs.any λy=>eqV y x
 | _,_, .nil,_=>rfl
 | y::xs,u::us, .cons r t,f=>by
  rw [List.all_cons,Bool.and_eq_true] at f;rw [List.any_cons,List.any_cons,am9 r f.1,a5z t f.2]
theorem a3q{A:Around}{s:Shared}{x:V}{v:Value}(rx:RelV x v)(fx:a3c x=true):∀ {xs:List V} {us:List Value},Vals xs us->xs.all a3c=true->∀ u∈us,SeqAt.EqAt A s u v (eqU x u)
 | _,_, .nil,_=>λu hu=>by cases hu
 | y::xs,u::us, .cons r t,f=>λu' hu=>by
  rw [List.all_cons,Bool.and_eq_true] at f
  rcases List.mem_cons.mp hu with rfl | hu
  ·rw [am9 r f.1];exact ag3 r rx f.1 fx
  ·exact a3q rx fx t f.2 u' hu
def inV(x:V)(xs:List V):Bool:=xs.any λy=>eqV y x
def rIn(K:PySem.W.Frag)(neg:Bool):R2:=λx y H Q=>∃ p xs,y = .ref p/\(SqL K H p xs\/SqT K H p xs)/\a3c x=true/\xs.all a3c=true/\Q (.bl (if neg then !inV x xs else inV x xs)) H
theorem ag4:OpR X (compareOp .In) (rIn X.K false):=by
 intro pins s σ H x y v u Q I rx ry h
 obtain ⟨p,xs,rfl,hq,fx,fs,q⟩:=h;cases ry
 rcases hq with hq | hq
 ·obtain ⟨its,r,pl,hz⟩:=I.list hq;refine SeqAt.in_listAt (eqU x) pl.isList (λw hw=>a3q rx fx r fs w (by simpa using hw)) ⟨.bl _,H,I,rfl,?_⟩
  rw [show its.toArray.any (eqU x)=its.any (eqU x) by simp,a5z r fs]
  exact q
 ·obtain ⟨its,r,pl,hz⟩:=I.tuple hq;refine SeqAt.in_tupleAt (eqU x) pl (λw hw=>a3q rx fx r fs w (by simpa using hw)) ⟨.bl _,H,I,rfl,?_⟩
  rw [show its.toArray.any (eqU x)=its.any (eqU x) by simp,a5z r fs]
  exact q
theorem zc:OpR X (compareOp .NotIn) (rIn X.K true):=by
 intro pins s σ H x y v u Q I rx ry h
 obtain ⟨p,xs,rfl,hq,fx,fs,q⟩:=h;cases ry
 rcases hq with hq | hq
 ·obtain ⟨its,r,pl,hz⟩:=I.list hq;refine SeqAt.notIn_listAt (eqU x) pl.isList (λw hw=>a3q rx fx r fs w (by simpa using hw)) ⟨.bl _,H,I,rfl,?_⟩
  rw [show its.toArray.any (eqU x)=its.any (eqU x) by simp,a5z r fs]
  exact q
 ·obtain ⟨its,r,pl,hz⟩:=I.tuple hq;refine SeqAt.notIn_tupleAt (eqU x) pl (λw hw=>a3q rx fx r fs w (by simpa using hw)) ⟨.bl _,H,I,rfl,?_⟩
  rw [show its.toArray.any (eqU x)=its.any (eqU x) by simp,a5z r fs]
  exact q
theorem iz:CallR X (.builtin "len") (λxs H Q=>∃ p ys,xs=[.ref p]/\(SqL X.K H p ys\/SqT X.K H p ys)/\Q (.int ys.length) H):=by
 intro pins s σ H xs us Q I r h
 obtain ⟨p,ys,rfl,hq,q⟩:=h;obtain ⟨u,rfl,rx⟩:=vals1 r;cases rx
 have hn:=a5a
 rcases hq with hq | hq
 ·obtain ⟨its,r',pl,hz⟩:=I.list hq;have hlen:=r'.length;exact Calls.call_len_list pl.isList (by simp only [List.size_toArray]<;>omega) ⟨.int ys.length,H,I.tok _,⟨s.toks+1,by rw [List.size_toArray,hlen]⟩,q⟩
 ·obtain ⟨its,r',pl,hz⟩:=I.tuple hq;have hlen:=r'.length;exact len_tuple pl (by simp only [List.size_toArray]<;>omega) ⟨.int ys.length,H,I.tok _,⟨s.toks+1,by rw [List.size_toArray,hlen]⟩,q⟩
theorem j4:CallR X (.builtin "len") (λxs H Q=>∃ z,xs=[.str z]/\z.length<=sizeLine/\Q (.int z.length) H):=by
 intro pins s σ H xs us Q I r h
 obtain ⟨z,rfl,hz,q⟩:=h;obtain ⟨u,rfl,t,rfl⟩:=vals1 r;have hn:=a5a;exact len_str (by omega) ⟨.int z.length,H,I.tok _,⟨_,rfl⟩,q⟩
theorem CallR.or{f:Value}{r r':List V->Hp->VK->Prop}(h:CallR X f r)(h':CallR X f r'):CallR X f (λxs H Q=>r xs H Q\/r' xs H Q):=by
 intro pins s σ H xs us Q I rs q
 rcases q with q | q
 ·exact h pins s σ H xs us Q I rs q
 ·exact h' pins s σ H xs us Q I rs q
theorem a1p:CallR X (.type "list") (λxs H Q=>∃ p ys,xs=[.ref p]/\(SqL X.K H p ys\/SqT X.K H p ys)/\∀ l,H l=none->Q (.ref l) (upd H l (.lst ys))):=by
 intro pins s σ H xs us Q I r h
 obtain ⟨p,ys,rfl,hq,q⟩:=h;obtain ⟨u,rfl,rx⟩:=vals1 r;cases rx
 have fin:∀ (its:List Value),Vals ys its->ys.length<=sizeLine->∀ (h':Heap) (c':Nat),(∀ b o',s.heap.get? b=some o'->h'.get? b=some o')->
   h'.get? s.heap.objs.size=some { cls:=.type "list",dict:=none,data:=.seq its.toArray c',slots := #[] }->EP X pins σ Q (.ref s.heap.objs.size) { s with heap:=h' }:=λits r' hz h' c' kp e =>
  ⟨.ref s.heap.objs.size,_,I.laid (t':=s.toks) kp (Nat.le_refl _) (show ObjOk X.prog X.w _ h' _ (.lst ys) from ⟨hz,its,c',r',e⟩),rfl,q _ (I.hok.fresh (Nat.le_refl _))⟩
 rcases hq with hq | hq
 ·obtain ⟨its,r',pl,hz⟩:=I.list hq;have hlen:=r'.length;obtain ⟨o,ho,hc,n,hd⟩:=pl.isList;exact call_list_seq p (.inl rfl) ho hc hd (λh' c' kp e=>fin its r' hz h' c' kp e) (by simp only [List.size_toArray]<;>omega)
 ·obtain ⟨its,r',pl,hz⟩:=I.tuple hq;have hlen:=r'.length;obtain ⟨o,ho,hc,n,hd⟩:=pl;exact call_list_seq p (.inr rfl) ho hc hd (λh' c' kp e=>fin its r' hz h' c' kp e) (by simp only [List.size_toArray]<;>omega)
theorem ug:CallR X (.type "tuple") (λxs H Q=>∃ p ys,xs=[.ref p]/\((SqL X.K H p ys/\∀ l,H l=none->Q (.ref l) (upd H l (.tup ys)))\/(SqT X.K H p ys/\Q (.ref p) H))):=by
 intro pins s σ H xs us Q I r h
 obtain ⟨p,ys,rfl,h⟩:=h;obtain ⟨u,rfl,rx⟩:=vals1 r;cases rx
 rcases h with ⟨hq,q⟩ | ⟨hq,q⟩
 ·obtain ⟨its,r',pl,hz⟩:=I.list hq;have hlen:=r'.length;refine call_tuple_list pl.isList (λh' kp=>?_) (by simp only [List.size_toArray]<;>omega)
  have I1:Inv X pins σ H { s with heap:=h' }:=I.kept (t':=s.toks) kp
  have I2:Inv X pins σ (upd H h'.objs.size (.tup ys)) { s with heap:=h'.push { cls:=.type "tuple",data:=.seq its.toArray } } :=
   I1.laid (t':=s.toks) (λb o e=>Heap.get?_push_of_some _ e) (Nat.le_refl _) (show ObjOk X.prog X.w _ _ _ (.tup ys) from ⟨hz,its,r',IsTup.new _ _⟩)
  exact ⟨.ref h'.objs.size,_,I2,rfl,q _ (I1.hok.fresh (Nat.le_refl _))⟩
 ·obtain ⟨its,r',pl,hz⟩:=I.tuple hq;exact call_tuple_same pl ⟨.ref p,H,I,rfl,q⟩
def tyV(K:PySem.W.Frag)(T:String)(x:V)(H:Hp):Prop:=match x with
 | .str _=>T = "str"
 | .int _=>T = "int"
 | .ref p=>(T = "list"/\∃ xs,SqL K H p xs)\/(T = "tuple"/\∃ o,K.lookup p=some o/\o.cls = .type "tuple"/\o.dict=none) \/
   (T = "dict"/\((∃ kvs,H p=some (.dK kvs))\/∃ kvs,H p=some (.dT kvs)))\/(T = "set"/\∃ S n,H p=some (.set S n))
 | _=>False
theorem ama{pins:List (Addr × Obj)}{σ:St}{H:Hp}{s:Shared}{T:String}{x:V}{v:Value}(I:Inv X pins σ H s)(r:RelV x v)(ty:tyV X.K T x H) :
  s.TypeIs v T/\∀ a,v = .ref a->∃ ob,s.heap.get? a=some ob/\ob.dict=none:=by
 cases x with
 | str z =>
  obtain ⟨t,rfl⟩:=r
  cases (show T = "str" from ty)
  exact ⟨typeIs_str s z t,λ_ e=>nomatch e⟩
 | int i =>
  obtain ⟨t,rfl⟩:=r
  cases (show T = "int" from ty)
  exact ⟨typeIs_int s i t,λ_ e=>nomatch e⟩
 | ref p =>
  cases r
  rcases ty with ⟨rfl,xs,hq⟩ | ⟨rfl,o,hk,hc,hd⟩ | ⟨rfl,hk⟩ | ⟨rfl,S,n,hk⟩
  ·obtain ⟨its,_,pl,_⟩:=I.list hq;refine ⟨pl.isList.typeIs,λa e=>?_⟩;cases e
   obtain ⟨o,n,e,c,hd,_⟩:=pl;exact ⟨o,e,hd⟩
  ·refine ⟨⟨o,I.kIn p o hk,hc⟩,λa e=>?_⟩;cases e
   exact ⟨o,I.kIn _ o hk,hd⟩
  ·have z:∃ o,s.heap.get? p=some o/\o.ExactDict:=by
    rcases hk with ⟨kvs,hk⟩ | ⟨kvs,hk⟩
    ·obtain ⟨_,_,_,_,o,_,_,e,ex,_⟩:=I.hok p _ hk;exact ⟨o,e,ex⟩
    ·obtain ⟨_,_,_,_,o,_,_,e,ex,_⟩:=I.hok p _ hk;exact ⟨o,e,ex⟩
   obtain ⟨o,e,ex⟩:=z;refine ⟨⟨o,e,ex.1⟩,λa e2=>?_⟩;cases e2
   exact ⟨o,e,ex.2.1⟩
  ·obtain ⟨o,_,_,_,e,ex,_⟩:=I.hok p _ hk;refine ⟨⟨o,e,ex.1⟩,λa e2=>?_⟩;cases e2
   exact ⟨o,e,ex.2.1⟩
 | _=>exact False.elim ty
def tBM(K:PySem.W.Frag)(T:String)(r:V->List V->Hp->VK->Prop)(to:TE)(t:TA):TE:=λσ H Q=>to σ H λx H1=>tyV K T x H1/\t σ H1 λxs H2=>r x xs H2 Q
variable{o e:Expr}{es:List Expr}{to:TE}{t:TA}{name:Str}{apos cpos:Pos}{T id:String}{r:V->List V->Hp->VK->Prop}
theorem ax0(pa:PlainAttrs T)(slot:Slot T name id)(hty:typeOf (.builtin id)=pure (.type "method_descriptor"))(hm:MtR X id r)(ho:PE X o to)(ha:PA X (e::es) t)
  (hbase:attributeBase o name X.env (eval o X.env)=eval o X.env:=by rfl)
  (hfew:((backTo cpos (starEach (e::es) X.env)).all (λx => !x.1) && (backToKw cpos (keywordEach [] X.env)).all (λx=>x.1.isSome)
   && decide ((e::es).length+([]:List Keyword).length+(if ([]:List Keyword).isEmpty then 0 else 1)<30))=true:=by rfl)
  (hline:(apos.endLine == cpos.line)=true:=by rfl) (hs:starEach (e::es) X.env=(false,eval e X.env)::starEach es X.env:=by rfl) (hplain:(backTo cpos (starEach es X.env)).any (·.1)=false:=by rfl) :
  PE X (.Call (.Attribute o name apos) (e::es) [] cpos) (tBM X.K T r to t):=by
 intro pins s σ H Q I h
 refine wpAny_Call_method_late hbase hfew hline rfl (thn (ho pins s σ H _ I h) λv s1 ⟨x,H1,I1,r1,ty,q1⟩=>?_);obtain ⟨h1,h2⟩:=ama I1 r1 ty;refine ⟨T,id,pa,slot,hty,h1,h2,?_⟩;have hA:=ha cpos pins s1 σ H1 _ I1 q1;rw [hs] at hA ⊢;refine Calls.callWith_builtin (by show (false || (backTo cpos (starEach es X.env)).any (·.1))=false;rw [hplain]<;>rfl) (Calls.evalArgs_plain ?_)
 exact thn hA λus s2 ⟨vs,H2,I2,r2,q2⟩=>hm pins s2 σ H2 x vs v us Q I2 r1 r2 q2
end
def MtM(X:Cx)(id:String)(r:V->List V->Hp->VK->Prop):Prop :=
 ∀ (pins:List (Addr × Obj)) (s:Shared) (σ:St) (H:Hp) (x:V) (xs:List V) (v:Value) (us:List Value) (Q:VK),Inv X pins σ H s->RelV x v->Vals xs us->r x xs H Q->
  wpAny (model X.prog X.w) X.A (call (.builtin id) (v::us)) (EP X pins σ Q) X.xe s
theorem Vals.one:∀ {x:V} {us:List Value},Vals [x] us->∃ u,us=[u]/\RelV x u
 | _,_, .cons r .nil=>⟨_,rfl,r⟩
theorem Vals.rep{xs:List V}{us:List Value}(h:Vals xs us):∀ k:Nat,Vals (List.replicate k xs).flatten (List.replicate k us).flatten
 | 0=>.nil
 | k+1=>by
  rw [List.replicate_succ,List.replicate_succ,List.flatten_cons,List.flatten_cons];exact Vals.append h (Vals.rep h k)
theorem foldl_rep(its:List Value):∀ (k:Nat) (acc:List Value),
  List.foldl (λx1 x2=>x1++x2) acc.toArray (List.replicate k its.toArray)=(acc++(List.replicate k its).flatten).toArray
 | 0,acc=>by simp
 | k+1,acc=>by
  have e:acc.toArray++its.toArray=(acc++its).toArray:=by simp
  have e2:(acc++its)++(List.replicate k its).flatten=acc++(List.replicate (k+1) its).flatten:=by
   rw [List.replicate_succ,List.flatten_cons,List.append_assoc]
  rw [<-e2,<-foldl_rep its k (acc++its),<-e,List.replicate_succ,List.foldl_cons]
section
variable{X:Cx}{pins:List (Addr × Obj)}{σ:St}{H:Hp}{s:Shared}{l b:Addr}{xs ys zs:List V}
theorem Inv.lset{its its':List Value}{n:Nat}{f:Array Value->Array Value}{t':Nat}(I:Inv X pins σ H s)(hH:H l=some (.lst xs))
  (e:s.heap.get? l=some { cls:=.type "list",data:=.seq its.toArray n }) (hf:f its.toArray=its'.toArray) (hv:Vals ys its') (hz:ys.length<=sizeLine) :
  Inv X pins σ (upd H l (.lst ys)) { s with heap:=s.heap.update l (Obj.mapSeq f),toks:=t' }:=by
 have q:=PySem.IsL.update e f;rw [hf] at q;refine I.write (x:=l) (e:=l) (by rw [hH];exact trivial) (.inl rfl) (λb' u hb hu=>(Heap.get?_update_other s.heap (Obj.mapSeq f) (Ne.symm hb)).trans hu) ⟨_,q⟩ ?_
 exact ⟨hz,its',_,hv,q⟩
theorem Inv.lnew{its:List Value}{t':Nat}(I:Inv X pins σ H s)(hv:Vals ys its)(hz:ys.length<=sizeLine) :
  Inv X pins σ (upd H s.heap.objs.size (.lst ys)) { s with heap:=s.heap.push { cls:=.type "list",data:=.seq its.toArray },toks:=t' } :=
 I.laid (λ_ _ q=>Heap.get?_push_of_some _ q) (Nat.le_refl _) ⟨hz,its,0,hv,Heap.get?_push_size _ rfl⟩
theorem Inv.fresh(I:Inv X pins σ H s):H s.heap.objs.size=none:=I.hok.fresh (Nat.le_refl _)
theorem Inv.lstM(I:Inv X pins σ H s)(hH:H l=some (.lst xs)):xs.length<=sizeLine/\∃ (its:List Value) (n:Nat),Vals xs its/\xs.length=its.length/\s.heap.get? l=some { cls:=.type "list",data:=.seq its.toArray n }:=by
 obtain ⟨z,its,n,r,e⟩:=I.hok l _ hH;exact ⟨z,its,n,r,r.length,e⟩
theorem acg{n:Nat}(h:n<=sizeLine):Builtin.List.listTooLong n=false:=by
 unfold Builtin.List.listTooLong;exact decide_eq_false (by omega)
end
section
variable{X:Cx}
def ag5:V->List V->Hp->VK->Prop:=λx vs H Q=>∃ l xs y,x = .ref l/\vs=[y]/\H l=some (.lst xs)/\xs.length<sizeLine/\Q .non (upd H l (.lst (xs++[y])))
theorem wj:MtM X "list.append" ag5:=by
 intro pins s σ H x vs v us Q I rx rv h
 obtain ⟨l,xs,y,rfl,rfl,hH,hz,q⟩:=h;cases rx
 obtain ⟨u,rfl,ru⟩:=rv.one;obtain ⟨z,its,n,r,hl,e⟩:=I.lstM hH;refine call_meets F.slot_list_append ⟨_,e,rfl⟩ F.entry_list_append (F.args_list_append_2 _ _) (PySem.list_append l its.toArray n u (by rw [List.size_toArray];omega)) ⟨e,?_⟩
 refine ⟨.non,_,I.lset (its':=its++[u]) hH e (by simp) (r.append (.cons ru .nil)) ?_,rfl,q⟩
 rw [List.length_append,List.length_singleton];omega
def asv:R2:=λx y H Q=>∃ l k xs,x = .ref l/\y = .int k/\H l=some (.lst xs) /\ -(2 ^ 63)<=k/\k<2 ^ 63/\xs.length*k.toNat<=sizeLine /\
 ∀ p,H p=none->Q (.ref p) (upd H p (.lst (List.replicate k.toNat xs).flatten))
theorem len_rep{α:Type}(xs:List α)(k:Nat):(List.replicate k xs).flatten.length=k*xs.length:=by
 induction k with
 | zero=>simp
 | succ k ih=>rw [List.replicate_succ,List.flatten_cons,List.length_append,ih,Nat.succ_mul,Nat.add_comm]
theorem asw:OpR X (binaryOp .Mult) asv:=by
 intro pins s σ H x y v u Q I rx ry h
 obtain ⟨l,k,xs,rfl,rfl,hH,h1,h2,hz,q⟩:=h;cases rx
 obtain ⟨t,rfl⟩:=ry;obtain ⟨z,its,n,r,hl,e⟩:=I.lstM hH;have hlen:its.toArray.size*k.toNat<=sizeLine:=by rw [List.size_toArray,<-hl];exact hz
 have hcap:¬ its.toArray.size*k.toNat > (2 ^ 63 - 1) / 8:=by
  have:(sizeLine:Nat)<=(2 ^ 63 - 1) / 8:=by decide
  omega
 have hfit:¬ (!Builtin.List.listFitsIndex k)=true:=by
  rw [fitsIndex_both h1 h2];exact Bool.false_ne_true
 have hlong:¬ Builtin.List.listTooLong (its.toArray.size*k.toNat)=true:=by
  rw [acg hlen];exact Bool.false_ne_true
 have hnew:List.foldl (λx1 x2=>x1++x2) #[] (List.replicate (if its.toArray.isEmpty=true then 0 else k.toNat) its.toArray)=(List.replicate k.toNat its).flatten.toArray:=by
  have f0:∀ m:Nat,List.foldl (λx1 x2=>x1++x2) #[] (List.replicate m its.toArray)=(List.replicate m its).flatten.toArray:=λm=>by
   have:=foldl_rep its m []
   rw [List.nil_append] at this;exact this
  rw [f0]
  cases its with
  | nil=>simp
  | cons a r'=>rw [if_neg (by simp)]
 refine wpAny_binaryOp_repeat_ref (T := "list") (U := "int") (by decide) ⟨_,e,rfl⟩ (λs'=>typeIs_int s' k t) noFill_list_mul F.fills_int_mul F.slot_int_rmul repeat_list F.slot_int_index.lookup
  (call_meets F.slot_int_rmul (typeIs_int s k t) F.entry_int_rmul (F.args_int_rmul_2 _ _) (int___rmul___int_list k t l its.toArray n)
   ⟨e,rfl,⟨_,e,rfl⟩,call_meets F.slot_list_mul ⟨_,e,rfl⟩ F.entry_list_mul (F.args_list_mul_2 _ _) (AutoListH.list___mul___list_int_3 l its.toArray n k t hfit hcap hlong) ⟨e,?_⟩⟩)
 rw [hnew];exact ⟨.ref _,_,I.lnew (t':=s.toks) (r.rep k.toNat) (by rw [len_rep,Nat.mul_comm];exact hz),rfl,q _ I.fresh⟩
end
end L2
namespace Att
open PySem PySem.W PySem.Calls PyProof.Rows
theorem a65{P:Params}{h:Heap}:∀ (ns:List Int) (vs:List Value),WellAll P h vs (ns.map WData.int)->IntsAre vs ns:=by
 intro ns
 induction ns with
 | nil =>
  intro vs w
  rw [List.map_nil] at w;cases w
  exact .nil
 | cons n ns ih =>
  intro vs w
  rw [List.map_cons] at w
  cases w with
  | cons a b =>
   cases a
   exact .cons _ _ (ih _ b)
theorem ag6{l:OpenLaw}{n:Nat}(hn:l.most=some n){P:Params}{h:Heap}{args:List WData}{vals:List Value}
  (hpre:l.row.toRowW.claim.pre args=true) (hwl:WellAll P h vals args) :
  ∃ a vs ns,vals=[Value.ref a]/\args=[WData.list (ns.map WData.int)]/\h.get? a=some { cls:=.type "list",data:=.seq vs.toArray }/\IntsAre vs ns/\ns.length<=n:=by
 have hsh:WShape.hasAll [] args [.list .int]=true:=(pre_splitW hpre).1;have hc:l.pre.holds [] { args:=args }=true:=(pre_splitW hpre).2;obtain ⟨d,r,rfl,h1,h2⟩:=hasAllW_cons hsh;obtain rfl:=hasAllW_nil h2;obtain ⟨xs,rfl,h3⟩:=hasW_list h1;obtain ⟨ns,rfl⟩:=items_int h3;have hlen:ns.length<=n:=by
  unfold OpenLaw.pre at hc;have h4:(WTm.not (.lt (.lit (.int (n:Int))) (.len (.arg 0)))).holds [] { args:=[.list (ns.map .int)] }=true:=by
   have h4:=(holds_andW hc).1;rw [hn] at h4;exact h4
  have h5:=condW_of h4 (w_not (w_lt w_lit (w_len_list (w_arg rfl))));rw [List.length_map] at h5;refine Nat.le_of_not_lt λq=>?_;have q':(n:Int)<((ns.length:Nat):Int):=by omega
  first
   | (rw [decide_eq_true q'] at h5;exact absurd h5 (by decide))
   | (simp at h5;omega)
 cases hwl with
 | cons w1 w2 =>
  cases w2
  cases w1 with
  | list ho hall=>exact ⟨_,_,ns,rfl,rfl,ho,a65 ns _ hall,hlen⟩
theorem ag7(l:OpenLaw)(args:List WData):l.row.toRowW.claim.post args (.bool true) args=true :=
 postW_of (r:=l.row.toRowW) (X:=(true == true))
  (show WShape.has [] (.bool true) .bool=true by first | rfl | decide | simp [WShape.has,WShape.arms,WShape.armsAll])
  (show (WTm.eq .res (.lit (.bool true))).value [] { args:=args,res:=some (.bool true),after:=args }=some (.bool (true == true)) from w_eq_bool (w_res rfl) w_lit) rfl
theorem ab8{l:OpenLaw}{n:Nat}{q:Program}{loose:List Str}{XP:(Str->Option Value)->Heap->Prop}{YP:World->Heap->Prop}{d:DefRec}
  (hn:l.most=some n) (hdf:d.params.defaults=[])
  (call:∀ (w:World) (s₀ s₁:Shared) (mg mb:Str->Option Value) (fa:Addr) (o:Obj) (pm cd doc:Value) (a:Addr) (vs:List Value) (ns:List Int),
   Ground q loose [] XP w s₀ mg mb s₁.heap->YP w s₁.heap->
   s₁.heap.get? fa=some o->o.data = .func (docDef d.name d.params d.body d.scope pm cd doc)->s₁.heap.CodeRec cd d.name->mg d.name=some (.ref fa)->
   s₁.heap.get? a=some { cls:=.type "list",data:=.seq vs.toArray }->IntsAre vs ns->ns.length<=n->s₁.gens = #[]->
   codeAny (model l.prog w) callerA (.call (.ref fa) ⟨[.ref a],[]⟩) (λr s'=>r = .ok (.ret (.bool true))/\OldK s₁.heap s'.heap/\s'.os=s₁.os/\AllBare s'.gens) s₁) :
  WalkO q loose XP YP l.row.toRowW d [] (λf vs=>PySem.call f vs):=by
 intro w s₀ s₁ mg mb G Y fa o pm cd doc dV kV ho hd hcd hD hmg hg args vals as hpre hlay hrd hwl hlo
 obtain rfl:dV = .none:=Dflts.none hD hdf
 obtain rfl:kV = .none:=Dflts.noKw hD
 obtain ⟨a,vs,ns,rfl,rfl,hobj,hints,hlen⟩:=ag6 hn hpre hwl;refine enter_call (codeAny_mono (call w s₀ s₁ mg mb fa o pm cd doc a vs ns G Y ho (fd_plain hd) hcd hmg hobj hints hlen hg) λr s' hq=>?_);obtain ⟨rfl,h2,h3,h4⟩:=hq;exact ⟨.inl ⟨.bool true, .bool true,[],rfl,λ_=>rfl, .bool true,ag7 l _,λ_=>⟨List.Pairwise.nil,λ_ hm=>(nomatch hm)⟩⟩,h2,h3,h4⟩
end Att
namespace L2
open PySem PySem.Spec PyProof.Rows
theorem a66:∀ {vs:List Value} {ns:List Int},IntsAre vs ns->Vals (ns.map V.int) vs
 | _,_, .nil=>.nil
 | _,_, .cons n t h=>.cons ⟨t,rfl⟩ (a66 h)
def Only(H:Hp):Prop:=∀ b,H b=none\/∃ o xs,H b=some (.frz o (.lst xs))
theorem ajr{P:Program}{w:World}{K:PySem.W.Frag}{mg mb:Str->Option Value}{CX:CXT}{k:Nat}{fa a:Addr}{fd:FuncData}{x:Str}{sp:Sp}{s₁:Shared}{vs:List Value}{ns:List Int}
  (KX:K.In s₁.heap) (hns:s₁.heap.Ns mainGlobals mg) (hb:s₁.heap.Ns builtinsNs mb) (hbb:∀ x:Str,x ≠ "__name__"->mb x=bootBuiltins x) (hlim:s₁.heap.NoLimit) (hg:s₁.gens = #[])
  (ha:s₁.heap.get? a=some { cls:=.type "list",data:=.seq vs.toArray }) (hi:IntsAre vs ns) (hl:ns.length<=sizeLine) (hr:Room k callerA)
  (F:∀ base:Heap,K.In base->base.Ns mainGlobals mg->FnOk P w K mg base CX k fa fd [x] sp) (hbind:∀ (s:Shared) (u:Value),BindsTo s fd ⟨[u],[]⟩ [(x,u)])
  (hsp:∀ H:Hp,Only H->SqL K H a (ns.map V.int)->sp [.ref a] H (λv _=>v = .bl true) λ_ _ _=>False)
  (hCX:∀ H e s',CX [] H s₁ (λ_ _ _=>False) e s'->False) :
  codeAny (model P w) callerA (.call (.ref fa) ⟨[.ref a],[]⟩) (λr s'=>r = .ok (.ret (.bool true))/\OldK s₁.heap s'.heap/\s'.os=s₁.os/\AllBare s'.gens) s₁:=by
 have rv:=a66 hi;have lenV:=hi.length;have core:∀ H:Hp,Only H->SqL K H a (ns.map V.int)->HOk P w H s₁.heap->(∀ b,H b≠none->b=a)->(H a≠none->K.lookup a=none)->
   codeAny (model P w) callerA (.call (.ref fa) ⟨[.ref a],[]⟩) (λr s'=>r = .ok (.ret (.bool true))/\OldK s₁.heap s'.heap/\s'.os=s₁.os/\AllBare s'.gens) s₁:=by
  intro H hO hS hok hA hK
  have base_of:∀ {b:Addr} {o:Obj},s₁.heap.get? b=some o->H b=none->(ajd s₁.heap H).get? b=some o:=λe n=>aje e n;have noA:∀ {b:Addr} {o:Obj} {es:Array DictEntry} {ep:Nat},s₁.heap.get? b=some o->o.data = .dict es ep->H b=none:=λ{b o es ep} e d=>by
   cases q:H b with
   | none=>rfl
   | some u =>
    have e':b=a:=hA b (by rw [q];simp)
    subst e';rw [ha] at e;cases e
    have d':Data.seq vs.toArray _=Data.dict es ep:=d
    cases d'
  have nsK:∀ {b:Addr} {m:Str->Option Value},s₁.heap.Ns b m->(ajd s₁.heap H).Ns b m:=λ{b m} ⟨o,es,ep,e,d,r⟩=>⟨o,es,ep,base_of e (noA e d),d,r⟩;have hKb:K.In (ajd s₁.heap H):=λb o e=>base_of (KX b o e) (by
   cases q:H b with
   | none=>rfl
   | some u =>
    have e':b=a:=hA b (by rw [q];simp)
    subst e';rw [hK (by rw [q];simp)] at e;cases e)
  have hM:Mod K mg (ajd s₁.heap H):=⟨hKb,nsK hns,⟨mb,nsK hb,hbb⟩,let ⟨mc,h1,h2⟩:=hlim; ⟨mc,nsK h1,h2⟩⟩;have e0:Env0 P w K mg (ajd s₁.heap H) callerA [] s₁ H:=⟨rfl,hM,λb o e=>ao1 e,Nat.le_of_eq (afi _ _),trivial,λb hb=>absurd (show b∈([]:List Addr) from hb) (by simp),hok, .of_eq hg⟩
  refine codeAny_mono ((F _ hKb (nsK hns)).run callerA [] s₁ H ⟨[.ref a],[]⟩ [.ref a] [.ref a] _ _ hr e0 (hbind s₁ (.ref a)) (.cons rfl .nil) (hsp H hO hS)) λr s' h=>?_
  cases r with
  | error e=>exact (hCX H e s' h).elim
  | ok fl =>
   cases fl with
   | next=>exact False.elim h
   | brk=>exact False.elim h
   | cont=>exact False.elim h
   | ret u =>
    obtain ⟨v,H',os,bare,un,hok',r',q⟩:=h;have q':v = .bl true:=q;subst q';obtain rfl:u=Value.bool true:=r';refine ⟨rfl,OldK.of_keep λb o e=>?_,os,bare⟩
    cases q:H b with
    | none=>exact un.keep b o e q (by intro z;exact absurd (show b∈([]:List Addr) from z) (by simp)) (by simp)
    | some u =>
     rcases hO b with z | ⟨ob,xs,z⟩
     ·rw [q] at z;cases z
     ·have z2:=un.frzs b ob _ z;obtain ⟨e1,_⟩:=hok b _ z;obtain ⟨e2,_⟩:=hok' b _ z2;rw [e] at e1;cases e1
      exact e2
 cases hk:K.lookup a with
 | some o =>
  have e:=KX a o hk;rw [ha] at e;cases e
  refine core (λ_=>none) (λ_=>.inl rfl) (.inr ⟨_,vs.toArray,_,hk,rfl,rfl,rfl,by rw [List.size_toArray,lenV];exact hl,by simpa using rv⟩) (λb u z=>by have z':(none:Option HO)=some u:=z;cases z') (λb z=>absurd rfl z) λz=>absurd rfl z
 | none =>
  refine core (λb=>if b=a then some (.frz { cls:=.type "list",data:=.seq vs.toArray } (.lst (ns.map V.int))) else none) (λb=>?_) (.inl (.inr ⟨{ cls:=.type "list",data:=.seq vs.toArray },if_pos rfl⟩)) (λb u z=>?_) (λb z=>?_) λ_=>hk
  ·by_cases hb:b=a
   ·exact .inr ⟨_,_,if_pos hb⟩
   ·exact .inl (if_neg hb)
  ·by_cases hb:b=a
   ·have z':=(if_pos hb).symm.trans z
    cases z'
    subst hb;exact ⟨ha,by rw [List.length_map];exact hl,vs,_,rv,ha⟩
   ·have z':=(if_neg hb).symm.trans z
    cases z'
  ·by_cases hb:b=a
   ·exact hb
   ·exact absurd (if_neg hb) z
theorem aol{l:PySem.W.OpenLaw}{n k:Nat}{q:Program}{loose:List Str}{XP:(Str->Option Value)->Heap->Prop}{YP:World->Heap->Prop}{d:DefRec}{K:Params->PySem.W.Frag}{CX:World->CXT}{sp:World->Sp}{x:Str}
  (hn:l.most=some n) (hn2:n<=sizeLine) (hdf:d.params.defaults=[]) (hr:Room k callerA)
  (hY:∀ (w:World) (h:Heap),YP w h->(K w.params).In h)
  (F:∀ (w:World) (mg:Str->Option Value) (fa:Addr) (h:Heap),(K w.params).In h->h.Ns mainGlobals mg->mg d.name=some (.ref fa)->
   ∃ fd:FuncData,(∀ (s:Shared) (u:Value),BindsTo s fd ⟨[u],[]⟩ [(x,u)]) /\
    ∀ base:Heap,(K w.params).In base->base.Ns mainGlobals mg->FnOk l.prog w (K w.params) mg base (CX w) k fa fd [x] (sp w))
  (hsp:∀ (w:World) (H:Hp) (a:Addr) (ns:List Int),ns.length<=n->Only H->SqL (K w.params) H a (ns.map V.int)->sp w [.ref a] H (λv _=>v = .bl true) λ_ _ _=>False)
  (hCX:∀ (w:World) (H:Hp) (s:Shared) (e:Value) (s':Shared),CX w [] H s (λ_ _ _=>False) e s'->False) :
  PySem.W.WalkO q loose XP YP l.row.toRowW d [] (λf vs=>PySem.call f vs):=by
 refine Att.ab8 hn hdf λw s₀ s₁ mg mb fa o pm cd doc a vs ns G Y ho hd hcd hmg hobj hints hlen hg=>?_;have KX:=hY w _ Y;obtain ⟨fd,hb,hF⟩:=F w mg fa _ KX G.T.g hmg;exact ajr KX G.T.g G.T.b G.T.builtins G.T.nolimit hg hobj hints (Nat.le_trans hlen hn2) hr hF hb (λH hO hS=>hsp w H a ns hlen hO hS) λH e s'=>hCX w H s₁ e s'
def a4o(s:Stmt):Arguments:=match s with
 | .FunctionDef _ a _ _ _ _ _ _ _ _=>a
 | _=>{ posonlyargs:=[],args:=[],vararg:=none,kwonlyargs:=[],kw_defaults:=[],kwarg:=none,defaults:=[] }
def jh(s:Stmt):List Stmt:=match s with
 | .FunctionDef _ _ b _ _ _ _ _ _ _=>b
 | _=>[]
def aq(s:Stmt):Scope:=match s with
 | .FunctionDef _ _ _ _ _ _ sc _ _ _=>sc
 | _=>{ kind:=.function,names:=[],isGenerator:=false,isCoroutine:=false }
abbrev CX0:CXT:=λ_ _ _ _ _ _=>False
abbrev E0:XK:=λ_ _ _=>False
theorem asx{X:Cx}:acd CX0 X E0:=λ_ _ _ _ _ _ _ h=>h.elim
structure Fun (K:PySem.W.Frag) (x qual:Str) (st:Stmt) (f:Addr) (fd:FuncData):Prop where
 ex:∃ (oc:Value) (od:Option Addr) (kV doc pm:Value) (an:Option Addr) (cdv ct:Value) (osl:Array (Option Value)),
  fd=PySem.W.fnOf x qual (a4o st) (jh st) (aq st) .none kV doc pm an cdv ct/\K.lookup f=some ⟨oc,od, .func fd,osl⟩/\PySem.W.codeIn K cdv qual=true
 kp:PySem.W.keepIn K (.ref f)=true
section
variable{P:Program}{w:World}{K:PySem.W.Frag}{mg:Str->Option Value}{base:Heap}
theorem Fun.ok{x qual:Str}{st:Stmt}{f:Addr}{fd:FuncData}{N ps:List Str}{k:Nat}{sp:Sp}(F:Fun K x qual st f fd)(S:FnScope N ps (aq st))(len:∀ vs H Q E,sp vs H Q E->vs.length=ps.length)
  (hbody:∀ (cdv:Value) (A:Around) (outer:List Env) (s:Shared) (H:Hp) (vs:List V) (Q:VK) (E:XK),Room k (A.deeper (envOfC qual (aq st) s.heap.objs.size f cdv))->sp vs H Q E->
   ∃ t,PSs (a1n CX0 P w K mg base N qual (aq st) f cdv A outer s H E).nox (jh st) t/\t { nx:=λ_ H'=>Q .non H',rt:=Q } (start N vs) H):FnOk P w K mg base CX0 (k+1) f fd ps sp:=by
 obtain ⟨oc,od,kV,doc,pm,an,cdv,ct,osl,rfl,lk,hcd⟩:=F.ex;refine awv lk hcd S len λA outer s H vs Q E hr hsp=>?_;obtain ⟨t,h,q⟩:=hbody cdv A outer s H vs Q E hr hsp;exact ⟨t,h.nox,q⟩
theorem Fun.binds{x qual:Str}{st:Stmt}{f:Addr}{fd:FuncData}{ps:List Str}(F:Fun K x qual st f fd)
  (h:∀ (kV doc pm:Value) (an:Option Addr) (cdv ct:Value) (us:List Value),us.length=ps.length->bindArgs (PySem.W.fnOf x qual (a4o st) (jh st) (aq st) .none kV doc pm an cdv ct) ⟨us,[]⟩=pure (ps.zip us)):Binds K fd ps []:=by
 obtain ⟨oc,od,kV,doc,pm,an,cdv,ct,osl,rfl,lk,hcd⟩:=F.ex;exact .all (h kV doc pm an cdv ct)
theorem nq{x qual:Str}{st:Stmt}{f:Addr}{oc:Value}{od an:Option Addr}{osl:Array (Option Value)}{kV doc pm cdv ct:Value}(l:K.lookup f=some ⟨oc,od, .func (PySem.W.fnOf x qual (a4o st) (jh st) (aq st) .none kV doc pm an cdv ct),osl⟩)
  (c:PySem.W.codeIn K cdv qual=true) (k:PySem.W.keepIn K (.ref f)=true):Fun K x qual st f (PySem.W.fnOf x qual (a4o st) (jh st) (aq st) .none kV doc pm an cdv ct):=⟨⟨oc,od,kV,doc,pm,an,cdv,ct,osl,rfl,l,c⟩,k⟩
end
def Same(H H':Hp):Prop:=∀ b o,H b=some o->H' b=some o
theorem Same.seq{K:PySem.W.Frag}{H H':Hp}{a:Addr}{xs:List V}(e:Same H H')(h:SqL K H a xs):SqL K H' a xs:=by
 rcases h with (h | ⟨o,h⟩) | h
 ·exact .inl (.inl (e _ _ h))
 ·exact .inl (.inr ⟨o,e _ _ h⟩)
 ·exact .inr h
section
variable{κ:Type}[DecidableEq κ]
def ach(kvs:List (κ × V))(k:κ):Option V:=(kvs.find? λkv=>decide (kv.1=k)).map (·.2)
def putK(kvs:List (κ × V))(k:κ)(v:V):List (κ × V) :=
 if (kvs.any λkv=>decide (kv.1=k))=true then kvs.map (λkv=>if kv.1=k then (kv.1,v) else kv) else kvs++[(k,v)]
theorem a7u{p:κ × V}{r:List (κ × V)}{k:κ}(e:p.1=k):ach (p::r) k=some p.2:=by simp [ach,List.find?_cons,e]
theorem a7v{p:κ × V}{r:List (κ × V)}{k:κ}(e:¬ p.1=k):ach (p::r) k=ach r k:=by simp [ach,List.find?_cons,e]
theorem aci(k:κ):∀ kvs:List (κ × V),(kvs.any λkv=>decide (kv.1=k))=(ach kvs k).isSome
 | []=>rfl
 | p::r=>by
  rw [List.any_cons]
  by_cases e:p.1=k
  ·simp only [a7u e,decide_eq_true e,Bool.true_or,Option.isSome_some]
  ·rw [a7v e,decide_eq_false e,Bool.false_or];exact aci k r
theorem a3d(kvs:List (κ × V))(k:κ)(v:V):(putK kvs k v).length<=kvs.length+1:=by
 unfold putK
 split
 ·rw [List.length_map];omega
 ·rw [List.length_append,List.length_cons,List.length_nil];omega
theorem RelO.isSome_eq{o:Option V}{u:Option Value}(r:RelO o u):o.isSome=u.isSome:=by
 cases o with
 | none=>cases u with
  | none=>rfl
  | some _=>exact (show False from r).elim
 | some _=>cases u with
  | none=>exact (show False from r).elim
  | some _=>rfl
theorem RelO.getD{o:Option V}{u:Option Value}{d:V}{d':Value}(r:RelO o u)(rd:RelV d d'):RelV (o.getD d) (u.getD d'):=by
 cases o with
 | none=>cases u with
  | none=>exact rd
  | some _=>exact (show False from r).elim
 | some _=>cases u with
  | none=>exact (show False from r).elim
  | some _=>exact r
theorem KV.val{kvs:List (κ × V)}{vs:List (κ × Value)}(r:KV kvs vs)(k:κ):RelO (ach kvs k) (valueAt vs k):=by
 unfold KV at r
 induction r with
 | nil=>exact True.intro
 | @cons p q ps qs h t ih =>
  obtain ⟨h1,h2⟩:=h
  by_cases e:p.1=k
  ·have e':q.1=k:=h1.symm.trans e;have b:valueAt (q::qs) k=some q.2:=by simp [valueAt,List.find?_cons,e']
   rw [a7u e,b];exact h2
  ·have e':¬ q.1=k:=λz=>e (h1.trans z);have b:valueAt (q::qs) k=valueAt qs k:=by simp [valueAt,List.find?_cons,e']
   rw [a7v e,b];exact ih
theorem KV.any{kvs:List (κ × V)}{vs:List (κ × Value)}(r:KV kvs vs)(k:κ):(kvs.any λkv=>decide (kv.1=k))=vs.any λkv=>decide (kv.1=k):=by
 unfold KV at r
 induction r with
 | nil=>rfl
 | cons h t ih=>rw [List.any_cons,List.any_cons,ih,h.1]
theorem KV.repl{kvs:List (κ × V)}{vs:List (κ × Value)}(r:KV kvs vs)(k:κ){y:V}{u:Value}(ry:RelV y u) :
  KV (kvs.map λkv=>if kv.1=k then (kv.1,y) else kv) (vs.map λkv=>if kv.1=k then (kv.1,u) else kv):=by
 unfold KV at r ⊢
 induction r with
 | nil=>exact .nil
 | @cons p q ps qs h t ih =>
  rw [List.map_cons,List.map_cons];refine .cons ?_ ih;obtain ⟨h1,h2⟩:=h
  by_cases e:p.1=k
  ·rw [if_pos e,if_pos (h1.symm.trans e)];exact ⟨h1,ry⟩
  ·rw [if_neg e,if_neg (λz=>e (h1.trans z))];exact ⟨h1,h2⟩
theorem KV.put{kvs:List (κ × V)}{vs:List (κ × Value)}(r:KV kvs vs)(k:κ){y:V}{u:Value}(ry:RelV y u):KV (putK kvs k y) (stored vs k u):=by
 unfold putK stored;rw [r.any k]
 by_cases e:(vs.any λkv=>decide (kv.1=k))=true
 ·rw [if_pos e,if_pos e];exact r.repl k ry
 ·rw [if_neg e,if_neg e];exact Paired.snoc r ⟨rfl,ry⟩
theorem KV.length{kvs:List (κ × V)}{vs:List (κ × Value)}(r:KV kvs vs):kvs.length=vs.length:=Paired.length r
end
theorem ab9{P:Program}{w:World}{k:Key}{u:Value}(r:RelV (kV k) u):(km P w).is k u=true:=by
 cases k with
 | inl i=>obtain ⟨t,e⟩:=(show ∃ t,u=Value.int i t from r);subst e;exact ab3 P w i t
 | inr x=>obtain ⟨t,e⟩:=(show ∃ t,u=Value.str x t from r);subst e;exact ab4 P w x t
theorem a9q{P:Program}{w:World}:∀ {ks:List Key} {us:List Value},Vals (ks.map kV) us->ItemsAre (km P w) ks us
 | [],_,r=>by rw [List.map_nil] at r;cases r;exact .nil
 | k::ks,_,r=>by
  rw [List.map_cons] at r
  cases r with
  | cons h t=>exact .cons (ab9 h) (a9q t)
abbrev KT(H:Hp):List (List Key × V)->List (List Key × Addr × Value)->Prop:=Paired λp q=>p.1=q.1/\H q.2.1=some (.tup (p.1.map kV))/\RelV p.2 q.2.2
theorem KT.val{H:Hp}{kvs:List (List Key × V)}{xs:List (List Key × Addr × Value)}(r:KT H kvs xs)(k:List Key):RelO (ach kvs k) ((atKey xs k).map (·.2)):=by
 induction r with
 | nil=>exact True.intro
 | @cons p q ps qs h t ih =>
  obtain ⟨h1,_,h2⟩:=h
  by_cases e:p.1=k
  ·have e':q.1=k:=h1.symm.trans e;have b:atKey (q::qs) k=some q.2:=by simp [atKey,List.find?_cons,e']
   rw [a7u e,b];exact h2
  ·have e':¬ q.1=k:=λz=>e (h1.trans z);have b:atKey (q::qs) k=atKey qs k:=by simp [atKey,List.find?_cons,e']
   rw [a7v e,b];exact ih
theorem KT.repl{H:Hp}{kvs:List (List Key × V)}{xs:List (List Key × Addr × Value)}(r:KT H kvs xs)(k:List Key){y:V}{u:Value}(ry:RelV y u) :
  KT H (kvs.map λkv=>if kv.1=k then (kv.1,y) else kv) (xs.map (putAt k u)):=by
 induction r with
 | nil=>exact .nil
 | @cons p q ps qs h t ih =>
  rw [List.map_cons,List.map_cons];refine .cons ?_ ih;obtain ⟨h1,h2,h3⟩:=h;unfold putAt
  by_cases e:p.1=k
  ·rw [if_pos e,if_pos (h1.symm.trans e)];exact ⟨h1,h2,ry⟩
  ·rw [if_neg e,if_neg (λz=>e (h1.trans z))];exact ⟨h1,h2,h3⟩
theorem KT.put{H:Hp}{kvs:List (List Key × V)}{xs:List (List Key × Addr × Value)}(r:KT H kvs xs)(k:List Key){b:Addr}{y:V}{u:Value}(hb:H b=some (.tup (k.map kV)))(ry:RelV y u) :
  KT H (putK kvs k y) (storedH xs k b u):=by
 have e:(kvs.any λkv=>decide (kv.1=k))=(atKey xs k).isSome:=by
  rw [aci,(r.val k).isSome_eq,Option.isSome_map]
 unfold putK storedH;rw [e]
 by_cases q:(atKey xs k).isSome=true
 ·rw [if_pos q,if_pos q];exact r.repl k ry
 ·rw [if_neg q,if_neg q];exact Paired.snoc r ⟨rfl,hb,ry⟩
theorem KT.keeps{H H':Hp}{kvs:List (List Key × V)}{xs:List (List Key × Addr × Value)}(r:KT H kvs xs)(ht:∀ b ys,H b=some (.tup ys)->H' b=some (.tup ys)):KT H' kvs xs :=
 Paired.mapP r λ_ _ z=>⟨z.1,ht _ _ z.2.1,z.2.2⟩
section
variable{P:Program}{w:World}{H:Hp}{h:Heap}{a:Addr}
theorem asy{u:HO}(ok:HOk P w H h)(e:Rd H a u):ObjOk P w H h a u:=e.ok ok
theorem aba{kvs:List (Key × V)}(ok:HOk P w H h)(e:Rd H a (.dK kvs)):kvs.length<=sizeLine/\(a == sysModules)=false/\∃ vs,KV kvs vs/\h.DictOf (km P w) a vs :=
 show ObjOk P w H h a (.dK kvs) from asy ok e
theorem asz{kvs:List (Key × V)}(ok:HOk P w H h)(e:H a=some (.dK kvs)):kvs.length<=sizeLine/\(a == sysModules)=false/\∃ vs,KV kvs vs/\h.DictOf (km P w) a vs:=aba ok (.inl e)
theorem a74{ks:List Key}(ok:HOk P w H h)(e:H a=some (.tup (ks.map kV))):(tupleKind (km P w)).is h ks a:=by
 obtain ⟨_,its,r,o,h1,h2,n,h3⟩:=(show ObjOk P w H h a (.tup (ks.map kV)) from ok a _ e)
 exact ⟨o,its.toArray,n,h1,h2,h3,by simpa using a9q r⟩
theorem abb{kvs:List (List Key × V)}(ok:HOk P w H h)(e:Rd H a (.dT kvs)):kvs.length<=sizeLine/\(a == sysModules)=false /\
  ∃ xs,KT H kvs xs/\h.DictOfH (tupleKind (km P w)) a xs:=by
 obtain ⟨z,y,xs,r,o,es,ep,h1,h2,h3,h4,h5⟩:=(show ObjOk P w H h a (.dT kvs) from asy ok e)
 refine ⟨z,y,xs,r,o,es,ep,h1,h2,h3,h4,λx hx=>?_,h5⟩;have all:∀ {l:List (List Key × V)} {m:List (List Key × Addr × Value)},KT H l m->∀ x∈m,(tupleKind (km P w)).is h x.1 x.2.1:=by
  intro l m q
  induction q with
  | nil=>intro x hx;exact nomatch hx
  | @cons p q ps qs hq t ih =>
   intro x hx
   rcases List.mem_cons.mp hx with e | hx
   ·subst e;exact a74 ok (by rw [<-hq.1];exact hq.2.1)
   ·exact ih x hx
 exact all r x hx
theorem ax1{kvs:List (List Key × V)}(ok:HOk P w H h)(e:H a=some (.dT kvs)):kvs.length<=sizeLine/\(a == sysModules)=false /\
  ∃ xs,KT H kvs xs/\h.DictOfH (tupleKind (km P w)) a xs:=abb ok (.inl e)
end
def ag8(H:Hp)(a:Addr)(y:V)(r:Option V):Prop :=
 (∃ kvs k,Rd H a (.dK kvs)/\y=kV k/\r=ach kvs k)\/∃ kvs k b,Rd H a (.dT kvs)/\y = .ref b/\H b=some (.tup (k.map kV))/\r=ach kvs k
def ax2(H:Hp)(a:Addr)(y v:V)(H':Hp):Prop :=
 (∃ kvs k,H a=some (.dK kvs)/\y=kV k/\kvs.length<sizeLine/\H'=upd H a (.dK (putK kvs k v))) \/
 ∃ kvs k b,H a=some (.dT kvs)/\y = .ref b/\H b=some (.tup (k.map kV))/\kvs.length<sizeLine/\H'=upd H a (.dT (putK kvs k v))
section
variable{X:Cx}{pins:List (Addr × Obj)}{σ:St}{H:Hp}{s:Shared}{a:Addr}{y v:V}{u r:Value}{o:Option V}{A:Around}{E:Value->Shared->Prop}
theorem Inv.big(I:Inv X pins σ H s):sysModules<s.heap.objs.size:=by
 have h:mainGlobals<s.heap.objs.size:=(I.mod.glob.keeps I.bk).lt;exact Nat.lt_trans (by decide) h
theorem ag9{Q:Value->Shared->Prop}(hu:A.units+1<cLine)(I:Inv X pins σ H s)(g:ag8 H a y (some v))(ry:RelV y u)(h:∀ w' s',Inv X pins σ H s'->RelV v w'->Q w' s') :
  wpAny (model X.prog X.w) A (getItem (.ref a) u) Q E s:=by
 rcases g with ⟨kvs,k,e,ey,l⟩ | ⟨kvs,k,b,e,ey,eb,l⟩
 ·subst ey;obtain ⟨z,hd,vs,rel,dd⟩:=aba I.hok e;obtain ⟨w',hw,rw'⟩:=RelO.some_of (v:=v) (o:=valueAt vs k) (by rw [l];exact rel.val k)
  exact wpAny_getItem_of (ab9 ry) dd.mapOf hw (h w' _ (I.tok _) rw')
 ·subst ey
  cases (show u=Value.ref b from ry)
  obtain ⟨z,hd,xs,rel,dd⟩:=abb I.hok e;obtain ⟨w',hw,rw'⟩:=RelO.some_of (v:=v) (o:=(atKey xs k).map (·.2)) (by rw [l];exact rel.val k)
  obtain ⟨p,hp,hp2⟩:=Option.map_eq_some_iff.mp hw;refine wpAny_getItem_heap (tupleKind_room_in1 hu) (a74 I.hok eb) dd hp ?_;rw [hp2];exact h w' _ (I.tok _) rw'
theorem azi{Q:Value->Shared->Prop}(hu:A.units+1<cLine)(I:Inv X pins σ H s)(g:ag8 H a y o)(ry:RelV y u)(h:∀ s',Inv X pins σ H s'->Q (.bool o.isSome) s') :
  wpAny (model X.prog X.w) A (compareOp .In u (.ref a)) Q E s:=by
 rcases g with ⟨kvs,k,e,ey,l⟩ | ⟨kvs,k,b,e,ey,eb,l⟩
 ·subst ey;obtain ⟨z,hd,vs,rel,dd⟩:=aba I.hok e;refine wpAny_in_of (ab9 ry) hd dd.mapOf ?_;rw [<-(rel.val k).isSome_eq,<-l];exact h _ (I.tok _)
 ·subst ey
  cases (show u=Value.ref b from ry)
  obtain ⟨z,hd,xs,rel,dd⟩:=abb I.hok e;refine wpAny_in_heap (tupleKind_room_in1 hu) (a74 I.hok eb) hd dd ?_;have q:=(rel.val k).isSome_eq;rw [Option.isSome_map] at q;rw [<-q,<-l];exact h _ (I.tok _)
theorem aom{Q:Value->Shared->Prop}(hu:A.units+1<cLine)(I:Inv X pins σ H s)(g:ag8 H a y o)(ry:RelV y u)(h:∀ s',Inv X pins σ H s'->Q (.bool (!o.isSome)) s') :
  wpAny (model X.prog X.w) A (compareOp .NotIn u (.ref a)) Q E s:=by
 rcases g with ⟨kvs,k,e,ey,l⟩ | ⟨kvs,k,b,e,ey,eb,l⟩
 ·subst ey;obtain ⟨z,hd,vs,rel,dd⟩:=aba I.hok e;refine wpAny_notIn_of (ab9 ry) hd dd.mapOf ?_;rw [<-(rel.val k).isSome_eq,<-l];exact h _ (I.tok _)
 ·subst ey
  cases (show u=Value.ref b from ry)
  obtain ⟨z,hd,xs,rel,dd⟩:=abb I.hok e;refine wpAny_notIn_heap (tupleKind_room_in1 hu) (a74 I.hok eb) hd dd ?_;have q:=(rel.val k).isSome_eq;rw [Option.isSome_map] at q;rw [<-q,<-l];exact h _ (I.tok _)
theorem abd{h':Heap}{t':Nat}{ob:HO}(I:Inv X pins σ H s)(mu:Mut (H a))(hs:Heap.SameBut a s.heap h')(he:∃ q,h'.get? a=some q)(new:ObjOk X.prog X.w (upd H a ob) h' a ob) :
  Inv X pins σ (upd H a ob) { s with heap:=h',toks:=t' } :=
 I.write (x:=a) (e:=a) mu (.inl rfl) (λb q hb z=>(hs.2 b hb).trans z) he new
theorem amb{P:Program}{w:World}{H':Hp}{h':Heap}{kvs:List (Key × V)}{vs:List (Key × Value)}(z:kvs.length<=sizeLine)(hd:(a == sysModules)=false)(rel:KV kvs vs)(dd:h'.DictOf (km P w) a vs) :
  ObjOk P w H' h' a (.dK kvs):=⟨z,hd,vs,rel,dd⟩
theorem aga{H':Hp}{Q:Unit->Shared->Prop}(hu:A.units+1<cLine)(I:Inv X pins σ H s)(g:ax2 H a y v H')(ry:RelV y u)(rv:RelV v r)(h:∀ s',Inv X pins σ H' s'->Q () s') :
  wpAny (model X.prog X.w) A (setItem (.ref a) u r) Q E s:=by
 rcases g with ⟨kvs,k,e,ey,l,eH⟩ | ⟨kvs,k,b,e,ey,eb,l,eH⟩
 ·subst ey eH;obtain ⟨z,hd,vs,rel,dd⟩:=asz I.hok e;have hz:vs.length<=sizeLine:=by rw [<-rel.length];exact z
  have hl:(putK kvs k v).length<=sizeLine:=by have:=a3d kvs k v;omega
  refine wpAny_setItem_pairs (hsz:=hz) (ab9 ry) dd λh' dd' hs=>h _ ?_;have he:∃ q,h'.get? a=some q:=let ⟨q,_,_,hq,_⟩:=dd'; ⟨q,hq⟩;exact abd I (by rw [e];exact True.intro) hs he (amb hl hd (rel.put k rv) dd')
 ·subst ey eH
  cases (show u=Value.ref b from ry)
  obtain ⟨z,hd,xs,rel,dd⟩:=ax1 I.hok e;have hz:xs.length<=sizeLine:=by rw [<-Paired.length rel];exact z
  have hl:(putK kvs k v).length<=sizeLine:=by have:=a3d kvs k v;omega
  refine wpAny_setItem_heap (hsz:=hz) (tupleKind_room_in1 hu) (a74 I.hok eb) dd λh' dd' hs=>h _ ?_;obtain ⟨q,es,ep,hq,h2,h3,h4,_,h5⟩:=dd';refine abd I (by rw [e];exact True.intro) hs ⟨q,hq⟩ ⟨hl,hd,_,(rel.put k eb rv).keeps λc ys ec=>?_,q,es,ep,hq,h2,h3,h4,h5⟩
  rw [jf (awc ec e (λz=>nomatch z))];exact ec
end
def ax3(i:Expr):Prop:=∀ ov iv,subscripted i false ov iv=operate [ov,iv] (getItem ov iv)
theorem aon{prog:Program}{w:World}{A:Around}{E:Value->Shared->Prop}{s:Shared}{env:Env}{value slice:Expr}{pos:Pos}{T id:String}{Q:Value->Shared->Prop}
  (hl:typeLookup (.type T) "__getitem__" = pure (some (.builtin id))) (hs:ax3 slice)
  (h:wpAny (model prog w) A (eval value env) (λo s₁=>wpAny (model prog w) A (eval slice env) (λi s₂=>s₂.TypeIs o T/\wpAny (model prog w) A (getItem o i) Q E s₂) E s₁) E s) :
  wpAny (model prog w) A (eval (.Subscript value slice pos) env) Q E s:=by
 refine Subscript_ (wpAny_mono h (λo s₁ h₁=>wpAny_mono h₁ (λi s₂ h₂=>?_) λ_ _ x=>x) λ_ _ x=>x);obtain ⟨hT,h₂⟩:=h₂;unfold subscriptTail;refine wpAny_bind ?_;rw [getitemInPython_of_ne hT.not_modules];refine wpAny_bind (wpAny_specialOf hT hl ?_);have fin:wpAny (model prog w) A (subscripted slice false o i) (λr s₃=>wpAny (model prog w) A (letTemporaryGo value o r>>=λ_=>pure r) Q E s₃) E s₂:=by
  rw [hs o i];exact wpAny_operating (wpAny_mono h₂ (λr s₃ h₃=>wpAny_bind (wpAny_letTemporaryGo (wpAny_pure h₃))) λ_ _ x=>x)
 first
  | exact wpAny_pure (wpAny_bind fin)
  | exact wpAny_bind (wpAny_pure (wpAny_bind fin))
  | exact wpAny_bind fin
theorem abe{X:Cx}{pins:List (Addr × Obj)}{σ:St}{H:Hp}{s:Shared}{a:Addr}{y:V}{o:Option V}(I:Inv X pins σ H s)(g:ag8 H a y o):s.TypeIs (.ref a) "dict":=by
 rcases g with ⟨kvs,k,e,_,_⟩ | ⟨kvs,k,b,e,_,_,_⟩
 ·obtain ⟨_,_,vs,_,dd⟩:=aba I.hok e;exact dd.typeIs
 ·obtain ⟨_,_,xs,_,dd⟩:=abb I.hok e;exact dd.typeIs
def ax4(td ty:TE):TE:=λσ H Q=>td σ H λx H1=>ty σ H1 λy H2=>∃ a v,x = .ref a/\ag8 H2 a y (some v)/\Q v H2
def ax5(td ty tv:TE):TS:=λD σ H=>tv σ H λv H1=>td σ H1 λx H2=>ty σ H2 λy H3=>∃ a H4,x = .ref a/\ax2 H3 a y v H4/\D.nx σ H4
section
variable{X:Cx}{o i e value:Expr}{pos pos' tpos:Pos}{td ty tv:TE}
theorem aoo(hu:X.A.units+1<cLine)(ho:PE X o td)(hi:PE X i ty)(hs:ax3 i):PE X (.Subscript o i pos) (ax4 td ty):=by
 intro pins s σ H Q I h
 refine aon PySem.F.slot_dict_getitem.lookup hs (thn (ho pins s σ H _ I h) λu s1 ⟨x,H1,I1,rx,q1⟩=>thn (hi pins s1 σ H1 _ I1 q1) λiv s2 ⟨y,H2,I2,ry,a,v,ex,g,q2⟩=>?_);subst ex;obtain rfl:u=Value.ref a:=rx;exact ⟨abe I2 g,ag9 hu I2 g ry λw' s3 I3 rw'=>⟨v,H2,I3,rw',q2⟩⟩
theorem aop(hu:X.A.units+1<cLine)(ho:PE X o td)(hi:PE X i ty)(hv:PE X value tv)(hs:swapsWith value (some (.Subscript o i pos')) pos.line X.env=pure false) :
  PS X (.Assign [.Subscript o i pos'] value pos) (ax5 td ty tv):=by
 intro pins s σ H D I h
 refine wpAny_Assign_Subscript (thn (hv pins s σ H _ I h) λr s1 ⟨v,H1,I1,rv,q1⟩=>thn (ho pins s1 σ H1 _ I1 q1) λu s2 ⟨x,H2,I2,rx,q2⟩=>thn (hi pins s2 σ H2 _ I2 q2) λiv s3 ⟨y,H3,I3,ry,a,H4,ex,g,q3⟩=>?_) hs;subst ex;obtain rfl:u=Value.ref a:=rx;exact aga hu I3 g ry rv λs4 I4=>⟨σ,H4,I4,q3⟩
end
theorem acj{P:Program}{w:World}{H:Hp}(h:Heap)(hb:sysModules<h.objs.size):ObjOk P w H (h.push { cls:=.type "dict",data:=.dict #[] }) h.objs.size (.dK []) :=
 ⟨Nat.zero_le _,beq_eq_false_iff_ne.mpr (Ne.symm (Nat.ne_of_lt hb)),[], .nil,Heap.DictOf.new h⟩
def at5:TE:=λ_ H Q=>∀ p,H p=none->Q (.ref p) (upd H p (.dK []))
section
variable{X:Cx}{pos:Pos}
theorem ajs:PE X (.Dict [] [] pos) at5:=λpins s σ H Q I h =>
 wpAny_Dict_empty ⟨.ref s.heap.objs.size,_,I.laid (a:=s.heap.objs.size) (o:=.dK []) (t':=s.toks) (λ_ _ q=>Heap.get?_push_of_some _ q) (Nat.le_refl _) (acj s.heap I.big),rfl,h _ (I.hok.fresh (Nat.le_refl _))⟩
end
def agb:List (TE × TE)->St->Hp->(List (V × V)->Hp->Prop)->Prop
 | [],_,H,Q=>Q [] H
 | (tk,tv)::r,σ,H,Q=>tk σ H λx H1=>tv σ H1 λy H2=>agb r σ H2 λps H3=>Q ((x,y)::ps) H3
abbrev VV:List (V × V)->List (Value × Value)->Prop:=Paired λp q=>RelV p.1 q.1/\RelV p.2 q.2
def PPs(X:Cx)(pos:Pos)(keys:List (Option Expr))(values:List Expr)(trs:List (TE × TE)):Prop :=
 ∀ (pins:List (Addr × Obj)) (s:Shared) (σ:St) (H:Hp) (Q:List (V × V)->Hp->Prop),Inv X pins σ H s->agb trs σ H Q->
  wpAny (model X.prog X.w) X.A (evalPairs (pairTrees keys values X.env pos)) (λvs s'=>∃ ps H',Inv X pins σ H' s'/\VV ps vs/\Q ps H') X.xe s
theorem aoq{X:Cx}{pos:Pos}:PPs X pos [] [] []:=λpins s σ H Q I h=>pairTrees_nil_walk ⟨[],H,I, .nil,h⟩
theorem ajt{X:Cx}{pos:Pos}{k v:Expr}{ks:List (Option Expr)}{vs:List Expr}{tk tv:TE}{trs:List (TE × TE)}(hk:PE X k tk)(hv:PE X v tv)(hr:PPs X pos ks vs trs) :
  PPs X pos (some k::ks) (v::vs) ((tk,tv)::trs):=λpins s σ H Q I h =>
 pairTrees_cons_walk (thn (hk pins s σ H _ I h) λu s1 ⟨x,H1,I1,rx,q1⟩=>thn (hv pins s1 σ H1 _ I1 q1) λw2 s2 ⟨y,H2,I2,ry,q2⟩ =>
  thn (hr pins s2 σ H2 _ I2 q2) λws s3 ⟨ps,H3,I3,rel,q3⟩=>⟨(x,y)::ps,H3,I3, .cons ⟨rx,ry⟩ rel,q3⟩)
def a9r(kvs more:List (Key × V)):List (Key × V):=more.foldl (λacc kv=>putK acc kv.1 kv.2) kvs
theorem KV.merge:∀ {more:List (Key × V)} {rs:List (Key × Value)} {kvs:List (Key × V)} {vs:List (Key × Value)},KV more rs->KV kvs vs->KV (a9r kvs more) (merged vs rs):=by
 intro more rs kvs vs r
 unfold KV at r
 induction r generalizing kvs vs with
 | nil=>intro q;exact q
 | @cons p q ps qs h t ih =>
  intro r0
  have e:KV (putK kvs p.1 p.2) (stored vs q.1 q.2):=by
   have:=r0.put p.1 h.2
   rw [<-h.1];exact this
  exact ih e
theorem a3r:∀ (more kvs:List (Key × V)),(a9r kvs more).length<=kvs.length+more.length
 | [],kvs=>by show kvs.length<=kvs.length+0;omega
 | p::r,kvs=>by
  have h1:=a3r r (putK kvs p.1 p.2);have h2:=a3d kvs p.1 p.2;show (a9r (putK kvs p.1 p.2) r).length<=_;rw [List.length_cons];omega
theorem a75{P:Program}{w:World}:∀ {kvs:List (Key × V)} {ws:List (Value × Value)},VV (kvs.map λkv=>(kV kv.1,kv.2)) ws->∃ rs,Carries (km P w) ws rs/\KV kvs rs
 | [],_,r=>by rw [List.map_nil] at r;cases r;exact ⟨[],True.intro, .nil⟩
 | p::kvs,_,r=>by
  rw [List.map_cons] at r
  cases r with
  | @cons a b as bs h t =>
   obtain ⟨rs,c,q⟩:=a75 (P:=P) (w:=w) t;obtain ⟨b1,b2⟩:=b;exact ⟨(p.1,b2)::rs,⟨ab9 h.1,rfl,c⟩, .cons ⟨rfl,h.2⟩ q⟩
def ax6(trs:List (TE × TE)):TE:=λσ H Q=>∀ p,H p=none->agb trs σ (upd H p (.dK [])) λps H2=>H2 p=some (.dK [])/\∃ kvs:List (Key × V),ps=kvs.map (λkv=>(kV kv.1,kv.2))/\kvs.length<=15/\Q (.ref p) (upd H2 p (.dK (a9r [] kvs)))
theorem aor{X:Cx}{pos:Pos}{keys:List (Option Expr)}{values:List Expr}{trs:List (TE × TE)}(h:PPs X pos keys values trs)(hall:keys.all (·.isSome)=true)(hl:keys.length=values.length)(h0:keys≠[])
  (h15:keys.length<=15):PE X (.Dict keys values pos) (ax6 trs):=by
 intro pins s σ H Q I q
 have hn:=I.hok.fresh (Nat.le_refl s.heap.objs.size);have I1:=I.laid (a:=s.heap.objs.size) (o:=.dK []) (h':=s.heap.push { cls:=.type "dict",data:=.dict #[] }) (t':=s.toks) (λ_ _ q=>Heap.get?_push_of_some _ q) (Nat.le_refl _) (acj s.heap I.big);refine wpAny_Dict_walk (knd:=km X.prog X.w) hall hl h0 h15 (thn (h pins _ σ _ _ I1 (q _ hn)) λws s2 ⟨ps,H2,I2,rel,e,kvs,ep,lk,q2⟩=>?_);subst ep;obtain ⟨rs,c,rk⟩:=a75 (P:=X.prog) (w:=X.w) rel;obtain ⟨z,hd,vs0,r0,dd⟩:=asz I2.hok e;cases r0
 refine ⟨rs,c,dd,λh' dd' hs=>⟨.ref s.heap.objs.size,_,?_,rfl,q2⟩⟩;have hz:(a9r [] kvs).length<=sizeLine:=by
  have h1:=a3r kvs [];rw [List.length_nil] at h1;rw [sizeLine_eq];omega
 have he:∃ q,h'.get? s.heap.objs.size=some q:=let ⟨q,_,_,hq,_⟩:=dd'; ⟨q,hq⟩;exact abd I2 (by rw [e];exact True.intro) hs he (amb hz hd (rk.merge .nil) dd')
structure M1 (X:Cx) (o:Expr) (m:Str) (apos:Pos) (e:Expr) (cpos:Pos):Prop where
 base:attributeBase o m X.env (eval o X.env)=eval o X.env
 few:((backTo cpos (starEach [e] X.env)).all (λx => !x.1) && (backToKw cpos (keywordEach [] X.env)).all (λx=>x.1.isSome)
  && decide (([e]:List Expr).length+([]:List Keyword).length+(if ([]:List Keyword).isEmpty then 0 else 1)<30))=true
 line:(apos.endLine == cpos.line)=true
 trees:backTo cpos (starEach [e] X.env)=[(false,eval e X.env)]
def IsD(H:Hp)(a:Addr):Prop:=(∃ kvs,Rd H a (.dK kvs))\/∃ kvs,Rd H a (.dT kvs)
theorem amc{X:Cx}{pins:List (Addr × Obj)}{σ:St}{H:Hp}{s:Shared}{a:Addr}(I:Inv X pins σ H s)(d:IsD H a) :
  s.TypeIs (.ref a) "dict"/\(∀ b,Value.ref a = .ref b->∃ ob,s.heap.get? b=some ob/\ob.dict=none)/\(a == sysModules)=false:=by
 rcases d with ⟨kvs,e⟩ | ⟨kvs,e⟩
 ·obtain ⟨_,hd,vs,_,dd⟩:=aba I.hok e;refine ⟨dd.typeIs,λb q=>?_,hd⟩;cases q
  obtain ⟨ob,_,_,h1,h2,_⟩:=dd;exact ⟨ob,h1,h2.2.1⟩
 ·obtain ⟨_,hd,xs,_,dd⟩:=abb I.hok e;refine ⟨dd.typeIs,λb q=>?_,hd⟩;cases q
  obtain ⟨ob,_,_,h1,h2,_⟩:=dd;exact ⟨ob,h1,h2.2.1⟩
section
variable{X:Cx}{pins:List (Addr × Obj)}{σ:St}{H:Hp}{s:Shared}{a:Addr}{y d:V}{u r:Value}{o:Option V}{A:Around}{E:Value->Shared->Prop}
theorem at6{Q:Value->Shared->Prop}(hu:A.units+1<cLine)(I:Inv X pins σ H s)(g:ag8 H a y o)(ry:RelV y u)(h:∀ w' s',Inv X pins σ H s'->RelV (o.getD .non) w'->Q w' s') :
  wpAny (model X.prog X.w) A (call (.builtin "dict.get") [.ref a,u]) Q E s:=by
 rcases g with ⟨kvs,k,e,ey,l⟩ | ⟨kvs,k,b,e,ey,eb,l⟩
 ·subst ey;obtain ⟨z,hd,vs,rel,dd⟩:=aba I.hok e;refine call_meetsIn PySem.F.slot_dict_get dd.typeIs PySem.F.entry_dict_get (PySem.F.args_dict_get_2 _ _) (meets_dict_get (km X.prog X.w) a (ab9 ry) hd) ⟨_,dd.mapOf,h _ _ (I.tok _) ?_⟩;rw [l];exact (rel.val k).getD rfl
 ·subst ey
  cases (show u=Value.ref b from ry)
  obtain ⟨z,hd,xs,rel,dd⟩:=abb I.hok e;refine call_meetsIn PySem.F.slot_dict_get dd.typeIs PySem.F.entry_dict_get (PySem.F.args_dict_get_2 _ _) (meetsH_dict_get (tupleKind (km X.prog X.w)) a b hd) ⟨tupleKind_room_in1 hu,k,xs,a74 I.hok eb,dd,h _ _ (I.tok _) ?_⟩;rw [l];exact (rel.val k).getD rfl
end
def at7(td ty:TE):TE:=λσ H Q=>td σ H λx H1=>∃ a,x = .ref a/\IsD H1 a/\ty σ H1 λy H2=>∃ o,ag8 H2 a y o/\Q (o.getD .non) H2
section
variable{X:Cx}{o e f:Expr}{apos cpos:Pos}{td ty tx:TE}
theorem aju(hu:X.A.units+1<cLine)(ho:PE X o td)(he:PE X e ty)(m:M1 X o "get" apos e cpos):PE X (.Call (.Attribute o "get" apos) [e] [] cpos) (at7 td ty):=by
 intro pins s σ H Q I h
 refine wpAny_Call_method m.base m.few m.line PySem.F.plainAttrs_dict PySem.F.slot_dict_get PySem.F.type_dict_get (thn (ho pins s σ H _ I h) λu s1 ⟨x,H1,I1,rx,a,ex,d,q1⟩=>?_);subst ex;obtain rfl:u=Value.ref a:=rx;obtain ⟨t1,t2,_⟩:=amc I1 d;refine ⟨t1,t2,?_⟩;rw [m.trees];refine Calls.callWith_builtin rfl (Calls.evalArgs_plain (Calls.spliced_cons (thn (he pins s1 σ H1 _ I1 q1) λiv s2 ⟨y,H2,I2,ry,ov,g,q2⟩=>Calls.spliced_nil ?_)));exact at6 hu I2 g ry λw' s3 I3 rw'=>⟨_,H2,I3,rw',q2⟩
end
end L2
set_option maxHeartbeats 4000000
namespace L2
open PySem PySem.Spec PyProof.Rows
section
variable{X:Cx}
theorem a7w:OpR X (compareOp .Is) (λx y H Q=>∃ i j,x = .bl i/\y = .bl j/\Q (.bl (i == j)) H):=by
 intro pins s σ H x y v u Q I rx ry h
 obtain ⟨i,j,rfl,rfl,q⟩:=h;cases rx
 cases ry
 exact is_bool (a4z I q rfl)
theorem a3e:OpR X (compareOp .IsNot) (λx y H Q=>∃ i j,x = .bl i/\y = .bl j/\Q (.bl (i != j)) H):=by
 intro pins s σ H x y v u Q I rx ry h
 obtain ⟨i,j,rfl,rfl,q⟩:=h;cases rx
 cases ry
 exact isnot_bool (a4z I q rfl)
theorem a9s:OpR X (compareOp .LtE) (λx y H Q=>∃ i j,x = .str i/\y = .str j/\Q (.bl (!decide (j.cps.toList<i.cps.toList))) H):=by
 intro pins s σ H x y v u Q I rx ry h
 obtain ⟨i,j,rfl,rfl,q⟩:=h;obtain ⟨t,rfl⟩:=rx;obtain ⟨t',rfl⟩:=ry;exact PySem.P.le_str (a4z I q rfl)
def a76{α:Type}(xs:List α)(lo hi:Option Int):List α:=(xs.drop (HT.sIx xs.length 0 lo)).take (HT.sIx xs.length xs.length hi - HT.sIx xs.length 0 lo)
def ax7:V->Option Int->Option Int->Hp->VK->Prop:=λx lo hi H Q=>∃ z,x = .str z/\z.length<=sizeLine/\Q (.str ⟨(a76 z.cps.toList lo hi).toArray⟩) H
theorem at8(lo hi:Option Int)(n:Nat):Builtin.Str.strSliceIndices lo hi 1 n=(List.range (HT.sIx n n hi - HT.sIx n 0 lo)).map λk=>HT.sIx n 0 lo+k:=by
 have e1:Builtin.Str.strSliceIndices lo hi 1 n=sliceRange ((HT.sIx n 0 lo:Nat):Int) ((HT.sIx n n hi:Nat):Int) 1:=by
  unfold Builtin.Str.strSliceIndices;dsimp only
  congr 1
  ·cases lo with
   | none=>simp [HT.sIx]
   | some i=>simp only [HT.sIx,show (1:Int) > 0 by decide,if_true];split<;>omega
  ·cases hi with
   | none=>simp [HT.sIx]
   | some i=>simp only [HT.sIx,show (1:Int) > 0 by decide,if_true];split<;>omega
 rw [e1];exact sliceRange_one _ _
theorem at9{α:Type}(xs:List α)(a:Nat):∀ k,a+k<=xs.length->((List.range k).map λj=>a+j).filterMap (xs[·]?)=(xs.drop a).take k
 | 0,_=>by simp
 | k+1,h=>by
  rw [List.range_succ,List.map_append,List.filterMap_append,at9 xs a k (by omega)]
  have hk:a+k<xs.length:=by omega
  rw [List.take_succ]
  congr 1
  simp [List.getElem?_drop,hk]
theorem ata:SlR X ax7:=by
 intro pins s σ H x v vl vu lo hi sl Q I rx hs pl pu h
 obtain ⟨z,rfl,hz,q⟩:=h;obtain ⟨t,rfl⟩:=rx;refine ⟨"str",_,PyProof.Rows.slot_str_getitem.lookup,typeIs_str s z t,?_⟩;have hl:z.cps.toList.length=z.length:=by simp [Str.length]
 have fin:∀ (l u:Option (Int × Tok)),vl=partValue l->vu=partValue u->l.map (·.1)=lo->u.map (·.1)=hi->wpAny (model X.prog X.w) X.A (getItem (.str z t) (.ref sl)) (EP X pins σ Q) X.xe s:=by
  intro l u e1 e2 e3 e4
  subst e1 e2;refine wpAny_getItem_str_slice (l:=l) (u:=u) (st:=none) hs rfl ?_;have hp:slicePicked z l u none=(List.range (HT.sIx z.length z.length hi - HT.sIx z.length 0 lo)).map λk=>HT.sIx z.length 0 lo+k:=by
   unfold slicePicked;rw [e3,e4];exact at8 lo hi z.length
  have hb1:HT.sIx z.length z.length hi<=z.length:=HT.ag0 _ _ (Nat.le_refl _) _;have hb2:HT.sIx z.length 0 lo<=z.length:=HT.ag0 _ _ (Nat.zero_le _) _;unfold sliceMade
  split
  ·rename_i c;simp only [Bool.and_eq_true,beq_iff_eq] at c;obtain ⟨_,c⟩:=c;rw [hp,List.length_map,List.length_range] at c;have e:(⟨(a76 z.cps.toList lo hi).toArray⟩:Str)=z:=by
    unfold a76;rw [hl];have z1:HT.sIx z.length 0 lo=0:=by omega
    have z2:HT.sIx z.length z.length hi=z.length:=by omega
    rw [z1,z2,List.drop_zero,Nat.sub_zero,List.take_of_length_le (by omega)]
   rw [e] at q;exact ⟨.str z,H,I,⟨_,rfl⟩,q⟩
  ·have e:(⟨(a76 z.cps.toList lo hi).toArray⟩:Str)=⟨((slicePicked z l u none).filterMap (z.cps[·]?)).toArray⟩:=by
    rw [hp];unfold a76;rw [hl]
    by_cases hc:HT.sIx z.length 0 lo<=HT.sIx z.length z.length hi
    ·rw [<-at9 z.cps.toList _ _ (by omega)]
     simp only [Array.getElem?_toList]
    ·rw [show HT.sIx z.length z.length hi - HT.sIx z.length 0 lo=0 by omega]
     simp
   rw [e] at q;refine ⟨?_, .str _,H,I.tok _,⟨_,rfl⟩,q⟩;rw [<-e];show (a76 z.cps.toList lo hi).toArray.size<=sizeLine;rw [List.size_toArray];unfold a76;rw [List.length_take,List.length_drop,hl];omega
 cases pl with
 | none=>cases pu with
  | none=>exact fin none none rfl rfl rfl rfl
  | int j t'=>exact fin none (some (j,t')) rfl rfl rfl rfl
 | int i t'=>cases pu with
  | none=>exact fin (some (i,t')) none rfl rfl rfl rfl
  | int j t''=>exact fin (some (i,t')) (some (j,t'')) rfl rfl rfl rfl
theorem a3f:CallR X (.builtin "isinstance") (λxs H Q=>∃ x T t b,xs=[x, .ty T]/\TyOf X.K H x t/\PySem.W.kitOne X.K t (.type T)=some b/\Q (.bl b) H):=by
 intro pins s σ H xs us Q I r h
 obtain ⟨x,T,t,b,rfl,ty,e,q⟩:=h;obtain ⟨u,w',rfl,rx,rt⟩:=vals2 r;cases rt
 exact afv I rx ty e λtk=>⟨.bl b,H,I.tok tk,rfl,q⟩
theorem a9t(bs:List Bool):((List.range bs.length).all λi=>(bs[i]?).getD true)=bs.all id:=by
 have e:(List.range bs.length).map (λi=>(bs[i]?).getD true)=bs:=by
  apply List.ext_getElem (by simp)
  intro i h1 h2
  simp [h2]
 have f:((List.range bs.length).map λi=>(bs[i]?).getD true).all id=bs.all id:=by rw [e]
 rw [<-f,List.all_map];rfl
theorem a67(hc:X.calm=true):CallR X (.builtin "all") (λxs H Q=>∃ (p:Addr) (bs:List Bool),xs=[.ref p]/\SqL X.K H p (bs.map V.bl)/\Q (.bl (bs.all id)) H):=by
 intro pins s σ H xs us Q I r h
 obtain ⟨p,bs,rfl,hq,q⟩:=h;obtain ⟨u,rfl,rx⟩:=vals1 r;cases rx
 obtain ⟨its,r',pl,hz⟩:=I.list hq;have hl:=r'.length;rw [List.length_map] at hl;have hlt:p<s.heap.objs.size:=by obtain ⟨_,e,_⟩:=pl.isList;exact Heap.lt_size e
 refine call_all_walk (wpAny_pyIter_list pl.isList ?_);refine ⟨s.heap.objs.size,[s.heap.objs.size,p],[s.heap.objs.size],its.toArray.size,_,_,λi=>(bs[i]?).getD true,rfl,Walks.list (A:=X.A.in1) (I.ok.hd hc) _ p (Nat.ne_of_lt hlt) its.toArray,
  ⟨⟨_,Heap.get?_push_size _ rfl,rfl,rfl⟩,pl.isList.push _⟩,λi v s' Q' E' hP hQ=>?_,λh' tk hk=>?_⟩
 ·have hP':its[i]? = some v:=by simpa using hP
  have hi:i<bs.length:=by
   have:=(List.getElem?_eq_some_iff.mp hP').1
   omega
  obtain ⟨u,e,ru⟩:=r'.get (i:=i) (x:=.bl bs[i]) (by simp [hi])
  rw [hP'] at e;cases e
  cases ru
  simp only [List.getElem?_eq_getElem hi,Option.getD_some] at hQ;exact wpAny_truthy_bool hQ
 ·have e:((List.range its.toArray.size).all λi=>(bs[i]?).getD true)=bs.all id:=by
   rw [List.size_toArray,<-hl];exact a9t bs
  rw [e];exact ⟨.bl _,H,I.kept λb x e=>hk b x (λhm=>by rw [List.mem_singleton.mp hm] at e;exact Nat.lt_irrefl _ (Heap.lt_size e)) (Heap.get?_push_of_some _ e),rfl,q⟩
def xm(x:Str):List V:=x.cps.toList.map λc=>V.str ⟨#[c]⟩
theorem a77{x:Str}{acc:Array Value}(h:ItemsOf (SignAt x) acc x.cps.size):Vals (xm x) acc.toList:=by
 obtain ⟨hs,ha⟩:=h;have key:∀ (cs:List Nat) (us:List Value),us.length=cs.length->(∀ (j:Nat) (v:Value),us[j]? = some v->∃ c u,cs[j]? = some c/\v = .str ⟨#[c]⟩ u)->Vals (cs.map λc=>V.str ⟨#[c]⟩) us:=by
  intro cs
  induction cs with
  | nil=>intro us hl _;cases us with | nil=>exact .nil | cons _ _=>simp at hl
  | cons c cs ih =>
   intro us hl hp
   cases us with
   | nil=>simp at hl
   | cons u us =>
    refine .cons ?_ (ih us (by simpa using hl) λj v e=>hp (j+1) v (by simpa using e))
    obtain ⟨c',t,e1,e2⟩:=hp 0 u rfl;simp at e1;subst e1;exact ⟨t,e2⟩
 refine key _ _ (by simp [hs]) λj v e=>?_
 obtain ⟨c,u,e1,e2⟩:=ha j v (by simpa using e)
 exact ⟨c,u,by simpa using e1,e2⟩
theorem a3g(hc:X.calm=true):CallR X (.type "list") (λxs H Q=>∃ z,xs=[.str z]/\z.length<=sizeLine/\∀ l,H l=none->Q (.ref l) (upd H l (.lst (xm z)))):=by
 intro pins s σ H xs us Q I r h
 obtain ⟨z,rfl,hz,q⟩:=h;obtain ⟨u,rfl,t,rfl⟩:=vals1 r;refine PySem.call_list_str (I.ok.hd hc) z t (λh' tk acc c kp e hi=>?_) (by simpa [Str.length] using hz)
 refine ⟨.ref s.heap.objs.size,_,I.laid (t':=tk) kp (Nat.le_refl _) (show ObjOk X.prog X.w _ h' _ (.lst (xm z)) from ⟨by simpa [xm,Str.length] using hz,acc.toList,c,a77 hi,by simpa using e⟩),rfl,q _ (I.hok.fresh (Nat.le_refl _))⟩
theorem wk(hc:X.calm=true):CallR X (.type "tuple") (λxs H Q=>∃ z,xs=[.str z]/\z.length<=sizeLine/\∀ l,H l=none->Q (.ref l) (upd H l (.tup (xm z)))):=by
 intro pins s σ H xs us Q I r h
 obtain ⟨z,rfl,hz,q⟩:=h;obtain ⟨u,rfl,t,rfl⟩:=vals1 r;refine PySem.call_tuple_str (I.ok.hd hc) z t (λh' tk acc kp hi=>?_) (by simpa [Str.length] using hz)
 have I1:Inv X pins σ H { s with heap:=h',toks:=tk }:=I.kept kp
 have I2:Inv X pins σ (upd H h'.objs.size (.tup (xm z))) { s with heap:=h'.push { cls:=.type "tuple",data:=.seq acc },toks:=tk } :=
  I1.laid (t':=tk) (λb o e=>Heap.get?_push_of_some _ e) (Nat.le_refl _) (show ObjOk X.prog X.w _ _ _ (.tup (xm z)) from ⟨by simpa [xm,Str.length] using hz,acc.toList,a77 hi,by simpa using IsTup.new h' acc⟩)
 exact ⟨.ref h'.objs.size,_,I2,rfl,q _ (I1.hok.fresh (Nat.le_refl _))⟩
end
def Its(x:Str):It:=⟨λi _=>i<x.cps.size,λi H v H'=>H'=H/\∃ c,x.cps.toList[i]? = some c/\v = .str ⟨#[c]⟩,λi _=>i=x.cps.size⟩
theorem ack{P:Program}{w:World}{K:PySem.W.Frag}{tg:Expr}(it:Addr)(x:Str)(t:Tok)(ty:String)
  (hty:["enumerate", "zip", "dict_itemiterator", "dict_reverseitemiterator", "odict_iterator", "itertools.zip_longest", "itertools.pairwise"].contains ty=false)
  (W:∀ A':Around,A'.handled=none->Walks P w A' it [it] [it] x.cps.size (SignAt x) (λi h=>h.IsStrIter it ty x t i))
  (slf:∀ (A:Around) (i:Nat) (s:Shared) (Q:Value->Shared->Prop) (E:Value->Shared->Prop),s.heap.IsStrIter it ty x t i->Q (.ref it) s->wpAny (model P w) A (pyIter (.ref it)) Q E s) :
  Turn P w K tg (Its x) [it] it (λi h=>h.IsStrIter it ty x t i) where
 mem:=by simp
 obj:=λi h st b hb=>by
  have e:b=it:=by simpa using hb
  subst e;obtain ⟨o,e,c,d⟩:=st;exact ⟨o,e,λv z=>by rw [d] at z;cases z⟩
 keep:=λi h h' st k=>by
  obtain ⟨o,e,c,d⟩:=st;exact ⟨o,k it (by simp) o e,c,d⟩
 item:=by
  intro X hP hw hK hc i pins s σ H E I hf st hg
  subst hP hw hK;obtain ⟨f0,f1,f2,f3,f4,f5⟩:=hf it (by simp)
  refine (W X.A (I.ok.hd hc)).item i s _ _ hg st λv h' tk hv st' kk=>?_;obtain ⟨c,u,hx,rfl⟩:=hv;have I1:Inv X pins σ H { s with heap:=h',toks:=tk }:=I.turned (λb o hb e=>kk b o (by simpa using hb) e) f0 f1 f3 f4 f5
  obtain ⟨o,e,oc,d⟩:=id st';exact ⟨_,rfl,ajj (s:={ s with heap:=h',toks:=tk }) e oc d hty ⟨.str ⟨#[c]⟩,H,I1,⟨_,rfl⟩,⟨rfl,c,by simpa using hx,rfl⟩,st',λb hb=>(hf b hb).1⟩⟩
 done:=by
  intro X hP hw hK hc i pins s σ H E I hf st hg
  subst hP hw hK;obtain ⟨f0,f1,f2,f3,f4,f5⟩:=hf it (by simp)
  have hg':i=x.cps.size:=hg;subst hg';exact (W X.A (I.ok.hd hc)).done s _ _ st λh' tk eb=>⟨rfl,I.turned (λb o hb e=>eb b o (by simpa using hb) e) f0 f1 f3 f4 f5⟩
 self:=slf
section
variable{X:Cx}{tg:Expr}
def azj(tl:TE):TI:=λσ H R=>tl σ H λx H1=>∃ z,x = .str z/\R (Its z) H1
theorem amd{l:Expr}{tl:TE}(hl:PE X l tl):PI X tg l (azj tl):=by
 intro pins s σ H R I h
 refine thn (hl pins s σ H _ I h) λv s1 ⟨x,H1,I1,r1,q1⟩=>?_;obtain ⟨z,e,q⟩:=q1;subst e;obtain ⟨t,rfl⟩:=r1;have fp:∀ b∈[s1.heap.objs.size],ab1 X pins H1 b:=λb hb=>by
  have e:b=s1.heap.objs.size:=by simpa using hb
  subst e;exact I1.fpOk (Nat.le_refl _) (I1.hok.fresh (Nat.le_refl _))
 cases ha:z.cps.all (· < 128)
 ·exact wpAny_pyIter_wide ha ⟨s1.heap.objs.size,[s1.heap.objs.size],_,_,H1,rfl,I1.kept (t':=s1.toks) λb o e=>Heap.get?_push_of_some _ e,
   ack _ z t "str_iterator" (by decide) (λA' hA=>Walks.strWide hA _ z t) (λ_ _ _ _ _ st h=>wpAny_pyIter_striter_wide st h),⟨_,Heap.get?_push_size _ rfl,rfl,rfl⟩,fp,q⟩
 ·exact wpAny_pyIter_ascii ha ⟨s1.heap.objs.size,[s1.heap.objs.size],_,_,H1,rfl,I1.kept (t':=s1.toks) λb o e=>Heap.get?_push_of_some _ e,
   ack _ z t "str_ascii_iterator" (by decide) (λA' hA=>Walks.strAscii hA _ z t) (λ_ _ _ _ _ st h=>wpAny_pyIter_striter_ascii st h),⟨_,Heap.get?_push_size _ rfl,rfl,rfl⟩,fp,q⟩
end
def cxC(X:Cx)(N:List Str)(scope:Scope)(cl:List (Str × Addr))(C:Addr)(fp:List Addr)(s:Shared)(H:Hp):Cx where
 prog:=X.prog
 w:=X.w
 K:=X.K
 mg:=X.mg
 base:=X.base
 A:=X.A
 N:=N
 s₀:=s
 H₀:=H
 env:=compEnvC scope cl C X.env
 outer:=X.stack
 stack:=X.stack
 ex:=fp
 fn:=λ_=>false
 calm:=X.calm
 pn:=[]
 xe:=λ_ _=>False
structure CSc (X:Cx) (scope:Scope) (cl:List (Str × Addr)) (ts fr:List Str) (ix:List Nat):Prop where
 clos:closureFor scope X.env=pure cl
 kind:scope.kind = .function
 nocell:∀ y∈scope.names,y.2≠.cell
 names:∀ y∈scope.names,y.2 = .local->scope.names.lookup y.1=some .local
 sub:∀ y c,cl.lookup y=some c->X.env.cells.lookup y=some c
 has:∀ y,((relabel scope X.env).names.lookup y=some .cell\/(relabel scope X.env).names.lookup y=some .free)->∃ c,cl.lookup y=some c
 nofn:∀ y∈ts,(relabel scope X.env).names.lookup y=some .local
 len:ix.length=fr.length
 vis:∀ (j:Nat) (y:Str),fr[j]? = some y->∃ i:Nat,ix[j]? = some i/\X.N[i]? = some y/\(X.env.kindOf y=some .cell\/X.env.kindOf y=some .free)/\((relabel scope X.env).names.lookup y=some .cell\/(relabel scope X.env).names.lookup y=some .free)
def Ext(a b:St):Prop:=b.length=a.length/\∀ (i:Nat) v,a[i]? = some (some v)->b[i]? = some (some v)
def qx(nt:Nat)(ix:List Nat)(σ:St):St:=List.replicate nt none++ix.map λi=>(σ[i]?).join
def atb(J:It)(s0:St)(g:TG)(te:TE)(Q:VK)(H1:Hp):Prop:=∃ W:Nat->Nat->List V->Hp->Prop,(∃ m,W 0 m [] H1)/\∀ i m ys H,W i m ys H->
 (J.stop i H/\∀ p,H p=none->Q (.ref p) (upd H p (.lst ys))) \/
 (J.go i H/\ys.length<sizeLine/\∀ x H',J.yld i H x H'->g x s0 H' λσ2 H2=>Ext s0 σ2/\te σ2 H2 λy H3=>∃ m',m'<m/\W (i+1) m' (ys++[y]) H3)
def ajv(wi:TI)(s0:St->St)(g:TG)(te:TE):TE:=λσ H Q=>wi σ H λJ H1=>atb J (s0 σ) g te Q H1
theorem agc{prog:Program}{w:World}{A:Around}{R:Result->Shared->Prop}{s:Shared}{elt target iter:Expr}{scope:Scope}{pos:Pos}{it acc:Value}{env:Env}(J:Nat->Shared->Prop)
  (step:∀ m z,J m z->wpAny (model prog w) A (pyNext it) (λgot z1=>match got with
   | none=>R (.ok .next) z1
   | some v=>wpAny (model prog w) A (letOwnedTupleGo target it v) (λ_ z2=>wpAny (model prog w) A (assign target env v) (λ_ z3=>wpAny (model prog w) A (eval elt env) (λx z4 =>
     wpAny (model prog w) A (call (.builtin "list.append") [acc,x]) (λ_ z5=>∃ m',m'<m/\J m' z5) (λ_ _=>False) z4)
     (λ_ _=>False) z3) (λ_ _=>False) z2) (λ_ _=>False) z1) (λ_ _=>False) z)
  (m:Nat) (j0:J m s):codeAny (model prog w) A (.compLoop (.ListComp elt [⟨target,iter,[],0⟩] scope pos) 0 it acc env) R s:=by
 refine codeAny_loop rfl J (λm z hj=>(wpAny_noted ?_:wpAny _ _ ((compTurn (.ListComp elt [⟨target,iter,[],0⟩] scope pos) 0 it acc env).onRaise _) _ _ z)) m j0;rw [compTurn_list1];refine wpAny_bind (wpAny_standAt (wpAny_bind (wpAny_mono (step m z hj) (λgot z1 h1=>?_) λ_ _ no=>no.elim)))
 match got,h1 with
 | none,h1=>exact wpAny_pure h1
 | some v,h1 =>
  refine wpAny_bind (wpAny_mono h1 (λ_ z2 h2=>wpAny_bind (wpAny_mono h2 (λ_ z3 h3=>?_) λ_ _ no=>no.elim)) λ_ _ no=>no.elim);refine wpAny_bind (wpAny_bind (wpAny_mono h3 (λx z4 h4=>?_) λ_ _ no=>no.elim));exact wpAny_bind (wpAny_mono h4 (λ_ z5 h5=>wpAny_pure (wpAny_pure ⟨rfl,h5⟩)) λ_ _ no=>no.elim)
section
variable{X:Cx}
theorem a9u{pins:List (Addr × Obj)}{σ:St}{H:Hp}{s:Shared}{scope:Scope}{cl:List (Str × Addr)}{ts fr:List Str}{ix:List Nat}{C:Addr}{fp:List Addr}(S:CSc X scope cl ts fr ix)(I:Inv X pins σ H s)
  (hf:∀ b∈fp,ab1 X pins H b) (hb:∀ b∈fp,b<s.heap.objs.size) (hC:s.heap.objs.size<=C):(cxC X (ts++fr) scope cl C fp s H).Ok where
 mod:=I.ok.mod
 kind:=S.kind
 glob:=I.ok.glob
 blt:=I.ok.blt
 above:=hC
 inj:=λx y c h1 h2=>I.ok.inj x y c (S.sub x c h1) (S.sub y c h2)
 has:=S.has
 cab:=λ_ _ z=>nomatch z
 hd:=I.ok.hd
 frames:=I.ok.frames
 stk:=.inl rfl
 exf:=λb hb'=>⟨Nat.ne_of_lt (Nat.lt_of_lt_of_le (hb b hb') hC),λx c e=>(hf b hb').2.2.2.2.1 x c (S.sub x c e)⟩
 bs:=λb o e=>I.bs b o e
 bsz:=Nat.le_trans I.ok.bsz I.sz
 noex:=λb o e hb'=>by
  rcases (hf b hb').2.2.2.1 with z | z
  ·exact I.ok.noex b o e z
  ·exact absurd (Nat.lt_of_lt_of_le (Heap.lt_size e) (Nat.le_trans I.ok.bsz z)) (Nat.lt_irrefl _)
 exfs:=λb hb' z=>by
  rcases List.mem_cons.mp (I.stkSub b z) with e | e
  ·exact (hf b hb').2.1 e
  ·exact (hf b hb').2.2.1 e
 funs:=I.stack
 frf:=λb hb'=>I.stkFree b hb'
theorem aea{nt:Nat}{ix:List Nat}{σ:St}:(qx nt ix σ).length=nt+ix.length:=by
 unfold qx;rw [List.length_append,List.length_replicate,List.length_map]
theorem agd{pins:List (Addr × Obj)}{σ:St}{H:Hp}{s s4:Shared}{scope:Scope}{cl:List (Str × Addr)}{ts fr:List Str}{ix:List Nat}{C:Addr}{fp:List Addr}{m:Str->Option Value}(S:CSc X scope cl ts fr ix)(I:Inv X pins σ H s)
  (hf:∀ b∈fp,ab1 X pins H b) (hb:∀ b∈fp,b<s.heap.objs.size) (hC:s.heap.objs.size<=C)
  (k:∀ b o,s.heap.get? b=some o->s4.heap.get? b=some o) (hn:s4.heap.Ns C m) (ho:s4.os=s.os) (hg:s4.gens=s.gens) :
  Inv (cxC X (ts++fr) scope cl C fp s H) [] (qx ts.length ix σ) H s4 where
 ok:=a9u S I hf hb hC
 os:=ho
 bare:=by rw [hg];exact I.bare
 base:=Un.kept k
 loc:=by
  refine ⟨m,hn,λi x v e1 e2 e3=>?_⟩;have e1:(ts++fr)[i]? = some x:=e1
  by_cases hi:i<ts.length
  ·unfold qx at e2;rw [List.getElem?_append_left (by simpa using hi),List.getElem?_replicate,if_pos hi] at e2
   cases e2
  ·rw [List.getElem?_append_right (by omega)] at e1
   unfold qx at e2;rw [List.getElem?_append_right (by simpa using hi),List.length_replicate,List.getElem?_map] at e2
   obtain ⟨j,h1,h2,h3,h4⟩:=S.vis _ x e1;rw [h1] at e2;have e2':(σ[j]?).join=some v:=Option.some.inj e2;have e5:σ[j]? = some (some v):=by
    cases q:σ[j]? with
    | none=>rw [q] at e2';cases e2'
    | some o=>rw [q] at e2';simp at e2';rw [e2']
   obtain ⟨m0,_,hl⟩:=I.loc;have vis:Vis X.env.scope x:=h3.elim (λz=>.inr (.inl z)) λz=>.inr (.inr z);obtain ⟨u,ru,l⟩:=hl j x v h2 e5 vis;refine ⟨u,ru,?_⟩
   rcases l with ⟨z,_⟩ | ⟨_,c,hc,hcell⟩
   ·rcases h3 with h3 | h3<;>rw [h3] at z<;>cases z
   ·obtain ⟨c',hc'⟩:=S.has x h4;have e6:c'=c:=Option.some.inj ((S.sub x c' hc').symm.trans hc);subst e6;obtain ⟨o,ho,hd⟩:=hcell;exact .inr ⟨h4,c',hc',o,k _ _ ho,hd⟩
 cell:=λx c e=>by
  obtain ⟨v,o,ho,hd⟩:=I.cell x c (S.sub x c e);exact ⟨v,o,k _ _ ho,hd⟩
 free:=I.hok.fresh hC
 freeC:=λx c e=>I.freeC x c (S.sub x c e)
 pin:=λp hp=>absurd (show p∈([]:List (Addr × Obj)) from hp) (by simp)
 hok:=I.hok.kept k
 len:=by
  rw [aea];show _=(ts++fr).length;rw [List.length_append,S.len]
theorem Inv.unpinned'{pins:List (Addr × Obj)}{σ:St}{H:Hp}{s:Shared}(I:Inv X pins σ H s):Inv X [] σ H s:=I.pins_of λ_ hp=>nomatch hp
theorem comp_back{pins:List (Addr × Obj)}{σ σ':St}{H H':Hp}{s s':Shared}{scope:Scope}{cl:List (Str × Addr)}{N:List Str}{C acc:Addr}{fp:List Addr}{h':Heap}{ys:List V}{its:List Value}{n:Nat}(I:Inv X pins σ H s)
  (hf:∀ b∈fp,ab1 X pins H b) (hC:s.heap.objs.size<=C) (hacc:s.heap.objs.size<=acc) (hCa:C≠acc)
  (J:Inv (cxC X N scope cl C fp s H) [] σ' H' s') (hn:H' acc=none) (ha:s'.heap.get? acc=some { cls:=.type "list",data:=.seq its.toArray n }) (rv:Vals ys its) (hz:ys.length<=sizeLine) (sb:Heap.SameBut C s'.heap h') :
  Inv X pins σ (upd H' acc (.lst ys)) { s' with heap:=h' }:=by
 have k:∀ b o,b≠C->s'.heap.get? b=some o->h'.get? b=some o:=λb o hb e=>sb.extBut b o hb e;have old:∀ b o,s.heap.get? b=some o->b≠C/\b≠acc:=λb o e=>⟨Nat.ne_of_lt (Nat.lt_of_lt_of_le (Heap.lt_size e) hC),Nat.ne_of_lt (Nat.lt_of_lt_of_le (Heap.lt_size e) hacc)⟩;have u0:Un (frs X.stack) fp H H' s.heap s'.heap:=J.base;have fC:H' C=none:=J.free;have u:Un (frs X.stack) fp H (upd H' acc (.lst ys)) s.heap h':=by
  refine ⟨λb o e n' hb hx=>k b o (old b o e).1 (u0.keep b o e n' hb hx),λb o e n' hb hx=>?_,λb o e n' hx=>?_,λb o e hx=>?_,λb xs e=>?_,λb o v e=>?_,λb ps e=>?_⟩
  ·obtain ⟨sl,e1⟩:=u0.slot b o e n' hb hx;exact ⟨sl,k b _ (old b o e).1 e1⟩
  ·rw [jf (old b o e).2];exact u0.free b o e n' hx
  ·obtain ⟨o',e1⟩:=u0.there b o e hx;exact ⟨o',k b _ (old b o e).1 e1⟩
  ·rw [jf (jo (u0.tups b xs e) hn)];exact u0.tups b xs e
  ·rw [jf (jo (u0.frzs b o v e) hn)];exact u0.frzs b o v e
  ·obtain ⟨more,e1⟩:=u0.tbls b ps e;exact ⟨more,by rw [jf (jo e1 hn)];exact e1⟩
 have hok:HOk X.prog X.w (upd H' acc (.lst ys)) h':=λb o e=>by
  by_cases hb:b=acc
  ·subst hb;rw [mq] at e;cases e
   exact ⟨hz,its,n,rv,k _ _ (Ne.symm hCa) ha⟩
  ·rw [jf hb] at e;refine (J.hok b o e).stay (λc v hc q=>k c v ?_ q) (λc q=>by rw [jf (jo q hn)];exact q) λc xs q=>by rw [jf (jo q hn)];exact q
   rcases hc with z | z
   ·rw [z];exact jo e fC
   ·exact jo z fC
 have J':=I.call (g':=s'.gens) (t':=s'.toks) (d':=s'.drawn) (ch:=fp) u hok J.bare λb hb=>⟨(hf b hb).2.2.2.1,(hf b hb).2.1,(hf b hb).2.2.2.2.1,(hf b hb).2.2.2.2.2⟩;have eo:s'.os=s.os:=J.os;obtain ⟨hp,g,d,t,o⟩:=s';have eo':o=s.os:=eo;subst eo';exact J'
def a7x(X:Cx)(pins:List (Addr × Obj))(σ:St)(use:Option (Value->Sem Unit))(Q:VK)(Qf:Value->Shared->Prop):Prop :=
 ∀ (acc C:Addr) (s6:Shared) (H6:Hp) (m6:Str->Option Value),s6.heap.Ns C m6->ab1 X pins H6 C->(∀ h',Heap.SameBut C s6.heap h'->Inv X pins σ H6 { s6 with heap:=h' })->Q (.ref acc) H6->
  compPost (model X.prog X.w) X.A X.xe use Qf (.ref acc) C (.ok .next) s6
theorem acl{pins:List (Addr × Obj)}{σ:St}{Q:VK}:a7x X pins σ none Q (EP X pins σ Q):=λacc C s6 H6 m6 hn _ k q=>⟨m6,hn,λh' sb=>⟨.ref acc,H6,k h' sb,rfl,q⟩⟩
theorem acn{pins:List (Addr × Obj)}{σ:St}{D:Ends}{i:Nat}{x:Str}{pos':Pos}(hN:X.N.Nodup)(hi:X.N[i]? = some x)(hx:Loc X.env.scope x)(hf:X.fn x=true\/X.env.scope.names.lookup x=some .local) :
  a7x X pins σ (some (assign (.Name x pos') X.env)) (λv H1=>ae2 i v σ H1 D.nx) (λ_ s'=>SP X pins D .next s'):=by
 intro acc C s6 H6 m6 hn fp k q
 obtain ⟨f1,f2,f3,f4,f5,f6⟩:=fp;have I6:Inv X pins σ H6 s6:=k s6.heap (Heap.SameBut.refl _ _);refine wpAny_assign_Name (a9j (v:=.ref acc) I6 hN hi hx rfl (λs' I' ⟨a,sb,ha⟩=>⟨m6,hn.sameBut sb ?_,λh' sb'=>⟨_,H6,I'.turned (t':=s'.toks) (it:=C) (λb o hb e=>sb'.extBut b o hb e) f1 f2 f4 f5 f6,q⟩⟩) hf)
 rcases ha with ha | ha
 ·rw [ha];exact f2
 ·exact λz=>f5 x a ha z.symm
theorem a9v{elt tg iter:Expr}{scope:Scope}{pos ppos:Pos}{cl:List (Str × Addr)}{ts fr:List Str}{ix:List Nat}{wi:TI}{g:TG}{te:TE}(hc:X.calm=true)(S:CSc X scope cl ts fr ix)(hi:PI X tg iter wi)
  (hg:∀ C fp s H,PG (cxC X (ts++fr) scope cl C fp s H) tg g) (he:∀ C fp s H,PE (cxC X (ts++fr) scope cl C fp s H) elt te) (hs:∀ x,foldedSetIterable iter X.env x=pure x)
  (use:Option (Value->Sem Unit)) {pins:List (Addr × Obj)} {s:Shared} {σ:St} {H:Hp} {Q:VK} {Qf:Value->Shared->Prop} (I:Inv X pins σ H s) (h:ajv wi (qx ts.length ix) g te σ H Q) (fin:a7x X pins σ use Q Qf) :
  wpAny (model X.prog X.w) X.A (comprehension (.ListComp elt [⟨tg,iter,[],0⟩] scope pos) scope X.env ppos (newList []) false (eval iter X.env) use) Qf X.xe s:=by
 refine wpAny_comprehension_free (use:=use) rfl hs S.clos S.kind S.names (thn (hi pins s σ H _ I h) λv s1 h1=>thn h1 λitv s2 h2=>?_);obtain ⟨it,fp,tn,J,H2,e,I2,T,st2,f2,W,⟨m0,w0⟩,turn⟩:=h2;subst e;have hob:∀ b∈fp,b<s2.heap.objs.size:=λb hb=>let ⟨o,e,_⟩:=T.obj _ _ st2 b hb;Heap.lt_size e;refine wpAny_newObj_type (wpAny_newFunctionEnv S.nocell (by intro y hy;simp at hy) (λh4 hns4 hsb4=>?_) S.kind)
 dsimp only at hns4 hsb4 ⊢
 generalize hH2:s2.heap.push { cls:=.type "list",dict:=none,data:=.seq ([]:List Value).toArray }=G at hns4 hsb4 ⊢
 have hCs:G.objs.size=s2.heap.objs.size+1:=by rw [<-hH2,Heap.size_push]
 have hCle:s2.heap.objs.size<=G.objs.size:=by omega
 have hne:G.objs.size≠s2.heap.objs.size:=by omega
 have old:∀ b o,s2.heap.get? b=some o->h4.get? b=some o:=λb o e=>by
  have hlt:=Heap.lt_size e;exact hsb4.extBut b o (Nat.ne_of_lt (Nat.lt_of_lt_of_le hlt hCle)) (Heap.get?_push_of_some _ (hH2 ▸ Heap.get?_push_of_some _ e))
 have hacc:h4.get? s2.heap.objs.size=some { cls:=.type "list",data:=.seq ([]:List Value).toArray 0 } :=
  hsb4.extBut _ _ (Ne.symm hne) (Heap.get?_push_of_some _ (hH2 ▸ Heap.get?_push_size _ rfl))
 have K0:Inv (cxC X (ts++fr) scope cl G.objs.size fp s2 H2) [] (qx ts.length ix σ) H2 { s2 with heap:=h4,toks:=s2.toks+([]:List (Str × Value)).length } :=
  agd S I2 f2 hob hCle old hns4 rfl rfl
 have st4:tn 0 h4:=T.keep _ _ _ st2 λb _ o e=>old b o e;have accF:s2.heap.objs.size ∉ fp:=λz=>Nat.lt_irrefl _ (hob _ z);have stat:∀ {H':Hp},(∀ b∈fp,H' b=none)->∀ b∈fp,ab1 (cxC X (ts++fr) scope cl G.objs.size fp s2 H2) [] H' b:=λhn b hb =>
  ⟨hn b hb,λz=>by have h1:=hob b hb;have z':b=G.objs.size:=z;exact Nat.ne_of_lt (Nat.lt_of_lt_of_le h1 hCle) z',λz=>(a9u S I2 f2 hob hCle).exfs b hb z, .inl hb,λx c e=>(f2 b hb).2.2.2.2.1 x c (S.sub x c e),λp hp=>absurd (show p∈([]:List (Addr × Obj)) from hp) (by simp)⟩
 have statA:∀ {H':Hp},H' s2.heap.objs.size=none->ab1 (cxC X (ts++fr) scope cl G.objs.size fp s2 H2) [] H' s2.heap.objs.size:=λhn =>
  ⟨hn,λz=>hne (show G.objs.size=s2.heap.objs.size from z.symm),λz=>by
   obtain ⟨_,o,ho,_⟩:=(a9u S I2 f2 hob hCle).funs.mem z;exact Nat.lt_irrefl _ (Heap.lt_size ho), .inr (Nat.le_refl _),λx c e z=>by
   obtain ⟨v,o,ho,_⟩:=I2.cell x c (S.sub x c e);rw [z] at ho;exact Nat.lt_irrefl _ (Heap.lt_size ho),λp hp=>absurd (show p∈([]:List (Addr × Obj)) from hp) (by simp)⟩
 have loop:∀ s4:Shared,s4={ s2 with heap:=h4,toks:=s2.toks+([]:List (Str × Value)).length }->
   codeAny (model X.prog X.w) X.A (.compLoop (.ListComp elt [⟨tg,iter,[],0⟩] scope pos) 0 (.ref it) (.ref s2.heap.objs.size) (compEnvC scope cl G.objs.size X.env))
    (compPost (model X.prog X.w) X.A X.xe use Qf (.ref s2.heap.objs.size) G.objs.size) s4:=by
  rintro s4 rfl
  refine agc (λn s'=>∃ i σ' H' ys its k,Inv (cxC X (ts++fr) scope cl G.objs.size fp s2 H2) [] σ' H' s'/\Ext (qx ts.length ix σ) σ'/\tn i s'.heap/\(∀ b∈fp,H' b=none)/\H' s2.heap.objs.size=none /\
   s'.heap.get? s2.heap.objs.size=some { cls:=.type "list",data:=.seq its.toArray k }/\Vals ys its/\ys.length<=sizeLine/\W i n ys H') ?_ m0
   ⟨0,_,H2,[],[],0,K0,⟨rfl,λ_ _ z=>z⟩,st4,λb hb=>(f2 b hb).1,I2.hok.fresh (Nat.le_refl _),hacc, .nil,Nat.zero_le _,w0⟩
  rintro n s5 ⟨i,σ5,H5,ys,its,k5,I5,x5,st5,fr5,fa5,ac5,rv5,hz5,w5⟩
  have I5':Inv (cxC X (ts++fr) scope cl G.objs.size fp s2 H2) [] (qx ts.length ix σ) H5 s5:=I5.weak x5.1.symm x5.2
  rcases turn i n ys H5 w5 with ⟨stop,qn⟩ | ⟨go,hlt,step⟩
  ·refine thn (T.done (cxC X (ts++fr) scope cl G.objs.size fp s2 H2) rfl rfl rfl hc i [(s2.heap.objs.size,{ cls:=.type "list",data:=.seq its.toArray k5 })] s5 _ H5 _ (I5'.pins_of λp hp=>?_) (λb hb=>?_) st5 stop) λr s6 ⟨hr,I6⟩=>?_
   ·have e:p=(s2.heap.objs.size,{ cls:=.type "list",data:=.seq its.toArray k5 }):=by simpa using hp
    subst e;obtain ⟨a0,a1,a2,_⟩:=statA fa5;exact ⟨ac5,a0,a1,a2,λv z=>by cases z⟩
   ·obtain ⟨b0,b1,b2,b3,b4,b5⟩:=stat fr5 b hb;refine ⟨b0,b1,b2,b3,b4,λp hp=>?_⟩;have e:p=(s2.heap.objs.size,{ cls:=.type "list",data:=.seq its.toArray k5 }):=by
     have hp':p∈[(s2.heap.objs.size,_)]:=hp;simpa using hp'
    subst e;exact λz=>accF (by have z':s2.heap.objs.size=b:=z;rw [z'];exact hb)
   ·subst hr;have e6:=(I6.pin (s2.heap.objs.size,{ cls:=.type "list",data:=.seq its.toArray k5 }) (by show _∈[]++[_];simp)).1
    obtain ⟨m6,hn6,_⟩:=I6.loc;exact fin _ _ s6 _ m6 hn6 (I2.fpOk hCle (by rw [jf hne];exact I6.free)) (λh' sb=>comp_back I2 f2 hCle (Nat.le_refl _) hne I6.unpinned' fa5 e6 rv5 hz5 sb) (qn _ fa5)
  ·refine thn (T.item (cxC X (ts++fr) scope cl G.objs.size fp s2 H2) rfl rfl rfl hc i [(s2.heap.objs.size,{ cls:=.type "list",data:=.seq its.toArray k5 })] s5 _ H5 _ (I5'.pins_of λp hp=>?_) (λb hb=>?_) st5 go) λr s6 ⟨u,hr,h6⟩=>?_
   ·have e:p=(s2.heap.objs.size,{ cls:=.type "list",data:=.seq its.toArray k5 }):=by simpa using hp
    subst e;obtain ⟨a0,a1,a2,_⟩:=statA fa5;exact ⟨ac5,a0,a1,a2,λv z=>by cases z⟩
   ·obtain ⟨b0,b1,b2,b3,b4,b5⟩:=stat fr5 b hb;refine ⟨b0,b1,b2,b3,b4,λp hp=>?_⟩;have e:p=(s2.heap.objs.size,{ cls:=.type "list",data:=.seq its.toArray k5 }):=by
     have hp':p∈[(s2.heap.objs.size,_)]:=hp;simpa using hp'
    subst e;exact λz=>accF (by have z':s2.heap.objs.size=b:=z;rw [z'];exact hb)
   ·subst hr;refine thn h6 λ_ s7 ⟨x,H7,I7,r7,y7,st7,fr7⟩=>?_;have fa7:H7 s2.heap.objs.size=none:=(I7.pin (s2.heap.objs.size,{ cls:=.type "list",data:=.seq its.toArray k5 }) (by show _∈[]++[_];simp)).2.1
    have ac7:=(I7.pin (s2.heap.objs.size,{ cls:=.type "list",data:=.seq its.toArray k5 }) (by show _∈[]++[_];simp)).1
    have I7':Inv (cxC X (ts++fr) scope cl G.objs.size fp s2 H2) ([]++a71 (s2.heap.objs.size::fp) s7.heap) (qx ts.length ix σ) H7 s7:=by
     refine Inv.pinned I7.unpinned' (λb hb=>?_) λb hb=>?_
     ·rcases List.mem_cons.mp hb with e | e
      ·subst e;exact statA fa7
      ·exact stat fr7 b e
     ·rcases List.mem_cons.mp hb with e | e
      ·subst e;exact ⟨_,ac7,λv z=>by cases z⟩
      ·exact T.obj _ _ st7 b e
    refine thn (hg G.objs.size fp s2 H2 _ s7 _ H7 x u _ I7' r7 (step x H7 y7)) λ_ s8 ⟨σ8,H8,I8,x8,q8⟩=>?_;refine thn (he G.objs.size fp s2 H2 _ s8 _ H8 _ I8 q8) λyv s9 ⟨y,H9,I9,r9,m',hm',w9⟩=>?_;obtain ⟨ac9,fa9,_⟩:=I9.pin (s2.heap.objs.size,{ cls:=.type "list",data:=.seq its.toArray k5 }) (by show _∈[]++([]++_);simp;exact u6 List.mem_cons_self ac7)
    have keep9:∀ b∈fp,∀ o,s7.heap.get? b=some o->s9.heap.get? b=some o/\H9 b=none:=λb hb o e=>by
     obtain ⟨z1,z2,_⟩:=I9.pin (b,o) (by show _∈[]++([]++_);simp;exact u6 (List.mem_cons_of_mem _ hb) e)
     exact ⟨z1,z2⟩
    have hl:=rv5.length;refine call_meets F.slot_list_append ⟨_,ac9,rfl⟩ F.entry_list_append (F.args_list_append_2 _ _) (PySem.list_append s2.heap.objs.size its.toArray k5 yv (by rw [List.size_toArray];omega)) ⟨ac9,?_⟩
    have q:=PySem.IsL.update ac9 (λa=>a.push yv);have qo:∀ b o,b≠s2.heap.objs.size->s9.heap.get? b=some o->(s9.heap.update s2.heap.objs.size (Obj.mapSeq (λa=>a.push yv))).get? b=some o:=λb o hb e=>(Heap.get?_update_other s9.heap _ (Ne.symm hb)).trans e;have q':∃ k,(s9.heap.update s2.heap.objs.size (Obj.mapSeq (λa=>a.push yv))).get? s2.heap.objs.size=some { cls:=.type "list",data:=.seq (its++[yv]).toArray k }:=⟨_,by rw [q];simp;rfl⟩
    obtain ⟨k9,q9⟩:=q';obtain ⟨a0,a1,a2,a3,a4,a5⟩:=statA (show H9 s2.heap.objs.size=none from fa9)
    refine ⟨m',hm',i+1,σ8,H9,ys++[y],its++[yv],k9,(I9.unpinned').turned qo a0 a1 a3 a4 a5,x8,?_,?_,fa9,q9,rv5.append (.cons r9 .nil),?_,w9⟩
    ·refine T.keep _ _ _ st7 λb hb o e=>qo b o (λz=>accF (z ▸ hb)) (keep9 b hb o e).1
    ·intro b hb
     obtain ⟨o,e,_⟩:=T.obj _ _ st7 b hb;exact (keep9 b hb o e).2
    ·rw [List.length_append,List.length_singleton];omega
 exact codeAny_compStart_list (loop _ rfl) (T.self _ 0 _ _ _ st4 (loop _ rfl))
theorem ajw{elt tg iter:Expr}{scope:Scope}{pos:Pos}{cl:List (Str × Addr)}{ts fr:List Str}{ix:List Nat}{wi:TI}{g:TG}{te:TE}(hc:X.calm=true)(S:CSc X scope cl ts fr ix)(hi:PI X tg iter wi)
  (hg:∀ C fp s H,PG (cxC X (ts++fr) scope cl C fp s H) tg g) (he:∀ C fp s H,PE (cxC X (ts++fr) scope cl C fp s H) elt te)
  (hs:∀ x,foldedSetIterable iter X.env x=pure x:=by intro _;rfl) :
  PE X (.ListComp elt [⟨tg,iter,[],0⟩] scope pos) (ajv wi (qx ts.length ix) g te):=by
 intro pins s σ H Q I h
 rw [eval_ListComp];exact a9v hc S hi hg he hs none I h acl
theorem aco{elt tg iter:Expr}{scope:Scope}{pos:Pos}{cl:List (Str × Addr)}{ts fr:List Str}{ix:List Nat}{wi:TI}{g:TG}{te:TE}{i:Nat}{x:Str}{pos' spos:Pos}(hN:X.N.Nodup)(hi':X.N[i]? = some x)(hx:Loc X.env.scope x)(hc:X.calm=true)(S:CSc X scope cl ts fr ix)(hi:PI X tg iter wi)
  (hg:∀ C fp s H,PG (cxC X (ts++fr) scope cl C fp s H) tg g) (he:∀ C fp s H,PE (cxC X (ts++fr) scope cl C fp s H) elt te)
  (hs:∀ x,foldedSetIterable iter X.env x=pure x:=by intro _;rfl) (hsw:swapsWith (.ListComp elt [⟨tg,iter,[],0⟩] scope pos) (some (.Name x pos')) spos.line X.env=pure true:=by rfl) (hf:X.fn x=true\/X.env.scope.names.lookup x=some .local:=by first | exact .inl rfl | exact .inr rfl | assumption) :
  PS X (.Assign [.Name x pos'] (.ListComp elt [⟨tg,iter,[],0⟩] scope pos) spos) (avv (ajv wi (qx ts.length ix) g te) (ae2 i)):=by
 intro pins s σ H D I h
 rw [exec_Assign_Name_used _ _ _ _ hsw];refine wpAny_bind (wpAny_standAt (wpAny_bind ?_));refine wpAny_bind (wpAny_mono (a9v hc S hi hg he hs (some (assign (.Name x pos') X.env)) I h (acn hN hi' hx hf)) (λ_ s' hq=>wpAny_pure (wpAny_pure hq)) λ_ _ e=>e)
end
section
variable{K:Type}[DecidableEq K]
def stepK(l:List K)(v:K):List K:=if v∈l then l else l++[v]
end
end L2
namespace L2
open PySem PySem.Spec
theorem uh:bootBuiltins "len" = some (.builtin "len"):=PySem.boot_len
theorem a0c:bootBuiltins "isinstance" = some (.builtin "isinstance"):=by first | exact PySem.boot_isinstance | exact PyProof.Rows.boot_isinstance
theorem ame:bootBuiltins "str" = some (.type "str"):=by first | exact PySem.boot_str | exact PyProof.Rows.boot_str
theorem amf:bootBuiltins "all" = some (.builtin "all"):=by first | exact PySem.boot_all | exact PyProof.Rows.boot_all
theorem atc:bootBuiltins "abs" = some (.builtin "abs"):=by first | exact PySem.boot_abs | exact PyProof.Rows.boot_abs
theorem atd:bootBuiltins "int" = some (.type "int"):=by first | exact PySem.boot_int | exact PyProof.Rows.boot_int
theorem abf:bootBuiltins "list" = some (.type "list"):=by first | exact PySem.boot_list | exact PyProof.Rows.boot_list
theorem a2d:bootBuiltins "tuple" = some (.type "tuple"):=by first | exact PySem.boot_tuple | exact PyProof.Rows.boot_tuple
structure Dn (P:Program) (w:World) (K:PySem.W.Frag) (mg:Str->Option Value) (base:Heap) (k:Nat) (x:Str) (ps:List Str) (sp:Sp) (f:Addr) (fd:FuncData):Prop where
 ok:FnOk P w K mg base CX0 k f fd ps sp
 m:mg x=some (.ref f)
 kp:PySem.W.keepIn K (.ref f)=true
 b:Binds K fd ps []
theorem aos:sizeLine=16777216:=sizeLine_eq
theorem aot{n:Nat}(h:n<=16777216):n<=sizeLine:=by rw [sizeLine_eq];exact h
theorem CSc.noFree{X:Cx}{scope:Scope}{ts:List Str}(kind:scope.kind = .function)(h:∀ y∈scope.names,y.2≠.cell/\y.2≠.free)(names:∀ y∈scope.names,y.2 = .local->scope.names.lookup y.1=some .local)
  (ht:∀ y∈ts,scope.names.lookup y=some .local):CSc X scope [] ts [] []:=by
 have e:(relabel scope X.env).names=scope.names:=by
  show scope.names.map _=_;refine map_eq_self λy hy=>?_;obtain ⟨n,k⟩:=y;have:(k == NameKind.free)=false:=by simpa using (h _ hy).2
  simp [this]
 refine ⟨closureFor_none λy hy=>(h y hy).2,kind,λy hy=>(h y hy).1,names,(λ_ _ z=>nomatch z),λy z=>?_,λy hy=>by rw [e];exact ht y hy,rfl,(λ_ _ z=>by simp at z)⟩
 rw [e] at z
 rcases z with z | z
 ·exact absurd rfl (h _ (PySem.mem_of_lookup z)).1
 ·exact absurd rfl (h _ (PySem.mem_of_lookup z)).2
theorem ax8(x y:Str):(x++y).cps.toList=x.cps.toList++y.cps.toList:=by
 show (x.cps++y.cps).toList=_;simp
theorem age{α:Type}(xs:List α)(k:Nat):a76 xs none (some (k:Int))=xs.take k:=by
 unfold a76;rw [HT.acf,HT.afz,List.drop_zero,Nat.sub_zero]
 by_cases h:k<=xs.length
 ·rw [Nat.min_eq_left h]
 ·rw [Nat.min_eq_right (by omega),List.take_of_length_le (Nat.le_refl _),List.take_of_length_le (by omega)]
theorem a9w{α:Type}(xs:List α)(k:Nat):a76 xs (some (k:Int)) none=xs.drop k:=by
 unfold a76;rw [HT.acf,HT.afz]
 by_cases h:k<=xs.length
 ·rw [Nat.min_eq_left h,List.take_of_length_le (by rw [List.length_drop];omega)]
 ·rw [Nat.min_eq_right (by omega),List.drop_eq_nil_of_le (Nat.le_refl _),List.drop_eq_nil_of_le (by omega),List.take_nil]
end L2
namespace L2
open PySem PySem.Spec PyProof.Rows
def agf(J:It)(s0:St)(g:TG)(tc:TT)(te:TE)(Q:VK)(H1:Hp):Prop:=∃ W:Nat->Nat->List V->Hp->Prop,(∃ m,W 0 m [] H1)/\∀ i m ys H,W i m ys H->
 (J.stop i H/\∀ p,H p=none->Q (.ref p) (upd H p (.lst ys))) \/
 (J.go i H/\ys.length<sizeLine/\∀ x H',J.yld i H x H'->g x s0 H' λσ2 H2=>Ext s0 σ2/\tc σ2 H2 λok H2'=>if ok=true then te σ2 H2' (λy H3=>∃ m',m'<m/\W (i+1) m' (ys++[y]) H3) else ∃ m',m'<m/\W (i+1) m' ys H2')
def a7y(wi:TI)(s0:St->St)(g:TG)(tc:TT)(te:TE):TE:=λσ H Q=>wi σ H λJ H1=>agf J (s0 σ) g tc te Q H1
theorem a68(elt target iter cnd:Expr)(scope:Scope)(pos:Pos)(it acc:Value)(env:Env) :
  compTurn (.ListComp elt [⟨target,iter,[cnd],0⟩] scope pos) 0 it acc env=(standAt iter.pos>>=λ_=>pyNext it>>=λr=>match r with
   | none=>pure (.done .next)
   | some v=>letOwnedTupleGo target it v>>=λ_=>assign target env v>>=λ_=>isTrue cnd env (eval cnd env)>>=λok =>
    (if ok=true then (eval elt env>>=λx=>call (.builtin "list.append") [acc,x]>>=λ_=>pure ()) else pure ())>>=λ_ =>
     again (.compLoop (.ListComp elt [⟨target,iter,[cnd],0⟩] scope pos) 0 it acc env)):=by
 first
  | rfl
  | (unfold compTurn;simp only [List.getElem?_cons_zero];rfl)
  | (show (standAt iter.pos>>=λ_=>pyNext it>>=λr=>_)=_
     congr 1;funext _;congr 1;funext r
     cases r with
     | none=>rfl
     | some v =>
      show (letOwnedTupleGo target it v>>=λ_=>assign target env v>>=λ_=>_)=(letOwnedTupleGo target it v>>=λ_=>assign target env v>>=λ_=>_)
      congr 1;funext _;congr 1;funext _
      simp
      congr 1;funext ok
      cases ok with
      | false=>rw [if_neg Bool.false_ne_true,if_neg Bool.false_ne_true,pure_bind]
      | true =>
       rw [if_pos rfl,if_pos rfl,bind_assoc]
       congr 1;funext x
       rw [map_eq_pure_bind,bind_assoc]
       congr 1)
theorem aeb{prog:Program}{w:World}{A:Around}{R:Result->Shared->Prop}{s:Shared}{elt target iter cnd:Expr}{scope:Scope}{pos:Pos}{it acc:Value}{env:Env}(J:Nat->Shared->Prop)
  (step:∀ m z,J m z->wpAny (model prog w) A (pyNext it) (λgot z1=>match got with
   | none=>R (.ok .next) z1
   | some v=>wpAny (model prog w) A (letOwnedTupleGo target it v) (λ_ z2=>wpAny (model prog w) A (assign target env v) (λ_ z3=>wpAny (model prog w) A (isTrue cnd env (eval cnd env)) (λok z3'=>if ok=true then wpAny (model prog w) A (eval elt env) (λx z4 =>
     wpAny (model prog w) A (call (.builtin "list.append") [acc,x]) (λ_ z5=>∃ m',m'<m/\J m' z5) (λ_ _=>False) z4)
     (λ_ _=>False) z3' else ∃ m',m'<m/\J m' z3') (λ_ _=>False) z3) (λ_ _=>False) z2) (λ_ _=>False) z1) (λ_ _=>False) z)
  (m:Nat) (j0:J m s):codeAny (model prog w) A (.compLoop (.ListComp elt [⟨target,iter,[cnd],0⟩] scope pos) 0 it acc env) R s:=by
 refine codeAny_loop rfl J (λm z hj=>(wpAny_noted ?_:wpAny _ _ ((compTurn (.ListComp elt [⟨target,iter,[cnd],0⟩] scope pos) 0 it acc env).onRaise _) _ _ z)) m j0;rw [a68];refine wpAny_bind (wpAny_standAt (wpAny_bind (wpAny_mono (step m z hj) (λgot z1 h1=>?_) λ_ _ no=>no.elim)))
 match got,h1 with
 | none,h1=>exact wpAny_pure h1
 | some v,h1 =>
  refine wpAny_bind (wpAny_mono h1 (λ_ z2 h2=>wpAny_bind (wpAny_mono h2 (λ_ z3 h3=>wpAny_bind (wpAny_mono h3 (λok z3' h3'=>?_) λ_ _ no=>no.elim)) λ_ _ no=>no.elim)) λ_ _ no=>no.elim)
  match ok,h3' with
  | true,h3' =>
   rw [if_pos rfl] at h3';refine wpAny_bind (wpAny_bind (wpAny_mono h3' (λx z4 h4=>?_) λ_ _ no=>no.elim));exact wpAny_bind (wpAny_mono h4 (λ_ z5 h5=>wpAny_pure (wpAny_pure ⟨rfl,h5⟩)) λ_ _ no=>no.elim)
  | false,h3' =>
   rw [if_neg Bool.false_ne_true] at h3';exact wpAny_bind (wpAny_pure (wpAny_pure ⟨rfl,h3'⟩))
section
variable{X:Cx}
theorem a69{elt tg iter cnd:Expr}{scope:Scope}{pos ppos:Pos}{cl:List (Str × Addr)}{ts fr:List Str}{ix:List Nat}{wi:TI}{g:TG}{tc:TT}{te:TE}(hc:X.calm=true)(S:CSc X scope cl ts fr ix)(hi:PI X tg iter wi)
  (hg:∀ C fp s H,PG (cxC X (ts++fr) scope cl C fp s H) tg g) (he:∀ C fp s H,PE (cxC X (ts++fr) scope cl C fp s H) elt te) (ht:∀ C fp s H,PT (cxC X (ts++fr) scope cl C fp s H) cnd tc) (hs:∀ x,foldedSetIterable iter X.env x=pure x)
  (use:Option (Value->Sem Unit)) {pins:List (Addr × Obj)} {s:Shared} {σ:St} {H:Hp} {Q:VK} {Qf:Value->Shared->Prop} (I:Inv X pins σ H s) (h:a7y wi (qx ts.length ix) g tc te σ H Q) (fin:a7x X pins σ use Q Qf) :
  wpAny (model X.prog X.w) X.A (comprehension (.ListComp elt [⟨tg,iter,[cnd],0⟩] scope pos) scope X.env ppos (newList []) false (eval iter X.env) use) Qf X.xe s:=by
 refine wpAny_comprehension_free (use:=use) rfl hs S.clos S.kind S.names (thn (hi pins s σ H _ I h) λv s1 h1=>thn h1 λitv s2 h2=>?_);obtain ⟨it,fp,tn,J,H2,e,I2,T,st2,f2,W,⟨m0,w0⟩,turn⟩:=h2;subst e;have hob:∀ b∈fp,b<s2.heap.objs.size:=λb hb=>let ⟨o,e,_⟩:=T.obj _ _ st2 b hb;Heap.lt_size e;refine wpAny_newObj_type (wpAny_newFunctionEnv S.nocell (by intro y hy;simp at hy) (λh4 hns4 hsb4=>?_) S.kind)
 dsimp only at hns4 hsb4 ⊢
 generalize hH2:s2.heap.push { cls:=.type "list",dict:=none,data:=.seq ([]:List Value).toArray }=G at hns4 hsb4 ⊢
 have hCs:G.objs.size=s2.heap.objs.size+1:=by rw [<-hH2,Heap.size_push]
 have hCle:s2.heap.objs.size<=G.objs.size:=by omega
 have hne:G.objs.size≠s2.heap.objs.size:=by omega
 have old:∀ b o,s2.heap.get? b=some o->h4.get? b=some o:=λb o e=>by
  have hlt:=Heap.lt_size e;exact hsb4.extBut b o (Nat.ne_of_lt (Nat.lt_of_lt_of_le hlt hCle)) (Heap.get?_push_of_some _ (hH2 ▸ Heap.get?_push_of_some _ e))
 have hacc:h4.get? s2.heap.objs.size=some { cls:=.type "list",data:=.seq ([]:List Value).toArray 0 } :=
  hsb4.extBut _ _ (Ne.symm hne) (Heap.get?_push_of_some _ (hH2 ▸ Heap.get?_push_size _ rfl))
 have K0:Inv (cxC X (ts++fr) scope cl G.objs.size fp s2 H2) [] (qx ts.length ix σ) H2 { s2 with heap:=h4,toks:=s2.toks+([]:List (Str × Value)).length } :=
  agd S I2 f2 hob hCle old hns4 rfl rfl
 have st4:tn 0 h4:=T.keep _ _ _ st2 λb _ o e=>old b o e;have accF:s2.heap.objs.size ∉ fp:=λz=>Nat.lt_irrefl _ (hob _ z);have stat:∀ {H':Hp},(∀ b∈fp,H' b=none)->∀ b∈fp,ab1 (cxC X (ts++fr) scope cl G.objs.size fp s2 H2) [] H' b:=λhn b hb =>
  ⟨hn b hb,λz=>by have h1:=hob b hb;have z':b=G.objs.size:=z;exact Nat.ne_of_lt (Nat.lt_of_lt_of_le h1 hCle) z',λz=>(a9u S I2 f2 hob hCle).exfs b hb z, .inl hb,λx c e=>(f2 b hb).2.2.2.2.1 x c (S.sub x c e),λp hp=>absurd (show p∈([]:List (Addr × Obj)) from hp) (by simp)⟩
 have statA:∀ {H':Hp},H' s2.heap.objs.size=none->ab1 (cxC X (ts++fr) scope cl G.objs.size fp s2 H2) [] H' s2.heap.objs.size:=λhn =>
  ⟨hn,λz=>hne (show G.objs.size=s2.heap.objs.size from z.symm),λz=>by
   obtain ⟨_,o,ho,_⟩:=(a9u S I2 f2 hob hCle).funs.mem z;exact Nat.lt_irrefl _ (Heap.lt_size ho), .inr (Nat.le_refl _),λx c e z=>by
   obtain ⟨v,o,ho,_⟩:=I2.cell x c (S.sub x c e);rw [z] at ho;exact Nat.lt_irrefl _ (Heap.lt_size ho),λp hp=>absurd (show p∈([]:List (Addr × Obj)) from hp) (by simp)⟩
 have loop:∀ s4:Shared,s4={ s2 with heap:=h4,toks:=s2.toks+([]:List (Str × Value)).length }->
   codeAny (model X.prog X.w) X.A (.compLoop (.ListComp elt [⟨tg,iter,[cnd],0⟩] scope pos) 0 (.ref it) (.ref s2.heap.objs.size) (compEnvC scope cl G.objs.size X.env))
    (compPost (model X.prog X.w) X.A X.xe use Qf (.ref s2.heap.objs.size) G.objs.size) s4:=by
  rintro s4 rfl
  refine aeb (λn s'=>∃ i σ' H' ys its k,Inv (cxC X (ts++fr) scope cl G.objs.size fp s2 H2) [] σ' H' s'/\Ext (qx ts.length ix σ) σ'/\tn i s'.heap/\(∀ b∈fp,H' b=none)/\H' s2.heap.objs.size=none /\
   s'.heap.get? s2.heap.objs.size=some { cls:=.type "list",data:=.seq its.toArray k }/\Vals ys its/\ys.length<=sizeLine/\W i n ys H') ?_ m0
   ⟨0,_,H2,[],[],0,K0,⟨rfl,λ_ _ z=>z⟩,st4,λb hb=>(f2 b hb).1,I2.hok.fresh (Nat.le_refl _),hacc, .nil,Nat.zero_le _,w0⟩
  rintro n s5 ⟨i,σ5,H5,ys,its,k5,I5,x5,st5,fr5,fa5,ac5,rv5,hz5,w5⟩
  have I5':Inv (cxC X (ts++fr) scope cl G.objs.size fp s2 H2) [] (qx ts.length ix σ) H5 s5:=I5.weak x5.1.symm x5.2
  rcases turn i n ys H5 w5 with ⟨stop,qn⟩ | ⟨go,hlt,step⟩
  ·refine thn (T.done (cxC X (ts++fr) scope cl G.objs.size fp s2 H2) rfl rfl rfl hc i [(s2.heap.objs.size,{ cls:=.type "list",data:=.seq its.toArray k5 })] s5 _ H5 _ (I5'.pins_of λp hp=>?_) (λb hb=>?_) st5 stop) λr s6 ⟨hr,I6⟩=>?_
   ·have e:p=(s2.heap.objs.size,{ cls:=.type "list",data:=.seq its.toArray k5 }):=by simpa using hp
    subst e;obtain ⟨a0,a1,a2,_⟩:=statA fa5;exact ⟨ac5,a0,a1,a2,λv z=>by cases z⟩
   ·obtain ⟨b0,b1,b2,b3,b4,b5⟩:=stat fr5 b hb;refine ⟨b0,b1,b2,b3,b4,λp hp=>?_⟩;have e:p=(s2.heap.objs.size,{ cls:=.type "list",data:=.seq its.toArray k5 }):=by
     have hp':p∈[(s2.heap.objs.size,_)]:=hp;simpa using hp'
    subst e;exact λz=>accF (by have z':s2.heap.objs.size=b:=z;rw [z'];exact hb)
   ·subst hr;have e6:=(I6.pin (s2.heap.objs.size,{ cls:=.type "list",data:=.seq its.toArray k5 }) (by show _∈[]++[_];simp)).1
    obtain ⟨m6,hn6,_⟩:=I6.loc;exact fin _ _ s6 _ m6 hn6 (I2.fpOk hCle (by rw [jf hne];exact I6.free)) (λh' sb=>comp_back I2 f2 hCle (Nat.le_refl _) hne I6.unpinned' fa5 e6 rv5 hz5 sb) (qn _ fa5)
  ·refine thn (T.item (cxC X (ts++fr) scope cl G.objs.size fp s2 H2) rfl rfl rfl hc i [(s2.heap.objs.size,{ cls:=.type "list",data:=.seq its.toArray k5 })] s5 _ H5 _ (I5'.pins_of λp hp=>?_) (λb hb=>?_) st5 go) λr s6 ⟨u,hr,h6⟩=>?_
   ·have e:p=(s2.heap.objs.size,{ cls:=.type "list",data:=.seq its.toArray k5 }):=by simpa using hp
    subst e;obtain ⟨a0,a1,a2,_⟩:=statA fa5;exact ⟨ac5,a0,a1,a2,λv z=>by cases z⟩
   ·obtain ⟨b0,b1,b2,b3,b4,b5⟩:=stat fr5 b hb;refine ⟨b0,b1,b2,b3,b4,λp hp=>?_⟩;have e:p=(s2.heap.objs.size,{ cls:=.type "list",data:=.seq its.toArray k5 }):=by
     have hp':p∈[(s2.heap.objs.size,_)]:=hp;simpa using hp'
    subst e;exact λz=>accF (by have z':s2.heap.objs.size=b:=z;rw [z'];exact hb)
   ·subst hr;refine thn h6 λ_ s7 ⟨x,H7,I7,r7,y7,st7,fr7⟩=>?_;have fa7:H7 s2.heap.objs.size=none:=(I7.pin (s2.heap.objs.size,{ cls:=.type "list",data:=.seq its.toArray k5 }) (by show _∈[]++[_];simp)).2.1
    have ac7:=(I7.pin (s2.heap.objs.size,{ cls:=.type "list",data:=.seq its.toArray k5 }) (by show _∈[]++[_];simp)).1
    have I7':Inv (cxC X (ts++fr) scope cl G.objs.size fp s2 H2) ([]++a71 (s2.heap.objs.size::fp) s7.heap) (qx ts.length ix σ) H7 s7:=by
     refine Inv.pinned I7.unpinned' (λb hb=>?_) λb hb=>?_
     ·rcases List.mem_cons.mp hb with e | e
      ·subst e;exact statA fa7
      ·exact stat fr7 b e
     ·rcases List.mem_cons.mp hb with e | e
      ·subst e;exact ⟨_,ac7,λv z=>by cases z⟩
      ·exact T.obj _ _ st7 b e
    refine thn (hg G.objs.size fp s2 H2 _ s7 _ H7 x u _ I7' r7 (step x H7 y7)) λ_ s8 ⟨σ8,H8,I8,x8,q8⟩=>?_;refine thn (ht G.objs.size fp s2 H2 _ s8 _ H8 _ I8 q8) λok s8' ⟨H8',I8',q8'⟩=>?_
    cases ok with
    | false =>
     rw [if_neg Bool.false_ne_true] at q8' ⊢;obtain ⟨m',hm',w9⟩:=q8';obtain ⟨ac9,fa9,_⟩:=I8'.pin (s2.heap.objs.size,{ cls:=.type "list",data:=.seq its.toArray k5 }) (by show _∈[]++([]++_);simp;exact u6 List.mem_cons_self ac7)
     have keep9:∀ b∈fp,∀ o,s7.heap.get? b=some o->s8'.heap.get? b=some o/\H8' b=none:=λb hb o e=>by
      obtain ⟨z1,z2,_⟩:=I8'.pin (b,o) (by show _∈[]++([]++_);simp;exact u6 (List.mem_cons_of_mem _ hb) e)
      exact ⟨z1,z2⟩
     refine ⟨m',hm',i+1,σ8,H8',ys,its,k5,I8'.unpinned',x8,?_,?_,fa9,ac9,rv5,hz5,w9⟩
     ·exact T.keep _ _ _ st7 λb hb o e=>(keep9 b hb o e).1
     ·intro b hb
      obtain ⟨o,e,_⟩:=T.obj _ _ st7 b hb;exact (keep9 b hb o e).2
    | true =>
     rw [if_pos rfl] at q8' ⊢;refine thn (he G.objs.size fp s2 H2 _ s8' _ H8' _ I8' q8') λyv s9 ⟨y,H9,I9,r9,m',hm',w9⟩=>?_;obtain ⟨ac9,fa9,_⟩:=I9.pin (s2.heap.objs.size,{ cls:=.type "list",data:=.seq its.toArray k5 }) (by show _∈[]++([]++_);simp;exact u6 List.mem_cons_self ac7)
     have keep9:∀ b∈fp,∀ o,s7.heap.get? b=some o->s9.heap.get? b=some o/\H9 b=none:=λb hb o e=>by
      obtain ⟨z1,z2,_⟩:=I9.pin (b,o) (by show _∈[]++([]++_);simp;exact u6 (List.mem_cons_of_mem _ hb) e)
      exact ⟨z1,z2⟩
     have hl:=rv5.length;refine call_meets F.slot_list_append ⟨_,ac9,rfl⟩ F.entry_list_append (F.args_list_append_2 _ _) (PySem.list_append s2.heap.objs.size its.toArray k5 yv (by rw [List.size_toArray];omega)) ⟨ac9,?_⟩
     have q:=PySem.IsL.update ac9 (λa=>a.push yv);have qo:∀ b o,b≠s2.heap.objs.size->s9.heap.get? b=some o->(s9.heap.update s2.heap.objs.size (Obj.mapSeq (λa=>a.push yv))).get? b=some o:=λb o hb e=>(Heap.get?_update_other s9.heap _ (Ne.symm hb)).trans e;have q':∃ k,(s9.heap.update s2.heap.objs.size (Obj.mapSeq (λa=>a.push yv))).get? s2.heap.objs.size=some { cls:=.type "list",data:=.seq (its++[yv]).toArray k }:=⟨_,by rw [q];simp;rfl⟩
     obtain ⟨k9,q9⟩:=q';obtain ⟨a0,a1,a2,a3,a4,a5⟩:=statA (show H9 s2.heap.objs.size=none from fa9)
     refine ⟨m',hm',i+1,σ8,H9,ys++[y],its++[yv],k9,(I9.unpinned').turned qo a0 a1 a3 a4 a5,x8,?_,?_,fa9,q9,rv5.append (.cons r9 .nil),?_,w9⟩
     ·refine T.keep _ _ _ st7 λb hb o e=>qo b o (λz=>accF (z ▸ hb)) (keep9 b hb o e).1
     ·intro b hb
      obtain ⟨o,e,_⟩:=T.obj _ _ st7 b hb;exact (keep9 b hb o e).2
     ·rw [List.length_append,List.length_singleton];omega
 exact codeAny_compStart_list (loop _ rfl) (T.self _ 0 _ _ _ st4 (loop _ rfl))
theorem aec{elt tg iter cnd:Expr}{scope:Scope}{pos:Pos}{cl:List (Str × Addr)}{ts fr:List Str}{ix:List Nat}{wi:TI}{g:TG}{tc:TT}{te:TE}(hc:X.calm=true)(S:CSc X scope cl ts fr ix)(hi:PI X tg iter wi)
  (hg:∀ C fp s H,PG (cxC X (ts++fr) scope cl C fp s H) tg g) (he:∀ C fp s H,PE (cxC X (ts++fr) scope cl C fp s H) elt te) (ht:∀ C fp s H,PT (cxC X (ts++fr) scope cl C fp s H) cnd tc)
  (hs:∀ x,foldedSetIterable iter X.env x=pure x:=by intro _;rfl) :
  PE X (.ListComp elt [⟨tg,iter,[cnd],0⟩] scope pos) (a7y wi (qx ts.length ix) g tc te):=by
 intro pins s σ H Q I h
 rw [eval_ListComp];exact a69 hc S hi hg he ht hs none I h acl
theorem aed{elt tg iter cnd:Expr}{scope:Scope}{pos:Pos}{cl:List (Str × Addr)}{ts fr:List Str}{ix:List Nat}{wi:TI}{g:TG}{tc:TT}{te:TE}{i:Nat}{x:Str}{pos' spos:Pos}(hN:X.N.Nodup)(hi':X.N[i]? = some x)(hx:Loc X.env.scope x)(hc:X.calm=true)(S:CSc X scope cl ts fr ix)(hi:PI X tg iter wi)
  (hg:∀ C fp s H,PG (cxC X (ts++fr) scope cl C fp s H) tg g) (he:∀ C fp s H,PE (cxC X (ts++fr) scope cl C fp s H) elt te) (ht:∀ C fp s H,PT (cxC X (ts++fr) scope cl C fp s H) cnd tc)
  (hs:∀ x,foldedSetIterable iter X.env x=pure x:=by intro _;rfl) (hsw:swapsWith (.ListComp elt [⟨tg,iter,[cnd],0⟩] scope pos) (some (.Name x pos')) spos.line X.env=pure true:=by rfl) (hf:X.fn x=true\/X.env.scope.names.lookup x=some .local:=by first | exact .inl rfl | exact .inr rfl | assumption) :
  PS X (.Assign [.Name x pos'] (.ListComp elt [⟨tg,iter,[cnd],0⟩] scope pos) spos) (avv (a7y wi (qx ts.length ix) g tc te) (ae2 i)):=by
 intro pins s σ H D I h
 rw [exec_Assign_Name_used _ _ _ _ hsw];refine wpAny_bind (wpAny_standAt (wpAny_bind ?_));refine wpAny_bind (wpAny_mono (a69 hc S hi hg he ht hs (some (assign (.Name x pos') X.env)) I h (acn hN hi' hx hf)) (λ_ s' hq=>wpAny_pure (wpAny_pure hq)) λ_ _ e=>e)
end
section
variable{X:Cx}
def a3s(T:Str)(c:Nat):Int:=Txt.find T ⟨#[c]⟩
theorem abg(s sub:Str)(hi limit:Nat):∀ (l:List Nat) (st:Array Nat × Nat) (k:Nat),k∈(forIn l st (StrLaws.occBody s sub hi limit)).run.fst.toList->k∈st.fst.toList\/(k+sub.length<=hi/\Builtin.Str.subAt s sub k=true)
 | [],st,k,h=>.inl h
 | a::l,st,k,h=>by
  rw [List.forIn_cons] at h;unfold StrLaws.occBody at h
  split at h
  ·rename_i c
   rcases abg s sub hi limit l _ k h with z | z
   ·simp at z
    rcases z with z | z
    ·exact .inl (by simpa using z)
    ·subst z;exact .inr ⟨c.1.2,c.2⟩
   ·exact .inr z
  ·rcases abg s sub hi limit l _ k h with z | z
   ·exact .inl z
   ·exact .inr z
theorem a7z{T:Str}{c:Nat}(h:c∈T.cps.toList):∃ i:Nat,a3s T c=(i:Int)/\T.cps.toList[i]? = some c/\∃ rest,Builtin.Str.occurrences T ⟨#[c]⟩ 0 T.length 1=i::rest:=by
 have h1:=StrLaws.found_one T c;rw [decide_eq_true h] at h1
 cases ho:Builtin.Str.occurrences T ⟨#[c]⟩ 0 T.length 1 with
 | nil=>rw [ho] at h1;cases h1
 | cons i rest =>
  refine ⟨i,by simp [a3s,Txt.find,ho],?_,rest,rfl⟩
  rw [StrLaws.occ_eq] at ho;have hm:=abg T ⟨#[c]⟩ T.length 1 (List.range' 0 (T.length+1 - 0)) (#[],0) i (by rw [ho];exact List.mem_cons_self)
  rcases hm with z | z
  ·simp at z
  ·exact (StrLaws.subAt_one T c i).mp z
theorem aou:OpR X (compareOp .In) (λx y H Q=>∃ c T,x = .str ⟨#[c]⟩/\y = .str T/\Q (.bl (decide (c∈T.cps.toList))) H):=by
 intro pins s σ H x y v u Q I rx ry h
 obtain ⟨c,T,rfl,rfl,q⟩:=h;exact afq pins s σ H _ _ v u Q I rx ry ⟨_,_,rfl,rfl,by rw [StrLaws.found_one];exact q⟩
theorem a2e:OpR X (compareOp .NotIn) (λx y H Q=>∃ c T,x = .str ⟨#[c]⟩/\y = .str T/\Q (.bl (!decide (c∈T.cps.toList))) H):=by
 intro pins s σ H x y v u Q I rx ry h
 obtain ⟨c,T,rfl,rfl,q⟩:=h;exact a9k pins s σ H _ _ v u Q I rx ry ⟨_,_,rfl,rfl,by rw [StrLaws.found_one];exact q⟩
theorem agg:MtR X "str.find" (λx xs H Q=>∃ T c,x = .str T/\xs=[.str ⟨#[c]⟩]/\Q (.int (a3s T c)) H):=by
 intro pins s σ H x xs v us Q I rx rs h
 obtain ⟨T,c,rfl,rfl,q⟩:=h;obtain ⟨t,rfl⟩:=rx;obtain ⟨u,rfl,t',rfl⟩:=vals1 rs;exact call_meets F.slot_str_find (typeIs_str _ _ _) F.entry_str_find (F.args_str_find_2 _ _) (gives_str_find _ _ _ _).meets ⟨.int (a3s T c),H,I.tok _,⟨_,rfl⟩,q⟩
theorem ajx:MtR X "str.index" (λx xs H Q=>∃ T c,x = .str T/\xs=[.str ⟨#[c]⟩]/\c∈T.cps.toList/\Q (.int (a3s T c)) H):=by
 intro pins s σ H x xs v us Q I rx rs h
 obtain ⟨T,c,rfl,rfl,hc,q⟩:=h;obtain ⟨t,rfl⟩:=rx;obtain ⟨u,rfl,t',rfl⟩:=vals1 rs;obtain ⟨i,e1,e2,rest,ho⟩:=a7z hc;refine call_meets F.slot_str_index (typeIs_str _ _ _) F.entry_str_index (F.args_str_index_2 _ _) (gives_str_index _ _ _ _ i rest ho).meets ⟨.int (a3s T c),H,I.tok _,⟨_,by rw [e1]⟩,q⟩
theorem aov{zs:List Str}:∀ {us:List Value},Vals (zs.map V.str) us->StrsAre us zs:=by
 induction zs with
 | nil=>intro us r;rw [List.map_nil] at r;cases r;exact .nil
 | cons z zs ih =>
  intro us r
  rw [List.map_cons] at r
  cases r with
  | cons r1 r2 =>
   obtain ⟨t,e⟩:=r1;subst e;exact .cons z t (ih r2)
theorem aow:MtR X "str.join" (λx xs H Q=>∃ sep p zs,x = .str sep/\xs=[.ref p]/\SqL X.K H p (zs.map V.str)/\(zs.map (·.length)).sum+zs.length*sep.length<=16777216/\Q (.str (Txt.join sep zs)) H):=by
 intro pins s σ H x xs v us Q I rx rs h
 obtain ⟨sep,p,zs,rfl,rfl,hp,hz,q⟩:=h;obtain ⟨t,rfl⟩:=rx;obtain ⟨u,rfl,ru⟩:=vals1 rs;cases ru
 obtain ⟨its,r,pl,_⟩:=I.list hp;exact join_list pl.isList (by simpa using aov r) hz λt' k=>⟨.str _,H,I.tok _,⟨_,rfl⟩,q⟩
end
theorem CSc.of{X:Cx}{scope:Scope}{cl:List (Str × Addr)}{ts fr:List Str}{ix:List Nat}(clos:closureFor scope X.env=pure cl)(kind:scope.kind = .function)
  (nocell:(scope.names.all λp=>p.2 != .cell)=true) (names:(scope.names.all λp=>p.2 != .local || scope.names.lookup p.1 == some .local)=true) (sub:∀ p∈cl,X.env.cells.lookup p.1=some p.2)
  (has:((relabel scope X.env).names.all λp => !(p.2 == .cell || p.2 == .free) || (cl.lookup p.1).isSome)=true) (nofn:(ts.all λy=>(relabel scope X.env).names.lookup y == some .local)=true)
  (len:ix.length=fr.length) (vis:((fr.zip ix).all λp=>X.N[p.2]? == some p.1 && (X.env.kindOf p.1 == some .cell || X.env.kindOf p.1 == some .free) && ((relabel scope X.env).names.lookup p.1 == some .cell || (relabel scope X.env).names.lookup p.1 == some .free))=true) :
  CSc X scope cl ts fr ix:=by
 refine ⟨clos,kind,λy hy=>?_,λy hy e=>?_,λy c e=>sub _ (PySem.mem_of_lookup e),λy z=>?_,λy hy=>?_,len,λj y e=>?_⟩
 ·have:=List.all_eq_true.mp nocell y hy
  simpa using this
 ·have:=List.all_eq_true.mp names y hy
  rw [e] at this;simpa using this
 ·have key:∀ k,(relabel scope X.env).names.lookup y=some k->(k == .cell || k == .free)=true->∃ c,cl.lookup y=some c:=λk e hk=>by
   have:=List.all_eq_true.mp has _ (PySem.mem_of_lookup e)
   rw [hk] at this;exact Option.isSome_iff_exists.mp (by simpa using this)
  rcases z with z | z
  ·exact key _ z rfl
  ·exact key _ z rfl
 ·have:=List.all_eq_true.mp nofn y hy
  simpa using this
 ·obtain ⟨hj,_⟩:=List.getElem?_eq_some_iff.mp e;have hj2:j<ix.length:=by omega
  have hm:(y,ix[j])∈fr.zip ix:=by
   rw [List.mem_iff_getElem?];exact ⟨j,by rw [List.getElem?_zip_eq_some];exact ⟨e,List.getElem?_eq_getElem hj2⟩⟩
  have:=List.all_eq_true.mp vis _ hm
  simp only [Bool.and_eq_true,Bool.or_eq_true,beq_iff_eq] at this;exact ⟨ix[j],List.getElem?_eq_getElem hj2,this.1.1,this.1.2,this.2⟩
end L2
namespace HT
open PySem PySem.Spec PyProof.Rows
end HT
namespace L2
open PySem PySem.Spec PyProof.Rows
def tSM(r:V->List V->Hp->VK->Prop)(to:TE)(t:TA):TE:=λσ H Q=>to σ H λx H1=>(∃ z,x = .str z)/\t σ H1 λxs H2=>r x xs H2 Q
theorem ax9{X:Cx}{o e:Expr}{es:List Expr}{to:TE}{t:TA}{name:Str}{apos cpos:Pos}{id:String}{r:V->List V->Hp->VK->Prop}(slot:Slot "str" name id)(hty:typeOf (.builtin id)=pure (.type "method_descriptor"))(hm:MtR X id r)(ho:PE X o to)(ha:PA X (e::es) t)
  (hbase:attributeBase o name X.env (eval o X.env)=eval o X.env:=by rfl)
  (hfew:((backTo cpos (starEach (e::es) X.env)).all (λx => !x.1) && (backToKw cpos (keywordEach [] X.env)).all (λx=>x.1.isSome)
   && decide ((e::es).length+([]:List Keyword).length+(if ([]:List Keyword).isEmpty then 0 else 1)<30))=true:=by rfl)
  (hline:(apos.endLine == cpos.line)=true:=by rfl) (hs:starEach (e::es) X.env=(false,eval e X.env)::starEach es X.env:=by rfl) (hplain:(backTo cpos (starEach es X.env)).any (·.1)=false:=by rfl) :
  PE X (.Call (.Attribute o name apos) (e::es) [] cpos) (tSM r to t):=by
 intro pins s σ H Q I h
 refine wpAny_Call_method_late hbase hfew hline rfl (thn (ho pins s σ H _ I h) λv s1 ⟨x,H1,I1,r1,⟨z,hz⟩,q1⟩=>?_);subst hz;obtain ⟨h1,h2⟩:=ama (T := "str") I1 r1 rfl;refine ⟨"str",id,PySem.F.plainAttrs_str,slot,hty,h1,h2,?_⟩;have hA:=ha cpos pins s1 σ H1 _ I1 q1;rw [hs] at hA ⊢;refine Calls.callWith_builtin (by show (false || (backTo cpos (starEach es X.env)).any (·.1))=false;rw [hplain]<;>rfl) (Calls.evalArgs_plain ?_)
 exact thn hA λus s2 ⟨vs,H2,I2,r2,q2⟩=>hm pins s2 σ H2 _ vs v us Q I2 r1 r2 q2
section
variable{X:Cx}
theorem aee(hc:X.calm=true):CallR X (.builtin "sum") (λxs H Q=>∃ (p:Addr) (ns:List Int),xs=[.ref p]/\SqL X.K H p (ns.map V.int)/\Q (.int ns.sum) H):=by
 intro pins s σ H xs us Q I r h
 obtain ⟨p,ns,rfl,hq,q⟩:=h;obtain ⟨u,rfl,rx⟩:=vals1 r;cases rx
 obtain ⟨its,r',pl,hz⟩:=I.list hq;have hInts:IntsAre its ns:=intsAre_of r';obtain ⟨prs,ep⟩:=hInts.allInts.items;refine sum_intListG (xs:=prs) (I.ok.hd hc) (ep ▸ pl.isList) λh' tk t' hk=>⟨.int ns.sum,H,I.kept hk,⟨t',?_⟩,q⟩;have nums:prs.toList.map (·.1)=ns:=by
  rw [<-nums_intItems,<-ep];exact hInts.numsOf
 have tot:preSum (numAt prs) prs.size=ns.sum:=by
  rw [preSum_eq,<-nums]
  congr 1
  exact List.take_of_length_le (by simp)
 rw [tot]
end
end L2
namespace SHP
open PySem L2
end SHP
namespace L2
open PySem PySem.Spec PyProof.Rows
end L2
namespace SHP
open PySem L2
end SHP
namespace MI
open PySem L2
inductive D where
 | non | bl (b:Bool) | int (i:Int) | str (x:Str) | ty (n:String) | tup (xs:List D) | rol (xs:List D) | ref (i:Nat) | scr (xs:List D) | rod (ks:List Key) (xs:List D) | rdT (ks:List (List Key)) (xs:List D) | exc (c:Str)
inductive O where
 | lst (xs:List D) | dK (kvs:List (Key × D)) | dT (kvs:List (List Key × D))
abbrev Hd:=List O
abbrev Sd:=List (Option D)
inductive R (α:Type) where
 | ok (a:α) (h:Hd) | ex (c:Str) (h:Hd) | no
def R.bind{α β:Type}:R α->(α->Hd->R β)->R β
 | .ok a h,k=>k a h
 | .ex c h,_=>.ex c h
 | .no,_=>.no
inductive Fl where
 | nx (σ:Sd) (h:Hd) | rt (d:D) (h:Hd) | bk (σ:Sd) (h:Hd) | ct (σ:Sd) (h:Hd) | ex (c:Str) (h:Hd) | no
def R.fl{α:Type}:R α->(α->Hd->Fl)->Fl
 | .ok a h,k=>k a h
 | .ex c h,_=>.ex c h
 | .no,_=>.no
abbrev SE:=Sd->Hd->R D
abbrev ST:=Sd->Hd->R Bool
abbrev SA:=Sd->Hd->R (List D)
abbrev SS:=Sd->Hd->Fl
def SqF(K:PySem.W.Frag)(H:Hp)(a:Addr)(vs:List V):Prop:=(∃ o,H a=some (.frz o (.lst vs)))\/SqL K (λ_=>none) a vs
theorem SqF.l{K:PySem.W.Frag}{H:Hp}{a:Addr}{vs:List V}(h:SqF K H a vs):SqL K H a vs:=by
 rcases h with ⟨o,h⟩ | h
 ·exact .inl (.inr ⟨o,h⟩)
 ·rcases h with (h | ⟨o,h⟩) | h
  ·cases h
  ·cases h
  ·exact .inr h
def SqZ(H:Hp)(a:Addr)(vs:List V):Prop:=∃ o,H a=some (.frz o (.lst vs))
theorem SqZ.l{K:PySem.W.Frag}{H:Hp}{a:Addr}{vs:List V}(h:SqZ H a vs):SqL K H a vs:=let ⟨o,e⟩:=h; .inl (.inr ⟨o,e⟩)
def exO(a:Addr):HO:=.ext λh=>∃ o,h.get? a=some o
mutual
inductive Rep (K:PySem.W.Frag) (ι:List Addr) (H:Hp):V->D->Prop
 | non:Rep K ι H .non .non
 | bl (b:Bool):Rep K ι H (.bl b) (.bl b)
 | int (i:Int):Rep K ι H (.int i) (.int i)
 | str (x:Str):Rep K ι H (.str x) (.str x)
 | ty (n:String):Rep K ι H (.ty n) (.ty n)
 | tup {a:Addr} {vs:List V} {xs:List D} (h:H a=some (.tup vs)) (r:Reps K ι H vs xs):Rep K ι H (.ref a) (.tup xs)
 | rol {a:Addr} {vs:List V} {xs:List D} (h:SqZ H a vs) (r:Reps K ι H vs xs):Rep K ι H (.ref a) (.rol xs)
 | scr {a:Addr} {vs:List V} {xs:List D} (h:SqF K H a vs) (r:Reps K ι H vs xs):Rep K ι H (.ref a) (.scr xs)
 | ref {a:Addr} {i:Nat} (h:ι[i]? = some a):Rep K ι H (.ref a) (.ref i)
 | rod {a:Addr} {o:Obj} {us:List (Key × V)} {ks:List Key} {xs:List D} (h:H a=some (.frz o (.dK us))) (e:us.map (·.1)=ks) (r:Reps K ι H (us.map (·.2)) xs):Rep K ι H (.ref a) (.rod ks xs)
 | rdT {a:Addr} {o:Obj} {us:List (List Key × V)} {ks:List (List Key)} {xs:List D} (h:H a=some (.frz o (.dT us))) (e:us.map (·.1)=ks) (r:Reps K ι H (us.map (·.2)) xs):Rep K ι H (.ref a) (.rdT ks xs)
 | exc {a C:Addr} {o:Obj} {c:Str} (h:H a=some (.frz o (exO a))) (hc:o.cls = .ref C) (hn:PySem.W.nsIn K mainGlobals c=some (some (.ref C))):Rep K ι H (.ref a) (.exc c)
inductive Reps (K:PySem.W.Frag) (ι:List Addr) (H:Hp):List V->List D->Prop
 | nil:Reps K ι H [] []
 | cons {v:V} {d:D} {vs:List V} {ds:List D} (r:Rep K ι H v d) (rs:Reps K ι H vs ds):Reps K ι H (v::vs) (d::ds)
end
structure Gw (ι:List Addr) (H:Hp) (ι':List Addr) (H':Hp):Prop where
 pre:∃ m,ι'=ι++m
 tup:∀ a vs,H a=some (.tup vs)->H' a=some (.tup vs)
 frz:∀ a o u,H a=some (.frz o u)->H' a=some (.frz o u)
structure Gr (ι:List Addr) (H:Hp) (ι':List Addr) (H':Hp):Prop where
 pre:∃ m,ι'=ι++m/\∀ a∈m,H a=none
 tup:∀ a vs,H a=some (.tup vs)->H' a=some (.tup vs)
 frz:∀ a o u,H a=some (.frz o u)->H' a=some (.frz o u)
 oth:∀ a u,H a=some u->a ∉ ι->H' a=some u
 kp:∀ a u,H a=some u->∃ u',H' a=some u'
theorem Gr.w{ι ι':List Addr}{H H':Hp}(g:Gr ι H ι' H'):Gw ι H ι' H':=⟨let ⟨m,e,_⟩:=g.pre; ⟨m,e⟩,g.tup,g.frz⟩
theorem Gr.refl(ι:List Addr)(H:Hp):Gr ι H ι H:=⟨⟨[],by simp,by simp⟩,λ_ _ h=>h,λ_ _ _ h=>h,λ_ _ h _=>h,λ_ u h=>⟨u,h⟩⟩
theorem Gr.trans{ι ι1 ι2:List Addr}{H H1 H2:Hp}(a:Gr ι H ι1 H1)(b:Gr ι1 H1 ι2 H2):Gr ι H ι2 H2:=by
 obtain ⟨m,rfl,hm⟩:=a.pre;obtain ⟨n,rfl,hn⟩:=b.pre;refine ⟨⟨m++n,by simp,λx hx=>?_⟩,λx vs h=>b.tup x vs (a.tup x vs h),λx o u h=>b.frz x o u (a.frz x o u h),λx u h hx=>?_,λx u h=>?_⟩
 ·rcases List.mem_append.mp hx with hx | hx
  ·exact hm x hx
  ·cases e:H x with
   | none=>rfl
   | some u =>
    obtain ⟨u',e'⟩:=a.kp x u e;rw [hn x hx] at e';cases e'
 ·refine b.oth x u (a.oth x u h hx) λz=>?_
  rcases List.mem_append.mp z with z | z
  ·exact hx z
  ·rw [hm x z] at h;cases h
 ·obtain ⟨u',e⟩:=a.kp x u h;exact b.kp x u' e
theorem Gw.at{ι ι':List Addr}{H H':Hp}(g:Gw ι H ι' H'){i:Nat}{a:Addr}(h:ι[i]? = some a):ι'[i]? = some a:=by
 obtain ⟨m,rfl⟩:=g.pre;rw [List.getElem?_append_left (List.getElem?_eq_some_iff.mp h).1];exact h
theorem Gr.at{ι ι':List Addr}{H H':Hp}(g:Gr ι H ι' H'){i:Nat}{a:Addr}(h:ι[i]? = some a):ι'[i]? = some a:=g.w.at h
theorem SqF.monoW{K:PySem.W.Frag}{ι ι':List Addr}{H H':Hp}(g:Gw ι H ι' H'){a:Addr}{vs:List V}(h:SqF K H a vs):SqF K H' a vs:=by
 rcases h with ⟨o,h⟩ | h
 ·exact .inl ⟨o,g.frz _ _ _ h⟩
 ·exact .inr h
theorem SqZ.monoW{ι ι':List Addr}{H H':Hp}(g:Gw ι H ι' H'){a:Addr}{vs:List V}(h:SqZ H a vs):SqZ H' a vs:=let ⟨o,e⟩:=h; ⟨o,g.frz _ _ _ e⟩
theorem SqZ.mono{ι ι':List Addr}{H H':Hp}(g:Gr ι H ι' H'){a:Addr}{vs:List V}(h:SqZ H a vs):SqZ H' a vs:=h.monoW g.w
mutual
theorem Rep.monoW{K:PySem.W.Frag}{ι ι':List Addr}{H H':Hp}(g:Gw ι H ι' H'):∀ {v:V} {d:D},Rep K ι H v d->Rep K ι' H' v d
 | _,_, .non=>.non
 | _,_, .bl b=>.bl b
 | _,_, .int i=>.int i
 | _,_, .str x=>.str x
 | _,_, .ty n=>.ty n
 | _,_, .tup h r=>.tup (g.tup _ _ h) (Reps.monoW g r)
 | _,_, .rol h r=>.rol (h.monoW g) (Reps.monoW g r)
 | _,_, .scr h r=>.scr (h.monoW g) (Reps.monoW g r)
 | _,_, .ref h=>.ref (g.at h)
 | _,_, .rod h e r=>.rod (g.frz _ _ _ h) e (Reps.monoW g r)
 | _,_, .rdT h e r=>.rdT (g.frz _ _ _ h) e (Reps.monoW g r)
 | _,_, .exc h hc hn=>.exc (g.frz _ _ _ h) hc hn
theorem Reps.monoW{K:PySem.W.Frag}{ι ι':List Addr}{H H':Hp}(g:Gw ι H ι' H'):∀ {vs:List V} {ds:List D},Reps K ι H vs ds->Reps K ι' H' vs ds
 | _,_, .nil=>.nil
 | _,_, .cons r rs=>.cons (Rep.monoW g r) (Reps.monoW g rs)
end
theorem Rep.mono{K:PySem.W.Frag}{ι ι':List Addr}{H H':Hp}(g:Gr ι H ι' H'){v:V}{d:D}(r:Rep K ι H v d):Rep K ι' H' v d:=r.monoW g.w
theorem Reps.mono{K:PySem.W.Frag}{ι ι':List Addr}{H H':Hp}(g:Gr ι H ι' H'){vs:List V}{ds:List D}(r:Reps K ι H vs ds):Reps K ι' H' vs ds:=r.monoW g.w
section
variable{K:PySem.W.Frag}{ι:List Addr}{H:Hp}
theorem Reps.len{vs:List V}{ds:List D}:Reps K ι H vs ds->vs.length=ds.length
 | .nil=>rfl
 | .cons _ rs=>by rw [List.length_cons,List.length_cons,rs.len]
theorem Reps.get:∀ {vs:List V} {ds:List D} {i:Nat} {d:D},Reps K ι H vs ds->ds[i]? = some d->∃ v,vs[i]? = some v/\Rep K ι H v d
 | _,_,_,_, .nil,e=>by simp at e
 | _,_,0,_, .cons r _,e=>by simp at e;subst e;exact ⟨_,rfl,r⟩
 | _,_,i+1,d, .cons _ rs,e=>by
  obtain ⟨u,h1,h2⟩:=Reps.get (i:=i) (d:=d) rs (by simpa using e)
  exact ⟨u,by simpa using h1,h2⟩
theorem Reps.app:∀ {vs us:List V} {ds es:List D},Reps K ι H vs ds->Reps K ι H us es->Reps K ι H (vs++us) (ds++es)
 | _,_,_,_, .nil,s=>s
 | _,_,_,_, .cons r rs,s=>.cons r (Reps.app rs s)
theorem Reps.set{v:V}{d:D}(q:Rep K ι H v d):∀ {vs:List V} {ds:List D} (i:Nat),Reps K ι H vs ds->Reps K ι H (vs.set i v) (ds.set i d)
 | _,_,_, .nil=>.nil
 | _,_,0, .cons _ rs=>.cons q rs
 | _,_,i+1, .cons r rs=>.cons r (Reps.set q i rs)
theorem Reps.take:∀ {vs:List V} {ds:List D} (n:Nat),Reps K ι H vs ds->Reps K ι H (vs.take n) (ds.take n)
 | _,_,0,_=>.nil
 | _,_,_+1, .nil=>.nil
 | _,_,n+1, .cons r rs=>.cons r (Reps.take n rs)
theorem Reps.drop:∀ {vs:List V} {ds:List D} (n:Nat),Reps K ι H vs ds->Reps K ι H (vs.drop n) (ds.drop n)
 | _,_,0,r=>r
 | _,_,_+1, .nil=>.nil
 | _,_,n+1, .cons _ rs=>Reps.drop n rs
theorem Reps.snoc{vs:List V}{ds:List D}{v:V}{d:D}(r:Reps K ι H vs ds)(q:Rep K ι H v d):Reps K ι H (vs++[v]) (ds++[d]):=r.app (.cons q .nil)
theorem Reps.flat:∀ {vs:List V} {ds:List D} (k:Nat),Reps K ι H vs ds->Reps K ι H (List.replicate k vs).flatten (List.replicate k ds).flatten
 | _,_,0,_=>.nil
 | vs,ds,k+1,r=>by
  rw [List.replicate_succ,List.replicate_succ,List.flatten_cons,List.flatten_cons];exact r.app (Reps.flat k r)
end
def KRep{κ:Type}(K:PySem.W.Frag)(ι:List Addr)(H:Hp)(us:List (κ × V))(kvs:List (κ × D)):Prop:=us.map (·.1)=kvs.map (·.1)/\Reps K ι H (us.map (·.2)) (kvs.map (·.2))
def ORep(K:PySem.W.Frag)(ι:List Addr)(H:Hp)(a:Addr):O->Prop
 | .lst xs=>∃ vs,H a=some (.lst vs)/\Reps K ι H vs xs
 | .dK kvs=>∃ us,H a=some (.dK us)/\KRep K ι H us kvs
 | .dT kvs=>∃ us,H a=some (.dT us)/\KRep K ι H us kvs
structure HRep (K:PySem.W.Frag) (ι:List Addr) (H:Hp) (h:Hd):Prop where
 nd:ι.Nodup
 len:ι.length=h.length
 obj:∀ (i:Nat) (a:Addr) (o:O),ι[i]? = some a->h[i]? = some o->ORep K ι H a o
section
variable{K:PySem.W.Frag}{ι:List Addr}{H:Hp}{h:Hd}
theorem ORep.some{a:Addr}{o:O}(r:ORep K ι H a o):∃ u,H a=some u/\(∀ vs,u≠.tup vs)/\(∀ o' u',u≠.frz o' u'):=by
 cases o with
 | lst xs=>obtain ⟨vs,e,_⟩:=r;exact ⟨_,e,λ_ z=>(by cases z),λ_ _ z=>(by cases z)⟩
 | dK kvs=>obtain ⟨us,e,_⟩:=r;exact ⟨_,e,λ_ z=>(by cases z),λ_ _ z=>(by cases z)⟩
 | dT kvs=>obtain ⟨us,e,_⟩:=r;exact ⟨_,e,λ_ z=>(by cases z),λ_ _ z=>(by cases z)⟩
theorem HRep.at(r:HRep K ι H h){i:Nat}{a:Addr}(e:ι[i]? = some a):∃ o,h[i]? = some o/\ORep K ι H a o:=by
 have hi:i<h.length:=by rw [<-r.len];exact (List.getElem?_eq_some_iff.mp e).1
 exact ⟨h[i],List.getElem?_eq_getElem hi,r.obj i a _ e (List.getElem?_eq_getElem hi)⟩
theorem HRep.addr(r:HRep K ι H h){i:Nat}{o:O}(e:h[i]? = some o):∃ a,ι[i]? = some a/\ORep K ι H a o:=by
 have hi:i<ι.length:=by rw [r.len];exact (List.getElem?_eq_some_iff.mp e).1
 exact ⟨ι[i],List.getElem?_eq_getElem hi,r.obj i _ o (List.getElem?_eq_getElem hi) e⟩
theorem HRep.notin(r:HRep K ι H h){p:Addr}(e:H p=none):p ∉ ι:=λz=>by
 obtain ⟨i,hi⟩:=List.getElem?_of_mem z;obtain ⟨o,_,q⟩:=r.at hi;obtain ⟨u,q,_⟩:=q.some;rw [e] at q;cases q
theorem ORep.monoW{ι':List Addr}{H':Hp}{a:Addr}{o:O}(g:Gw ι H ι' H')(e:H' a=H a)(r:ORep K ι H a o):ORep K ι' H' a o:=by
 cases o with
 | lst xs=>obtain ⟨vs,h1,h2⟩:=r;exact ⟨vs,by rw [e];exact h1,h2.monoW g⟩
 | dK kvs=>obtain ⟨us,h1,h2,h3⟩:=r;exact ⟨us,by rw [e];exact h1,h2,h3.monoW g⟩
 | dT kvs=>obtain ⟨us,h1,h2,h3⟩:=r;exact ⟨us,by rw [e];exact h1,h2,h3.monoW g⟩
theorem ORep.mono{ι':List Addr}{H':Hp}{a:Addr}{o:O}(g:Gr ι H ι' H')(e:H' a=H a)(r:ORep K ι H a o):ORep K ι' H' a o:=r.monoW g.w e
theorem yj{p:Addr}(e:H p=none)(o:HO):Gr ι H ι (upd H p o) :=
 ⟨⟨[],by simp,by simp⟩,λa vs h=>by rw [jf (jo h e)];exact h,λa o u h=>by rw [jf (jo h e)];exact h,λa u h _=>by rw [jf (jo h e)];exact h,λa u h=>⟨u,by rw [jf (jo h e)];exact h⟩⟩
theorem HRep.aside(r:HRep K ι H h){p:Addr}(e:H p=none)(o:HO):HRep K ι (upd H p o) h:=by
 refine ⟨r.nd,r.len,λi a o' e1 e2=>?_⟩;have q:=r.obj i a o' e1 e2;obtain ⟨u,hu,_⟩:=q.some;exact q.mono (yj e o) (jf (jo hu e))
theorem a9x{p:Addr}(e:H p=none)(o:HO):Gr ι H (ι++[p]) (upd H p o) :=
 ⟨⟨[p],rfl,by simpa using e⟩,(yj (ι:=ι) e o).tup,(yj (ι:=ι) e o).frz,(yj (ι:=ι) e o).oth,(yj (ι:=ι) e o).kp⟩
theorem HRep.add(r:HRep K ι H h){p:Addr}(e:H p=none){o:HO}{ob:O}(q:ORep K (ι++[p]) (upd H p o) p ob):HRep K (ι++[p]) (upd H p o) (h++[ob]):=by
 refine ⟨?_,by simp [r.len],λi a o' e1 e2=>?_⟩
 ·rw [List.nodup_append];exact ⟨r.nd,by simp,λa ha b hb z=>r.notin e (by rw [List.mem_singleton.mp hb] at z;rw [<-z];exact ha)⟩
 ·by_cases hi:i<ι.length
  ·rw [List.getElem?_append_left hi] at e1;rw [List.getElem?_append_left (by rw [<-r.len];exact hi)] at e2
   have q:=r.obj i a o' e1 e2;obtain ⟨u,hu,_⟩:=q.some;exact q.mono (a9x e o) (jf (jo hu e))
  ·have hi2:i<(ι++[p]).length:=(List.getElem?_eq_some_iff.mp e1).1;have:i=ι.length:=by simp at hi2;omega
   subst this;rw [List.getElem?_append_right (Nat.le_refl _)] at e1;rw [r.len,List.getElem?_append_right (Nat.le_refl _)] at e2;simp at e1 e2;subst e1 e2;exact q
theorem a2v{a:Addr}{i:Nat}(r:HRep K ι H h)(e:ι[i]? = some a)(o:HO):Gr ι H ι (upd H a o):=by
 obtain ⟨_,_,q⟩:=r.at e;obtain ⟨u,hu,n1,n2⟩:=q.some;refine ⟨⟨[],by simp,by simp⟩,λb vs hb=>?_,λb o' u' hb=>?_,λb u' hb hn=>?_,λb u' hb=>?_⟩
 ·rw [jf (λz=>by subst z;rw [hu] at hb;exact n1 _ (Option.some.inj hb))];exact hb
 ·rw [jf (λz=>by subst z;rw [hu] at hb;exact n2 _ _ (Option.some.inj hb))];exact hb
 ·rw [jf (λz=>hn (by subst z;exact List.mem_of_getElem? e))];exact hb
 ·by_cases z:b=a
  ·subst z;exact ⟨o,mq⟩
  ·exact ⟨u',by rw [jf z];exact hb⟩
theorem HRep.put(r:HRep K ι H h){a:Addr}{i:Nat}(e:ι[i]? = some a){o:HO}{ob:O}(q:ORep K ι (upd H a o) a ob):HRep K ι (upd H a o) (h.set i ob):=by
 refine ⟨r.nd,by rw [List.length_set];exact r.len,λj b o' e1 e2=>?_⟩
 by_cases hj:i=j
 ·subst hj;rw [e] at e1;cases e1
  have hi:i<h.length:=by rw [<-r.len];exact (List.getElem?_eq_some_iff.mp e).1
  rw [List.getElem?_set_self hi] at e2;cases e2
  exact q
 ·rw [List.getElem?_set_ne hj] at e2;have hne:b≠a:=λz=>by
   subst z;obtain ⟨h1,g1⟩:=List.getElem?_eq_some_iff.mp e;obtain ⟨h2,g2⟩:=List.getElem?_eq_some_iff.mp e1;have np:=List.pairwise_iff_getElem.mp r.nd
   rcases Nat.lt_or_gt_of_ne hj with l | l
   ·exact np i j h1 h2 l (g1.trans g2.symm)
   ·exact np j i h2 h1 l (g2.trans g1.symm)
  exact (r.obj j b o' e1 e2).mono (a2v r e o) (jf hne)
end
structure SRep (K:PySem.W.Frag) (ι:List Addr) (H:Hp) (σ:St) (τ:Sd):Prop where
 len:σ.length=τ.length
 val:∀ (i:Nat) (d:D),τ[i]? = some (some d)->∃ v,σ[i]? = some (some v)/\Rep K ι H v d
theorem SRep.mono{K:PySem.W.Frag}{ι ι':List Addr}{H H':Hp}{σ:St}{τ:Sd}(g:Gr ι H ι' H')(s:SRep K ι H σ τ):SRep K ι' H' σ τ :=
 ⟨s.len,λi d e=>let ⟨v,h1,h2⟩:=s.val i d e; ⟨v,h1,h2.mono g⟩⟩
theorem SRep.set{K:PySem.W.Frag}{ι:List Addr}{H:Hp}{σ:St}{τ:Sd}(s:SRep K ι H σ τ){v:V}{d:D}(r:Rep K ι H v d)(i:Nat):SRep K ι H (σ.set i (some v)) (τ.set i (some d)):=by
 refine ⟨by simp [s.len],λj d' e=>?_⟩
 by_cases hj:i=j
 ·subst hj;have hi:i<τ.length:=by
   have:=(List.getElem?_eq_some_iff.mp e).1
   simpa using this
  rw [List.getElem?_set_self hi] at e;cases e
  exact ⟨v,by rw [List.getElem?_set_self (by rw [s.len];exact hi)],r⟩
 ·rw [List.getElem?_set_ne hj] at e ⊢;exact s.val j d' e
abbrev XD:=Str->List Addr->Hp->Hd->Prop
def out{α β:Type}(K:PySem.W.Frag)(E:XD)(Rp:List Addr->Hp->β->α->Prop)(ι:List Addr)(H:Hp)(r:R α)(Q:β->Hp->Prop):Prop :=
 match r with
 | .ok a h=>∀ ι' H' b,Gr ι H ι' H'->Rp ι' H' b a->HRep K ι' H' h->Q b H'
 | .ex c h=>∀ ι' H',Gr ι H ι' H'->HRep K ι' H' h->E c ι' H' h
 | .no=>False
theorem a3t{α β:Type}{K:PySem.W.Frag}{E:XD}{Rp:List Addr->Hp->β->α->Prop}{ι ι1:List Addr}{H H1:Hp}{r:R α}{Q:β->Hp->Prop}(o:out K E Rp ι H r Q)(g:Gr ι H ι1 H1):out K E Rp ι1 H1 r Q:=by
 cases r with
 | ok a h=>exact λι' H' b g'=>o ι' H' b (g.trans g')
 | ex c h=>exact λι' H' g'=>o ι' H' (g.trans g')
 | no=>exact o
theorem g8{α β γ δ:Type}{K:PySem.W.Frag}{E:XD}{Rp:List Addr->Hp->β->α->Prop}{Sp:List Addr->Hp->δ->γ->Prop}{ι:List Addr}{H:Hp}{r:R α}{k:α->Hd->R γ}{Q:δ->Hp->Prop}{P:β->Hp->Prop}
  (o:out K E Sp ι H (r.bind k) Q) (hP:∀ a h ι1 H1 b,Gr ι H ι1 H1->Rp ι1 H1 b a->HRep K ι1 H1 h->out K E Sp ι1 H1 (k a h) Q->P b H1):out K E Rp ι H r P:=by
 cases r with
 | ok a h=>exact λι' H' b g r' hr=>hP a h ι' H' b g r' hr (a3t o g)
 | ex c h=>exact o
 | no=>exact o
abbrev a0a(K:PySem.W.Frag):List Addr->Hp->V->D->Prop:=λι H v d=>Rep K ι H v d
abbrev azk(K:PySem.W.Frag):List Addr->Hp->List V->List D->Prop:=λι H v d=>Reps K ι H v d
abbrev amg:List Addr->Hp->Bool->Bool->Prop:=λ_ _ a b=>a=b
abbrev azl:List Addr->Hp->Option Int->Option Int->Prop:=λ_ _ a b=>a=b
def aj4(K:PySem.W.Frag)(E:XD)(ι:List Addr)(H:Hp)(r:Fl)(N:Ends):Prop :=
 match r with
 | .nx τ h=>∀ ι' H' σ,Gr ι H ι' H'->SRep K ι' H' σ τ->HRep K ι' H' h->N.nx σ H'
 | .bk τ h=>∀ ι' H' σ,Gr ι H ι' H'->SRep K ι' H' σ τ->HRep K ι' H' h->N.bk σ H'
 | .ct τ h=>∀ ι' H' σ,Gr ι H ι' H'->SRep K ι' H' σ τ->HRep K ι' H' h->N.ct σ H'
 | .rt d h=>∀ ι' H' v,Gr ι H ι' H'->Rep K ι' H' v d->HRep K ι' H' h->N.rt v H'
 | .ex c h=>∀ ι' H',Gr ι H ι' H'->HRep K ι' H' h->E c ι' H' h
 | .no=>False
theorem ul{K:PySem.W.Frag}{E:XD}{ι ι1:List Addr}{H H1:Hp}{r:Fl}{N:Ends}(o:aj4 K E ι H r N)(g:Gr ι H ι1 H1):aj4 K E ι1 H1 r N:=by
 cases r with
 | nx τ h=>exact λι' H' b g'=>o ι' H' b (g.trans g')
 | bk τ h=>exact λι' H' b g'=>o ι' H' b (g.trans g')
 | ct τ h=>exact λι' H' b g'=>o ι' H' b (g.trans g')
 | rt d h=>exact λι' H' b g'=>o ι' H' b (g.trans g')
 | ex c h=>exact λι' H' g'=>o ι' H' (g.trans g')
 | no=>exact o
theorem qy{α β:Type}{K:PySem.W.Frag}{E:XD}{Rp:List Addr->Hp->β->α->Prop}{ι:List Addr}{H:Hp}{r:R α}{k:α->Hd->Fl}{N:Ends}{P:β->Hp->Prop}
  (o:aj4 K E ι H (r.fl k) N) (hP:∀ a h ι1 H1 b,Gr ι H ι1 H1->Rp ι1 H1 b a->HRep K ι1 H1 h->aj4 K E ι1 H1 (k a h) N->P b H1):out K E Rp ι H r P:=by
 cases r with
 | ok a h=>exact λι' H' b g r' hr=>hP a h ι' H' b g r' hr (ul o g)
 | ex c h=>exact o
 | no=>exact o
def lift{α β:Type}(K:PySem.W.Frag)(E:XD)(Rp:List Addr->Hp->β->α->Prop)(f:Sd->Hd->R α):St->Hp->(β->Hp->Prop)->Prop:=λσ H Q =>
 ∃ ι τ h,SRep K ι H σ τ/\HRep K ι H h/\out K E Rp ι H (f τ h) Q
def a80(K:PySem.W.Frag)(E:XD)(f:SS):TS:=λN σ H=>∃ ι τ h,SRep K ι H σ τ/\HRep K ι H h/\aj4 K E ι H (f τ h) N
abbrev ME(X:Cx)(E:XD)(e:Expr)(f:SE):Prop:=PE X e (lift X.K E (a0a X.K) f)
abbrev MT(X:Cx)(E:XD)(e:Expr)(f:ST):Prop:=PT X e (lift X.K E amg f)
abbrev MW(X:Cx)(E:XD)(e:Expr)(f:ST):Prop:=PW X e (lift X.K E amg f)
abbrev MA(X:Cx)(E:XD)(es:List Expr)(f:SA):Prop:=PA X es (lift X.K E (azk X.K) f)
abbrev MS(X:Cx)(E:XD)(st:Stmt)(f:SS):Prop:=PS X st (a80 X.K E f)
abbrev MSs(X:Cx)(E:XD)(st:List Stmt)(f:SS):Prop:=PSs X st (a80 X.K E f)
theorem PE.weak{X:Cx}{e:Expr}{t t':TE}(h:PE X e t)(i:∀ σ H Q,t' σ H Q->t σ H Q):PE X e t':=λpins s σ H Q I q=>h pins s σ H Q I (i _ _ _ q)
theorem PT.weak{X:Cx}{e:Expr}{t t':TT}(h:PT X e t)(i:∀ σ H Q,t' σ H Q->t σ H Q):PT X e t':=λpins s σ H Q I q=>h pins s σ H Q I (i _ _ _ q)
theorem PW.weak{X:Cx}{e:Expr}{t t':TT}(h:PW X e t)(i:∀ σ H Q,t' σ H Q->t σ H Q):PW X e t':=λwh pins s σ H Q I q=>h wh pins s σ H Q I (i _ _ _ q)
theorem PA.weak{X:Cx}{e:List Expr}{t t':TA}(h:PA X e t)(i:∀ σ H Q,t' σ H Q->t σ H Q):PA X e t':=λpos pins s σ H Q I q=>h pos pins s σ H Q I (i _ _ _ q)
theorem PS.weak{X:Cx}{e:Stmt}{t t':TS}(h:PS X e t)(i:∀ N σ H,t' N σ H->t N σ H):PS X e t':=λpins s σ H N I q=>h pins s σ H N I (i _ _ _ q)
theorem PSs.weak{X:Cx}{e:List Stmt}{t t':TS}(h:PSs X e t)(i:∀ N σ H,t' N σ H->t N σ H):PSs X e t':=λpins s σ H N I q=>h pins s σ H N I (i _ _ _ q)
abbrev LINE:Nat:=16777216
theorem ll{n:Nat}(h:n<=LINE):n<=sizeLine:=aot h
def sV(i:Nat):SE:=λτ h=>match τ[i]? with | some (some d)=>.ok d h | _=>.no
def sC(d:D):SE:=λ_ h=>.ok d h
section
variable{X:Cx}{E:XD}{a b c e:Expr}{fa fb fc:SE}{pos:Pos}
theorem bf(i:Nat){x:Str}{pos:Pos}(hN:X.N[i]? = some x:=by rfl)(hv:Vis X.env.scope x:=by first | exact Or.inl rfl | exact Or.inr (Or.inl rfl) | exact Or.inr (Or.inr rfl))(hd:(x == ("__debug__" : Str))=false:=by decide)
  (hcd:(x == ("__classdict__" : Str))=false:=by decide):ME X E (.Name x pos) (sV i):=by
 refine PE.weak (arl hN hv hd hcd) λσ H Q ⟨ι,τ,h,S,Rh,o⟩=>?_;unfold sV at o
 split at o
 ·rename_i d e;obtain ⟨v,h1,h2⟩:=S.val i d e;exact ⟨v,h1,o ι H v (.refl _ _) h2 Rh⟩
 ·exact o.elim
theorem ate{v:V}{d:D}(h:PE X e (tC v))(r:∀ ι H,Rep X.K ι H v d):ME X E e (sC d) :=
 PE.weak h λσ H Q ⟨ι,τ,h,S,Rh,o⟩=>o ι H v (.refl _ _) (r ι H) Rh
theorem az{i j pos}:ME X E (.Constant (.int i) j pos) (sC (.int i)):=ate arn λ_ _=>.int i
theorem a0d{i j pos}:ME X E (.Constant (.bool i) j pos) (sC (.bl i)):=ate awd λ_ _=>.bl i
theorem a1h{i j pos}:ME X E (.Constant (.str i) j pos) (sC (.str i)):=ate arp λ_ _=>.str i
theorem a5b{j pos}:ME X E (.Constant .none j pos) (sC .non):=ate aro λ_ _=>.non
theorem aox{x:Str}{n:String}{pos:Pos}(hg:Gl X x)(hm:X.mg x=none)(hv:bootBuiltins x=some (.type n))(hn:x ≠ "__name__":=by decide)(hd:(x == ("__debug__" : Str))=false:=by decide):ME X E (.Name x pos) (sC (.ty n)) :=
 ate (ao2 (v:=.ty n) hg hm hv rfl hn hd) λ_ _=>.ty n
def s2(g:D->D->Hd->R D)(fa fb:SE):SE:=λτ h=>(fa τ h).bind λx h1=>(fb τ h1).bind λy h2=>g x y h2
def s1(g:D->Hd->R D)(fa:SE):SE:=λτ h=>(fa τ h).bind g
def a2f(K:PySem.W.Frag)(g:D->D->Hd->R D)(r:R2):Prop:=∀ (E:XD) ι H h x y dx dy Q,Rep K ι H x dx->Rep K ι H y dy->HRep K ι H h->out K E (a0a K) ι H (g dx dy h) Q->r x y H Q
def azm(K:PySem.W.Frag)(g:D->Hd->R D)(r:V->Hp->VK->Prop):Prop:=∀ (E:XD) ι H h x dx Q,Rep K ι H x dx->HRep K ι H h->out K E (a0a K) ι H (g dx h) Q->r x H Q
def aef(K:PySem.W.Frag)(g:List D->Hd->R D)(r:List V->Hp->VK->Prop):Prop:=∀ (E:XD) ι H h xs ds Q,Reps K ι H xs ds->HRep K ι H h->out K E (a0a K) ι H (g ds h) Q->r xs H Q
theorem avy{g:D->D->Hd->R D}{r:R2}{K:PySem.W.Frag}(hs:a2f K g r){σ:St}{H:Hp}{Q:VK}(q:lift K E (a0a K) (s2 g fa fb) σ H Q):tOp r (lift K E (a0a K) fa) (lift K E (a0a K) fb) σ H Q:=by
 obtain ⟨ι,τ,h,S,Rh,o⟩:=q;refine ⟨ι,τ,h,S,Rh,g8 o λd h1 ι1 H1 v g1 r1 hr1 o1=>?_⟩;refine ⟨ι1,τ,h1,S.mono g1,hr1,g8 o1 λd2 h2 ι2 H2 u g2 r2 hr2 o2=>?_⟩;exact hs E ι2 H2 h2 v u d d2 Q (r1.mono g2) r2 hr2 o2
theorem abh{op:Operator}{r:R2}{g:D->D->Hd->R D}(ho:OpR X (binaryOp op) r)(hs:a2f X.K g r)(ha:ME X E a fa)(hb:ME X E b fb):ME X E (.BinOp a op b pos) (s2 g fa fb) :=
 PE.weak (awp ho ha hb) λσ H Q q=>avy hs q
theorem ww{op:CmpOp}{r:R2}{g:D->D->Hd->R D}(ho:OpR X (compareOp op) r)(hs:a2f X.K g r)(ha:ME X E a fa)(hb:ME X E b fb)(hm:behindInMarks op b=false):ME X E (.Compare a [op] [b] pos) (s2 g fa fb) :=
 PE.weak (aoa ho ha hb hm) λσ H Q q=>avy hs q
theorem axa{op:UnaryOp}{r:V->Hp->VK->Prop}{g:D->Hd->R D}(ho:UnR X (unaryOp op) r)(hs:azm X.K g r)(ha:ME X E a fa):ME X E (.UnaryOp op a pos) (s1 g fa):=by
 refine PE.weak (awq ho ha) λσ H Q ⟨ι,τ,h,S,Rh,o⟩=>?_;exact ⟨ι,τ,h,S,Rh,g8 o λd h1 ι1 H1 v g1 r1 hr1 o1=>hs E ι1 H1 h1 v d Q r1 hr1 o1⟩
theorem axb{r:R2}{g:D->D->Hd->R D}(ho:IxR X r)(hs:a2f X.K g r)(ha:ME X E a fa)(hb:ME X E b fb)(hp:ab7 b):ME X E (.Subscript a b pos) (s2 g fa fb) :=
 PE.weak (awy ho ha hb hp) λσ H Q q=>avy hs q
def asB(d:D)(h:Hd):R Bool:=match d with | .bl b=>.ok b h | _=>.no
def sT(f:SE):ST:=λτ h=>(f τ h).bind asB
theorem aoy{K:PySem.W.Frag}{t:TE}{f:SE}(hi:∀ σ H Q,lift K E (a0a K) f σ H Q->t σ H Q){σ:St}{H:Hp}{Q:Bool->Hp->Prop}(q:lift K E amg (sT f) σ H Q):asj t σ H Q:=by
 refine hi σ H _ ?_;obtain ⟨ι,τ,h,S,Rh,o⟩:=q;refine ⟨ι,τ,h,S,Rh,g8 o λd h1 ι1 H1 v g1 r1 hr1 o1=>?_⟩
 cases r1 with
 | bl b=>exact ⟨b,rfl,o1 ι1 H1 b (.refl _ _) rfl hr1⟩
 | _=>exact o1.elim
theorem ik{op:CmpOp}{r:R2}{g:D->D->Hd->R D}(ho:OpR X (compareOp op) r)(hs:a2f X.K g r)(ha:ME X E a fa)(hb:ME X E b fb)(hm:behindInMarks op b=false):MT X E (.Compare a [op] [b] pos) (sT (s2 g fa fb)) :=
 PT.weak (aob ho ha hb hm) λσ H Q q=>aoy (λ_ _ _=>avy hs) q
def sCh(g g':D->D->Hd->R D)(fa fb fc:SE):SE:=λτ h=>(fa τ h).bind λx h1=>(fb τ h1).bind λy h2=>(g x y h2).bind λz h3=>match z with
 | .bl true=>(fc τ h3).bind λw h4=>g' y w h4
 | .bl false=>.ok (.bl false) h3
 | _=>.no
def tru(d:D)(h:Hd):R Bool:=match d with
 | .non=>.ok false h
 | .bl b=>.ok b h
 | .int i=>.ok (i != 0) h
 | .str x=>if x.length<=LINE then .ok ((x.length:Int) != 0) h else .no
 | .tup xs=>.ok (!xs.isEmpty) h
 | .rol xs=>.ok (!xs.isEmpty) h
 | .ref i=>match h[i]? with
  | some (.lst xs)=>.ok (!xs.isEmpty) h
  | some (.dK kvs)=>.ok (!kvs.isEmpty) h
  | _=>.no
 | _=>.no
theorem Reps.emp{K:PySem.W.Frag}{ι:List Addr}{H:Hp}{vs:List V}{ds:List D}(r:Reps K ι H vs ds):vs.isEmpty=ds.isEmpty:=by cases r<;>rfl
theorem KRep.emp{κ:Type}{K:PySem.W.Frag}{ι:List Addr}{H:Hp}{us:List (κ × V)}{kvs:List (κ × D)}(r:KRep K ι H us kvs):us.isEmpty=kvs.isEmpty:=by
 have:=congrArg List.length r.1
 cases us<;>cases kvs<;>simp at this ⊢
theorem aoz{K:PySem.W.Frag}{ι:List Addr}{H:Hp}{h:Hd}{x:V}{d:D}{Q:Bool->Hp->Prop}(r:Rep K ι H x d)(hr:HRep K ι H h)(o:out K E amg ι H (tru d h) Q):∃ k,awt K x H k/\Q k H:=by
 cases r with
 | non=>exact ⟨false,rfl,o ι H _ (.refl _ _) rfl hr⟩
 | bl b=>exact ⟨b,rfl,o ι H _ (.refl _ _) rfl hr⟩
 | int i=>exact ⟨_,rfl,o ι H _ (.refl _ _) rfl hr⟩
 | str x =>
  by_cases hl:x.length<=LINE
  ·simp only [tru,if_pos hl] at o;exact ⟨_,⟨ll hl,rfl⟩,o ι H _ (.refl _ _) rfl hr⟩
  ·simp only [tru,if_neg hl] at o;exact o.elim
 | ty n=>exact o.elim
 | rod _ _ _=>exact o.elim
 | scr _ _=>exact o.elim
 | rdT _ _ _=>exact o.elim
 | exc _ _ _=>exact o.elim
 | tup e rs=>exact ⟨_, .inr (.inl ⟨_,SqT.of e,rfl⟩),by rw [rs.emp];exact o ι H _ (.refl _ _) rfl hr⟩
 | rol e rs=>exact ⟨_, .inl ⟨_,e.l,rfl⟩,by rw [rs.emp];exact o ι H _ (.refl _ _) rfl hr⟩
 | @ref a i e =>
  obtain ⟨ob,h1,h2⟩:=hr.at e;simp only [tru,h1] at o
  cases ob with
  | lst xs =>
   obtain ⟨vs,h3,h4⟩:=h2;exact ⟨_, .inl ⟨_,SqL.of h3,rfl⟩,by rw [h4.emp];exact o ι H _ (.refl _ _) rfl hr⟩
  | dK kvs =>
   obtain ⟨us,h3,h4⟩:=h2;exact ⟨_, .inr (.inr ⟨_,h3,rfl⟩),by rw [h4.emp];exact o ι H _ (.refl _ _) rfl hr⟩
  | dT kvs=>exact o.elim
def a3u(f:SE):ST:=λτ h=>(f τ h).bind tru
theorem ym(ha:ME X E a fa)(he:∀ whole,isTrue a X.env whole=(do let v <-whole;standAt a.pos;holding [v] (truthy v)):=by intro _;rfl):MT X E a (a3u fa):=by
 refine PT.weak (ajl ha he) λσ H Q ⟨ι,τ,h,S,Rh,o⟩=>?_;exact ⟨ι,τ,h,S,Rh,g8 o λd h1 ι1 H1 v g1 r1 hr1 o1=>aoz r1 hr1 o1⟩
def a6a(f g:ST):ST:=λτ h=>(f τ h).bind λb h1=>if b=true then g τ h1 else .ok false h1
def sOr(f g:ST):ST:=λτ h=>(f τ h).bind λb h1=>if b=true then .ok true h1 else g τ h1
def a5i(f:ST):ST:=λτ h=>(f τ h).bind λb h1=>.ok (!b) h1
variable{ga gb:ST}
theorem a3h(ha:MT X E a ga):MW X E (.BoolOp .And [a] pos) ga:=ao3 ha
theorem a78(ha:MT X E a ga):MW X E (.BoolOp .Or [a] pos) ga:=arq ha
theorem a6b{rest:List Expr}(ha:MT X E a ga)(hb:MW X E (.BoolOp .And (b::rest) pos) gb):MW X E (.BoolOp .And (a::b::rest) pos) (a6a ga gb):=by
 refine PW.weak (ars ha hb) λσ H Q ⟨ι,τ,h,S,Rh,o⟩=>?_;refine ⟨ι,τ,h,S,Rh,g8 o λd h1 ι1 H1 v g1 r1 hr1 o1=>?_⟩;cases r1
 cases d with
 | true=>exact ⟨ι1,τ,h1,S.mono g1,hr1,o1⟩
 | false=>exact o1 ι1 H1 false (.refl _ _) rfl hr1
theorem a9y{rest:List Expr}(ha:MT X E a ga)(hb:MW X E (.BoolOp .Or (b::rest) pos) gb):MW X E (.BoolOp .Or (a::b::rest) pos) (sOr ga gb):=by
 refine PW.weak (awe ha hb) λσ H Q ⟨ι,τ,h,S,Rh,o⟩=>?_;refine ⟨ι,τ,h,S,Rh,g8 o λd h1 ι1 H1 v g1 r1 hr1 o1=>?_⟩;cases r1
 cases d with
 | true=>exact o1 ι1 H1 true (.refl _ _) rfl hr1
 | false=>exact ⟨ι1,τ,h1,S.mono g1,hr1,o1⟩
theorem a1q(ha:MT X E a ga):MT X E (.UnaryOp .Not a pos) (a5i ga):=by
 refine PT.weak (art ha) λσ H Q ⟨ι,τ,h,S,Rh,o⟩=>?_;refine ⟨ι,τ,h,S,Rh,g8 o λd h1 ι1 H1 v g1 r1 hr1 o1=>?_⟩;cases r1
 exact o1 ι1 H1 _ (.refl _ _) rfl hr1
def a2t(f g:SE):SE:=λτ h=>(f τ h).bind λd h1=>match d with | .bl true=>g τ h1 | .bl false=>.ok (.bl false) h1 | _=>.no
def avz(f g:SE):SE:=λτ h=>(f τ h).bind λd h1=>match d with | .bl true=>.ok (.bl true) h1 | .bl false=>g τ h1 | _=>.no
def ajy(f:SE):SE:=λτ h=>(f τ h).bind λd h1=>match d with | .bl b=>.ok (.bl (!b)) h1 | _=>.no
theorem agh{op}(ha:ME X E a fa):ME X E (.BoolOp op [a] pos) fa:=aru ha
theorem agi{rest:List Expr}(ha:ME X E a fa)(hb:ME X E (.BoolOp .And (b::rest) pos) fb):ME X E (.BoolOp .And (a::b::rest) pos) (a2t fa fb):=by
 refine PE.weak (arv ha hb) λσ H Q ⟨ι,τ,h,S,Rh,o⟩=>?_;refine ⟨ι,τ,h,S,Rh,g8 o λd h1 ι1 H1 v g1 r1 hr1 o1=>?_⟩
 cases r1 with
 | bl k =>
  refine ⟨k,rfl,?_⟩
  cases k with
  | true=>exact ⟨ι1,τ,h1,S.mono g1,hr1,o1⟩
  | false=>exact o1 ι1 H1 _ (.refl _ _) (.bl _) hr1
 | _=>exact o1.elim
def afd(c:ST)(f g:SE):SE:=λτ h=>(c τ h).bind λb h1=>if b=true then f τ h1 else g τ h1
theorem agj(hc:MT X E c ga)(ha:ME X E a fa)(hb:ME X E b fb):ME X E (.IfExp c a b pos) (afd ga fa fb):=by
 refine PE.weak (ajf hc ha hb) λσ H Q ⟨ι,τ,h,S,Rh,o⟩=>?_;refine ⟨ι,τ,h,S,Rh,g8 o λd h1 ι1 H1 v g1 r1 hr1 o1=>?_⟩;cases r1
 cases d with
 | true=>exact ⟨ι1,τ,h1,S.mono g1,hr1,o1⟩
 | false=>exact ⟨ι1,τ,h1,S.mono g1,hr1,o1⟩
def di:SA:=λ_ h=>.ok [] h
def ak(f:SE)(g:SA):SA:=λτ h=>(f τ h).bind λd h1=>(g τ h1).bind λds h2=>.ok (d::ds) h2
variable{es:List Expr}{ka:SA}
theorem bc:MA X E [] di:=PA.weak afw λσ H Q ⟨ι,τ,h,S,Rh,o⟩=>o ι H [] (.refl _ _) .nil Rh
theorem aj(ha:ME X E e fa)(hr:MA X E es ka)(hs:starEach (e::es) X.env=(false,eval e X.env)::starEach es X.env:=by rfl):MA X E (e::es) (ak fa ka):=by
 refine PA.weak (a7r ha hr hs) λσ H Q ⟨ι,τ,h,S,Rh,o⟩=>?_;refine ⟨ι,τ,h,S,Rh,g8 o λd h1 ι1 H1 v g1 r1 hr1 o1=>?_⟩;refine ⟨ι1,τ,h1,S.mono g1,hr1,g8 o1 λd2 h2 ι2 H2 u g2 r2 hr2 o2=>?_⟩;exact o2 ι2 H2 _ (.refl _ _) (.cons (r1.mono g2) r2) hr2
def a4k(ds:List D)(h:Hd):R D:=if ds.length<=LINE then .ok (.tup ds) h else .no
def a5c(ds:List D)(h:Hd):R D:=if ds.length<=LINE then .ok (.ref h.length) (h++[.lst ds]) else .no
def sA(g:List D->Hd->R D)(k:SA):SE:=λτ h=>(k τ h).bind g
theorem a1r{K:PySem.W.Frag}{ι:List Addr}{H:Hp}{h:Hd}{vs:List V}{ds:List D}{Q:VK}(r:Reps K ι H vs ds)(hr:HRep K ι H h)(o:out K E (a0a K) ι H (.ok (.tup ds) h) Q):∀ p,H p=none->Q (.ref p) (upd H p (.tup vs)):=λp hp =>
 o ι _ _ (yj hp _) (.tup mq (r.mono (yj hp _))) (hr.aside hp _)
theorem um{K:PySem.W.Frag}{ι:List Addr}{H:Hp}{h:Hd}{vs:List V}{ds:List D}{Q:VK}(r:Reps K ι H vs ds)(hr:HRep K ι H h)(o:out K E (a0a K) ι H (.ok (.ref h.length) (h++[.lst ds])) Q):∀ p,H p=none->Q (.ref p) (upd H p (.lst vs)):=λp hp =>
 o (ι++[p]) _ _ (a9x hp _) (.ref (by rw [List.getElem?_append_right (by rw [hr.len];exact Nat.le_refl _),hr.len];simp)) (hr.add hp ⟨_,mq,r.mono (a9x hp _)⟩)
theorem ap0{K:PySem.W.Frag}{ι:List Addr}{H:Hp}{h:Hd}{i:Nat}{a:Addr}{vs:List V}{ds:List D}{d:D}{v:V}{Q:VK}(r:Reps K ι H vs ds)(hr:HRep K ι H h)(hi:ι[i]? = some a)(rd:Rep K ι H v d)(o:out K E (a0a K) ι H (.ok d (h.set i (.lst ds))) Q):Q v (upd H a (.lst vs)) :=
 o ι _ _ (a2v hr hi _) (rd.mono (a2v hr hi _)) (hr.put hi ⟨_,mq,r.mono (a2v hr hi _)⟩)
theorem a1s{x1}(h:MA X E es ka):ME X E (.Tuple es x1 pos) (sA a4k ka):=by
 refine PE.weak (asm h) λσ H Q ⟨ι,τ,h,S,Rh,o⟩=>?_;refine ⟨ι,τ,h,S,Rh,g8 o λd h1 ι1 H1 v g1 r1 hr1 o1=>?_⟩;unfold a4k at o1
 split at o1
 ·rename_i hl;exact ⟨ll (by rw [r1.len];exact hl),a1r r1 hr1 o1⟩
 ·exact o1.elim
theorem a1i(h:MA X E es ka):ME X E (.List es pos) (sA a5c ka):=by
 refine PE.weak (asn h) λσ H Q ⟨ι,τ,h,S,Rh,o⟩=>?_;refine ⟨ι,τ,h,S,Rh,g8 o λd h1 ι1 H1 v g1 r1 hr1 o1=>?_⟩;unfold a5c at o1
 split at o1
 ·rename_i hl;exact ⟨ll (by rw [r1.len];exact hl),um r1 hr1 o1⟩
 ·exact o1.elim
theorem uz{x:Str}{p:Pos}{id:String}{r:List V->Hp->VK->Prop}{g:List D->Hd->R D}(hc:CallR X (.builtin id) r)(hs:aef X.K g r)(hg:Gl X x)(hm:X.mg x=none)(hv:bootBuiltins x=some (.builtin id))(ha:MA X E (e::es) ka)(hn:x ≠ "__name__":=by decide)(hdb:(x == ("__debug__" : Str))=false:=by decide)
  (he:starEach (e::es) X.env=(false,eval e X.env)::starEach es X.env:=by rfl) (hpl:(backTo pos (starEach es X.env)).any (·.1)=false:=by rfl):ME X E (.Call (.Name x p) (e::es) [] pos) (sA g ka):=by
 refine PE.weak (ajo hc hg hm hv ha hn hdb he hpl) λσ H Q ⟨ι,τ,h,S,Rh,o⟩=>?_;exact ⟨ι,τ,h,S,Rh,g8 o λd h1 ι1 H1 v g1 r1 hr1 o1=>hs E ι1 H1 h1 v d Q r1 hr1 o1⟩
theorem a0e{x:Str}{p:Pos}{id:String}{r:List V->Hp->VK->Prop}{g:List D->Hd->R D}(hc:CallR X (.type id) r)(hs:aef X.K g r)(hg:Gl X x)(hm:X.mg x=none)(hv:bootBuiltins x=some (.type id))(ha:MA X E (e::es) ka)(hn:x ≠ "__name__":=by decide)(hdb:(x == ("__debug__" : Str))=false:=by decide)
  (he:starEach (e::es) X.env=(false,eval e X.env)::starEach es X.env:=by rfl) (hpl:(backTo pos (starEach es X.env)).any (·.1)=false:=by rfl):ME X E (.Call (.Name x p) (e::es) [] pos) (sA g ka):=by
 refine PE.weak (afy hc hg hm hv ha hn hdb he hpl) λσ H Q ⟨ι,τ,h,S,Rh,o⟩=>?_;exact ⟨ι,τ,h,S,Rh,g8 o λd h1 ι1 H1 v g1 r1 hr1 o1=>hs E ι1 H1 h1 v d Q r1 hr1 o1⟩
end
def j7(f g:SS):SS:=λτ h=>match f τ h with | .nx τ1 h1=>g τ1 h1 | r=>r
def sNx:SS:=λτ h=>.nx τ h
def qj(f:SE):SS:=λτ h=>(f τ h).fl λd h1=>.rt d h1
def a0f(f:SE):SS:=λτ h=>(f τ h).fl λ_ h1=>.nx τ h1
def sIf(c:ST)(f g:SS):SS:=λτ h=>(c τ h).fl λb h1=>if b=true then f τ h1 else g τ h1
def m7(i:Nat)(f:SE):SS:=λτ h=>(f τ h).fl λd h1=>.nx (τ.set i (some d)) h1
def aeg(i:Nat)(g:D->D->Hd->R D)(f:SE):SS:=λτ h=>match τ[i]? with
 | some (some x)=>(f τ h).fl λy h1=>(g x y h1).fl λz h2=>.nx (τ.set i (some z)) h2
 | _=>.no
section
variable{X:Cx}{E:XD}{e o:Expr}{es:List Expr}{fa fb fc:SE}{ga:ST}{st:Stmt}{sts a b:List Stmt}{f g:SS}{pos:Pos}
theorem jm:MSs X E [] sNx:=PSs.weak ao4 λN σ H ⟨ι,τ,h,S,Rh,o⟩=>o ι H σ (.refl _ _) S Rh
theorem atf{K:PySem.W.Frag}{N:Ends}{σ:St}{H:Hp}(q:a80 K E (j7 f g) N σ H):a80 K E f { N with nx:=a80 K E g N } σ H:=by
 obtain ⟨ι,τ,h,S,Rh,o⟩:=q;refine ⟨ι,τ,h,S,Rh,?_⟩;unfold j7 at o
 cases hf:f τ h with
 | nx τ1 h1 =>
  rw [hf] at o;exact λι1 H1 σ1 g1 S1 R1=>⟨ι1,τ1,h1,S1,R1,ul o g1⟩
 | _=>rw [hf] at o;exact o
theorem ao(h1:MS X E st f)(h2:MSs X E sts g):MSs X E (st::sts) (j7 f g):=PSs.weak (ajg h1 h2) λN σ H q=>atf q
theorem bj(h1:MS X E st f):MSs X E [st] f:=ao5 h1
theorem jj(he:ME X E e fa):MS X E (.Return (some e) pos) (qj fa):=by
 refine PS.weak (arw he) λN σ H ⟨ι,τ,h,S,Rh,o⟩=>?_;exact ⟨ι,τ,h,S,Rh,qy o λd h1 ι1 H1 v g1 r1 hr1 o1=>o1 ι1 H1 v (.refl _ _) r1 hr1⟩
theorem a1t(he:ME X E e fa)(hs:swapsWith e none pos.line X.env=pure false:=by rfl):MS X E (.Expr e pos) (a0f fa):=by
 refine PS.weak (ao6 he hs) λN σ H ⟨ι,τ,h,S,Rh,o⟩=>?_;exact ⟨ι,τ,h,S,Rh,qy o λd h1 ι1 H1 v g1 r1 hr1 o1=>o1 ι1 H1 σ (.refl _ _) (S.mono g1) hr1⟩
theorem qi{c:Expr}(hc:MT X E c ga)(ha:MSs X E a f)(hb:MSs X E b g):MS X E (.If c a b pos) (sIf ga f g):=by
 refine PS.weak (awi hc ha hb) λN σ H ⟨ι,τ,h,S,Rh,o⟩=>?_;refine ⟨ι,τ,h,S,Rh,qy o λd h1 ι1 H1 v g1 r1 hr1 o1=>?_⟩;cases r1
 cases d with
 | true=>exact ⟨ι1,τ,h1,S.mono g1,hr1,o1⟩
 | false=>exact ⟨ι1,τ,h1,S.mono g1,hr1,o1⟩
theorem j8{i:Nat}{x:Str}{pos':Pos}(hN:X.N.Nodup)(hi:X.N[i]? = some x)(hx:Loc X.env.scope x)(he:ME X E e fa)(hs:swapsWith e (some (.Name x pos')) pos.line X.env=pure false:=by rfl)(hf:X.fn x=true\/X.env.scope.names.lookup x=some .local:=by first | exact .inl rfl | exact .inr rfl | assumption) :
  MS X E (.Assign [.Name x pos'] e pos) (m7 i fa):=by
 refine PS.weak (as5 hN hi hx he hs hf) λN σ H ⟨ι,τ,h,S,Rh,o⟩=>?_;exact ⟨ι,τ,h,S,Rh,qy o λd h1 ι1 H1 v g1 r1 hr1 o1=>o1 ι1 H1 _ (.refl _ _) ((S.mono g1).set r1 i) hr1⟩
theorem acp{i:Nat}{x:Str}{op:Operator}{r:R2}{gg:D->D->Hd->R D}{pos':Pos}(hN:X.N.Nodup)(hi:X.N[i]? = some x)(hx:Loc X.env.scope x)(ho:OpR X (inplaceOp op) r)(hs:a2f X.K gg r)(he:ME X E e fa)(hf:X.fn x=true\/X.env.scope.names.lookup x=some .local:=by first | exact .inl rfl | exact .inr rfl | assumption) :
  MS X E (.AugAssign (.Name x pos') op e pos) (aeg i gg fa):=by
 refine PS.weak (as6 hN hi hx he ho hf) λN σ H ⟨ι,τ,h,S,Rh,o⟩=>?_;unfold aeg at o
 split at o
 ·rename_i d ed;obtain ⟨v,h1,h2⟩:=S.val i d ed;refine ⟨v,h1,ι,τ,h,S,Rh,qy o λd2 h3 ι1 H1 u g1 r1 hr1 o1=>?_⟩;refine hs E ι1 H1 h3 v u d d2 _ (h2.mono g1) r1 hr1 (qy o1 λd3 h4 ι2 H2 z g2 r2 hr2 o2=>?_);exact o2 ι2 H2 _ (.refl _ _) (((S.mono g1).mono g2).set r2 i) hr2
 ·exact o.elim
def put(o k v:D)(h:Hd):Option Hd:=match o,k with
 | .ref i, .int j=>match h[i]? with
  | some (.lst xs)=>match ixN xs.length j with
   | some m=>some (h.set i (.lst (xs.set m v)))
   | none=>none
  | _=>none
 | _,_=>none
theorem agk{K:PySem.W.Frag}{ι:List Addr}{H:Hp}{h h':Hd}{o k v:V}{od kd vd:D}{Q:Hp->Prop}(r1:Rep K ι H o od)(r2:Rep K ι H k kd)(r3:Rep K ι H v vd)(hr:HRep K ι H h)(e:put od kd vd h=some h')
  (q:∀ H',Gr ι H ι H'->HRep K ι H' h'->Q H'):asu o k v H Q:=by
 cases r1 with
 | @ref a i ha =>
  cases r2 with
  | int j =>
   obtain ⟨ob,h1,h2⟩:=hr.at ha
   cases ob with
   | lst xs =>
    obtain ⟨vs,h3,h4⟩:=h2;simp only [put,h1] at e
    cases hm:ixN xs.length j with
    | none=>rw [hm] at e;cases e
    | some m =>
     rw [hm] at e;cases e
     exact ⟨a,vs,j,m,rfl,rfl,h3,by rw [h4.len];exact hm,q _ (a2v hr ha _) (hr.put ha ⟨_,mq,(h4.set r3 m).mono (a2v hr ha _)⟩)⟩
   | dK _=>simp only [put,h1] at e;cases e
   | dT _=>simp only [put,h1] at e;cases e
  | _=>cases e
 | _=>cases e
def a9z(fe fo fi:SE):SS:=λτ h=>(fe τ h).fl λv h1=>(fo τ h1).fl λo h2=>(fi τ h2).fl λk h3=>match put o k v h3 with | some h4=>.nx τ h4 | none=>.no
theorem a79{i:Expr}{pos':Pos}(he:ME X E e fa)(ho:ME X E o fb)(hi:ME X E i fc)
  (hs:swapsWithSole [.Subscript o i pos'] e pos.line X.env=pure false:=by rfl) (hw:swappedStores [.Subscript o i pos'] e X.env=pure none:=by rfl)
  (h1:(assignEach [.Subscript o i pos'] X.env).map (·.2)=[assign (.Subscript o i pos') X.env]:=by rfl)
  (ha:∀ v,assign (.Subscript o i pos') X.env v=(do
   let ov <-holding [v] (eval o X.env)
   let iv <-holding [v,ov] (eval i X.env)
   standAt pos'
   holding [v,ov,iv] (setItem ov iv v)
   release [v,ov,iv] []):=by intro _;rfl):MS X E (.Assign [.Subscript o i pos'] e pos) (a9z fa fb fc):=by
 refine PS.weak (am5 he (as4 ho hi set_list ha) hs hw h1) λN σ H ⟨ι,τ,h,S,Rh,oo⟩=>?_;refine ⟨ι,τ,h,S,Rh,qy oo λd h1 ι1 H1 v g1 r1 hr1 o1=>?_⟩;refine ⟨ι1,τ,h1,S.mono g1,hr1,qy o1 λd2 h2 ι2 H2 u g2 r2 hr2 o2=>?_⟩;refine ⟨ι2,τ,h2,(S.mono g1).mono g2,hr2,qy o2 λd3 h3 ι3 H3 w g3 r3 hr3 o3=>?_⟩
 cases hp:put d2 d3 d h3 with
 | none=>rw [hp] at o3;exact o3.elim
 | some h4 =>
  rw [hp] at o3;exact agk (r2.mono g3) r3 ((r1.mono g2).mono g3) hr3 hp λH' g4 hr4=>o3 ι3 H' σ g4 ((((S.mono g1).mono g2).mono g3).mono g4) hr4
def sWh(c:ST)(f:SS):Nat->SS
 | 0,_,_=>.no
 | n+1,τ,h=>(c τ h).fl λb h1=>if b=true then (match f τ h1 with | .nx τ2 h2=>sWh c f n τ2 h2 | .ct τ2 h2=>sWh c f n τ2 h2 | .bk τ2 h2=>.nx τ2 h2 | r=>r) else .nx τ h1
theorem a81(n:Nat){c:Expr}(hp:PassesOwn (model X.prog X.w) X.A X.env X.xe)(hc:MT X E c ga)(hb:MSs X E a f):MS X E (.While c a [] pos) (sWh ga f n):=by
 refine PS.weak (aji hp hc hb) λN σ H q=>?_;refine ⟨λm σ H=>a80 X.K E (sWh ga f m) N σ H,⟨n,q⟩,?_⟩
 rintro m σ1 H1 ⟨ι,τ,h,S,Rh,o⟩
 cases m with
 | zero=>exact o.elim
 | succ m =>
  refine ⟨ι,τ,h,S,Rh,qy o λd h1 ι1 H1 v g1 r1 hr1 o1=>?_⟩;cases r1
  cases d with
  | false=>exact o1 ι1 H1 _ (.refl _ _) (S.mono g1) hr1
  | true =>
   refine ⟨λσ' H'=>a80 X.K E (sWh ga f m) N σ' H',λσ' H' q=>⟨m,Nat.lt_succ_self m,q⟩,ι1,τ,h1,S.mono g1,hr1,?_⟩;rw [if_pos rfl] at o1
   cases hf:f τ h1 with
   | nx τ2 h2=>rw [hf] at o1;exact λι2 H2 σ2 g2 S2 R2=>⟨ι2,τ2,h2,S2,R2,ul o1 g2⟩
   | ct τ2 h2=>rw [hf] at o1;exact λι2 H2 σ2 g2 S2 R2=>⟨ι2,τ2,h2,S2,R2,ul o1 g2⟩
   | bk τ2 h2=>rw [hf] at o1;exact o1
   | rt d h2=>rw [hf] at o1;exact o1
   | ex c h2=>rw [hf] at o1;exact o1
   | no=>rw [hf] at o1;exact o1.elim
end
abbrev SG:=D->Sd->Hd->Fl
def ap1(K:PySem.W.Frag)(E:XD)(g:SG):TG:=λv σ H Q=>∃ ι τ h d,Rep K ι H v d/\SRep K ι H σ τ/\HRep K ι H h/\aj4 K E ι H (g d τ h) { nx:=Q,rt:=λ_ _=>False }
abbrev MG(X:Cx)(E:XD)(tg:Expr)(g:SG):Prop:=PG X tg (ap1 X.K E g)
abbrev SGs:=List D->Sd->Hd->Fl
def agl(K:PySem.W.Frag)(E:XD)(g:SGs):TGs:=λvs σ H Q=>∃ ι τ h ds,Reps K ι H vs ds/\SRep K ι H σ τ/\HRep K ι H h/\aj4 K E ι H (g ds τ h) { nx:=Q,rt:=λ_ _=>False }
abbrev MGs(X:Cx)(E:XD)(tg:List Expr)(g:SGs):Prop:=PGs X tg (agl X.K E g)
theorem PG.weak{X:Cx}{e:Expr}{t t':TG}(h:PG X e t)(i:∀ v σ H Q,t' v σ H Q->t v σ H Q):PG X e t':=λpins s σ H v u Q I r q=>h pins s σ H v u Q I r (i _ _ _ _ q)
theorem PGs.weak{X:Cx}{e:List Expr}{t t':TGs}(h:PGs X e t)(i:∀ v σ H Q,t' v σ H Q->t v σ H Q):PGs X e t':=λpins s σ H v u Q I r q=>h pins s σ H v u Q I r (i _ _ _ _ q)
def kN(i:Nat):SG:=λd τ h=>.nx (τ.set i (some d)) h
def a2w:SGs:=λds τ h=>match ds with | []=>.nx τ h | _=>.no
def jn(g:SG)(k:SGs):SGs:=λds τ h=>match ds with | d::r=>(match g d τ h with | .nx τ1 h1=>k r τ1 h1 | _=>.no) | []=>.no
def a2x(n:Nat)(k:SGs):SG:=λd τ h=>match d with | .tup ds=>if ds.length=n then k ds τ h else .no | _=>.no
section
variable{X:Cx}{E:XD}{e:Expr}{es:List Expr}{fa:SE}{pos:Pos}{g:SG}{ks:SGs}
theorem du{i:Nat}{x:Str}(hN:X.N.Nodup)(hi:X.N[i]? = some x)(hx:Loc X.env.scope x)(hf:X.fn x=true\/X.env.scope.names.lookup x=some .local:=by first | exact .inl rfl | exact .inr rfl | assumption):MG X E (.Name x pos) (kN i) :=
 PG.weak (n8 hN hi hx hf) λv σ H Q ⟨ι,τ,h,d,r,S,Rh,o⟩=>o ι H _ (.refl _ _) (S.set r i) Rh
theorem uo:MGs X E [] a2w:=by
 refine PGs.weak ao7 λvs σ H Q ⟨ι,τ,h,ds,r,S,Rh,o⟩=>?_
 cases r with
 | nil=>exact ⟨rfl,o ι H σ (.refl _ _) S Rh⟩
 | cons _ _=>exact o.elim
theorem ajz{K:PySem.W.Frag}{vs:List V}{σ:St}{H:Hp}{Q:St->Hp->Prop}(q:agl K E (jn g ks) vs σ H Q):arz (ap1 K E g) (agl K E ks) vs σ H Q:=by
 obtain ⟨ι,τ,h,ds,r,S,Rh,o⟩:=q
 cases r with
 | nil=>exact o.elim
 | @cons v d vs ds r rs =>
  refine ⟨v,vs,rfl,ι,τ,h,d,r,S,Rh,?_⟩;simp only [jn] at o
  cases hg:g d τ h with
  | nx τ1 h1 =>
   rw [hg] at o;exact λι1 H1 σ1 g1 S1 R1=>⟨ι1,τ1,h1,ds,rs.mono g1,S1,R1,ul o g1⟩
  | _=>rw [hg] at o;exact o.elim
theorem zf{k n:Nat}(hc:X.calm=true)(h:MGs X E es ks)(hn:(assignEach es X.env).length=n:=by rfl)(hst:(assignEach es X.env).findIdx? (·.1)=none:=by rfl):MG X E (.Tuple es k pos) (a2x n ks):=by
 refine PG.weak (as3 hc h hn hst) λv σ H Q ⟨ι,τ,h,d,r,S,Rh,o⟩=>?_
 cases r with
 | @tup a vs xs e rs =>
  simp only [a2x] at o
  by_cases hl:xs.length=n
  ·rw [if_pos hl] at o;exact ⟨a,vs,rfl,SqT.of e,by rw [rs.len];exact hl,ι,τ,h,xs,rs,S,Rh,o⟩
  ·rw [if_neg hl] at o;exact o.elim
 | _=>exact o.elim
def a6u(f:SE)(g:SG):SS:=λτ h=>(f τ h).fl λd h1=>match g d τ h1 with | .nx τ2 h2=>.nx τ2 h2 | _=>.no
theorem a2y{tg:Expr}(he:ME X E e fa)(hg:MG X E tg g)(hs:swapsWithSole [tg] e pos.line X.env=pure false:=by rfl)(hw:swappedStores [tg] e X.env=pure none:=by rfl)
  (h1:(assignEach [tg] X.env).map (·.2)=[assign tg X.env]:=by rfl):MS X E (.Assign [tg] e pos) (a6u fa g):=by
 refine PS.weak (am5 he hg hs hw h1) λN σ H ⟨ι,τ,h,S,Rh,o⟩=>?_;refine ⟨ι,τ,h,S,Rh,qy o λd h1 ι1 H1 v g1 r1 hr1 o1=>⟨ι1,τ,h1,d,r1,S.mono g1,hr1,?_⟩⟩
 cases hg:g d τ h1 with
 | nx τ1 h1=>rw [hg] at o1;exact o1
 | _=>rw [hg] at o1;exact o1.elim
end
structure Itm where
 xs:List D
 ck:Hd->Prop
def ar6(K:PySem.W.Frag)(ι0:List Addr)(H0:Hp)(J:It)(it:Itm):Prop:=∀ ι H h,Gr ι0 H0 ι H->HRep K ι H h->it.ck h->
 (∀ (i:Nat) (d:D),it.xs[i]? = some d->J.go i H/\∀ x H',J.yld i H x H'->Gr ι H ι H'/\Rep K ι H' x d/\HRep K ι H' h)/\J.stop it.xs.length H
abbrev axc(K:PySem.W.Frag):List Addr->Hp->It->Itm->Prop:=λι H J it=>ar6 K ι H J it
abbrev SI:=Sd->Hd->R Itm
abbrev MI(X:Cx)(E:XD)(tg iter:Expr)(f:SI):Prop:=PI X tg iter (lift X.K E (axc X.K) f)
def yo(x:Str):List D:=x.cps.toList.map λc=>D.str ⟨#[c]⟩
def aj5(d:D)(h:Hd):R Itm:=match d with
 | .tup xs=>.ok ⟨xs,λ_=>True⟩ h
 | .rol xs=>.ok ⟨xs,λ_=>True⟩ h
 | .str x=>.ok ⟨yo x,λ_=>True⟩ h
 | .ref i=>match h[i]? with
  | some (.lst xs)=>.ok ⟨xs,λh=>h[i]? = some (.lst xs)⟩ h
  | _=>.no
 | _=>.no
def sIt(f:SE):SI:=λτ h=>(f τ h).bind aj5
theorem amh{K:PySem.W.Frag}{ι0:List Addr}{H0:Hp}{a:Addr}{xs:List D}{ck:Hd->Prop}(hl:∀ ι H h,Gr ι0 H0 ι H->HRep K ι H h->ck h->∃ vs,SqL K H a vs/\Reps K ι H vs xs):ar6 K ι0 H0 (Itl K a) ⟨xs,ck⟩:=by
 intro ι H h g hr c
 obtain ⟨vs,h1,h2⟩:=hl ι H h g hr c;refine ⟨λi d e=>?_,⟨vs,h1,by rw [h2.len];exact Nat.le_refl _⟩⟩
 obtain ⟨v,e1,r⟩:=h2.get e;refine ⟨⟨vs,v,h1,e1⟩,λx H' y=>?_⟩;obtain ⟨rfl,y⟩:=y;have:=y vs h1;rw [e1] at this;cases this
 exact ⟨.refl _ _,r,hr⟩
theorem o8{X:Cx}{E:XD}{tg l:Expr}{f:SE}(hl:ME X E l f):MI X E tg l (sIt f):=by
 intro pins s σ H Rr I ⟨ι,τ,h,S,Rh,o⟩
 unfold sIt at o
 cases hf:f τ h with
 | no=>rw [hf] at o;exact o.elim
 | ex c h1 =>
  rw [hf] at o;exact amd hl pins s σ H Rr I ⟨ι,τ,h,S,Rh,by rw [hf];exact o⟩
 | ok d h1 =>
  rw [hf] at o
  cases d with
  | tup xs =>
   refine as8 hl pins s σ H Rr I ⟨ι,τ,h,S,Rh,?_⟩;rw [hf]
   intro ι1 H1 v g1 r1 hr1
   cases r1 with
   | @tup a vs _ e rs =>
    refine ⟨a,rfl,⟨vs,SqT.of e⟩,o ι1 H1 _ g1 ?_ hr1⟩
    intro ι2 H2 h2 g2 hr2 _
    have e2:=g2.tup _ _ e;have rs2:=rs.mono g2;refine ⟨λi d ed=>?_,⟨vs,SqT.of e2,by rw [rs2.len];exact Nat.le_refl _⟩⟩
    obtain ⟨v,e1,r⟩:=rs2.get ed;refine ⟨⟨vs,v,SqT.of e2,e1⟩,λx H' y=>?_⟩;obtain ⟨rfl,y⟩:=y;have:=y vs (SqT.of e2);rw [e1] at this;cases this
    exact ⟨.refl _ _,r,hr2⟩
  | rol xs =>
   refine afl hl pins s σ H Rr I ⟨ι,τ,h,S,Rh,?_⟩;rw [hf]
   intro ι1 H1 v g1 r1 hr1
   cases r1 with
   | @rol a vs _ e rs =>
    refine ⟨a,rfl,⟨vs,e.l⟩,o ι1 H1 _ g1 ?_ hr1⟩;exact amh (λι2 H2 h2 g2 hr2 _=>⟨vs,(e.mono g2).l,rs.mono g2⟩)
  | str x =>
   refine amd hl pins s σ H Rr I ⟨ι,τ,h,S,Rh,?_⟩;rw [hf]
   intro ι1 H1 v g1 r1 hr1
   cases r1
   refine ⟨x,rfl,o ι1 H1 _ g1 ?_ hr1⟩
   intro ι2 H2 h2 g2 hr2 _
   refine ⟨λi d ed=>?_,by show (yo x).length=_;simp [yo]⟩
   simp only [yo,List.getElem?_map,Option.map_eq_some_iff] at ed;obtain ⟨c,ec,rfl⟩:=ed;refine ⟨by show i<x.cps.size;have:=(List.getElem?_eq_some_iff.mp ec).1;simpa using this,λy H' q=>?_⟩
   obtain ⟨rfl,c',ec',rfl⟩:=q;rw [ec] at ec';cases ec'
   exact ⟨.refl _ _, .str _,hr2⟩
  | ref i =>
   simp only [R.bind,aj5] at o
   cases ho:h1[i]? with
   | none=>rw [ho] at o;exact o.elim
   | some ob =>
    rw [ho] at o
    cases ob with
    | dK _=>exact o.elim
    | dT _=>exact o.elim
    | lst xs =>
     refine afl hl pins s σ H Rr I ⟨ι,τ,h,S,Rh,?_⟩;rw [hf]
     intro ι1 H1 v g1 r1 hr1
     cases r1 with
     | @ref a _ e =>
      obtain ⟨vs,e1,rs⟩:=hr1.obj i a _ e ho;refine ⟨a,rfl,⟨vs,SqL.of e1⟩,o ι1 H1 _ g1 ?_ hr1⟩;refine amh (λι2 H2 h2 g2 hr2 c=>?_);obtain ⟨us,e3,rs3⟩:=hr2.obj i a _ (g2.at e) c;exact ⟨us,SqL.of e3,rs3⟩
  | _=>exact o.elim
def rng(lo:Int)(n:Nat):List D:=(List.range n).map λi=>D.int (lo+(i:Nat))
def B62(j:Int):Prop := -(2 ^ 62)<=j/\j<2 ^ 62
instance (j:Int):Decidable (B62 j):=by unfold B62;exact inferInstance
def yx(ds:List D)(h:Hd):R Itm:=match ds with
 | [.int j]=>if B62 j then .ok ⟨rng 0 j.toNat,λ_=>True⟩ h else .no
 | _=>.no
def a5j(ds:List D)(h:Hd):R Itm:=match ds with
 | [.int i, .int j]=>if B62 i/\B62 j then .ok ⟨rng i (j - i).toNat,λ_=>True⟩ h else .no
 | _=>.no
def sRg(g:List D->Hd->R Itm)(k:SA):SI:=λτ h=>(k τ h).bind g
theorem ami{K:PySem.W.Frag}{ι0:List Addr}{H0:Hp}(lo:Int)(n:Nat):ar6 K ι0 H0 (Itr lo n) ⟨rng lo n,λ_=>True⟩:=by
 intro ι H h g hr _
 refine ⟨λi d ed=>?_,by show n<=(rng lo n).length;simp [rng]⟩
 simp only [rng,List.getElem?_map,Option.map_eq_some_iff] at ed;obtain ⟨j,ej,rfl⟩:=ed;obtain ⟨hj,e⟩:=List.getElem?_eq_some_iff.mp ej;simp at e hj;subst e;refine ⟨hj,λy H' q=>?_⟩;obtain ⟨rfl,rfl⟩:=q;exact ⟨.refl _ _, .int _,hr⟩
theorem a0g{X:Cx}{E:XD}{tg a:Expr}{k:SA}{p pos:Pos}(hg:Gl X "range")(hm:X.mg "range" = none)(ha:MA X E [a] k)(hs:starEach [a] X.env=[(false,eval a X.env)]:=by rfl):MI X E tg (.Call (.Name "range" p) [a] [] pos) (sRg yx k):=by
 intro pins s σ H Rr I ⟨ι,τ,h,S,Rh,o⟩
 refine afm hg hm ha hs pins s σ H Rr I ⟨ι,τ,h,S,Rh,g8 o λds h1 ι1 H1 vs g1 r1 hr1 o1=>?_⟩;unfold yx at o1
 split at o1
 ·rename_i j
  cases r1 with
  | cons r rs =>
   cases r;cases rs
   by_cases hb:B62 j
   ·rw [if_pos hb] at o1;exact ⟨j,rfl,hb.1,hb.2,o1 ι1 H1 _ (.refl _ _) (ami 0 j.toNat) hr1⟩
   ·rw [if_neg hb] at o1;exact o1.elim
 ·exact o1.elim
theorem abi{X:Cx}{E:XD}{tg a b:Expr}{k:SA}{p pos:Pos}(hg:Gl X "range")(hm:X.mg "range" = none)(ha:MA X E [a,b] k)(hs:starEach [a,b] X.env=[(false,eval a X.env),(false,eval b X.env)]:=by rfl)(hs2:starEach [b] X.env=[(false,eval b X.env)]:=by rfl):MI X E tg (.Call (.Name "range" p) [a,b] [] pos) (sRg a5j k):=by
 intro pins s σ H Rr I ⟨ι,τ,h,S,Rh,o⟩
 refine afn hg hm ha hs hs2 pins s σ H Rr I ⟨ι,τ,h,S,Rh,g8 o λds h1 ι1 H1 vs g1 r1 hr1 o1=>?_⟩;unfold a5j at o1
 split at o1
 ·rename_i i j
  cases r1 with
  | cons r rs =>
   cases r
   cases rs with
   | cons r rs =>
   cases r;cases rs
   by_cases hb:B62 i/\B62 j
   ·rw [if_pos hb] at o1;exact ⟨i,j,rfl,⟨hb.1.1,hb.1.2,hb.2.1,hb.2.2⟩,o1 ι1 H1 _ (.refl _ _) (ami i _) hr1⟩
   ·rw [if_neg hb] at o1;exact o1.elim
 ·exact o1.elim
open Classical in
noncomputable def forL(ck:Hd->Prop)(g:SG)(b:SS):List D->Sd->Hd->Fl
 | [],τ,h=>if ck h then .nx τ h else .no
 | x::xs,τ,h=>if ck h then (match g x τ h with
   | .nx τ1 h1=>(match b τ1 h1 with
    | .nx τ2 h2=>forL ck g b xs τ2 h2
    | .ct τ2 h2=>forL ck g b xs τ2 h2
    | .bk τ2 h2=>.nx τ2 h2
    | r=>r)
   | _=>.no) else .no
noncomputable def a2g(f:SI)(g:SG)(b:SS):SS:=λτ h=>(f τ h).fl λit h1=>forL it.ck g b it.xs τ h1
theorem ap2{K:PySem.W.Frag}{E:XD}{ι0:List Addr}{H0:Hp}{J:It}{it:Itm}{g:SG}{b:SS}{N:Ends}{σ0:St}{τ0:Sd}{h0:Hd}(ir:ar6 K ι0 H0 J it)(S:SRep K ι0 H0 σ0 τ0)(Rh:HRep K ι0 H0 h0)(o:aj4 K E ι0 H0 (forL it.ck g b it.xs τ0 h0) N) :
  ∃ W:Nat->Nat->St->Hp->Prop,(∃ m,W 0 m σ0 H0)/\∀ i m σ H,W i m σ H->
   (J.stop i H/\N.nx σ H)\/(J.go i H/\∃ M:St->Hp->Prop,(∀ σ' H',M σ' H'->∃ m',m'<m/\W (i+1) m' σ' H')/\∀ x H',J.yld i H x H'->ap1 K E g x σ H' λσ2 H2=>a80 K E b { N with nx:=M,ct:=M,bk:=N.nx } σ2 H2):=by
 refine ⟨λi m σ H=>m=it.xs.length - i/\i<=it.xs.length/\∃ ι τ h,Gr ι0 H0 ι H/\SRep K ι H σ τ/\HRep K ι H h/\aj4 K E ι H (forL it.ck g b (it.xs.drop i) τ h) N,⟨_,rfl,Nat.zero_le _,ι0,τ0,h0, .refl _ _,S,Rh,o⟩,?_⟩
 rintro i m σ H ⟨rfl,hi,ι,τ,h,g0,S,Rh,o⟩
 by_cases hlt:i<it.xs.length
 ·rw [List.drop_eq_getElem_cons hlt,forL] at o
  by_cases hc:it.ck h
  ·rw [if_pos hc] at o;obtain ⟨go,yl⟩:=(ir ι H h g0 Rh hc).1 i _ (List.getElem?_eq_getElem hlt);refine .inr ⟨go,λσ' H'=>it.xs.length - (i+1)<it.xs.length - i/\∃ ι τ h,Gr ι0 H0 ι H'/\SRep K ι H' σ' τ/\HRep K ι H' h/\aj4 K E ι H' (forL it.ck g b (it.xs.drop (i+1)) τ h) N,λσ' H' q=>⟨_,q.1,rfl,hlt,q.2⟩,λx H' y=>?_⟩;obtain ⟨g1,r1,hr1⟩:=yl x H' y;refine ⟨ι,τ,h,_,r1,S.mono g1,hr1,?_⟩;have o':=ul o g1
   cases hg:g it.xs[i] τ h with
   | nx τ1 h1 =>
    rw [hg] at o';dsimp only at o'
    intro ι2 H2 σ2 g2 S2 R2
    refine ⟨ι2,τ1,h1,S2,R2,?_⟩;have o2:=ul o' g2;have gg:=(g0.trans g1).trans g2
    cases hb:b τ1 h1 with
    | nx τ2 h2=>rw [hb] at o2;exact λι3 H3 σ3 g3 S3 R3=>⟨by omega,ι3,τ2,h2,gg.trans g3,S3,R3,ul o2 g3⟩
    | ct τ2 h2=>rw [hb] at o2;exact λι3 H3 σ3 g3 S3 R3=>⟨by omega,ι3,τ2,h2,gg.trans g3,S3,R3,ul o2 g3⟩
    | bk τ2 h2=>rw [hb] at o2;exact o2
    | rt d h2=>rw [hb] at o2;exact o2
    | ex c h2=>rw [hb] at o2;exact o2
    | no=>rw [hb] at o2;exact o2.elim
   | _=>rw [hg] at o';exact o'.elim
  ·rw [if_neg hc] at o;exact o.elim
 ·have e:i=it.xs.length:=by omega
  subst e;rw [List.drop_eq_nil_of_le (Nat.le_refl _),forL] at o
  by_cases hc:it.ck h
  ·rw [if_pos hc] at o;exact .inl ⟨(ir ι H h g0 Rh hc).2,o ι H σ (.refl _ _) S Rh⟩
  ·rw [if_neg hc] at o;exact o.elim
theorem qe{X:Cx}{E:XD}{tg iter:Expr}{body:List Stmt}{f:SI}{g:SG}{b:SS}{pos:Pos}(hp:PassesOwn (model X.prog X.w) X.A X.env X.xe)(hc:X.calm=true)(hi:MI X E tg iter f)(hg:MG X E tg g)(hb:MSs X E body b)(hs:∀ x,foldedSetIterable iter X.env x=pure x:=by intro _;rfl):MS X E (.For tg iter body [] pos) (a2g f g b):=by
 refine PS.weak (as9 hp hc hi hg hb hs) λN σ H ⟨ι,τ,h,S,Rh,o⟩=>?_;exact ⟨ι,τ,h,S,Rh,qy o λit h1 ι1 H1 J g1 r1 hr1 o1=>ap2 r1 (S.mono g1) hr1 o1⟩
end MI
namespace MI
open PySem PySem.Spec L2
theorem R.bind_assoc{α β γ:Type}(r:R α)(f:α->Hd->R β)(g:β->Hd->R γ):(r.bind f).bind g=r.bind λa h=>(f a h).bind g:=by cases r<;>rfl
open Classical in
noncomputable def mapR(ck:Hd->Prop)(f:D->Hd->R D):List D->Hd->R (List D)
 | [],h=>if ck h then .ok [] h else .no
 | x::xs,h=>if ck h then (f x h).bind λy h1=>(mapR ck f xs h1).bind λys h2=>.ok (y::ys) h2 else .no
open Classical in
noncomputable def aj6(ck:Hd->Prop)(f:D->Hd->R (Option D)):List D->Hd->R (List D)
 | [],h=>if ck h then .ok [] h else .no
 | x::xs,h=>if ck h then (f x h).bind λy h1=>(aj6 ck f xs h1).bind λys h2=>.ok (y.toList++ys) h2 else .no
def frs'(ix:List Nat)(τ:Sd):Sd:=ix.map λi=>(τ[i]?).join
def t1(d:D):Option Sd:=some [some d]
def a6v(t:D->Option Sd)(fe:SE)(rest:Sd)(x:D)(h:Hd):R D:=match t x with | some ts=>fe (ts++rest) h | none=>.no
def abj(t:D->Option Sd)(c:ST)(fe:SE)(rest:Sd)(x:D)(h:Hd):R (Option D):=match t x with
 | some ts=>(c (ts++rest) h).bind λb h1=>if b=true then (fe (ts++rest) h1).bind λy h2=>.ok (some y) h2 else .ok none h1
 | none=>.no
def acq(yd zs:List D)(h:Hd):R D:=.ok (.ref h.length) (h++[.lst (yd++zs)])
theorem atg(r:R D)(m:Hd->R (List D))(yd:List D):(r.bind λy h1=>(m h1).bind λys h2=>.ok (y::ys) h2).bind (acq yd)=r.bind λy h1=>(m h1).bind (acq (yd++[y])):=by
 cases r with
 | ok y h1 =>
  show ((m h1).bind _).bind _=(m h1).bind _
  cases m h1 with
  | ok ys h2=>simp [R.bind,acq]
  | _=>rfl
 | _=>rfl
theorem axd(r:R (Option D))(m:Hd->R (List D))(yd:List D):(r.bind λy h1=>(m h1).bind λys h2=>.ok (y.toList++ys) h2).bind (acq yd)=r.bind λy h1=>(m h1).bind (acq (yd++y.toList)):=by
 cases r with
 | ok y h1 =>
  show ((m h1).bind _).bind _=(m h1).bind _
  cases m h1 with
  | ok ys h2=>simp [R.bind,acq]
  | _=>rfl
 | _=>rfl
noncomputable def m9(fi:SI)(t:D->Option Sd)(fe:SE)(ix:List Nat):SE:=λτ h=>(fi τ h).bind λit h1=>if it.xs.length<=LINE then (mapR it.ck (a6v t fe (frs' ix τ)) it.xs h1).bind (acq []) else .no
noncomputable def xn(fi:SI)(t:D->Option Sd)(c:ST)(fe:SE)(ix:List Nat):SE:=λτ h=>(fi τ h).bind λit h1=>if it.xs.length<=LINE then (aj6 it.ck (abj t c fe (frs' ix τ)) it.xs h1).bind (acq []) else .no
def aj7(K:PySem.W.Frag)(n:Nat)(g:TG)(t:D->Option Sd):Prop:=∀ ι H v d ts (r:St) (Q:St->Hp->Prop),Rep K ι H v d->t d=some ts->(∀ us:St,us.length=n->SRep K ι H us ts->Q (us++r) H)->g v (List.replicate n none++r) H Q
theorem acr{K:PySem.W.Frag}{ι:List Addr}{H:Hp}:SRep K ι H [] []:=⟨rfl,λi d e=>by simp at e⟩
theorem aa0{K:PySem.W.Frag}{ι:List Addr}{H:Hp}{v:V}{d:D}{σ:St}{τ:Sd}(r:Rep K ι H v d)(s:SRep K ι H σ τ):SRep K ι H (some v::σ) (some d::τ):=by
 refine ⟨by simp [s.len],λi d' e=>?_⟩
 cases i with
 | zero=>simp at e;subst e;exact ⟨v,rfl,r⟩
 | succ i=>simpa using s.val i d' (by simpa using e)
theorem a5k{K:PySem.W.Frag}{ι:List Addr}{H:Hp}{σ σ':St}{τ τ':Sd}(s:SRep K ι H σ τ)(s':SRep K ι H σ' τ'):SRep K ι H (σ++σ') (τ++τ'):=by
 refine ⟨by simp [s.len,s'.len],λi d e=>?_⟩
 by_cases hi:i<τ.length
 ·rw [List.getElem?_append_left hi] at e;rw [List.getElem?_append_left (by rw [s.len];exact hi)]
  exact s.val i d e
 ·rw [List.getElem?_append_right (by omega)] at e
  rw [List.getElem?_append_right (by rw [s.len];omega),s.len]
  exact s'.val _ d e
theorem a5l{K:PySem.W.Frag}{ι:List Addr}{H:Hp}{σ:St}{τ:Sd}(s:SRep K ι H σ τ)(ix:List Nat):SRep K ι H (ix.map λi=>(σ[i]?).join) (frs' ix τ):=by
 refine ⟨by simp [frs'],λj d e=>?_⟩
 simp only [frs',List.getElem?_map,Option.map_eq_some_iff] at e;obtain ⟨i,hi,e⟩:=e;have:τ[i]? = some (some d):=by
  cases q:τ[i]? with
  | none=>rw [q] at e;cases e
  | some o=>rw [q] at e;simp at e;rw [e]
 obtain ⟨v,h1,h2⟩:=s.val i d this;exact ⟨v,by simp [hi,h1],h2⟩
theorem u9{K:PySem.W.Frag}:aj7 K 1 (ae2 0) t1:=λι H v d ts r Q hr e q=>by
 cases e
 exact q [some v] rfl (aa0 hr acr)
theorem agm{n:Nat}{us r:St}(h:us.length=n):L2.Ext (List.replicate n none++r) (us++r):=by
 refine ⟨by simp [h],λi v e=>?_⟩
 by_cases hi:i<n
 ·rw [List.getElem?_append_left (by simpa using hi),List.getElem?_replicate,if_pos hi] at e
  cases e
 ·rw [List.getElem?_append_right (by simpa using hi),List.length_replicate] at e
  rw [List.getElem?_append_right (by omega),h]
  exact e
theorem acs{K:PySem.W.Frag}{E:XD}{ι0:List Addr}{H0:Hp}{J:It}{it:Itm}{g:TG}{t:D->Option Sd}{fe:SE}{n:Nat}{r:St}{rd:Sd}{h0:Hd}{Q:VK}(ir:ar6 K ι0 H0 J it)(tg:aj7 K n g t)(S:SRep K ι0 H0 r rd)(Rh:HRep K ι0 H0 h0)(hl:it.xs.length<=LINE)
  (o:out K E (a0a K) ι0 H0 ((mapR it.ck (a6v t fe rd) it.xs h0).bind (acq [])) Q):atb J (List.replicate n none++r) g (lift K E (a0a K) fe) Q H0:=by
 refine ⟨λi m ys H=>m=it.xs.length - i/\i<=it.xs.length/\ys.length<=i/\∃ ι h yd,Gr ι0 H0 ι H/\HRep K ι H h/\Reps K ι H ys yd/\out K E (a0a K) ι H ((mapR it.ck (a6v t fe rd) (it.xs.drop i) h).bind (acq yd)) Q,
  ⟨_,rfl,Nat.zero_le _,Nat.zero_le _,ι0,h0,[], .refl _ _,Rh, .nil,o⟩,?_⟩
 rintro i m ys H ⟨rfl,hi,hy,ι,h,yd,g0,Rh,ry,o⟩
 by_cases hlt:i<it.xs.length
 ·rw [List.drop_eq_getElem_cons hlt,mapR] at o
  by_cases hc:it.ck h
  ·rw [if_pos hc,atg] at o;obtain ⟨go,yl⟩:=(ir ι H h g0 Rh hc).1 i _ (List.getElem?_eq_getElem hlt);refine .inr ⟨go,Nat.lt_of_le_of_lt hy (Nat.lt_of_lt_of_le hlt (ll hl)),λx H' y=>?_⟩;obtain ⟨g1,r1,hr1⟩:=yl x H' y;have o':=a3t o g1
   cases ht:t it.xs[i] with
   | none=>simp only [a6v,ht] at o';exact o'.elim
   | some ts =>
    simp only [a6v,ht] at o';refine tg ι H' x _ ts r _ r1 ht λus hus su=>⟨agm hus,ι,ts++rd,h,a5k su (S.mono (g0.trans g1)),hr1,g8 o' λd2 h2 ι2 H2 u g2 r2 hr2 o2=>?_⟩;refine ⟨it.xs.length - (i+1),by omega,rfl,hlt,by simp;omega,ι2,h2,yd++[d2],(g0.trans g1).trans g2,hr2,((ry.mono g1).mono g2).snoc r2,o2⟩
  ·rw [if_neg hc] at o;exact o.elim
 ·have e:i=it.xs.length:=by omega
  subst e;rw [List.drop_eq_nil_of_le (Nat.le_refl _),mapR] at o
  by_cases hc:it.ck h
  ·rw [if_pos hc] at o;refine .inl ⟨(ir ι H h g0 Rh hc).2,um (E:=E) ry Rh ?_⟩;simpa [R.bind,acq] using o
  ·rw [if_neg hc] at o;exact o.elim
theorem aa1{K:PySem.W.Frag}{E:XD}{ι0:List Addr}{H0:Hp}{J:It}{it:Itm}{g:TG}{t:D->Option Sd}{c:ST}{fe:SE}{n:Nat}{r:St}{rd:Sd}{h0:Hd}{Q:VK}(ir:ar6 K ι0 H0 J it)(tg:aj7 K n g t)(S:SRep K ι0 H0 r rd)(Rh:HRep K ι0 H0 h0)(hl:it.xs.length<=LINE)
  (o:out K E (a0a K) ι0 H0 ((aj6 it.ck (abj t c fe rd) it.xs h0).bind (acq [])) Q):agf J (List.replicate n none++r) g (lift K E amg c) (lift K E (a0a K) fe) Q H0:=by
 refine ⟨λi m ys H=>m=it.xs.length - i/\i<=it.xs.length/\ys.length<=i/\∃ ι h yd,Gr ι0 H0 ι H/\HRep K ι H h/\Reps K ι H ys yd/\out K E (a0a K) ι H ((aj6 it.ck (abj t c fe rd) (it.xs.drop i) h).bind (acq yd)) Q,
  ⟨_,rfl,Nat.zero_le _,Nat.zero_le _,ι0,h0,[], .refl _ _,Rh, .nil,o⟩,?_⟩
 rintro i m ys H ⟨rfl,hi,hy,ι,h,yd,g0,Rh,ry,o⟩
 by_cases hlt:i<it.xs.length
 ·rw [List.drop_eq_getElem_cons hlt,aj6] at o
  by_cases hc:it.ck h
  ·rw [if_pos hc,axd] at o;obtain ⟨go,yl⟩:=(ir ι H h g0 Rh hc).1 i _ (List.getElem?_eq_getElem hlt);refine .inr ⟨go,Nat.lt_of_le_of_lt hy (Nat.lt_of_lt_of_le hlt (ll hl)),λx H' y=>?_⟩;obtain ⟨g1,r1,hr1⟩:=yl x H' y;have o':=a3t o g1
   cases ht:t it.xs[i] with
   | none=>simp only [abj,ht] at o';exact o'.elim
   | some ts =>
    simp only [abj,ht] at o';rw [R.bind_assoc] at o';refine tg ι H' x _ ts r _ r1 ht λus hus su=>⟨agm hus,ι,ts++rd,h,a5k su (S.mono (g0.trans g1)),hr1,g8 o' λb h1 ι1 H1 b' g2 rb hrb ob=>?_⟩;have su1:SRep K ι1 H1 (us++r) (ts++rd):=(a5k su (S.mono (g0.trans g1))).mono g2;cases rb
    cases b with
    | true =>
     rw [if_pos rfl] at ob ⊢;rw [R.bind_assoc] at ob;refine ⟨ι1,ts++rd,h1,su1,hrb,g8 ob λd2 h2 ι2 H2 u g3 r2 hr2 o2=>?_⟩;refine ⟨it.xs.length - (i+1),by omega,rfl,hlt,by simp;omega,ι2,h2,yd++[d2],((g0.trans g1).trans g2).trans g3,hr2,(((ry.mono g1).mono g2).mono g3).snoc r2,?_⟩
     simpa [R.bind] using o2
    | false =>
     rw [if_neg Bool.false_ne_true] at ob ⊢;refine ⟨it.xs.length - (i+1),by omega,rfl,hlt,by omega,ι1,h1,yd,(g0.trans g1).trans g2,hrb,(ry.mono g1).mono g2,?_⟩
     simpa [R.bind] using ob
  ·rw [if_neg hc] at o;exact o.elim
 ·have e:i=it.xs.length:=by omega
  subst e;rw [List.drop_eq_nil_of_le (Nat.le_refl _),aj6] at o
  by_cases hc:it.ck h
  ·rw [if_pos hc] at o;refine .inl ⟨(ir ι H h g0 Rh hc).2,um (E:=E) ry Rh ?_⟩;simpa [R.bind,acq] using o
  ·rw [if_neg hc] at o;exact o.elim
section
variable{X:Cx}{E:XD}{elt tg iter cnd:Expr}{scope:Scope}{pos:Pos}{cl:List (Str × Addr)}{ts fr:List Str}{ix:List Nat}{fi:SI}{g:TG}{t:D->Option Sd}{fe:SE}{fc:ST}
theorem a0h(hc:X.calm=true)(S:CSc X scope cl ts fr ix)(hi:MI X E tg iter fi)(hg:∀ C fp s H,PG (cxC X (ts++fr) scope cl C fp s H) tg g)(ht:aj7 X.K ts.length g t)(he:∀ C fp s H,ME (cxC X (ts++fr) scope cl C fp s H) E elt fe)
  (hs:∀ x,foldedSetIterable iter X.env x=pure x:=by intro _;rfl):ME X E (.ListComp elt [⟨tg,iter,[],0⟩] scope pos) (m9 fi t fe ix):=by
 refine PE.weak (ajw (te:=lift X.K E (a0a X.K) fe) hc S hi hg he hs) λσ H Q ⟨ι,τ,h,Sr,Rh,o⟩=>?_;refine ⟨ι,τ,h,Sr,Rh,g8 o λit h1 ι1 H1 J g1 r1 hr1 o1=>?_⟩
 by_cases hl:it.xs.length<=LINE
 ·rw [if_pos hl] at o1;exact acs r1 ht (a5l (Sr.mono g1) ix) hr1 hl o1
 ·rw [if_neg hl] at o1;exact o1.elim
theorem acu(hc:X.calm=true)(S:CSc X scope cl ts fr ix)(hi:MI X E tg iter fi)(hg:∀ C fp s H,PG (cxC X (ts++fr) scope cl C fp s H) tg g)(ht:aj7 X.K ts.length g t)(he:∀ C fp s H,ME (cxC X (ts++fr) scope cl C fp s H) E elt fe)
  (hq:∀ C fp s H,MT (cxC X (ts++fr) scope cl C fp s H) E cnd fc)
  (hs:∀ x,foldedSetIterable iter X.env x=pure x:=by intro _;rfl):ME X E (.ListComp elt [⟨tg,iter,[cnd],0⟩] scope pos) (xn fi t fc fe ix):=by
 refine PE.weak (aec (te:=lift X.K E (a0a X.K) fe) (tc:=lift X.K E amg fc) hc S hi hg he hq hs) λσ H Q ⟨ι,τ,h,Sr,Rh,o⟩=>?_;refine ⟨ι,τ,h,Sr,Rh,g8 o λit h1 ι1 H1 J g1 r1 hr1 o1=>?_⟩
 by_cases hl:it.xs.length<=LINE
 ·rw [if_pos hl] at o1;exact aa1 r1 ht (a5l (Sr.mono g1) ix) hr1 hl o1
 ·rw [if_neg hl] at o1;exact o1.elim
end
mutual
def clo(n:Nat):D->Prop
 | .tup xs=>clos n xs
 | .rol xs=>clos n xs
 | .rod _ xs=>clos n xs
 | .scr xs=>clos n xs
 | .rdT _ xs=>clos n xs
 | .ref i=>i<n
 | _=>True
def clos(n:Nat):List D->Prop
 | []=>True
 | x::xs=>clo n x/\clos n xs
end
mutual
theorem Rep.clo{K:PySem.W.Frag}{ι:List Addr}{H:Hp}:∀ {v:V} {d:D},Rep K ι H v d->clo ι.length d
 | _,_, .non=>by simp [MI.clo]
 | _,_, .bl b=>by simp [MI.clo]
 | _,_, .int i=>by simp [MI.clo]
 | _,_, .str x=>by simp [MI.clo]
 | _,_, .ty n=>by simp [MI.clo]
 | _,_, .tup h r=>by simp only [MI.clo];exact Reps.clo r
 | _,_, .rol h r=>by simp only [MI.clo];exact Reps.clo r
 | _,_, .ref h=>by simp only [MI.clo];exact (List.getElem?_eq_some_iff.mp h).1
 | _,_, .rod h e r=>by simp only [MI.clo];exact Reps.clo r
 | _,_, .scr h r=>by simp only [MI.clo];exact Reps.clo r
 | _,_, .rdT h e r=>by simp only [MI.clo];exact Reps.clo r
 | _,_, .exc h hc hn=>by simp [MI.clo]
theorem Reps.clo{K:PySem.W.Frag}{ι:List Addr}{H:Hp}:∀ {vs:List V} {ds:List D},Reps K ι H vs ds->clos ι.length ds
 | _,_, .nil=>by simp [MI.clos]
 | _,_, .cons r rs=>by simp only [MI.clos];exact ⟨Rep.clo r,Reps.clo rs⟩
end
mutual
theorem Rep.cut{K:PySem.W.Frag}{ι:List Addr}{H:Hp}{n:Nat}:∀ {v:V} {d:D},Rep K ι H v d->clo n d->Rep K (ι.take n) H v d
 | _,_, .non,_=>.non
 | _,_, .bl b,_=>.bl b
 | _,_, .int i,_=>.int i
 | _,_, .str x,_=>.str x
 | _,_, .ty n,_=>.ty n
 | _,_, .tup h r,c=>.tup h (Reps.cut r (by simpa only [MI.clo] using c))
 | _,_, .rol h r,c=>.rol h (Reps.cut r (by simpa only [MI.clo] using c))
 | _,_, .ref h,c=>.ref (by simp only [MI.clo] at c;rw [List.getElem?_take,if_pos c];exact h)
 | _,_, .rod h e r,c=>.rod h e (Reps.cut r (by simpa only [MI.clo] using c))
 | _,_, .scr h r,c=>.scr h (Reps.cut r (by simpa only [MI.clo] using c))
 | _,_, .rdT h e r,c=>.rdT h e (Reps.cut r (by simpa only [MI.clo] using c))
 | _,_, .exc h hc hn,_=>.exc h hc hn
theorem Reps.cut{K:PySem.W.Frag}{ι:List Addr}{H:Hp}{n:Nat}:∀ {vs:List V} {ds:List D},Reps K ι H vs ds->clos n ds->Reps K (ι.take n) H vs ds
 | _,_, .nil,_=>.nil
 | _,_, .cons r rs,c=>by simp only [MI.clos] at c;exact .cons (Rep.cut r c.1) (Reps.cut rs c.2)
end
def a1o(n:Nat):O->Prop
 | .lst xs=>clos n xs
 | .dK kvs=>clos n (kvs.map (·.2))
 | .dT kvs=>clos n (kvs.map (·.2))
def ath(n:Nat)(h:Hd):Prop:=∀ o∈h,a1o n o
theorem ORep.clo{K:PySem.W.Frag}{ι:List Addr}{H:Hp}{a:Addr}{o:O}(r:ORep K ι H a o):a1o ι.length o:=by
 cases o with
 | lst xs=>obtain ⟨vs,_,r⟩:=r;exact r.clo
 | dK kvs=>obtain ⟨us,_,_,r⟩:=r;exact r.clo
 | dT kvs=>obtain ⟨us,_,_,r⟩:=r;exact r.clo
theorem ORep.cut{K:PySem.W.Frag}{ι:List Addr}{H:Hp}{a:Addr}{o:O}{n:Nat}(r:ORep K ι H a o)(c:a1o n o):ORep K (ι.take n) H a o:=by
 cases o with
 | lst xs=>obtain ⟨vs,h,r⟩:=r;exact ⟨vs,h,r.cut c⟩
 | dK kvs=>obtain ⟨us,h,e,r⟩:=r;exact ⟨us,h,e,r.cut c⟩
 | dT kvs=>obtain ⟨us,h,e,r⟩:=r;exact ⟨us,h,e,r.cut c⟩
theorem HRep.clo{K:PySem.W.Frag}{ι:List Addr}{H:Hp}{h:Hd}(r:HRep K ι H h):ath h.length h:=λo ho=>by
 obtain ⟨i,hi⟩:=List.getElem?_of_mem ho;obtain ⟨a,_,q⟩:=r.addr hi;rw [<-r.len];exact q.clo
theorem HRep.cut{K:PySem.W.Frag}{ι:List Addr}{H:Hp}{h g:Hd}(r:HRep K ι H (h++g))(c:ath h.length h):HRep K (ι.take h.length) H h:=by
 refine ⟨r.nd.sublist (List.take_sublist _ _),?_,λi a o e1 e2=>?_⟩
 ·have:=r.len
  rw [List.length_append] at this;rw [List.length_take];omega
 ·have hi:i<h.length:=(List.getElem?_eq_some_iff.mp e2).1;rw [List.getElem?_take,if_pos hi] at e1;exact (r.obj i a o e1 (by rw [List.getElem?_append_left hi];exact e2)).cut (c o (List.mem_of_getElem? e2))
def X0:XD:=λ_ _ _ _=>False
abbrev SF:=List D->Hd->R D
def qd(K:PySem.W.Frag)(n:Nat)(F:SF):Sp:=λvs H Q _=>vs.length=n/\∃ ι ds h,Reps K ι H vs ds/\HRep K ι H h/\out K X0 (a0a K) ι H (F ds h) Q
def a6c(n:Nat)(ds:List D):Sd:=ds.map some++List.replicate (n - ds.length) none
def oh(b:SS)(n:Nat)(ds:List D)(h:Hd):R D:=match b (a6c n ds) h with
 | .rt d h1=>.ok d h1
 | .nx _ h1=>.ok .non h1
 | .ex c h1=>.ex c h1
 | _=>.no
def Rf(n:Nat)(r' r:R D):Prop:=match r with
 | .no=>True
 | .ok d h1=>∃ g,r' = .ok d (h1++g)/\(g=[]\/(n<=h1.length/\clo h1.length d/\ath h1.length h1))
 | .ex c h1=>∃ g,r' = .ex c (h1++g)/\(g=[]\/(n<=h1.length/\ath h1.length h1))
theorem Rf.same{n:Nat}{r' r:R D}(h:r'=r):Rf n r' r:=by
 subst h
 cases r' with
 | ok d h1=>exact ⟨[],by simp, .inl rfl⟩
 | ex c h1=>exact ⟨[],by simp, .inl rfl⟩
 | no=>exact True.intro
theorem aeh{K:PySem.W.Frag}{ι:List Addr}{H:Hp}{vs:List V}{ds:List D}{N:List Str}(r:Reps K ι H vs ds):SRep K ι H (start N vs) (a6c N.length ds):=by
 refine a5k ?_ ?_
 ·clear N
  induction r using Reps.rec (motive_1:=λ_ _ _=>True) with
  | nil=>exact acr
  | cons r rs _ ih=>exact aa0 r ih
  | _=>trivial
 ·rw [r.len];exact ⟨by simp,λi d e=>by rw [List.getElem?_replicate] at e;split at e<;>cases e⟩
theorem amj{ι ι':List Addr}{H H':Hp}{n:Nat}(g:Gr ι H ι' H')(hn:ι.length<=n):Gr ι H (ι'.take n) H':=by
 obtain ⟨m,rfl,hm⟩:=g.pre;exact ⟨⟨m.take (n - ι.length),by rw [List.take_append,List.take_of_length_le hn],λa ha=>hm a (List.mem_of_mem_take ha)⟩,g.tup,g.frz,g.oth,g.kp⟩
section
variable{P:Program}{w:World}{K:PySem.W.Frag}{mg:Str->Option Value}{base:Heap}
theorem ati{x qual:Str}{st:Stmt}{f:Addr}{fd:FuncData}{N ps:List Str}{k:Nat}{b:SS}{F:SF}(Fu:Fun K x qual st f fd)(S:FnScope N ps (aq st))
  (hb:∀ (cdv:Value) (A:Around) (outer:List Env) (s:Shared) (H:Hp) (E:XK),Room k (A.deeper (PyProof.Rows.envOfC qual (aq st) s.heap.objs.size f cdv))->MSs (a1n CX0 P w K mg base N qual (aq st) f cdv A outer s H E).nox X0 (jh st) b)
  (hF:∀ ds h,ds.length=ps.length->clos h.length ds->ath h.length h->Rf h.length (oh b N.length ds h) (F ds h)):FnOk P w K mg base CX0 (k+1) f fd ps (qd K ps.length F):=by
 refine Fu.ok S (λvs H Q E h=>h.1) λcdv A outer s H vs Q E hr h=>⟨_,hb cdv A outer s H E hr,?_⟩;obtain ⟨hl,ι,ds,h,r,hr',o⟩:=h;refine ⟨ι,a6c N.length ds,h,aeh r,hr',?_⟩;have q:=hF ds h (by rw [<-r.len];exact hl) (by rw [<-hr'.len];exact r.clo) hr'.clo
 unfold oh at q
 cases hFd:F ds h with
 | no=>rw [hFd] at o;exact o.elim
 | ex c h1 =>
  rw [hFd] at q o;obtain ⟨g,e,cl⟩:=q;have fin:∀ ι' H',Gr ι H ι' H'->HRep K ι' H' (h1++g)->X0 c ι' H' (h1++g):=λι' H' g1 hr1=>by
   rcases cl with rfl | ⟨hn,c2⟩
   ·rw [List.append_nil] at hr1;exact o ι' H' g1 hr1
   ·exact o (ι'.take h1.length) H' (amj g1 (by rw [hr'.len];exact hn)) (hr1.cut c2)
  cases hbd:b (a6c N.length ds) h with
  | ex c' h' =>
   rw [hbd] at e
   injection e with e1 e2
   subst e1 e2;exact fin
  | _=>rw [hbd] at e;cases e
 | ok d h1 =>
  rw [hFd] at q o;obtain ⟨g,e,cl⟩:=q;have fin:∀ ι' H' v,Gr ι H ι' H'->Rep K ι' H' v d->HRep K ι' H' (h1++g)->Q v H':=λι' H' v g1 r1 hr1=>by
   rcases cl with rfl | ⟨hn,c1,c2⟩
   ·rw [List.append_nil] at hr1;exact o ι' H' v g1 r1 hr1
   ·exact o (ι'.take h1.length) H' v (amj g1 (by rw [hr'.len];exact hn)) (r1.cut c1) (hr1.cut c2)
  cases hbd:b (a6c N.length ds) h with
  | rt d' h' =>
   rw [hbd] at e
   injection e with e1 e2
   subst e1 e2;exact fin
  | nx τ' h' =>
   rw [hbd] at e
   injection e with e1 e2
   subst e1 e2;exact λι' H' σ' g1 S1 hr1=>fin ι' H' .non g1 .non hr1
  | _=>rw [hbd] at e;cases e
end
section
variable{K:PySem.W.Frag}{E:XD}{ι:List Addr}{H:Hp}{h:Hd}{Q:VK}
theorem ans{d:D}{v:V}(o:out K E (a0a K) ι H (.ok d h) Q)(r:Rep K ι H v d)(hr:HRep K ι H h):Q v H:=o ι H v (.refl _ _) r hr
theorem HRep.lst(hr:HRep K ι H h){i:Nat}{a:Addr}{xs:List D}(e:ι[i]? = some a)(hi:h[i]? = some (.lst xs)):∃ vs,H a=some (.lst vs)/\Reps K ι H vs xs:=hr.obj i a _ e hi
end
def azn:D->D->Hd->R D
 | .int i, .int j,h=>.ok (.int (i+j)) h
 | .str x, .str y,h=>if x.length+y.length<=LINE then .ok (.str (x++y)) h else .no
 | .tup xs, .tup ys,h=>if xs≠[]/\xs.length+ys.length<=LINE then .ok (.tup (xs++ys)) h else .no
 | .ref i, .ref j,h=>match h[i]?,h[j]? with
  | some (.lst xs),some (.lst ys)=>if xs.length+ys.length<=LINE then .ok (.ref h.length) (h++[.lst (xs++ys)]) else .no
  | _,_=>.no
 | _,_,_=>.no
def ab5:D->D->Hd->R D
 | .int i, .int j,h=>.ok (.int (i - j)) h
 | _,_,_=>.no
open Classical in
noncomputable def atj:D->D->Hd->R D
 | .int i, .int j,h=>if CMul i j then .ok (.int (i*j)) h else .no
 | .ref i, .int k,h=>match h[i]? with
  | some (.lst xs)=>if (-(2 ^ 63)<=k/\k<2 ^ 63)/\xs.length*k.toNat<=LINE then .ok (.ref h.length) (h++[.lst (List.replicate k.toNat xs).flatten]) else .no
  | _=>.no
 | _,_,_=>.no
def a5d:D->D->Hd->R D
 | .int i, .int j,h=>if 0<j then .ok (.int (i % j)) h else .no
 | _,_,_=>.no
def ab2:D->D->Hd->R D
 | .int i, .int j,h=>if 0<j/\j<1073741824 then .ok (.int (i / j)) h else .no
 | _,_,_=>.no
def a7a:D->D->Hd->R D
 | .int i, .int j,h=>if 0<=j/\j<=1000000/\i.natAbs<2 ^ 64 then .ok (.int (i ^ j.toNat)) h else .no
 | _,_,_=>.no
section
variable{X:Cx}{K:PySem.W.Frag}
theorem ap3:a2f K ab5 (rI0 λi j=>.int (i - j)):=by
 intro E ι H h x y dx dy Q rx ry hr o
 cases rx with
 | int i =>
  cases ry with
  | int j=>exact ⟨i,j,rfl,rfl,ans o (.int _) hr⟩
  | _=>exact o.elim
 | _=>exact o.elim
theorem ap4:a2f K a5d (rI (λ_ j=>0<j) λi j=>.int (i % j)):=by
 intro E ι H h x y dx dy Q rx ry hr o
 cases rx with
 | int i =>
  cases ry with
  | int j =>
   by_cases hc:0<j
   ·simp only [a5d,if_pos hc] at o;exact ⟨i,j,rfl,rfl,hc,ans o (.int _) hr⟩
   ·simp only [a5d,if_neg hc] at o;exact o.elim
  | _=>exact o.elim
 | _=>exact o.elim
theorem agn:a2f K ab2 (rI aws λi j=>.int (i / j)):=by
 intro E ι H h x y dx dy Q rx ry hr o
 cases rx with
 | int i =>
  cases ry with
  | int j =>
   by_cases hc:0<j/\j<1073741824
   ·simp only [ab2,if_pos hc] at o;exact ⟨i,j,rfl,rfl,hc,ans o (.int _) hr⟩
   ·simp only [ab2,if_neg hc] at o;exact o.elim
  | _=>exact o.elim
 | _=>exact o.elim
theorem ap5:a2f K a7a (rI ay5 λi j=>.int (i ^ j.toNat)):=by
 intro E ι H h x y dx dy Q rx ry hr o
 cases rx with
 | int i =>
  cases ry with
  | int j =>
   by_cases hc:0<=j/\j<=1000000/\i.natAbs<2 ^ 64
   ·simp only [a7a,if_pos hc] at o;exact ⟨i,j,rfl,rfl,hc,ans o (.int _) hr⟩
   ·simp only [a7a,if_neg hc] at o;exact o.elim
  | _=>exact o.elim
 | _=>exact o.elim
theorem ago:a2f K atj (λx y H Q=>rI CMul (λi j=>.int (i*j)) x y H Q\/asv x y H Q):=by
 intro E ι H h x y dx dy Q rx ry hr o
 cases rx with
 | int i =>
  cases ry with
  | int j =>
   by_cases hc:CMul i j
   ·simp only [atj,if_pos hc] at o;exact .inl ⟨i,j,rfl,rfl,hc,ans o (.int _) hr⟩
   ·simp only [atj,if_neg hc] at o;exact o.elim
  | _=>exact o.elim
 | @ref a i ha =>
  cases ry with
  | int k =>
   simp only [atj] at o
   split at o
   ·rename_i xs hx;obtain ⟨vs,h3,h4⟩:=hr.lst ha hx
    split at o
    ·rename_i hc;exact .inr ⟨a,k,vs,rfl,rfl,h3,hc.1.1,hc.1.2,ll (by rw [h4.len];exact hc.2),um (h4.flat _) hr o⟩
    ·exact o.elim
   ·exact o.elim
  | _=>exact o.elim
 | _=>exact o.elim
variable{E:XD}{a b e:Expr}{es:List Expr}{fa fb:SE}{ka:SA}{pos:Pos}
theorem agp(ha:ME X E a fa)(hb:ME X E b fb):ME X E (.BinOp a .Sub b pos) (s2 ab5 fa fb):=abh asb ap3 ha hb
theorem a7b(ha:ME X E a fa)(hb:ME X E b fb):ME X E (.BinOp a .Mod b pos) (s2 a5d fa fb):=abh asd ap4 ha hb
theorem atk(ha:ME X E a fa)(hb:ME X E b fb):ME X E (.BinOp a .FloorDiv b pos) (s2 ab2 fa fb):=abh ao9 agn ha hb
theorem agq(ha:ME X E a fa)(hb:ME X E b fb):ME X E (.BinOp a .Pow b pos) (s2 a7a fa fb):=abh ase ap5 ha hb
def a6t:D->Hd->R D
 | .int i,h=>.ok (.int (-i)) h
 | _,_=>.no
theorem a2z(ha:ME X E a fa):ME X E (.UnaryOp .USub a pos) (s1 a6t fa):=axa asf (λE ι H h x dx Q rx hr o=>by
 cases rx with
 | int i=>exact ⟨i,rfl,ans o (.int _) hr⟩
 | _=>exact o.elim) ha
def gLt:D->D->Hd->R D
 | .int i, .int j,h=>.ok (.bl (decide (i<j))) h
 | .str i, .str j,h=>.ok (.bl (decide (i.cps.toList<j.cps.toList))) h
 | _,_,_=>.no
def gLe:D->D->Hd->R D
 | .int i, .int j,h=>.ok (.bl (decide (i<=j))) h
 | .str i, .str j,h=>.ok (.bl (!decide (j.cps.toList<i.cps.toList))) h
 | _,_,_=>.no
def gGt:D->D->Hd->R D
 | .int i, .int j,h=>.ok (.bl (decide (j<i))) h
 | _,_,_=>.no
def gGe:D->D->Hd->R D
 | .int i, .int j,h=>.ok (.bl (decide (j<=i))) h
 | _,_,_=>.no
theorem a3v:a2f K gLt (λx y H Q=>rI0 (λi j=>.bl (decide (i<j))) x y H Q\/∃ i j,x = .str i/\y = .str j/\Q (.bl (decide (i.cps.toList<j.cps.toList))) H):=by
 intro E ι H h x y dx dy Q rx ry hr o
 cases rx with
 | int i =>
  cases ry with
  | int j=>exact .inl ⟨i,j,rfl,rfl,ans o (.bl _) hr⟩
  | _=>exact o.elim
 | str i =>
  cases ry with
  | str j=>exact .inr ⟨i,j,rfl,rfl,ans o (.bl _) hr⟩
  | _=>exact o.elim
 | _=>exact o.elim
theorem amk:a2f K gLe (λx y H Q=>rI0 (λi j=>.bl (decide (i<=j))) x y H Q\/∃ i j,x = .str i/\y = .str j/\Q (.bl (!decide (j.cps.toList<i.cps.toList))) H):=by
 intro E ι H h x y dx dy Q rx ry hr o
 cases rx with
 | int i =>
  cases ry with
  | int j=>exact .inl ⟨i,j,rfl,rfl,ans o (.bl _) hr⟩
  | _=>exact o.elim
 | str i =>
  cases ry with
  | str j=>exact .inr ⟨i,j,rfl,rfl,ans o (.bl _) hr⟩
  | _=>exact o.elim
 | _=>exact o.elim
theorem aml:a2f K gGt (rI0 λi j=>.bl (decide (j<i))):=by
 intro E ι H h x y dx dy Q rx ry hr o
 cases rx with
 | int i =>
  cases ry with
  | int j=>exact ⟨i,j,rfl,rfl,ans o (.bl _) hr⟩
  | _=>exact o.elim
 | _=>exact o.elim
theorem aa2:a2f K gGe (rI0 λi j=>.bl (decide (j<=i))):=by
 intro E ι H h x y dx dy Q rx ry hr o
 cases rx with
 | int i =>
  cases ry with
  | int j=>exact ⟨i,j,rfl,rfl,ans o (.bl _) hr⟩
  | _=>exact o.elim
 | _=>exact o.elim
def a4p:D->Bool
 | .non=>true
 | _=>false
theorem acv{ι:List Addr}{H:Hp}{x:V}{d:D}(r:Rep K ι H x d):decide (x = .non)=a4p d:=by cases r<;>simp [a4p]
def gIs:D->D->Hd->R D
 | x, .non,h=>.ok (.bl (a4p x)) h
 | .bl i, .bl j,h=>.ok (.bl (i == j)) h
 | _,_,_=>.no
def a06:D->D->Hd->R D
 | x, .non,h=>.ok (.bl (!a4p x)) h
 | .bl i, .bl j,h=>.ok (.bl (i != j)) h
 | _,_,_=>.no
theorem agr:a2f K gIs (λx y H Q=>(y = .non/\Q (.bl (decide (x = .non))) H)\/∃ i j,x = .bl i/\y = .bl j/\Q (.bl (i == j)) H):=by
 intro E ι H h x y dx dy Q rx ry hr o
 cases ry with
 | non=>exact .inl ⟨rfl,by rw [acv rx];simp only [gIs] at o;exact ans o (.bl _) hr⟩
 | bl j =>
  cases rx with
  | bl i=>exact .inr ⟨i,j,rfl,rfl,ans o (.bl _) hr⟩
  | _=>exact o.elim
 | _=>cases rx<;>exact o.elim
theorem a6d:a2f K a06 (λx y H Q=>(y = .non/\Q (.bl (!decide (x = .non))) H)\/∃ i j,x = .bl i/\y = .bl j/\Q (.bl (i != j)) H):=by
 intro E ι H h x y dx dy Q rx ry hr o
 cases ry with
 | non=>exact .inl ⟨rfl,by rw [acv rx];simp only [a06] at o;exact ans o (.bl _) hr⟩
 | bl j =>
  cases rx with
  | bl i=>exact .inr ⟨i,j,rfl,rfl,ans o (.bl _) hr⟩
  | _=>exact o.elim
 | _=>cases rx<;>exact o.elim
def a3i:D->Bool
 | .non=>true | .bl _=>true | .int _=>true | .str _=>true
 | _=>false
def eqF:D->D->Bool
 | .non, .non=>true
 | .bl i, .bl j=>i == j
 | .int i, .int j=>i == j
 | .str i, .str j=>i == j
 | .int i, .bl j=>i == (if j then 1 else 0)
 | .bl i, .int j=>(if i then 1 else 0) == j
 | _,_=>false
end
section
variable{X:Cx}{K:PySem.W.Frag}{E:XD}{a b e o:Expr}{es:List Expr}{fa fb:SE}{ka:SA}{pos:Pos}
def a0b(d:D)(h:Hd):Option (List D):=match d with
 | .tup xs=>some xs
 | .rol xs=>some xs
 | .ref i=>match h[i]? with | some (.lst xs)=>some xs | _=>none
 | _=>none
def gIx(x y:D)(h:Hd):R D:=match y with
 | .int i=>(match x with
  | .str z=>if z.length<=LINE then (match atI z.cps.toList i with | some c=>.ok (.str ⟨#[c]⟩) h | none=>.no) else .no
  | x=>match a0b x h with
   | some xs=>(match atI xs i with | some d=>.ok d h | none=>.no)
   | none=>.no)
 | _=>.no
theorem acw{ι:List Addr}{H:Hp}{vs:List V}{xs:List D}{i:Int}{d:D}(r:Reps K ι H vs xs)(e:atI xs i=some d):∃ v,atI vs i=some v/\Rep K ι H v d:=by
 unfold atI at e ⊢;rw [r.len]
 cases hx:ixN xs.length i with
 | none=>rw [hx] at e;cases e
 | some j=>rw [hx] at e;exact r.get e
theorem atl:a2f K gIx (rIx K):=by
 intro E ι H h x y dx dy Q rx ry hr o
 cases ry with
 | int i =>
  have go:∀ {p:Addr} {vs:List V} {xs:List D},Reps K ι H vs xs->out K E (a0a K) ι H (match atI xs i with | some d=>.ok d h | none=>.no) Q->∃ v,atI vs i=some v/\Q v H:=λ{p vs xs} r o=>by
   cases he:atI xs i with
   | none=>rw [he] at o;exact o.elim
   | some d =>
    rw [he] at o;obtain ⟨v,h1,h2⟩:=acw r he;exact ⟨v,h1,ans o h2 hr⟩
  cases rx with
  | str z =>
   by_cases hc:z.length<=LINE
   ·simp only [gIx,if_pos hc] at o
    cases he:atI z.cps.toList i with
    | none=>rw [he] at o;exact o.elim
    | some c=>rw [he] at o;exact .inr (.inr ⟨z,i,c,rfl,rfl,ll hc,he,ans o (.str _) hr⟩)
   ·simp only [gIx,if_neg hc] at o;exact o.elim
  | @tup p vs xs hp r =>
   simp only [gIx,a0b] at o;obtain ⟨v,h1,h2⟩:=go (p:=p) r o;exact .inr (.inl ⟨p,vs,i,v,rfl,rfl,SqT.of hp,h1,h2⟩)
  | @rol p vs xs hp r =>
   simp only [gIx,a0b] at o;obtain ⟨v,h1,h2⟩:=go (p:=p) r o;exact .inl ⟨p,vs,i,v,rfl,rfl,hp.l,h1,h2⟩
  | @ref p j hp =>
   obtain ⟨ob,e1,e2⟩:=hr.at hp
   cases ob with
   | lst xs =>
    simp only [gIx,a0b,e1] at o;obtain ⟨vs,h3,h4⟩:=e2;obtain ⟨v,h1,h2⟩:=go (p:=p) h4 o;exact .inl ⟨p,vs,i,v,rfl,rfl,SqL.of h3,h1,h2⟩
   | dK _=>simp only [gIx,a0b,e1] at o;exact o.elim
   | dT _=>simp only [gIx,a0b,e1] at o;exact o.elim
  | _=>exact o.elim
 | _=>exact o.elim
theorem bw(ha:ME X E a fa)(hb:ME X E b fb)(hp:ab7 b):ME X E (.Subscript a b pos) (s2 gIx fa fb):=axb ass atl ha hb hp
abbrev SO:=Sd->Hd->R (Option Int)
abbrev MO(X:Cx)(E:XD)(e:Option Expr)(f:SO):Prop:=PO X e (lift X.K E azl f)
def oN:SO:=λ_ h=>.ok none h
def oS(f:SE):SO:=λτ h=>(f τ h).bind λd h1=>match d with | .int i=>.ok (some i) h1 | _=>.no
theorem PO.weak{e:Option Expr}{t t':St->Hp->(Option Int->Hp->Prop)->Prop}(h:PO X e t)(i:∀ σ H Q,t' σ H Q->t σ H Q):PO X e t':=λpins s σ H Q I q=>h pins s σ H Q I (i _ _ _ q)
theorem wz:MO X E none oN:=PO.weak aog λσ H Q ⟨ι,τ,h,S,Rh,o⟩=>o ι H none (.refl _ _) rfl Rh
theorem xf(he:ME X E e fa):MO X E (some e) (oS fa):=by
 refine PO.weak (aoh he) λσ H Q ⟨ι,τ,h,S,Rh,o⟩=>?_;refine ⟨ι,τ,h,S,Rh,g8 o λd h1 ι1 H1 v g1 r1 hr1 o1=>?_⟩
 cases r1 with
 | int i=>exact ⟨i,rfl,o1 ι1 H1 _ (.refl _ _) rfl hr1⟩
 | _=>exact o1.elim
def whole(n:Nat)(lo hi:Option Int):Prop:=HT.sIx n 0 lo=0/\HT.sIx n n hi=n
instance (n:Nat) (lo hi:Option Int):Decidable (whole n lo hi):=by unfold whole;exact inferInstance
def gSl(d:D)(lo hi:Option Int)(h:Hd):R D:=match d with
 | .str z=>if z.length<=LINE then .ok (.str ⟨(a76 z.cps.toList lo hi).toArray⟩) h else .no
 | .tup xs=>if ¬ whole xs.length lo hi then .ok (.tup (a76 xs lo hi)) h else .no
 | .rol xs=>.ok (.ref h.length) (h++[.lst (a76 xs lo hi)])
 | .scr xs=>.ok (.ref h.length) (h++[.lst (a76 xs lo hi)])
 | .ref i=>match h[i]? with | some (.lst xs)=>.ok (.ref h.length) (h++[.lst (a76 xs lo hi)]) | _=>.no
 | _=>.no
theorem a3w{ι:List Addr}{H:Hp}{vs:List V}{xs:List D}(r:Reps K ι H vs xs)(lo hi:Option Int):Reps K ι H (am8 vs lo hi) (a76 xs lo hi):=by
 unfold am8 a76;rw [r.len];exact (r.drop _).take _
theorem acx{ι:List Addr}{H:Hp}{h:Hd}{x:V}{d:D}{lo hi:Option Int}{Q:VK}(rx:Rep K ι H x d)(hr:HRep K ι H h)(o:out K E (a0a K) ι H (gSl d lo hi h) Q):ax7 x lo hi H Q\/awx K x lo hi H Q\/awz K x lo hi H Q:=by
 cases rx with
 | str z =>
  by_cases hc:z.length<=LINE
  ·simp only [gSl,if_pos hc] at o;exact .inl ⟨z,rfl,ll hc,ans o (.str _) hr⟩
  ·simp only [gSl,if_neg hc] at o;exact o.elim
 | @tup p vs xs hp r =>
  by_cases hc:¬ whole xs.length lo hi
  ·simp only [gSl,if_pos hc] at o;exact .inr (.inl ⟨p,vs,rfl,SqT.of hp,by rw [r.len];exact hc,a1r (a3w r lo hi) hr o⟩)
  ·simp only [gSl,if_neg hc] at o;exact o.elim
 | @rol p vs xs hp r=>exact .inr (.inr ⟨p,vs,rfl,hp.l,um (a3w r lo hi) hr o⟩)
 | @scr p vs xs hp r=>exact .inr (.inr ⟨p,vs,rfl,hp.l,um (a3w r lo hi) hr o⟩)
 | @ref p j hp =>
  obtain ⟨ob,e1,e2⟩:=hr.at hp
  cases ob with
  | lst xs =>
   simp only [gSl,e1] at o;obtain ⟨vs,h3,h4⟩:=e2;exact .inr (.inr ⟨p,vs,rfl,SqL.of h3,um (a3w h4 lo hi) hr o⟩)
  | dK _=>simp only [gSl,e1] at o;exact o.elim
  | dT _=>simp only [gSl,e1] at o;exact o.elim
 | _=>exact o.elim
theorem ags{ι:List Addr}{H:Hp}{x:V}{d:D}(r:Rep K ι H x d)(f:a3i d=true):a3c x=true:=by cases r<;>first | rfl | cases f
theorem atm{ι:List Addr}{H:Hp}{x y:V}{d c:D}(r:Rep K ι H x d)(q:Rep K ι H y c):a3i d=true->a3i c=true->eqV x y=eqF d c:=λf g=>by
 cases r<;>cases q<;>first | rfl | (cases f;done) | (cases g;done)
def inD(x:D)(xs:List D):Bool:=xs.any λy=>eqF y x
theorem ak0{ι:List Addr}{H:Hp}{vs:List V}{xs:List D}(r:Reps K ι H vs xs)(f:xs.all a3i=true):vs.all a3c=true:=by
 induction r using Reps.rec (motive_1:=λ_ _ _=>True) with
 | nil=>rfl
 | cons r rs _ ih =>
  rw [List.all_cons,Bool.and_eq_true] at f ⊢;exact ⟨ags r f.1,ih f.2⟩
 | _=>trivial
theorem atn{ι:List Addr}{H:Hp}{x:V}{d:D}{vs:List V}{xs:List D}(rx:Rep K ι H x d)(fx:a3i d=true)(r:Reps K ι H vs xs)(f:xs.all a3i=true):inV x vs=inD d xs:=by
 unfold inV inD
 induction r using Reps.rec (motive_1:=λ_ _ _=>True) with
 | nil=>rfl
 | cons r rs _ ih =>
  rw [List.all_cons,Bool.and_eq_true] at f;rw [List.any_cons,List.any_cons,ih f.2,atm r rx f.1 fx]
 | _=>trivial
def gIn(neg:Bool)(x y:D)(h:Hd):R D:=match y with
 | .str T=>(match x with
  | .str z=>(match z.cps.toList with | [c]=>.ok (.bl (if neg then !decide (c∈T.cps.toList) else decide (c∈T.cps.toList))) h | _=>.no)
  | _=>.no)
 | y=>match a0b y h with
  | some xs=>if a3i x=true/\xs.all a3i=true then .ok (.bl (if neg then !inD x xs else inD x xs)) h else .no
  | none=>.no
theorem one_sign{z:Str}{c:Nat}(h:z.cps.toList=[c]):z=⟨#[c]⟩:=by
 obtain ⟨cps⟩:=z
 congr
 exact Array.ext' (by simpa using h)
theorem amm(neg:Bool){r1:R2}(h1:∀ c T H (Q:VK),Q (.bl (if neg then !decide (c∈T.cps.toList) else decide (c∈T.cps.toList))) H->r1 (.str ⟨#[c]⟩) (.str T) H Q):a2f K (gIn neg) (λx y H Q=>r1 x y H Q\/rIn K neg x y H Q):=by
 intro E ι H h x y dx dy Q rx ry hr o
 have go:∀ {p:Addr} {vs:List V} {xs:List D},(SqL K H p vs\/SqT K H p vs)->Reps K ι H vs xs->out K E (a0a K) ι H (if a3i dx=true/\xs.all a3i=true then .ok (.bl (if neg then !inD dx xs else inD dx xs)) h else .no) Q->rIn K neg x (.ref p) H Q:=λ{p vs xs} sq r o=>by
  split at o
  ·rename_i hc;exact ⟨p,vs,rfl,sq,ags rx hc.1,ak0 r hc.2,by rw [atn rx hc.1 r hc.2];exact ans o (.bl _) hr⟩
  ·exact o.elim
 cases ry with
 | str T =>
  cases rx with
  | str z =>
   simp only [gIn] at o
   split at o
   ·rename_i c hz;rw [one_sign hz];exact .inl (h1 c T H Q (ans o (.bl _) hr))
   ·exact o.elim
  | _=>exact o.elim
 | @tup p vs xs hp r=>simp only [gIn,a0b] at o;exact .inr (go (.inr (SqT.of hp)) r o)
 | @rol p vs xs hp r=>simp only [gIn,a0b] at o;exact .inr (go (.inl hp.l) r o)
 | @ref p j hp =>
  obtain ⟨ob,e1,e2⟩:=hr.at hp
  cases ob with
  | lst xs =>
   simp only [gIn,a0b,e1] at o;obtain ⟨vs,h3,h4⟩:=e2;exact .inr (go (.inl (SqL.of h3)) h4 o)
  | dK _=>simp only [gIn,a0b,e1] at o;exact o.elim
  | dT _=>simp only [gIn,a0b,e1] at o;exact o.elim
 | _=>exact o.elim
theorem ap6:a2f K (gIn false) (λx y H Q=>(∃ c T,x = .str ⟨#[c]⟩/\y = .str T/\Q (.bl (decide (c∈T.cps.toList))) H)\/rIn K false x y H Q):=amm false λc T H Q q=>⟨c,T,rfl,rfl,q⟩
theorem a82:a2f K (gIn true) (λx y H Q=>(∃ c T,x = .str ⟨#[c]⟩/\y = .str T/\Q (.bl (!decide (c∈T.cps.toList))) H)\/rIn K true x y H Q):=amm true λc T H Q q=>⟨c,T,rfl,rfl,q⟩
def vh:List D->Hd->R D
 | [.str z],h=>if z.length<=LINE then .ok (.int z.length) h else .no
 | [x],h=>(match a0b x h with | some xs=>.ok (.int xs.length) h | none=>.no)
 | _,_=>.no
theorem p7:aef K vh (λxs H Q=>(∃ p ys,xs=[.ref p]/\(SqL K H p ys\/SqT K H p ys)/\Q (.int ys.length) H)\/∃ z,xs=[.str z]/\z.length<=sizeLine/\Q (.int z.length) H):=by
 intro E ι H h xs ds Q r hr o
 cases r with
 | nil=>exact o.elim
 | cons r rs =>
  cases rs with
  | cons _ _=>exact (show False by cases r<;>exact o).elim
  | nil =>
   cases r with
   | str z =>
    by_cases hc:z.length<=LINE
    ·simp only [vh,if_pos hc] at o;exact .inr ⟨z,rfl,ll hc,ans o (.int _) hr⟩
    ·simp only [vh,if_neg hc] at o;exact o.elim
   | @tup p vs xs hp r=>simp only [vh,a0b] at o;exact .inl ⟨p,vs,rfl, .inr (SqT.of hp),by rw [r.len];exact ans o (.int _) hr⟩
   | @rol p vs xs hp r=>simp only [vh,a0b] at o;exact .inl ⟨p,vs,rfl, .inl hp.l,by rw [r.len];exact ans o (.int _) hr⟩
   | @ref p j hp =>
    obtain ⟨ob,e1,e2⟩:=hr.at hp
    cases ob with
    | lst xs =>
     simp only [vh,a0b,e1] at o;obtain ⟨vs,h3,h4⟩:=e2;exact .inl ⟨p,vs,rfl, .inl (SqL.of h3),by rw [h4.len];exact ans o (.int _) hr⟩
    | dK _=>simp only [vh,a0b,e1] at o;exact o.elim
    | dT _=>simp only [vh,a0b,e1] at o;exact o.elim
   | _=>exact o.elim
def aw0:List D->Hd->R D
 | [.int i],h=>.ok (.int (if i<0 then -i else i)) h
 | _,_=>.no
theorem ap7:aef K aw0 (λxs H Q=>∃ i,xs=[.int i]/\Q (.int (if i<0 then -i else i)) H):=by
 intro E ι H h xs ds Q r hr o
 unfold aw0 at o
 split at o
 ·cases r with | cons r rs=>cases r;cases rs;exact ⟨_,rfl,ans o (.int _) hr⟩
 ·exact o.elim
def ak1:List D->Hd->R D
 | [.int i, .int j],h=>.ok (.int (if j > i then j else i)) h
 | _,_=>.no
def aa3:List D->Hd->R D
 | [.int i, .int j],h=>.ok (.int (if j<i then j else i)) h
 | _,_=>.no
theorem ak2:aef K aa3 (λxs H Q=>∃ i j,xs=[.int i, .int j]/\Q (.int (if j<i then j else i)) H):=by
 intro E ι H h xs ds Q r hr o
 unfold aa3 at o
 split at o
 ·cases r with | cons r rs=>cases rs with | cons q rs=>cases r;cases q;cases rs;exact ⟨_,_,rfl,ans o (.int _) hr⟩
 ·exact o.elim
def ap8:List D->Hd->R D
 | [.int i],h=>.ok (.int i) h
 | [.bl k],h=>.ok (.int (if k then 1 else 0)) h
 | _,_=>.no
theorem ap9:aef K ap8 (λxs H Q=>(∃ i,xs=[.int i]/\Q (.int i) H)\/∃ k,xs=[.bl k]/\Q (.int (if k then 1 else 0)) H):=by
 intro E ι H h xs ds Q r hr o
 unfold ap8 at o
 split at o
 ·cases r with | cons r rs=>cases r;cases rs;exact .inl ⟨_,rfl,ans o (.int _) hr⟩
 ·cases r with | cons r rs=>cases r;cases rs;exact .inr ⟨_,rfl,ans o (.int _) hr⟩
 ·exact o.elim
def tyD(d:D)(h:Hd):Option String:=match d with
 | .non=>some "NoneType" | .bl _=>some "bool" | .int _=>some "int" | .str _=>some "str" | .tup _=>some "tuple" | .rol _=>some "list"
 | .ref i=>(match h[i]? with | some (.lst _)=>some "list" | some (.dK _)=>some "dict" | _=>none)
 | _=>none
def apa(t T:String):Option Bool :=
 if t∈["NoneType", "bool", "int", "str", "tuple", "list", "dict"]/\T∈["bool", "int", "str", "tuple", "list", "dict"] then some (t == T || (t == "bool" && T == "int")) else none
theorem agt{t T:String}{b:Bool}(e:apa t T=some b):PySem.W.kitOne K (.type t) (.type T)=some b:=by
 unfold apa at e
 split at e
 ·rename_i h;obtain ⟨h1,h2⟩:=h;simp only [List.mem_cons,List.not_mem_nil,or_false] at h1 h2
  rcases h1 with rfl | rfl | rfl | rfl | rfl | rfl | rfl<;>rcases h2 with rfl | rfl | rfl | rfl | rfl | rfl<;>(cases e;rfl)
 ·cases e
def ato:List D->Hd->R D
 | [x, .ty T],h=>(match tyD x h with | some t=>(match apa t T with | some b=>.ok (.bl b) h | none=>.no) | none=>.no)
 | _,_=>.no
theorem atp{ι:List Addr}{H:Hp}{h:Hd}{x:V}{d:D}{t:String}(r:Rep K ι H x d)(hr:HRep K ι H h)(e:tyD d h=some t):TyOf K H x (.type t):=by
 cases r with
 | non=>cases e;exact .non
 | bl b=>cases e;exact .bl b
 | int b=>cases e;exact .int b
 | str b=>cases e;exact .str b
 | ty _=>cases e
 | tup hp r=>cases e;exact .tup hp
 | rol hp r=>cases e;obtain ⟨o,hp⟩:=hp;exact .frz hp
 | scr _ _=>cases e
 | rod _ _ _=>cases e
 | rdT _ _ _=>cases e
 | exc _ _ _=>cases e
 | ref hp =>
  obtain ⟨ob,e1,e2⟩:=hr.at hp
  cases ob with
  | lst xs=>simp only [tyD,e1] at e;cases e;obtain ⟨vs,h3,h4⟩:=e2;exact .lst h3
  | dK _=>simp only [tyD,e1] at e;cases e;obtain ⟨vs,h3,h4⟩:=e2;exact .dK h3
  | dT _=>simp only [tyD,e1] at e;cases e
theorem apb:aef K ato (λxs H Q=>∃ x T t b,xs=[x, .ty T]/\TyOf K H x t/\PySem.W.kitOne K t (.type T)=some b/\Q (.bl b) H):=by
 intro E ι H h xs ds Q r hr o
 unfold ato at o
 split at o
 ·rename_i d T
  cases r with
  | cons r rs =>
   cases rs with
   | cons q rs =>
    cases q;cases rs
    cases ht:tyD d h with
    | none=>rw [ht] at o;exact o.elim
    | some t =>
     rw [ht] at o
     cases hb:apa t T with
     | none=>simp only [hb] at o;exact o.elim
     | some b =>
      simp only [hb] at o;exact ⟨_,T, .type t,b,rfl,atp r hr ht,agt hb,ans o (.bl _) hr⟩
 ·exact o.elim
end
section
variable{X:Cx}{K:PySem.W.Frag}{E:XD}{a b e o:Expr}{es:List Expr}{fa fb fo:SE}{ka:SA}{pos apos cpos:Pos}{name:Str}{idn:String}
def apc(K:PySem.W.Frag)(g:D->List D->Hd->R D)(r:V->List V->Hp->VK->Prop):Prop:=∀ (E:XD) ι H h x dx xs ds Q,Rep K ι H x dx->Reps K ι H xs ds->HRep K ι H h->out K E (a0a K) ι H (g dx ds h) Q->r x xs H Q
def isL(d:D)(h:Hd):Bool:=match d with | .ref i=>(match h[i]? with | some (.lst _)=>true | _=>false) | .rol _=>true | _=>false
def sML(g:D->List D->Hd->R D)(f:SE)(k:SA):SE:=λτ h=>(f τ h).bind λd h1=>if isL d h1=true then (k τ h1).bind λds h2=>g d ds h2 else .no
theorem atq{ι:List Addr}{H:Hp}{h:Hd}{x:V}{d:D}(r:Rep K ι H x d)(hr:HRep K ι H h)(e:isL d h=true):tyV K "list" x H:=by
 cases r with
 | rol hp _=>exact .inl ⟨rfl,_,hp.l⟩
 | ref hp =>
  obtain ⟨ob,e1,e2⟩:=hr.at hp
  cases ob with
  | lst xs=>obtain ⟨vs,h3,_⟩:=e2;exact .inl ⟨rfl,_,SqL.of h3⟩
  | dK _=>simp [isL,e1] at e
  | dT _=>simp [isL,e1] at e
 | _=>cases e
theorem a83{r:V->List V->Hp->VK->Prop}{g:D->List D->Hd->R D}(slot:Slot "list" name idn)(hty:typeOf (.builtin idn)=pure (.type "method_descriptor"))(hm:MtR X idn r)(hs:apc X.K g r)(ho:ME X E o fo)(ha:MA X E (e::es) ka)
  (hbase:attributeBase o name X.env (eval o X.env)=eval o X.env:=by rfl)
  (hfew:((backTo cpos (starEach (e::es) X.env)).all (λx => !x.1) && (backToKw cpos (keywordEach [] X.env)).all (λx=>x.1.isSome)
   && decide ((e::es).length+([]:List Keyword).length+(if ([]:List Keyword).isEmpty then 0 else 1)<30))=true:=by rfl)
  (hline:(apos.endLine == cpos.line)=true:=by rfl) (hst:starEach (e::es) X.env=(false,eval e X.env)::starEach es X.env:=by rfl) (hplain:(backTo cpos (starEach es X.env)).any (·.1)=false:=by rfl) :
  ME X E (.Call (.Attribute o name apos) (e::es) [] cpos) (sML g fo ka):=by
 refine PE.weak (ax0 PySem.F.plainAttrs_list slot hty hm ho ha hbase hfew hline hst hplain) λσ H Q ⟨ι,τ,h,S,Rh,o⟩=>?_;refine ⟨ι,τ,h,S,Rh,g8 o λd h1 ι1 H1 v g1 r1 hr1 o1=>?_⟩
 by_cases hc:isL d h1=true
 ·rw [if_pos hc] at o1;refine ⟨atq r1 hr1 hc,ι1,τ,h1,S.mono g1,hr1,g8 o1 λds h2 ι2 H2 vs g2 r2 hr2 o2=>?_⟩;exact hs E ι2 H2 h2 v d vs ds Q (r1.mono g2) r2 hr2 o2
 ·rw [if_neg hc] at o1;exact o1.elim
def a7c:D->List D->Hd->R D
 | .ref i,[y],h=>(match h[i]? with | some (.lst xs)=>if xs.length<LINE then .ok .non (h.set i (.lst (xs++[y]))) else .no | _=>.no)
 | _,_,_=>.no
theorem a1u:apc K a7c ag5:=by
 intro E ι H h x dx xs ds Q rx r hr o
 unfold a7c at o
 split at o
 ·rename_i i y
  cases rx with
  | @ref p _ hp =>
   cases r with
   | cons r1 rs =>
    cases rs
    split at o
    ·rename_i xs hx;obtain ⟨vs,h3,h4⟩:=hr.lst hp hx
     split at o
     ·rename_i hc;exact ⟨p,vs,_,rfl,rfl,h3,by rw [h4.len,aos];exact hc,ap0 (h4.snoc r1) hr hp .non o⟩
     ·exact o.elim
    ·exact o.elim
 ·exact o.elim
def sMS(g:D->List D->Hd->R D)(f:SE)(k:SA):SE:=λτ h=>(f τ h).bind λd h1=>match d with | .str z=>(k τ h1).bind λds h2=>g (.str z) ds h2 | _=>.no
theorem ak3{r:V->List V->Hp->VK->Prop}{g:D->List D->Hd->R D}(slot:Slot "str" name idn)(hty:typeOf (.builtin idn)=pure (.type "method_descriptor"))(hm:MtR X idn r)(hs:apc X.K g r)(ho:ME X E o fo)(ha:MA X E (e::es) ka)
  (hbase:attributeBase o name X.env (eval o X.env)=eval o X.env:=by rfl)
  (hfew:((backTo cpos (starEach (e::es) X.env)).all (λx => !x.1) && (backToKw cpos (keywordEach [] X.env)).all (λx=>x.1.isSome)
   && decide ((e::es).length+([]:List Keyword).length+(if ([]:List Keyword).isEmpty then 0 else 1)<30))=true:=by rfl)
  (hline:(apos.endLine == cpos.line)=true:=by rfl) (hst:starEach (e::es) X.env=(false,eval e X.env)::starEach es X.env:=by rfl) (hplain:(backTo cpos (starEach es X.env)).any (·.1)=false:=by rfl) :
  ME X E (.Call (.Attribute o name apos) (e::es) [] cpos) (sMS g fo ka):=by
 refine PE.weak (ax9 slot hty hm ho ha hbase hfew hline hst hplain) λσ H Q ⟨ι,τ,h,S,Rh,o⟩=>?_;refine ⟨ι,τ,h,S,Rh,g8 o λd h1 ι1 H1 v g1 r1 hr1 o1=>?_⟩
 cases r1 with
 | str z=>exact ⟨⟨z,rfl⟩,ι1,τ,h1,S.mono g1,hr1,g8 o1 λds h2 ι2 H2 vs g2 r2 hr2 o2=>hs E ι2 H2 h2 _ _ vs ds Q (.str z) r2 hr2 o2⟩
 | _=>exact o1.elim
def aei:D->List D->Hd->R D
 | .str T,[.str z],h=>(match z.cps.toList with | [c]=>.ok (.int (a3s T c)) h | _=>.no)
 | _,_,_=>.no
theorem acy:apc K aei (λx xs H Q=>∃ T c,x = .str T/\xs=[.str ⟨#[c]⟩]/\Q (.int (a3s T c)) H):=by
 intro E ι H h x dx xs ds Q rx r hr o
 unfold aei at o
 split at o
 ·cases rx
  cases r with
  | cons r1 rs =>
   cases r1;cases rs
   split at o
   ·rename_i c hz;exact ⟨_,c,rfl,by rw [one_sign hz],ans o (.int _) hr⟩
   ·exact o.elim
 ·exact o.elim
def aa4:D->List D->Hd->R D
 | .str T,[.str z],h=>(match z.cps.toList with | [c]=>if c∈T.cps.toList then .ok (.int (a3s T c)) h else .no | _=>.no)
 | _,_,_=>.no
theorem agu:apc K aa4 (λx xs H Q=>∃ T c,x = .str T/\xs=[.str ⟨#[c]⟩]/\c∈T.cps.toList/\Q (.int (a3s T c)) H):=by
 intro E ι H h x dx xs ds Q rx r hr o
 unfold aa4 at o
 split at o
 ·cases rx
  cases r with
  | cons r1 rs =>
   cases r1;cases rs
   split at o
   ·rename_i c hz
    split at o
    ·rename_i hc;exact ⟨_,c,rfl,by rw [one_sign hz],hc,ans o (.int _) hr⟩
    ·exact o.elim
   ·exact o.elim
 ·exact o.elim
def abk:List D->Option (List Str)
 | []=>some []
 | .str z::r=>(abk r).map (z::·)
 | _::_=>none
theorem a84{ι:List Addr}{H:Hp}:∀ {vs:List V} {xs:List D} {zs:List Str},Reps K ι H vs xs->abk xs=some zs->vs=zs.map V.str
 | _,_,_, .nil,e=>by cases e;rfl
 | _,_,zs, .cons (d:=d) r rs,e=>by
  cases r with
  | str z =>
   simp only [abk,Option.map_eq_some_iff] at e;obtain ⟨ws,h1,rfl⟩:=e;rw [a84 rs h1];rfl
  | _=>cases e
def aej:D->List D->Hd->R D
 | .str sep,[.ref i],h=>(match h[i]? with | some (.lst xs)=>(match abk xs with | some zs=>if (zs.map (·.length)).sum+zs.length*sep.length<=16777216 then .ok (.str (Txt.join sep zs)) h else .no | none=>.no) | _=>.no)
 | .str sep,[.rol xs],h=>(match abk xs with | some zs=>if (zs.map (·.length)).sum+zs.length*sep.length<=16777216 then .ok (.str (Txt.join sep zs)) h else .no | none=>.no)
 | _,_,_=>.no
theorem ak4:apc K aej (λx xs H Q=>∃ sep p zs,x = .str sep/\xs=[.ref p]/\SqL K H p (zs.map V.str)/\(zs.map (·.length)).sum+zs.length*sep.length<=16777216/\Q (.str (Txt.join sep zs)) H):=by
 intro E ι H h x dx xs ds Q rx r hr o
 unfold aej at o
 split at o
 ·rename_i sep i;cases rx
  cases r with
  | cons r1 rs =>
   cases rs
   cases r1 with
   | @ref p _ hp =>
    split at o
    ·rename_i xs hx;obtain ⟨vs,h3,h4⟩:=hr.lst hp hx
     split at o
     ·rename_i zs hz
      split at o
      ·rename_i hc;exact ⟨sep,p,zs,rfl,rfl,SqL.of (by rw [h3,a84 h4 hz]),hc,ans o (.str _) hr⟩
      ·exact o.elim
     ·exact o.elim
    ·exact o.elim
 ·rename_i sep xs;cases rx
  cases r with
  | cons r1 rs =>
   cases rs
   cases r1 with
   | @rol p vs xs hp r =>
    split at o
    ·rename_i zs hz
     split at o
     ·rename_i hc;exact ⟨sep,p,zs,rfl,rfl,by rw [<-a84 r hz];exact hp.l,hc,ans o (.str _) hr⟩
     ·exact o.elim
    ·exact o.elim
 ·exact o.elim
def a3j:List D->Hd->R D
 | [.str z],h=>if z.length<=LINE then .ok (.ref h.length) (h++[.lst (yo z)]) else .no
 | [x],h=>(match a0b x h with | some xs=>.ok (.ref h.length) (h++[.lst xs]) | none=>.no)
 | _,_=>.no
theorem a4q{ι:List Addr}{H:Hp}(z:Str):Reps K ι H (xm z) (yo z):=by
 unfold xm yo
 induction z.cps.toList with
 | nil=>exact .nil
 | cons c cs ih=>exact .cons (.str _) ih
theorem a85:aef K a3j (λxs H Q=>(∃ p ys,xs=[.ref p]/\(SqL K H p ys\/SqT K H p ys)/\∀ l,H l=none->Q (.ref l) (upd H l (.lst ys)))\/∃ z,xs=[.str z]/\z.length<=sizeLine/\∀ l,H l=none->Q (.ref l) (upd H l (.lst (xm z)))):=by
 intro E ι H h xs ds Q r hr o
 cases r with
 | nil=>exact o.elim
 | cons r rs =>
  cases rs with
  | cons _ _=>exact (show False by cases r<;>exact o).elim
  | nil =>
   cases r with
   | str z =>
    by_cases hc:z.length<=LINE
    ·simp only [a3j,if_pos hc] at o;exact .inr ⟨z,rfl,ll hc,um (a4q z) hr o⟩
    ·simp only [a3j,if_neg hc] at o;exact o.elim
   | @tup p vs xs hp r=>simp only [a3j,a0b] at o;exact .inl ⟨p,vs,rfl, .inr (SqT.of hp),um r hr o⟩
   | @rol p vs xs hp r=>simp only [a3j,a0b] at o;exact .inl ⟨p,vs,rfl, .inl hp.l,um r hr o⟩
   | @ref p j hp =>
    obtain ⟨ob,e1,e2⟩:=hr.at hp
    cases ob with
    | lst xs =>
     simp only [a3j,a0b,e1] at o;obtain ⟨vs,h3,h4⟩:=e2;exact .inl ⟨p,vs,rfl, .inl (SqL.of h3),um h4 hr o⟩
    | dK _=>simp only [a3j,a0b,e1] at o;exact o.elim
    | dT _=>simp only [a3j,a0b,e1] at o;exact o.elim
   | _=>exact o.elim
def v4:List D->Hd->R D
 | [.str z],h=>if z.length<=LINE then .ok (.tup (yo z)) h else .no
 | [x],h=>(match a0b x h with | some xs=>.ok (.tup xs) h | none=>.no)
 | _,_=>.no
theorem a1v:aef K v4 (λxs H Q=>(∃ p ys,xs=[.ref p]/\((SqL K H p ys/\∀ l,H l=none->Q (.ref l) (upd H l (.tup ys)))\/(SqT K H p ys/\Q (.ref p) H)))\/∃ z,xs=[.str z]/\z.length<=sizeLine/\∀ l,H l=none->Q (.ref l) (upd H l (.tup (xm z)))):=by
 intro E ι H h xs ds Q r hr o
 cases r with
 | nil=>exact o.elim
 | cons r rs =>
  cases rs with
  | cons _ _=>exact (show False by cases r<;>exact o).elim
  | nil =>
   cases r with
   | str z =>
    by_cases hc:z.length<=LINE
    ·simp only [v4,if_pos hc] at o;exact .inr ⟨z,rfl,ll hc,a1r (a4q z) hr o⟩
    ·simp only [v4,if_neg hc] at o;exact o.elim
   | @tup p vs xs hp r=>simp only [v4,a0b] at o;exact .inl ⟨p,vs,rfl, .inr ⟨SqT.of hp,ans o (.tup hp r) hr⟩⟩
   | @rol p vs xs hp r=>simp only [v4,a0b] at o;exact .inl ⟨p,vs,rfl, .inl ⟨hp.l,a1r r hr o⟩⟩
   | @ref p j hp =>
    obtain ⟨ob,e1,e2⟩:=hr.at hp
    cases ob with
    | lst xs =>
     simp only [v4,a0b,e1] at o;obtain ⟨vs,h3,h4⟩:=e2;exact .inl ⟨p,vs,rfl, .inl ⟨SqL.of h3,a1r h4 hr o⟩⟩
    | dK _=>simp only [v4,a0b,e1] at o;exact o.elim
    | dT _=>simp only [v4,a0b,e1] at o;exact o.elim
   | _=>exact o.elim
def apd:List D->Option (List Bool)
 | []=>some []
 | .bl z::r=>(apd r).map (z::·)
 | _::_=>none
def a86:List D->Option (List Int)
 | []=>some []
 | .int z::r=>(a86 r).map (z::·)
 | _::_=>none
theorem abl{ι:List Addr}{H:Hp}:∀ {vs:List V} {xs:List D} {zs:List Bool},Reps K ι H vs xs->apd xs=some zs->vs=zs.map V.bl
 | _,_,_, .nil,e=>by cases e;rfl
 | _,_,zs, .cons (d:=d) r rs,e=>by
  cases r with
  | bl z =>
   simp only [apd,Option.map_eq_some_iff] at e;obtain ⟨ws,h1,rfl⟩:=e;rw [abl rs h1];rfl
  | _=>cases e
theorem a3x{ι:List Addr}{H:Hp}:∀ {vs:List V} {xs:List D} {zs:List Int},Reps K ι H vs xs->a86 xs=some zs->vs=zs.map V.int
 | _,_,_, .nil,e=>by cases e;rfl
 | _,_,zs, .cons (d:=d) r rs,e=>by
  cases r with
  | int z =>
   simp only [a86,Option.map_eq_some_iff] at e;obtain ⟨ws,h1,rfl⟩:=e;rw [a3x rs h1];rfl
  | _=>cases e
theorem ak5(bs:List Bool):apd (bs.map D.bl)=some bs:=by
 induction bs with
 | nil=>rfl
 | cons b bs ih=>simp [apd,ih]
def aj8:List D->Hd->R D
 | [.ref i],h=>(match h[i]? with | some (.lst xs)=>(match apd xs with | some bs=>.ok (.bl (bs.all id)) h | none=>.no) | _=>.no)
 | [.rol xs],h=>(match apd xs with | some bs=>.ok (.bl (bs.all id)) h | none=>.no)
 | _,_=>.no
theorem agv:aef K aj8 (λxs H Q=>∃ (p:Addr) (bs:List Bool),xs=[.ref p]/\SqL K H p (bs.map V.bl)/\Q (.bl (bs.all id)) H):=by
 intro E ι H h xs ds Q r hr o
 unfold aj8 at o
 split at o
 ·cases r with
  | cons r rs =>
   cases rs
   cases r with
   | @ref p _ hp =>
    split at o
    ·rename_i xs hx;obtain ⟨vs,h3,h4⟩:=hr.lst hp hx
     split at o
     ·rename_i bs hb;exact ⟨p,bs,rfl,SqL.of (by rw [h3,abl h4 hb]),ans o (.bl _) hr⟩
     ·exact o.elim
    ·exact o.elim
 ·cases r with
  | cons r rs =>
   cases rs
   cases r with
   | @rol p vs xs hp r =>
    split at o
    ·rename_i bs hb;exact ⟨p,bs,rfl,by rw [<-abl r hb];exact hp.l,ans o (.bl _) hr⟩
    ·exact o.elim
 ·exact o.elim
def atr:List D->Hd->R D
 | [.ref i],h=>(match h[i]? with | some (.lst xs)=>(match a86 xs with | some bs=>.ok (.int bs.sum) h | none=>.no) | _=>.no)
 | [.rol xs],h=>(match a86 xs with | some bs=>.ok (.int bs.sum) h | none=>.no)
 | _,_=>.no
theorem ape:aef K atr (λxs H Q=>∃ (p:Addr) (ns:List Int),xs=[.ref p]/\SqL K H p (ns.map V.int)/\Q (.int ns.sum) H):=by
 intro E ι H h xs ds Q r hr o
 unfold atr at o
 split at o
 ·cases r with
  | cons r rs =>
   cases rs
   cases r with
   | @ref p _ hp =>
    split at o
    ·rename_i xs hx;obtain ⟨vs,h3,h4⟩:=hr.lst hp hx
     split at o
     ·rename_i bs hb;exact ⟨p,bs,rfl,SqL.of (by rw [h3,a3x h4 hb]),ans o (.int _) hr⟩
     ·exact o.elim
    ·exact o.elim
 ·cases r with
  | cons r rs =>
   cases rs
   cases r with
   | @rol p vs xs hp r =>
    split at o
    ·rename_i bs hb;exact ⟨p,bs,rfl,by rw [<-a3x r hb];exact hp.l,ans o (.int _) hr⟩
    ·exact o.elim
 ·exact o.elim
end
end MI
theorem L2.Room.u{k:Nat}{A:PySem.Around}(r:L2.Room k A):A.units+64<PySem.cLine:=r.units
namespace MI
open PySem PySem.Spec L2
mutual
def eqD:D->D->Bool
 | .non, .non=>true
 | .bl a, .bl b=>a == b
 | .bl a, .int b=>(if a then 1 else 0) == b
 | .int a, .bl b=>a == (if b then 1 else 0)
 | .int a, .int b=>a == b
 | .str a, .str b=>a == b
 | .tup xs, .tup ys=>acz xs ys
 | _,_=>false
def acz:List D->List D->Bool
 | [],[]=>true
 | x::xs,y::ys=>eqD x y && acz xs ys
 | _,_=>false
end
def pur:Nat->D->Bool
 | _, .non=>true
 | _, .bl _=>true
 | _, .int _=>true
 | _, .str _=>true
 | n+1, .tup xs=>xs.all (pur n)
 | _,_=>false
def pairE(xs ys:List D)(j:Nat):Bool:=match xs[j]?,ys[j]? with | some x,some y=>eqD x y | _,_=>false
theorem a3y:∀ xs ys:List D,((List.range (min xs.length ys.length)).all (pairE xs ys) && xs.length == ys.length)=acz xs ys
 | [],[]=>by simp [acz]
 | [],_::_=>by simp [acz]
 | _::_,[]=>by simp [acz]
 | x::xs,y::ys=>by
  have ih:=a3y xs ys;rw [show min (x::xs).length (y::ys).length=min xs.length ys.length+1 by simp only [List.length_cons];omega,List.range_succ_eq_map]
  rw [List.all_cons,List.all_map];have e:(pairE (x::xs) (y::ys) ∘ Nat.succ)=pairE xs ys:=by funext j;simp [pairE]
  rw [e];simp only [acz];rw [<-ih];have e2:((x::xs).length == (y::ys).length)=(xs.length == ys.length):=by simp
  rw [e2,Bool.and_assoc];rfl
section
variable{K:PySem.W.Frag}{ι:List Addr}{H:Hp}
theorem ak6:∀ (n:Nat) {v:V} {d e:D},Rep K ι H v d->Rep K ι H v e->pur n d=true->pur n e=true->eqD d e=true:=by
 intro n
 induction n with
 | zero=>intro v d e r q p1 p2;cases r<;>cases q<;>first | (simp [eqD];done) | (cases p1;done) | (cases p2;done)
 | succ n ih =>
  intro v d e r q p1 p2
  cases r with
  | @tup a vs xs h rs =>
   cases q with
   | @tup _ us ys h' qs =>
    rw [h] at h';cases h'
    simp only [eqD];simp only [pur,List.all_eq_true] at p1 p2
    clear h
    induction rs using Reps.rec (motive_1:=λ_ _ _=>True) generalizing ys with
    | nil=>cases qs;rfl
    | cons r rs _ ih2 =>
     cases qs with
     | cons q qs =>
      simp only [acz,Bool.and_eq_true];exact ⟨ih r q (p1 _ (List.mem_cons_self ..)) (p2 _ (List.mem_cons_self ..)),ih2 qs (λx hx=>p1 x (List.mem_cons_of_mem _ hx)) (λx hx=>p2 x (List.mem_cons_of_mem _ hx))⟩
    | _=>trivial
   | _=>cases p2
  | _=>cases q<;>first | (simp [eqD];done) | (cases p1;done) | (cases p2;done)
theorem a5e{n:Nat}{v:V}{d:D}(r:Rep K ι H v d)(p:pur n d=true):(∃ xs,d = .tup xs)\/(a3c v=true/\a3i d=true):=by
 cases r<;>first | exact .inr ⟨rfl,rfl⟩ | exact .inl ⟨_,rfl⟩ | (cases n<;>cases p)
theorem a87{x y:V}{d e:D}(r:Rep K ι H x d)(q:Rep K ι H y e)(f:a3i d=true)(g:a3i e=true):eqV x y=eqD d e:=by
 cases r<;>cases q<;>first | rfl | (simp [eqV,eqD];done) | (cases f;done) | (cases g;done)
open SeqAt in
theorem amn{P:Program}{w:World}{s:Shared}(hok:HOk P w H s.heap):∀ (n:Nat) (A:Around) {x y:V} {u v:Value} {d e:D},Rep K ι H x d->Rep K ι H y e->RelV x u->RelV y v->pur n d=true->pur n e=true->A.units+n<cLine->EqAt A s u v (eqD d e):=by
 intro n
 induction n with
 | zero =>
  intro A x y u v d e r q rx ry p1 p2 hu
  rcases a5e r p1 with ⟨xs,rfl⟩ | ⟨f1,f2⟩
  ·cases p1
  ·rcases a5e q p2 with ⟨xs,rfl⟩ | ⟨g1,g2⟩
   ·cases p2
   ·rw [<-a87 r q f2 g2];exact ag3 rx ry f1 g1
 | succ n ih =>
  intro A x y u v d e r q rx ry p1 p2 hu
  rcases a5e r p1 with ⟨xs,rfl⟩ | ⟨f1,f2⟩
  ·cases r with
   | @tup a vs _ ha rs =>
    cases rx
    obtain ⟨_,its,r1,t1⟩:=(Rd.of ha).ok hok
    rcases a5e q p2 with ⟨ys,rfl⟩ | ⟨g1,g2⟩
    ·cases q with
     | @tup b us _ hb qs =>
      cases ry
      obtain ⟨_,its2,r2,t2⟩:=(Rd.of hb).ok hok
      by_cases hab:a=b
      ·subst hab;rw [ak6 (n+1) (.tup ha rs) (.tup hb qs) p1 p2];exact EqAt.same _
      ·have l1:its.toArray.size=xs.length:=by rw [List.size_toArray,<-r1.length,rs.len]
       have l2:its2.toArray.size=ys.length:=by rw [List.size_toArray,<-r2.length,qs.len]
       have:=RcAt.tuples (A:=A) (s:=s) (e:=pairE xs ys) t1 t2 (by omega) (λj h1 h2=>by
        have j1:j<xs.length:=by omega
        have j2:j<ys.length:=by omega
        obtain ⟨v1,e1,q1⟩:=rs.get (List.getElem?_eq_getElem j1);obtain ⟨v2,e2,q2⟩:=qs.get (List.getElem?_eq_getElem j2);obtain ⟨u1,e3,q3⟩:=r1.get e1;obtain ⟨u2,e4,q4⟩:=r2.get e2;have f1:its.toArray[j]=u1:=by simpa using (List.getElem?_eq_some_iff.mp e3).2
        have f2:its2.toArray[j]=u2:=by simpa using (List.getElem?_eq_some_iff.mp e4).2
        have pe:pairE xs ys j=eqD xs[j] ys[j]:=by simp [pairE,List.getElem?_eq_getElem j1,List.getElem?_eq_getElem j2]
        rw [f1,f2,pe];simp only [pur,List.all_eq_true] at p1 p2;exact ih A.in1 q1 q2 q3 q4 (p1 _ (List.getElem_mem j1)) (p2 _ (List.getElem_mem j2)) (by rw [Around.in1_units];omega))
       rw [l1,l2,a3y] at this;exact EqAt.of_refs hab this
    ·have e0:eqD (.tup xs) e=false:=by cases e<;>first | rfl | (cases g2;done)
     rw [e0]
     cases y with
     | non=>cases ry;exact EqAt.tuple_none t1 (by omega)
     | bl b=>cases ry;exact EqAt.tuple_bool b t1 (by omega)
     | int b=>obtain ⟨t,rfl⟩:=ry;exact EqAt.tuple_int b t t1 (by omega)
     | str b=>obtain ⟨t,rfl⟩:=ry;exact EqAt.tuple_str b t t1 (by omega)
     | _=>cases g1
  ·rcases a5e q p2 with ⟨ys,rfl⟩ | ⟨g1,g2⟩
   ·cases q with
    | @tup b us _ hb qs =>
     cases ry
     obtain ⟨_,its2,r2,t2⟩:=(Rd.of hb).ok hok;have e0:eqD d (.tup ys)=false:=by cases d<;>first | rfl | (cases f2;done)
     rw [e0]
     cases x with
     | non=>cases rx;exact EqAt.none_tuple t2 (by omega)
     | bl b=>cases rx;exact EqAt.bool_tuple b t2 (by omega)
     | int b=>obtain ⟨t,rfl⟩:=rx;exact EqAt.int_tuple b t t2 (by omega)
     | str b=>obtain ⟨t,rfl⟩:=rx;exact EqAt.str_tuple b t t2 (by omega)
     | _=>cases f1
   ·rw [<-a87 r q f2 g2];exact ag3 rx ry f1 g1
open SeqAt in
theorem atu{A:Around}{s:Shared}{y x:V}{u v:Value}(ry:RelV y u)(rx:RelV x v)(fy:a3c y=true)(fx:a3c x=true):RcAt A s u v (eqV y x):=by
 cases y with
 | non =>
  cases ry
  cases x with
  | non=>cases rx;exact RcAt.none_none
  | bl b=>cases rx;exact RcAt.none_bool b
  | int b=>obtain ⟨t,rfl⟩:=rx;exact RcAt.none_int b t
  | str b=>obtain ⟨t,rfl⟩:=rx;exact RcAt.none_str b t
  | _=>cases fx
 | bl a =>
  cases ry
  cases x with
  | non=>cases rx;exact RcAt.bool_none a
  | bl b=>cases rx;exact RcAt.bool_bool a b
  | int b=>obtain ⟨t,rfl⟩:=rx;exact RcAt.bool_int a b t
  | str b=>obtain ⟨t,rfl⟩:=rx;exact RcAt.bool_str a b t
  | _=>cases fx
 | int a =>
  obtain ⟨t',rfl⟩:=ry
  cases x with
  | non=>cases rx;exact RcAt.int_none a t'
  | bl b=>cases rx;exact RcAt.int_bool a t' b
  | int b=>obtain ⟨t,rfl⟩:=rx;exact RcAt.int_int a t' b t
  | str b=>obtain ⟨t,rfl⟩:=rx;exact RcAt.int_str a t' b t
  | _=>cases fx
 | str a =>
  obtain ⟨t',rfl⟩:=ry
  cases x with
  | non=>cases rx;exact RcAt.str_none a t'
  | bl b=>cases rx;exact RcAt.str_bool a t' b
  | int b=>obtain ⟨t,rfl⟩:=rx;exact RcAt.str_int a t' b t
  | str b=>obtain ⟨t,rfl⟩:=rx;exact RcAt.str_str a t' b t
  | _=>cases fx
 | _=>cases fy
open SeqAt in
theorem ak7{A:Around}{s:Shared}{y x:V}{u v:Value}(ry:RelV y u)(rx:RelV x v)(fy:a3c y=true)(fx:a3c x=true):RcNeAt A s u v (!eqV y x):=by
 cases y with
 | non =>
  cases ry
  cases x with
  | non=>cases rx;exact RcNeAt.none_none
  | bl b=>cases rx;exact RcNeAt.none_bool b
  | int b=>obtain ⟨t,rfl⟩:=rx;exact RcNeAt.none_int b t
  | str b=>obtain ⟨t,rfl⟩:=rx;exact RcNeAt.none_str b t
  | _=>cases fx
 | bl a =>
  cases ry
  cases x with
  | non=>cases rx;exact RcNeAt.bool_none a
  | bl b=>cases rx;exact RcNeAt.bool_bool a b
  | int b=>obtain ⟨t,rfl⟩:=rx;exact RcNeAt.bool_int a b t
  | str b=>obtain ⟨t,rfl⟩:=rx;exact RcNeAt.bool_str a b t
  | _=>cases fx
 | int a =>
  obtain ⟨t',rfl⟩:=ry
  cases x with
  | non=>cases rx;exact RcNeAt.int_none a t'
  | bl b=>cases rx;exact RcNeAt.int_bool a t' b
  | int b=>obtain ⟨t,rfl⟩:=rx;exact RcNeAt.int_int a t' b t
  | str b=>obtain ⟨t,rfl⟩:=rx;exact RcNeAt.int_str a t' b t
  | _=>cases fx
 | str a =>
  obtain ⟨t',rfl⟩:=ry
  cases x with
  | non=>cases rx;exact RcNeAt.str_none a t'
  | bl b=>cases rx;exact RcNeAt.str_bool a t' b
  | int b=>obtain ⟨t,rfl⟩:=rx;exact RcNeAt.str_int a t' b t
  | str b=>obtain ⟨t,rfl⟩:=rx;exact RcNeAt.str_str a t' b t
  | _=>cases fx
 | _=>cases fy
open SeqAt in
theorem tops{P:Program}{w:World}{s:Shared}{A:Around}(hok:HOk P w H s.heap){x y:V}{u v:Value}{d e:D}(r:Rep K ι H x d)(q:Rep K ι H y e)(rx:RelV x u)(ry:RelV y v)(p1:pur 60 d=true)(p2:pur 60 e=true)(hu:A.units+64<cLine) :
  RcAt A s u v (eqD d e)/\RcNeAt A s u v (!eqD d e):=by
 rcases a5e r p1 with ⟨xs,rfl⟩ | ⟨f1,f2⟩
 ·cases r with
  | @tup a vs _ ha rs =>
   cases rx
   obtain ⟨_,its,r1,t1⟩:=(Rd.of ha).ok hok
   rcases a5e q p2 with ⟨ys,rfl⟩ | ⟨g1,g2⟩
   ·cases q with
    | @tup b us _ hb qs =>
     cases ry
     obtain ⟨_,its2,r2,t2⟩:=(Rd.of hb).ok hok;have l1:its.toArray.size=xs.length:=by rw [List.size_toArray,<-r1.length,rs.len]
     have l2:its2.toArray.size=ys.length:=by rw [List.size_toArray,<-r2.length,qs.len]
     have step:∀ j (h1:j<its.toArray.size) (h2:j<its2.toArray.size),EqAt A.in1 s its.toArray[j] its2.toArray[j] (pairE xs ys j):=λj h1 h2=>by
      have j1:j<xs.length:=by omega
      have j2:j<ys.length:=by omega
      obtain ⟨v1,e1,q1⟩:=rs.get (List.getElem?_eq_getElem j1);obtain ⟨v2,e2,q2⟩:=qs.get (List.getElem?_eq_getElem j2);obtain ⟨u1,e3,q3⟩:=r1.get e1;obtain ⟨u2,e4,q4⟩:=r2.get e2;have f1:its.toArray[j]=u1:=by simpa using (List.getElem?_eq_some_iff.mp e3).2
      have f2:its2.toArray[j]=u2:=by simpa using (List.getElem?_eq_some_iff.mp e4).2
      have pe:pairE xs ys j=eqD xs[j] ys[j]:=by simp [pairE,List.getElem?_eq_getElem j1,List.getElem?_eq_getElem j2]
      rw [f1,f2,pe];simp only [pur,List.all_eq_true] at p1 p2;exact amn hok 59 A.in1 q1 q2 q3 q4 (p1 _ (List.getElem_mem j1)) (p2 _ (List.getElem_mem j2)) (by rw [Around.in1_units];omega)
     have c1:=RcAt.tuples (A:=A) (s:=s) (e:=pairE xs ys) t1 t2 (by omega) step
     have c2:=RcNeAt.tuples (A:=A) (s:=s) (e:=pairE xs ys) t1 t2 (by omega) step
     rw [l1,l2,a3y] at c1 c2;exact ⟨c1,c2⟩
   ·have e0:eqD (.tup xs) e=false:=by cases e<;>first | rfl | (cases g2;done)
    rw [e0]
    cases y with
    | non=>cases ry;exact ⟨RcAt.tuple_none t1 (by omega),RcNeAt.tuple_none t1 (by omega)⟩
    | bl b=>cases ry;exact ⟨RcAt.tuple_bool b t1 (by omega),RcNeAt.tuple_bool b t1 (by omega)⟩
    | int b=>obtain ⟨t,rfl⟩:=ry;exact ⟨RcAt.tuple_int b t t1 (by omega),RcNeAt.tuple_int b t t1 (by omega)⟩
    | str b=>obtain ⟨t,rfl⟩:=ry;exact ⟨RcAt.tuple_str b t t1 (by omega),RcNeAt.tuple_str b t t1 (by omega)⟩
    | _=>cases g1
 ·rcases a5e q p2 with ⟨ys,rfl⟩ | ⟨g1,g2⟩
  ·cases q with
   | @tup b us _ hb qs =>
    cases ry
    obtain ⟨_,its2,r2,t2⟩:=(Rd.of hb).ok hok;have e0:eqD d (.tup ys)=false:=by cases d<;>first | rfl | (cases f2;done)
    rw [e0]
    cases x with
    | non=>cases rx;exact ⟨RcAt.none_tuple t2 (by omega),RcNeAt.none_tuple t2 (by omega)⟩
    | bl b=>cases rx;exact ⟨RcAt.bool_tuple b t2 (by omega),RcNeAt.bool_tuple b t2 (by omega)⟩
    | int b=>obtain ⟨t,rfl⟩:=rx;exact ⟨RcAt.int_tuple b t t2 (by omega),RcNeAt.int_tuple b t t2 (by omega)⟩
    | str b=>obtain ⟨t,rfl⟩:=rx;exact ⟨RcAt.str_tuple b t t2 (by omega),RcNeAt.str_tuple b t t2 (by omega)⟩
    | _=>cases f1
  ·rw [<-a87 r q f2 g2];exact ⟨atu rx ry f1 g1,ak7 rx ry f1 g1⟩
def ayb(K:PySem.W.Frag):R2:=λx y H Q=>∃ ι d e,Rep K ι H x d/\Rep K ι H y e/\pur 60 d=true/\pur 60 e=true/\Q (.bl (eqD d e)) H
def ayc(K:PySem.W.Frag):R2:=λx y H Q=>∃ ι d e,Rep K ι H x d/\Rep K ι H y e/\pur 60 d=true/\pur 60 e=true/\Q (.bl (!eqD d e)) H
theorem uc{X:Cx}(hu:X.A.units+64<cLine):OpR X (compareOp .Eq) (ayb X.K):=by
 intro pins s σ H x y v u Q I rx ry h
 obtain ⟨ι,d,e,r,q,p1,p2,hq⟩:=h;exact (tops (A:=X.A) I.hok r q rx ry p1 p2 hu).1 X.prog X.w X.xe _ ⟨.bl _,H,I,rfl,hq⟩
theorem aa5{X:Cx}(hu:X.A.units+64<cLine):OpR X (compareOp .NotEq) (ayc X.K):=by
 intro pins s σ H x y v u Q I rx ry h
 obtain ⟨ι,d,e,r,q,p1,p2,hq⟩:=h;exact (tops (A:=X.A) I.hok r q rx ry p1 p2 hu).2 X.prog X.w X.xe _ ⟨.bl _,H,I,rfl,hq⟩
def hEq(x y:D)(h:Hd):R D:=if pur 60 x=true/\pur 60 y=true then .ok (.bl (eqD x y)) h else .no
def hNe(x y:D)(h:Hd):R D:=if pur 60 x=true/\pur 60 y=true then .ok (.bl (!eqD x y)) h else .no
theorem o9:a2f K hEq (ayb K):=by
 intro E ι H h x y dx dy Q rx ry hr o
 unfold hEq at o
 split at o
 ·rename_i hc;exact ⟨ι,dx,dy,rx,ry,hc.1,hc.2,ans o (.bl _) hr⟩
 ·exact o.elim
theorem a6e:a2f K hNe (ayc K):=by
 intro E ι H h x y dx dy Q rx ry hr o
 unfold hNe at o
 split at o
 ·rename_i hc;exact ⟨ι,dx,dy,rx,ry,hc.1,hc.2,ans o (.bl _) hr⟩
 ·exact o.elim
end
section
variable{X:Cx}{E:XD}{K:PySem.W.Frag}
def apf:SE:=λ_ h=>.ok (.ref h.length) (h++[.dK []])
theorem agw{pos:Pos}:ME X E (.Dict [] [] pos) apf:=by
 refine PE.weak ajs λσ H Q ⟨ι,τ,h,S,Rh,o⟩=>λp hp=>?_;exact o (ι++[p]) _ _ (a9x hp _) (.ref (by rw [List.getElem?_append_right (by rw [Rh.len];exact Nat.le_refl _),Rh.len];simp)) (Rh.add hp ⟨[],mq,rfl, .nil⟩)
def a1m:D->D->Hd->R D
 | .int i, .int j,h=>.ok (.int (i+j)) h
 | .str x, .str y,h=>if x.length+y.length<=LINE then .ok (.str (x++y)) h else .no
 | _,_,_=>.no
theorem a2h:a2f K a1m (λx y H Q=>rI0 (λi j=>.int (i+j)) x y H Q\/∃ i j,x = .str i/\y = .str j/\i.length+j.length<=sizeLine/\Q (.str (i++j)) H):=by
 intro E ι H h x y dx dy Q rx ry hr o
 cases rx with
 | int i =>
  cases ry with
  | int j=>exact .inl ⟨i,j,rfl,rfl,ans o (.int _) hr⟩
  | _=>exact o.elim
 | str i =>
  cases ry with
  | str j =>
   by_cases hc:i.length+j.length<=LINE
   ·simp only [a1m,if_pos hc] at o;exact .inr ⟨i,j,rfl,rfl,ll hc,ans o (.str _) hr⟩
   ·simp only [a1m,if_neg hc] at o;exact o.elim
  | _=>exact o.elim
 | _=>exact o.elim
theorem atv:bootBuiltins "min" = some (.builtin "min"):=by first | exact PySem.boot_min | exact PyProof.Rows.boot_min
theorem atw:bootBuiltins "sum" = some (.builtin "sum"):=by first | exact PySem.boot_sum | exact PyProof.Rows.boot_sum
theorem j5{e:Expr}{es:List Expr}{g:SG}{ks:SGs}(h1:MG X E e g)(h2:MGs X E es ks)(hs:(assignEach (e::es) X.env).map (·.2)=assign e X.env::(assignEach es X.env).map (·.2):=by rfl):MGs X E (e::es) (jn g ks) :=
 PGs.weak (ajh h1 h2 hs) λvs σ H Q q=>ajz q
end
end MI
namespace ZP
open PySem PySem.Spec PySem.Builtin PySem.Builtin.SmallTypes
section
variable{prog:Program}{w:World}{A:Around}{E:Value->Shared->Prop}{s:Shared}
theorem apg{α:Type}{Q:α->Shared->Prop}(hh:A.handled=none)(q:∀ h' e,(∀ b o,s.heap.get? b=some o->h'.get? b=some o)->(∃ o,h'.get? e=some o/\o.cls = .type "StopIteration")->E (.ref e) { s with heap:=h' }) :
  wpAny (model prog w) A (stopIteration:Sem α) Q E s:=by
 have none_first:firstArgMember (.type "StopIteration") []=pure Value.none:=by first | rfl | (simp only [firstArgMember];rfl)
 rw [stopIteration]
 apply wpAny_bind
 rw [newExc,newTuple]
 apply wpAny_bind
 apply wpAny_newObj_type _ (by size_fits)
 rw [none_first,pure_bind]
 apply wpAny_newObj_type _ (by size_fits)
 apply wpAny_raiseNew_none hh
 exact q _ _ (λb o z=>Heap.get?_push_of_some _ (Heap.get?_push_of_some _ z)) ⟨_,Heap.get?_push_size _ rfl,rfl⟩
theorem ak8{it t:Addr}{i:Nat}{items:Array Value}{x:Value}{Q:Value->Shared->Prop}(hi:s.heap.IsTupleIter it t i)(ht:s.heap.IsTuple t items)(hx:items[i]? = some x)
  (q:∀ h',h'.IsTupleIter it t (i+1)->Heap.SameBut it s.heap h'->Q x { s with heap:=h' }):wpAny (model prog w) A (nextOf (.ref it)) Q E s:=by
 have ty:=hi.typeIs;obtain ⟨o,e1,e2,e3⟩:=id hi;obtain ⟨p,f1,f2,n,f3⟩:=ht;rw [nextOf]
 apply wpAny_bind
 apply wpAny_callSpecial?_slot (name:=Str.ofString "__next__") ty F.slot_tuple_iterator_next
 apply wpAny_call_entry F.slot_tuple_iterator_next ty F.entry_tuple_iterator_next _ (F.args_tuple_iterator_next_1 _)
 change wpAny (model prog w) A.in1 (field (.ref it) 0>>=_) _ _ _
 apply wpAny_bind;apply wpAny_field e1 e3 (x:=.ref t) rfl
 change wpAny (model prog w) A.in1 (field (.ref it) 1>>=_) _ _ _
 apply wpAny_bind;apply wpAny_field e1 e3 (x:=.int i 0) rfl
 change wpAny (model prog w) A.in1 (seqItems? (.ref t)>>=_) _ _ _
 apply wpAny_bind;apply wpAny_seqItems f1 f3
 dsimp only;rw [Int.toNat_natCast,hx]
 apply wpAny_bind
 obtain ⟨c,dd,dt,sl⟩:=o;simp only at e2 e3;subst e2 e3
 apply wpAny_setField e1 rfl (Nat.lt_succ_self 1)
 apply wpAny_pure
 exact ⟨x,rfl,wpAny_pure (q _ ⟨_,Heap.get?_update_self _ e1 rfl,rfl,rfl⟩ (Heap.SameBut.update ..))⟩
theorem aph{it t:Addr}{i:Nat}{items:Array Value}{Q:Value->Shared->Prop}(hh:A.handled=none)(hi:s.heap.IsTupleIter it t i)(ht:s.heap.IsTuple t items)(hx:items[i]? = none)
  (q:∀ h' e,Heap.ExtBut it s.heap h'->(∃ o,h'.get? e=some o/\o.cls = .type "StopIteration")->E (.ref e) { s with heap:=h' }):wpAny (model prog w) A (nextOf (.ref it)) Q E s:=by
 have ty:=hi.typeIs;obtain ⟨o,e1,e2,e3⟩:=id hi;obtain ⟨p,f1,f2,n,f3⟩:=ht;rw [nextOf]
 apply wpAny_bind
 apply wpAny_callSpecial?_slot (name:=Str.ofString "__next__") ty F.slot_tuple_iterator_next
 apply wpAny_call_entry F.slot_tuple_iterator_next ty F.entry_tuple_iterator_next _ (F.args_tuple_iterator_next_1 _)
 change wpAny (model prog w) A.in1 (field (.ref it) 0>>=_) _ _ _
 apply wpAny_bind;apply wpAny_field e1 e3 (x:=.ref t) rfl
 change wpAny (model prog w) A.in1 (field (.ref it) 1>>=_) _ _ _
 apply wpAny_bind;apply wpAny_field e1 e3 (x:=.int i 0) rfl
 change wpAny (model prog w) A.in1 (seqItems? (.ref t)>>=_) _ _ _
 apply wpAny_bind;apply wpAny_seqItems f1 f3
 dsimp only;rw [Int.toNat_natCast,hx];dsimp only;obtain ⟨c,dd,dt,sl⟩:=o;simp only at e2 e3;subst e2 e3
 apply wpAny_bind;apply wpAny_rule
 apply wpAny_bind;apply wpAny_setField e1 rfl (Nat.succ_pos 1)
 apply apg (show A.in1.handled=none from hh)
 exact λh' e k z=>q h' e (λb o nb eb=>k b o ((Heap.SameBut.update ..).extBut b o nb eb)) z
theorem agx{prog:Program}{w:World}{A:Around}(hh:A.handled=none)(it t:Addr)(ne:t≠it)(items:Array Value):Draws prog w A it [it,t] items.size (λi v=>items[i]? = some v) (λi h=>h.IsTupleIter it t i/\h.IsTuple t items) where
 live:=λ_ _ st=>let ⟨o,e,_⟩:=st.1; ⟨o,e⟩
 frame:=λ_ _ _ st k=>⟨let ⟨o,e,r⟩:=st.1; ⟨o,k it (by simp) o e,r⟩,let ⟨o,e,r⟩:=st.2; ⟨o,k t (by simp) o e,r⟩⟩
 item:=λi s Q E hi st q=>ak8 st.1 st.2 (Array.getElem?_eq_getElem hi) λh' a b=>q _ h' s.toks (Array.getElem?_eq_getElem hi) ⟨a,st.2.extBut b.extBut ne⟩ b
 done:=λs Q E st q=>aph hh st.1 st.2 (by simp) q
end
structure Ap (z TI TO i1 i2:Addr) (p q:List Addr):Prop where
 m1:i1∈p
 m2:i2∈q
 z1:z ∉ p
 z2:z ∉ q
 o1:TO ∉ p
 o2:TO ∉ q
 oz:TO≠z
 x1:i1 ∉ q
 x2:i2 ∉ p
section
variable{prog:Program}{w:World}{A:Around}{E:Value->Shared->Prop}{s:Shared}{z TI TO i1 i2:Addr}{p q:List Addr}{n1 n2 k:Nat}{P1 P2:Nat->Value->Prop}{S1 S2:Nat->Heap->Prop}{a b:Value}
theorem far{D:Draws prog w A i1 p n1 P1 S1}{h h':Heap}{c:Addr}(sb:Heap.SameBut c h h')(nc:c ∉ p)(st:S1 k h):S1 k h':=D.frame _ _ _ st λx hx o e=>sb.extBut x o (λy=>nc (y ▸ hx)) e
theorem agy{Q:Fin->Shared->Prop}(hz:IsZip s.heap z TI TO .none)(hi:IsPair s.heap TI (.ref i1) (.ref i2))(ho:IsPair s.heap TO a b)(oz:TO≠z)
  (go:∀ h1,IsZip h1 z TI TO .ellipsis->Heap.SameBut z s.heap h1->wpAny (model prog w) A (nextOf (.ref i1))
   (λx s2=>IsPair s2.heap TO a b/\∀ h3,IsPair h3 TO x b->Heap.SameBut TO s2.heap h3->wpAny (model prog w) A (nextOf (.ref i2))
    (λy s4=>IsPair s4.heap TO x b/\∀ h5,IsPair h5 TO x y->Heap.SameBut TO s4.heap h5->IsZip h5 z TI TO .ellipsis/\∀ h8,IsZip h8 z TI TO (rawInt h5.objs.size)->IsPair h8 h5.objs.size x y->h8.objs.size=h5.objs.size+1->
     (∀ c o,c≠z->h5.get? c=some o->h8.get? c=some o)->Q (.done (.ret (.ref h5.objs.size))) { s4 with heap:=h8 })
    (λe s4=>wpAny (model prog w) A (setField (.ref z) 0 .none) (λ_ s5=>E e s5) E s4) { s2 with heap:=h3 })
   (λe s2=>wpAny (model prog w) A (setField (.ref z) 0 .none) (λ_ s3=>E e s3) E s2) { s with heap:=h1 }) :
  wpAny (model prog w) A (Builtin.«zip.__next__» ⟨[.ref z],[]⟩) Q E s:=by
 change wpAny (model prog w) A (field (.ref z) 2>>=_) _ _ _
 apply wpAny_bind;apply wpAny_field hz rfl (x:=.bool false) rfl
 change wpAny (model prog w) A (field (.ref z) 3>>=_) _ _ _
 apply wpAny_bind;apply wpAny_field hz rfl (x:=.ref TI) rfl
 apply wpAny_bind;apply wpAny_seqItems hi rfl
 change wpAny (model prog w) A (ownedTupleIsFree (.ref z)>>=_) _ _ _
 apply wpAny_bind
 rw [ownedTupleIsFree]
 apply wpAny_bind;apply wpAny_field hz rfl (x:=.none) rfl
 apply wpAny_pure
 rw [if_pos rfl]
 apply wpAny_bind;apply wpAny_rule
 apply wpAny_bind;apply wpAny_field hz rfl (x:=.ref TO) rfl
 apply wpAny_bind;apply wpAny_setField_rec hz (Nat.succ_pos _)
 intro h1 z1 b1
 apply wpAny_bind
 simp only [List.zipIdx_cons,List.zipIdx_nil,List.forIn_cons,List.forIn_nil]
 apply wpAny_bind;apply wpAny_bind;apply wpAny_onRaise
 change wpAny (model prog w) A (nextOf (.ref i1)>>=_) _ _ _
 apply wpAny_bind
 apply wpAny_mono (go h1 z1 b1) _ λ_ _ r=>r
 rintro x s2 ⟨o2,g2⟩
 apply wpAny_pure
 apply wpAny_bind;apply wpAny_seqItems o2 rfl
 apply wpAny_bind;apply wpAny_updateSeq_pair o2
 intro h3 o3 b3
 apply wpAny_bind;apply wpAny_letGo;apply wpAny_pure
 apply wpAny_bind;apply wpAny_bind;apply wpAny_onRaise
 change wpAny (model prog w) A (nextOf (.ref i2)>>=_) _ _ _
 apply wpAny_bind
 apply wpAny_mono (g2 h3 o3 b3) _ λ_ _ r=>r
 rintro y s4 ⟨o4,g4⟩
 apply wpAny_pure
 apply wpAny_bind;apply wpAny_seqItems o4 rfl
 apply wpAny_bind;apply wpAny_updateSeq_pair o4
 intro h5 o5 b5
 obtain ⟨z5,g5⟩:=g4 h5 o5 b5
 apply wpAny_bind;apply wpAny_letGo;apply wpAny_pure;apply wpAny_pure
 apply wpAny_bind;apply wpAny_seqItems o5 rfl
 apply wpAny_bind;refine wpAny_newTuple ?_ (by show 2<=sizeLine;decide)
 change wpAny (model prog w) A (ownedTupleHandOut (.ref z) (.ref h5.objs.size)>>=_) _ _ _
 apply wpAny_bind
 rw [ownedTupleHandOut];have z6:IsZip (h5.push { cls:=.type "tuple",data:=.seq #[x,y] }) z TI TO .ellipsis:=Heap.get?_push_of_some _ z5;have lt:z<h5.objs.size:=Heap.lt_size z5
 apply wpAny_bind;apply wpAny_setField_rec z6 (Nat.succ_pos _)
 intro h7 z7 b7
 apply wpAny_setField_rec z7 (by show 1<5;decide)
 intro h8 z8 b8
 apply wpAny_pure
 refine g5 h8 z8 (b8.extBut _ _ (Nat.ne_of_gt lt) (b7.extBut _ _ (Nat.ne_of_gt lt) (Heap.get?_push_size _ rfl))) ?_ λc o nc e=>b8.extBut _ _ nc (b7.extBut _ _ nc (Heap.get?_push_of_some _ e));rw [b8.1,b7.1,Heap.size_push]
theorem ak9{Q:Value->Shared->Prop}(D1:Draws prog w A i1 p n1 P1 S1)(D2:Draws prog w A i2 q n2 P2 S2)(ap:Ap z TI TO i1 i2 p q)(hz:IsZip s.heap z TI TO .none)(hi:IsPair s.heap TI (.ref i1) (.ref i2))(ho:IsPair s.heap TO a b)
  (s1:S1 k s.heap) (s2:S2 k s.heap) (k1:k<n1) (k2:k<n2)
  (hQ:∀ x y h' tk,P1 k x->P2 k y->IsZip h' z TI TO (rawInt s.heap.objs.size)->IsPair h' TO x y->S1 (k+1) h'->S2 (k+1) h'->IsPair h' s.heap.objs.size x y->h'.objs.size=s.heap.objs.size+1->
   (∀ c o,c≠z->c≠TO->c≠i1->c≠i2->s.heap.get? c=some o->h'.get? c=some o)->Q (.ref s.heap.objs.size) { s with heap:=h',toks:=tk }) :
  wpAny (model prog w) A (Builtin.«zip.__next__» ⟨[.ref z],[]⟩) (λfin s'=>∃ v,fin = .done (.ret v)/\Q v s') E s:=by
 have ni1:i1≠z:=λe=>ap.z1 (e ▸ ap.m1);have ni2:i2≠z:=λe=>ap.z2 (e ▸ ap.m2);have no1:TO≠i1:=λe=>ap.o1 (e ▸ ap.m1);have no2:TO≠i2:=λe=>ap.o2 (e ▸ ap.m2);refine agy hz hi ho ap.oz λh1 z1 b1=>?_;refine D1.item k _ _ _ k1 (far (D:=D1) b1 ap.z1 s1) λx h2 t2 px st2 b2=>?_;refine ⟨b2.extBut _ _ no1 (b1.extBut _ _ ap.oz ho),λh3 o3 b3=>?_⟩;refine D2.item k _ _ _ k2 (far (D:=D2) b3 ap.o2 (far (D:=D2) b2 ap.x1 (far (D:=D2) b1 ap.z2 s2))) λy h4 t4 py st4 b4=>?_;refine ⟨b4.extBut _ _ no2 o3,λh5 o5 b5=>⟨b5.extBut _ _ ap.oz.symm (b4.extBut _ _ ni2.symm (b3.extBut _ _ ap.oz.symm (b2.extBut _ _ ni1.symm z1))),λh8 z8 t8 l8 k8=>⟨_,rfl,?_⟩⟩⟩
 have sz:h5.objs.size=s.heap.objs.size:=by rw [b5.1,b4.1,b3.1,b2.1,b1.1]
 have g1:S1 (k+1) h8:=D1.frame _ _ _ (far (D:=D1) b5 ap.o1 (far (D:=D1) b4 ap.x2 (far (D:=D1) b3 ap.o1 st2))) λc hc o e=>k8 c o (λy=>ap.z1 (y ▸ hc)) e;have g2:S2 (k+1) h8:=D2.frame _ _ _ (far (D:=D2) b5 ap.o2 st4) λc hc o e=>k8 c o (λy=>ap.z2 (y ▸ hc)) e;rw [sz] at z8 t8 l8 ⊢;exact hQ x y h8 t4 px py z8 (k8 _ _ ap.oz o5) g1 g2 t8 l8 λc o c1 c2 c3 c4 e=>k8 c o c1 (b5.extBut _ _ c2 (b4.extBut _ _ c4 (b3.extBut _ _ c2 (b2.extBut _ _ c3 (b1.extBut _ _ c1 e)))))
theorem api{Q:Fin->Shared->Prop}(D1:Draws prog w A i1 p n1 P1 S1)(D2:Draws prog w A i2 q n2 P2 S2)(ap:Ap z TI TO i1 i2 p q)(hz:IsZip s.heap z TI TO .none)(hi:IsPair s.heap TI (.ref i1) (.ref i2))(ho:IsPair s.heap TO a b)
  (s1:S1 k s.heap) (s2:S2 k s.heap) (kk:k=n1\/(k<n1/\k=n2))
  (hE:∀ h' tk e,(∀ c o,c≠z->c≠TO->c≠i1->c≠i2->s.heap.get? c=some o->h'.get? c=some o)->(∃ o,h'.get? e=some o/\o.cls = .type "StopIteration")->E (.ref e) { s with heap:=h',toks:=tk }) :
  wpAny (model prog w) A (Builtin.«zip.__next__» ⟨[.ref z],[]⟩) Q E s:=by
 have ni1:i1≠z:=λe=>ap.z1 (e ▸ ap.m1);have ni2:i2≠z:=λe=>ap.z2 (e ▸ ap.m2);have no1:TO≠i1:=λe=>ap.o1 (e ▸ ap.m1);have stop:∀ {h:Heap} {e:Addr},(∃ o,h.get? e=some o/\o.cls = .type "StopIteration")->IsZip h z TI TO .ellipsis->e≠z:=λ{h e} ⟨o,eo,ec⟩ zz y=>by
  subst y;rw [zz] at eo;cases eo;simp at ec
 refine agy hz hi ho ap.oz λh1 z1 b1=>?_
 rcases kk with rfl | ⟨k1,rfl⟩
 ·refine D1.done _ _ _ (far (D:=D1) b1 ap.z1 s1) λh2 e x2 st=>?_;have z2:IsZip h2 z TI TO .ellipsis:=x2 _ _ ni1.symm z1;have ne:=stop st z2;obtain ⟨oe,f1,f2⟩:=st;refine wpAny_setField_rec z2 (Nat.succ_pos _) λh3 _ b3=>?_;exact hE h3 _ e (λc o c1 _ c3 _ y=>b3.extBut _ _ c1 (x2 _ _ c3 (b1.extBut _ _ c1 y))) ⟨oe,b3.extBut _ _ ne f1,f2⟩
 ·refine D1.item k _ _ _ k1 (far (D:=D1) b1 ap.z1 s1) λx h2 t2 px st2 b2=>?_;refine ⟨b2.extBut _ _ no1 (b1.extBut _ _ ap.oz ho),λh3 o3 b3=>?_⟩;refine D2.done _ _ _ (far (D:=D2) b3 ap.o2 (far (D:=D2) b2 ap.x1 (far (D:=D2) b1 ap.z2 s2))) λh4 e x4 st=>?_;have z4:IsZip h4 z TI TO .ellipsis:=x4 _ _ ni2.symm (b3.extBut _ _ ap.oz.symm (b2.extBut _ _ ni1.symm z1));have ne:=stop st z4;obtain ⟨oe,f1,f2⟩:=st;refine wpAny_setField_rec z4 (Nat.succ_pos _) λh5 _ b5=>?_;exact hE h5 _ e (λc o c1 c2 c3 c4 y=>b5.extBut _ _ c1 (x4 _ _ c4 (b3.extBut _ _ c2 (b2.extBut _ _ c3 (b1.extBut _ _ c1 y))))) ⟨oe,b5.extBut _ _ ne f1,f2⟩
theorem next_item{Q:Option Value->Shared->Prop}(D1:Draws prog w A.in1 i1 p n1 P1 S1)(D2:Draws prog w A.in1 i2 q n2 P2 S2)(ap:Ap z TI TO i1 i2 p q)(hz:IsZip s.heap z TI TO .none)(hi:IsPair s.heap TI (.ref i1) (.ref i2))(ho:IsPair s.heap TO a b)
  (s1:S1 k s.heap) (s2:S2 k s.heap) (k1:k<n1) (k2:k<n2)
  (hQ:∀ x y h' tk,P1 k x->P2 k y->IsZip h' z TI TO (rawInt s.heap.objs.size)->IsPair h' TO x y->S1 (k+1) h'->S2 (k+1) h'->IsPair h' s.heap.objs.size x y->h'.objs.size=s.heap.objs.size+1->
   (∀ c o,c≠z->c≠TO->c≠i1->c≠i2->s.heap.get? c=some o->h'.get? c=some o)->Q (some (.ref s.heap.objs.size)) { s with heap:=h',toks:=tk }):wpAny (model prog w) A (pyNext (.ref z)) Q E s:=by
 have ty:s.TypeIs (.ref z) "zip":=⟨_,hz,rfl⟩;rw [pyNext]
 apply wpAny_bind;apply wpAny_attempt
 apply wpAny_callSpecial?_slot (name:=Str.ofString "__next__") ty F.slot_zip_next
 apply wpAny_call_entry F.slot_zip_next ty F.entry_zip_next _ (F.args_zip_next_1 _)
 exact ak9 D1 D2 ap hz hi ho s1 s2 k1 k2 λx y h' tk c1 c2 c3 c4 c5 c6 c7 c8 c9=>wpAny_pure (hQ x y h' tk c1 c2 c3 c4 c5 c6 c7 c8 c9)
theorem next_end{Q:Option Value->Shared->Prop}(D1:Draws prog w A.in1 i1 p n1 P1 S1)(D2:Draws prog w A.in1 i2 q n2 P2 S2)(ap:Ap z TI TO i1 i2 p q)(hz:IsZip s.heap z TI TO .none)(hi:IsPair s.heap TI (.ref i1) (.ref i2))(ho:IsPair s.heap TO a b)
  (s1:S1 k s.heap) (s2:S2 k s.heap) (kk:k=n1\/(k<n1/\k=n2))
  (hQ:∀ h' tk,(∀ c o,c≠z->c≠TO->c≠i1->c≠i2->s.heap.get? c=some o->h'.get? c=some o)->Q none { s with heap:=h',toks:=tk }):wpAny (model prog w) A (pyNext (.ref z)) Q E s:=by
 have ty:s.TypeIs (.ref z) "zip":=⟨_,hz,rfl⟩;rw [pyNext]
 apply wpAny_bind;apply wpAny_attempt
 apply wpAny_callSpecial?_slot (name:=Str.ofString "__next__") ty F.slot_zip_next
 apply wpAny_call_entry F.slot_zip_next ty F.entry_zip_next _ (F.args_zip_next_1 _)
 refine api D1 D2 ap hz hi ho s1 s2 kk λh' tk e kp ⟨o,f1,f2⟩=>?_;refine wpAny_bind (wpAny_isInstance (b:=true) (T := "StopIteration") ⟨o,f1,f2⟩ isSubtype_stop (wpAny_pure (hQ h' tk kp)))
end
end ZP
namespace ZP
open PySem PySem.Spec PySem.Builtin PySem.Builtin.SmallTypes L2
inductive Srk where
 | tup (a:Addr) | lst (a:Addr) | str (x:Str)
def Srk.v:Srk->V
 | .tup a=>.ref a
 | .lst a=>.ref a
 | .str x=>.str x
def its(H:Hp):Srk->Option (List V)
 | .tup a=>match H a with | some (.tup vs)=>some vs | _=>none
 | .lst a=>match H a with | some (.lst vs)=>some vs | some (.frz _ (.lst vs))=>some vs | _=>none
 | .str x=>some (xm x)
def own(it:Addr)(t:Tok):Srk->Nat->Heap->Prop
 | .tup a,i,h=>h.IsTupleIter it a i
 | .lst a,i,h=>h.IsListIter it a i
 | .str x,i,h=>h.IsStrIter it (strIterType x) x t i
def iob(t:Tok):Srk->Obj
 | .tup a=>{ cls:=.type "tuple_iterator",data:=.fields #[.ref a, .int 0 0] }
 | .lst a=>{ cls:=.type "list_iterator",data:=.fields #[.ref a, .int 0 0] }
 | .str x=>{ cls:=.type (strIterType x),data:=.fields #[.str x t, .int 0 0] }
def val(t:Tok):Srk->Value
 | .tup a=>.ref a
 | .lst a=>.ref a
 | .str x=>.str x t
def cont(h:Heap):Srk->List Value->Prop
 | .tup a,us=>h.IsTuple a us.toArray
 | .lst a,us=>h.IsList a us.toArray
 | .str x,us=>True
theorem axe{it:Addr}{t:Tok}{k:Srk}{h:Heap}(e:h.get? it=some (iob t k)):own it t k 0 h:=by
 cases k with
 | tup a=>exact ⟨_,e,rfl,rfl⟩
 | lst a=>exact ⟨_,e,rfl,rfl⟩
 | str x=>exact ⟨_,e,rfl,rfl⟩
theorem a4r{it:Addr}{t:Tok}{k:Srk}{i:Nat}{h:Heap}(o:own it t k i h):∃ ob,h.get? it=some ob/\∀ v,ob.data≠.cell v:=by
 cases k with
 | tup a=>obtain ⟨ob,e,_,d⟩:=o;exact ⟨ob,e,λv z=>by rw [d] at z;cases z⟩
 | lst a=>obtain ⟨ob,e,_,d⟩:=o;exact ⟨ob,e,λv z=>by rw [d] at z;cases z⟩
 | str x=>obtain ⟨ob,e,_,d⟩:=o;exact ⟨ob,e,λv z=>by rw [d] at z;cases z⟩
theorem a2i{it:Addr}{t:Tok}{k:Srk}{i:Nat}{h h':Heap}(o:own it t k i h)(kk:∀ ob,h.get? it=some ob->h'.get? it=some ob):own it t k i h':=by
 cases k with
 | tup a=>obtain ⟨ob,e,r⟩:=o;exact ⟨ob,kk _ e,r⟩
 | lst a=>obtain ⟨ob,e,r⟩:=o;exact ⟨ob,kk _ e,r⟩
 | str x=>obtain ⟨ob,e,r⟩:=o;exact ⟨ob,kk _ e,r⟩
section
variable{P:Program}{w:World}{H:Hp}{s:Shared}
theorem a6f{X:Cx}{pins:List (Addr × Obj)}{σ:St}(I:Inv X pins σ H s){k:Srk}{xs:List V}(e:its H k=some xs):∃ us,cont s.heap k us/\((∀ x,k≠.str x)->Vals xs us):=by
 cases k with
 | tup a =>
  cases q:H a with
  | none=>simp [its,q] at e
  | some o =>
   cases o with
   | tup vs =>
    simp [its,q] at e;subst e
    obtain ⟨us,r,t,_⟩:=I.tuple (SqT.of q);exact ⟨us,t,λ_=>r⟩
   | _=>simp [its,q] at e
 | lst a =>
  cases q:H a with
  | none=>simp [its,q] at e
  | some o =>
   cases o with
   | lst vs =>
    simp [its,q] at e;subst e
    obtain ⟨us,r,t,_⟩:=I.list (SqL.of q);exact ⟨us,t.isList,λ_=>r⟩
   | frz ob u =>
    cases u with
    | lst vs =>
     simp [its,q] at e;subst e
     obtain ⟨us,r,t,_⟩:=I.list (.inl (.inr ⟨_,q⟩));exact ⟨us,t.isList,λ_=>r⟩
    | _=>simp [its,q] at e
   | _=>simp [its,q] at e
 | str x=>exact ⟨[],True.intro,λn=>absurd rfl (n x)⟩
theorem a4s{X:Cx}{pins:List (Addr × Obj)}{σ:St}(I:Inv X pins σ H s){k:Srk}{xs:List V}{it:Addr}{t:Tok}(e:its H k=some xs)(hn:H it=none) :
  ∃ (cs:List Addr) (P1:Nat->Value->Prop) (S1:Nat->Heap->Prop),(∀ A:Around,A.handled=none->Draws X.prog X.w A it (it::cs) xs.length P1 S1)/\(∀ i,own it t k i s.heap->S1 i s.heap)/\(∀ i h,S1 i h->own it t k i h)/\(∀ c∈cs,H c≠none) /\
   ∀ i v,P1 i v->∃ x,xs[i]? = some x/\RelV x v:=by
 cases k with
 | tup a =>
  obtain ⟨us,c,r⟩:=a6f I e;have r:=r (by intro x z;cases z)
  have ha:H a≠none:=λz=>by simp [its,z] at e
  have l:us.toArray.size=xs.length:=by rw [List.size_toArray,r.length]
  refine ⟨[a],λi v=>us.toArray[i]? = some v,λi h=>h.IsTupleIter it a i/\h.IsTuple a us.toArray,λA hA=>?_,λi o=>⟨o,c⟩,λi h z=>z.1,λc hc=>by rw [List.mem_singleton.mp hc];exact ha,λi v z=>?_⟩
  ·have:=agx (prog:=X.prog) (w:=X.w) hA it a (λy=>ha (y ▸ hn)) us.toArray
   rw [l] at this;exact this
  ·have z':us[i]? = some v:=by simpa using z
   have hi:i<xs.length:=by rw [r.length];exact (List.getElem?_eq_some_iff.mp z').1
   obtain ⟨u,e1,e2⟩:=r.get (List.getElem?_eq_getElem hi);rw [z'] at e1;cases e1
   exact ⟨_,List.getElem?_eq_getElem hi,e2⟩
 | lst a =>
  obtain ⟨us,c,r⟩:=a6f I e;have r:=r (by intro x z;cases z)
  have ha:H a≠none:=λz=>by simp [its,z] at e
  have l:us.toArray.size=xs.length:=by rw [List.size_toArray,r.length]
  refine ⟨[a],λi v=>us.toArray[i]? = some v,λi h=>h.IsListIter it a i/\h.IsList a us.toArray,λA hA=>?_,λi o=>⟨o,c⟩,λi h z=>z.1,λc hc=>by rw [List.mem_singleton.mp hc];exact ha,λi v z=>?_⟩
  ·have:=Draws.list (prog:=X.prog) (w:=X.w) hA it a (λy=>ha (y ▸ hn)) us.toArray
   rw [l] at this;exact this
  ·have z':us[i]? = some v:=by simpa using z
   have hi:i<xs.length:=by rw [r.length];exact (List.getElem?_eq_some_iff.mp z').1
   obtain ⟨u,e1,e2⟩:=r.get (List.getElem?_eq_getElem hi);rw [z'] at e1;cases e1
   exact ⟨_,List.getElem?_eq_getElem hi,e2⟩
 | str x =>
  cases e
  have l:(xm x).length=x.cps.size:=by simp [xm]
  refine ⟨[],λi v=>∃ c u,x.cps[i]? = some c/\v = .str ⟨#[c]⟩ u,λi h=>h.IsStrIter it (strIterType x) x t i,λA hA=>?_,λi o=>o,λi h z=>z,λc hc=>(by cases hc),λi v z=>?_⟩
  ·rw [l]
   cases ha:x.cps.all (· < 128)
   ·have:=Draws.strWide (prog:=X.prog) (w:=X.w) hA it x t
    simpa [strIterType,ha] using this
   ·have:=Draws.strAscii (prog:=X.prog) (w:=X.w) hA it x t
    simpa [strIterType,ha] using this
  ·obtain ⟨c,u,e1,rfl⟩:=z;exact ⟨.str ⟨#[c]⟩,by simp [xm,e1],⟨_,rfl⟩⟩
end
def ItZ(k1 k2:Srk):It where
 go:=λi H=>∃ xs ys x y,its H k1=some xs/\its H k2=some ys/\xs[i]? = some x/\ys[i]? = some y
 yld:=λi H v H'=>∃ xs ys x y p,its H k1=some xs/\its H k2=some ys/\xs[i]? = some x/\ys[i]? = some y/\H p=none/\v = .ref p/\H'=upd H p (.tup [x,y])
 stop:=λi H=>∃ xs ys,its H k1=some xs/\its H k2=some ys/\(i=xs.length\/(i<xs.length/\i=ys.length))
def tnZ(z TI TO i1 i2:Addr)(t1 t2:Tok)(k1 k2:Srk)(i:Nat)(h:Heap):Prop :=
 IsZip h z TI TO .none/\IsPair h TI (.ref i1) (.ref i2)/\(∃ a b,IsPair h TO a b)/\own i1 t1 k1 i h/\own i2 t2 k2 i h
structure Far (z TI TO i1 i2:Addr):Prop where
 a:TI≠z
 b:TO≠z
 c:i1≠z
 d:i2≠z
 e:TI≠TO
 f:TI≠i1
 g:TI≠i2
 h:TO≠i1
 i:TO≠i2
 j:i1≠i2
theorem a4t{X:Cx}{pins:List (Addr × Obj)}{σ:St}{H:Hp}{s:Shared}{h':Heap}{t':Nat}{ch:List Addr}(I:Inv X pins σ H s)(hf:∀ b∈ch,ab1 X pins H b)(k:∀ b o,b ∉ ch->s.heap.get? b=some o->h'.get? b=some o) :
  Inv X pins σ H { s with heap:=h',toks:=t' }:=by
 have nit:∀ b u,H b=some u->b ∉ ch:=λb u e z=>by rw [(hf b z).1] at e;cases e
 refine I.step (g':=s.gens) (d':=s.drawn) (ch:=ch) (λb hb=>?_) (λb o _ _ hc e _=>k b o hc e) (λb o _ _ hc e _=>⟨o.slots,k b o hc e⟩) (λ_ _ _ _ n=>n) (λb o hc e=>⟨o,k b o hc e⟩) (λ_ _ e=>e) (λ_ _ _ e=>e)
  (λb ps e=>⟨#[],by rw [e];simp⟩) (λm hm=>?_) (λb u e=>?_) I.bare
 ·obtain ⟨_,f1,_,f3,f4,f5⟩:=hf b hb;exact ⟨f3,f1,f4,f5⟩
 ·obtain ⟨o,es,ep,ho,r⟩:=hm;exact ⟨o,es,ep,k _ o (λz=>(hf _ z).2.1 rfl) ho,r⟩
 ·refine (I.hok b u e).stay (λc v hc q=>k c v ?_ q) (λ_ q=>q) λ_ _ q=>q
  rcases hc with z | z
  ·rw [z];exact nit b u e
  ·exact nit c _ z
theorem aka{P:Program}{w:World}{K:PySem.W.Frag}{elts:List Expr}{x1:Nat}{pos:Pos}{z TI TO i1 i2:Addr}{t1 t2:Tok}{k1 k2:Srk}(f:Far z TI TO i1 i2):Turn P w K (.Tuple elts x1 pos) (ItZ k1 k2) [z,TI,TO,i1,i2] z (tnZ z TI TO i1 i2 t1 t2 k1 k2) where
 mem:=by simp
 obj:=λi h st b hb=>by
  obtain ⟨h1,h2,⟨a,b',h3⟩,h4,h5⟩:=st;simp only [List.mem_cons,List.not_mem_nil,or_false] at hb
  rcases hb with rfl | rfl | rfl | rfl | rfl
  ·exact ⟨_,h1,λv z=>(by cases z)⟩
  ·exact ⟨_,h2,λv z=>(by cases z)⟩
  ·exact ⟨_,h3,λv z=>(by cases z)⟩
  ·exact a4r h4
  ·exact a4r h5
 keep:=λi h h' st k=>by
  obtain ⟨h1,h2,⟨a,b',h3⟩,h4,h5⟩:=st;exact ⟨k z (by simp) _ h1,k TI (by simp) _ h2,⟨a,b',k TO (by simp) _ h3⟩,a2i h4 λob e=>k i1 (by simp) ob e,a2i h5 λob e=>k i2 (by simp) ob e⟩
 item:=by
  intro X hP hw hK hc i pins s σ H E I hf st hg
  subst hP hw hK;obtain ⟨xs,ys,x,y,e1,e2,g1,g2⟩:=hg;obtain ⟨h1,h2,⟨a,b,h3⟩,h4,h5⟩:=st;have n:∀ c∈[z,TI,TO,i1,i2],H c=none:=λc hc=>(hf c hc).1;obtain ⟨cs,P1,S1,D1,a1,b1,c1,d1⟩:=a4s I (t:=t1) e1 (n i1 (by simp))
  obtain ⟨ds,P2,S2,D2,a2,b2,c2,d2⟩:=a4s I (t:=t2) e2 (n i2 (by simp))
  have hd:=I.ok.hd hc;have out1:∀ c,H c=none->c ∉ cs:=λc e z=>c1 c z e;have out2:∀ c,H c=none->c ∉ ds:=λc e z=>c2 c z e;have ap:Ap z TI TO i1 i2 (i1::cs) (i2::ds):=⟨by simp,by simp,by simp [f.c.symm,out1 z (n z (by simp))],by simp [f.d.symm,out2 z (n z (by simp))],by simp [f.h,out1 TO (n TO (by simp))],by simp [f.i,out2 TO (n TO (by simp))],f.b,by simp [f.j,out2 i1 (n i1 (by simp))],by simp [f.j.symm,out1 i2 (n i2 (by simp))]⟩
  refine next_item (D1 X.A.in1 hd) (D2 X.A.in1 hd) ap h1 h2 h3 (a1 i h4) (a2 i h5) (List.getElem?_eq_some_iff.mp g1).1 (List.getElem?_eq_some_iff.mp g2).1 λu v h' tk pu pv z' to' s1' s2' pr sz kp=>?_;obtain ⟨x',q1,r1⟩:=d1 i u pu;obtain ⟨y',q2,r2⟩:=d2 i v pv;rw [g1] at q1;cases q1
  rw [g2] at q2;cases q2
  refine ⟨_,rfl,wpAny_letOwnedTupleGo_zip z' λh2' z2' sb=>?_⟩;have hp:H s.heap.objs.size=none:=I.hok.fresh (Nat.le_refl _);have lt:∀ c∈[z,TI,TO,i1,i2],c<s.heap.objs.size:=λc hc=>by
   simp only [List.mem_cons,List.not_mem_nil,or_false] at hc
   rcases hc with rfl | rfl | rfl | rfl | rfl
   ·exact Heap.lt_size h1
   ·exact Heap.lt_size h2
   ·exact Heap.lt_size h3
   ·obtain ⟨_,e,_⟩:=a4r h4;exact Heap.lt_size e
   ·obtain ⟨_,e,_⟩:=a4r h5;exact Heap.lt_size e
  have all:∀ c o,c ∉ [z,TI,TO,i1,i2]->s.heap.get? c=some o->h2'.get? c=some o:=λc o nc e=>by
   simp only [List.mem_cons,List.not_mem_nil,or_false,not_or] at nc;exact (sb.2 c nc.1).trans (kp c o nc.1 nc.2.2.1 nc.2.2.2.1 nc.2.2.2.2 e)
  have nT:∀ c∈[z,TI,TO,i1,i2],c≠s.heap.objs.size:=λc hc=>Nat.ne_of_lt (lt c hc);have I0:Inv X pins σ (upd H s.heap.objs.size (.tup [x,y])) { s with heap:=s.heap.push { cls:=.type "tuple",data:=.seq #[u,v] } } :=
   I.laid (t':=s.toks) (o:=.tup [x,y]) (λb o e=>Heap.get?_push_of_some _ e) (Nat.le_refl _) ⟨by show 2<=sizeLine;decide,[u,v], .cons r1 (.cons r2 .nil),⟨_,Heap.get?_push_size _ rfl,rfl,_,rfl⟩⟩
  have I1:Inv X pins σ (upd H s.heap.objs.size (.tup [x,y])) { s with heap:=h2',toks:=tk }:=by
   refine a4t (s:={ s with heap:=s.heap.push { cls:=.type "tuple",data:=.seq #[u,v] } }) (ch:=[z,TI,TO,i1,i2]) I0 (λb hb=>?_) λc o nc e=>?_
   ·obtain ⟨f0,f1⟩:=hf b hb;exact ⟨by rw [jf (nT b hb)];exact f0,f1⟩
   ·rcases Heap.get?_push_cases e with ⟨rfl,rfl⟩ | e
    ·exact (sb.2 _ (nT z (by simp)).symm).trans pr
    ·exact all c o nc e
  refine ⟨.ref s.heap.objs.size,_,I1,rfl,⟨xs,ys,x,y,_,e1,e2,g1,g2,hp,rfl,rfl⟩,⟨z2',?_,⟨u,v,(sb.2 _ f.b).trans to'⟩,a2i (b1 _ _ s1') λob e=>(sb.2 _ f.c).trans e,a2i (b2 _ _ s2') λob e=>(sb.2 _ f.d).trans e⟩,λb hb=>?_⟩
  ·exact (sb.2 _ f.a).trans (kp TI _ f.a f.e f.f f.g h2)
  ·rw [jf (nT b hb)];exact n b hb
 done:=by
  intro X hP hw hK hc i pins s σ H E I hf st hg
  subst hP hw hK;obtain ⟨xs,ys,e1,e2,g⟩:=hg;obtain ⟨h1,h2,⟨a,b,h3⟩,h4,h5⟩:=st;have n:∀ c∈[z,TI,TO,i1,i2],H c=none:=λc hc=>(hf c hc).1;obtain ⟨cs,P1,S1,D1,a1,b1,c1,d1⟩:=a4s I (t:=t1) e1 (n i1 (by simp))
  obtain ⟨ds,P2,S2,D2,a2,b2,c2,d2⟩:=a4s I (t:=t2) e2 (n i2 (by simp))
  have hd:=I.ok.hd hc;have out1:∀ c,H c=none->c ∉ cs:=λc e z=>c1 c z e;have out2:∀ c,H c=none->c ∉ ds:=λc e z=>c2 c z e;have ap:Ap z TI TO i1 i2 (i1::cs) (i2::ds):=⟨by simp,by simp,by simp [f.c.symm,out1 z (n z (by simp))],by simp [f.d.symm,out2 z (n z (by simp))],by simp [f.h,out1 TO (n TO (by simp))],by simp [f.i,out2 TO (n TO (by simp))],f.b,by simp [f.j,out2 i1 (n i1 (by simp))],by simp [f.j.symm,out1 i2 (n i2 (by simp))]⟩
  refine next_end (D1 X.A.in1 hd) (D2 X.A.in1 hd) ap h1 h2 h3 (a1 i h4) (a2 i h5) g λh' tk kp=>⟨rfl,a4t I hf λc o nc e=>?_⟩;simp only [List.mem_cons,List.not_mem_nil,or_false,not_or] at nc;exact kp c o nc.1 nc.2.2.1 nc.2.2.2.1 nc.2.2.2.2 e
 self:=λ_ _ _ _ _ st h=>wpAny_pyIter_zip st.1 h
theorem agz{h:Heap}{k:Srk}{us:List Value}(c:cont h k us)(o:Obj):cont (h.push o) k us:=by
 cases k with
 | tup a=>obtain ⟨ob,e,r⟩:=c;exact ⟨ob,Heap.get?_push_of_some _ e,r⟩
 | lst a=>obtain ⟨ob,e,r⟩:=c;exact ⟨ob,Heap.get?_push_of_some _ e,r⟩
 | str x=>trivial
theorem a3z{prog:Program}{w:World}{A:Around}{E:Value->Shared->Prop}{s:Shared}{k:Srk}{t:Tok}{us:List Value}{Q:Value->Shared->Prop}(c:cont s.heap k us)(q:Q (.ref s.heap.objs.size) { s with heap:=s.heap.push (iob t k) }) :
  wpAny (model prog w) A (pyIter (val t k)) Q E s:=by
 cases k with
 | tup a=>exact wpAny_pyIter_tuple c q
 | lst a=>exact wpAny_pyIter_list c q
 | str x=>exact wpAny_pyIter_strU q
def mk2(h:Heap)(t1 t2:Tok)(k1 k2:Srk):Heap:=(h.push (iob t1 k1)).push (iob t2 k2)
def mk5(h:Heap)(t1 t2:Tok)(k1 k2:Srk):Heap :=
 (((mk2 h t1 t2 k1 k2).push { cls:=.type "tuple",data:=.seq #[.ref h.objs.size, .ref (h.objs.size+1)] }).push { cls:=.type "tuple",data:=.seq #[.none, .none] }).push
  { cls:=.type "zip",data:=.fields #[.none, .bool false, .bool false, .ref (h.objs.size+2), .ref (h.objs.size+3)] }
theorem akb(t1 t2:Tok)(k1 k2:Srk)(us1 us2:List Value):Meets (Builtin.«zip.__new__» ⟨[.type "zip",val t1 k1,val t2 k2],[]⟩)
  (λ_ R s=>cont s.heap k1 us1/\cont s.heap k2 us2/\R (.ok (.ret (.ref (s.heap.objs.size+4)))) { s with heap:=mk5 s.heap t1 t2 k1 k2 }) :=
 .of_wp λprog w A R s h=>by
  obtain ⟨hp,g,d,tk,os⟩:=s;obtain ⟨c1,c2,h⟩:=h;have sub:=sub_zip;have c1':cont (Shared.heap ⟨hp,g,d,tk,os⟩) k1 us1:=c1;have c2':cont (Shared.heap ⟨hp.push (iob t1 k1),g,d,tk,os⟩) k2 us2:=agz c2 _
  wp_walk using a3z (t:=t1) c1',a3z (t:=t2) c2'
  refine ⟨_,rfl,?_⟩;simpa [mk5,mk2,Heap.size_push,ownedTupleFields,Nat.add_assoc] using h
theorem axf(n:Nat):Far (n+4) (n+2) (n+3) n (n+1):=by
 refine ⟨?_,?_,?_,?_,?_,?_,?_,?_,?_,?_⟩<;>(intro z;have z:(_:Nat)=_:=z;omega)
theorem azo(n b:Nat)(h:b∈[n+4,n+2,n+3,n,n+1]):n<=b:=by
 simp only [List.mem_cons,List.not_mem_nil,or_false] at h;omega
section
variable{X:Cx}{elts:List Expr}{x1:Nat}{tpos:Pos}
def azp(ta:TA):TI:=λσ H R=>ta σ H λvs H1=>∃ k1 k2 xs ys,vs=[Srk.v k1,Srk.v k2]/\its H1 k1=some xs/\its H1 k2=some ys/\R (ItZ k1 k2) H1
theorem ah0{k:Srk}{u:Value}(r:RelV k.v u):∃ t,u=val t k:=by
 cases k with
 | tup a=>cases r;exact ⟨0,rfl⟩
 | lst a=>cases r;exact ⟨0,rfl⟩
 | str x=>obtain ⟨t,rfl⟩:=r;exact ⟨t,rfl⟩
theorem atx{e1 e2:Expr}{ta:TA}{p pos:Pos}(hg:Gl X "zip")(hm:X.mg "zip" = none)(hb:bootBuiltins "zip" = some (.type "zip"))(ha:PA X [e1,e2] ta)
  (h1:starEach [e1,e2] X.env=[(false,eval e1 X.env),(false,eval e2 X.env)]:=by rfl) (h2:starEach [e2] X.env=[(false,eval e2 X.env)]:=by rfl):PI X (.Tuple elts x1 tpos) (.Call (.Name "zip" p) [e1,e2] [] pos) (azp ta):=by
 intro pins s σ H R I h
 refine wpAny_Call_Name_kw (a5w I hg hm hb ?_ (by decide) (by decide))
 refine PyProof.Rows.callWith_type1 (thn (ha pos pins s σ H _ I h) λus s1 ⟨vs,H1,I1,r1,q1⟩=>?_) (by rw [h1,h2]) (by rw [h2];rfl)
 obtain ⟨k1,k2,xs,ys,rfl,e1,e2,q⟩:=q1;obtain ⟨v1,v2,rfl,rv1,rv2⟩:=vals2 r1;obtain ⟨t1,rfl⟩:=ah0 rv1;obtain ⟨t2,rfl⟩:=ah0 rv2;obtain ⟨us1,c1,_⟩:=a6f I1 e1;obtain ⟨us2,c2,_⟩:=a6f I1 e2;refine callType_new F.called_zip (by decide) (F.typeCall_zip_2 _ _) (F.newCall_zip_2 _ _) (λobj=>F.args_object_init_3 obj _ _) F.entry_zip_new (akb t1 t2 k1 k2 us1 us2) ⟨c1,c2,?_⟩
 have z2:(mk2 s1.heap t1 t2 k1 k2).objs.size=s1.heap.objs.size+2:=by simp [mk2,Heap.size_push]
 have at0:(mk5 s1.heap t1 t2 k1 k2).get? s1.heap.objs.size=some (iob t1 k1):=by
  unfold mk5 mk2;exact Heap.get?_push_of_some _ (Heap.get?_push_of_some _ (Heap.get?_push_of_some _ (Heap.get?_push_of_some _ (Heap.get?_push_size _ (by cases k1<;>rfl)))))
 have at1:(mk5 s1.heap t1 t2 k1 k2).get? (s1.heap.objs.size+1)=some (iob t2 k2):=by
  unfold mk5 mk2;have:=Heap.get?_push_size (o:=iob t2 k2) (s1.heap.push (iob t1 k1)) (by cases k2<;>rfl)
  rw [Heap.size_push] at this;exact Heap.get?_push_of_some _ (Heap.get?_push_of_some _ (Heap.get?_push_of_some _ this))
 have at2:IsPair (mk5 s1.heap t1 t2 k1 k2) (s1.heap.objs.size+2) (.ref s1.heap.objs.size) (.ref (s1.heap.objs.size+1)):=by
  unfold mk5;rw [<-z2];exact Heap.get?_push_of_some _ (Heap.get?_push_of_some _ (Heap.get?_push_size _ rfl))
 have at3:IsPair (mk5 s1.heap t1 t2 k1 k2) (s1.heap.objs.size+3) .none .none:=by
  unfold mk5;have:=Heap.get?_push_size (o:={ cls:=.type "tuple",data:=.seq #[.none, .none] }) ((mk2 s1.heap t1 t2 k1 k2).push { cls:=.type "tuple",data:=.seq #[.ref s1.heap.objs.size, .ref (s1.heap.objs.size+1)] }) rfl;rw [Heap.size_push,z2] at this;exact Heap.get?_push_of_some _ this
 have at4:IsZip (mk5 s1.heap t1 t2 k1 k2) (s1.heap.objs.size+4) (s1.heap.objs.size+2) (s1.heap.objs.size+3) .none:=by
  unfold mk5;have:=Heap.get?_push_size (o:={ cls:=.type "zip",data:=.fields #[.none, .bool false, .bool false, .ref (s1.heap.objs.size+2), .ref (s1.heap.objs.size+3)] }) (((mk2 s1.heap t1 t2 k1 k2).push { cls:=.type "tuple",data:=.seq #[.ref s1.heap.objs.size, .ref (s1.heap.objs.size+1)] }).push { cls:=.type "tuple",data:=.seq #[.none, .none] }) rfl;rw [Heap.size_push,Heap.size_push,z2] at this;exact this
 have keepA:∀ b o,s1.heap.get? b=some o->(mk5 s1.heap t1 t2 k1 k2).get? b=some o:=λb o e=>by
  unfold mk5 mk2;exact Heap.get?_push_of_some _ (Heap.get?_push_of_some _ (Heap.get?_push_of_some _ (Heap.get?_push_of_some _ (Heap.get?_push_of_some _ e))))
 have I2:Inv X pins σ H1 { s1 with heap:=mk5 s1.heap t1 t2 k1 k2 }:=I1.kept (t':=s1.toks) keepA
 refine ⟨⟨_,at4,rfl⟩,?_⟩;refine wpAny_pyIter_zip (s:={ s1 with heap:=mk5 s1.heap t1 t2 k1 k2 }) at4 ?_
 refine ⟨s1.heap.objs.size+4,[s1.heap.objs.size+4,s1.heap.objs.size+2,s1.heap.objs.size+3,s1.heap.objs.size,s1.heap.objs.size+1],tnZ _ _ _ _ _ t1 t2 k1 k2,ItZ k1 k2,H1,rfl,I2,aka (axf s1.heap.objs.size),
  ⟨at4,at2,⟨_,_,at3⟩,axe at0,axe at1⟩,λb hb=>?_,q⟩
 have:s1.heap.objs.size<=b:=azo _ b hb
 exact I1.fpOk this (I1.hok.fresh this)
end
end ZP
namespace MI
open PySem PySem.Spec L2 ZP
def srcOf(d:D)(h:Hd):Option (List D × (Hd->Prop)):=match d with
 | .tup xs=>some (xs,λ_=>True)
 | .rol xs=>some (xs,λ_=>True)
 | .str x=>some (yo x,λ_=>True)
 | .ref i=>(match h[i]? with | some (.lst xs)=>some (xs,λh=>h[i]? = some (.lst xs)) | _=>none)
 | _=>none
def ar7(x y:D)(h:Hd):R Itm:=match srcOf x h,srcOf y h with
 | some (xs,c1),some (ys,c2)=>.ok ⟨(xs.zip ys).map λp=>.tup [p.1,p.2],λh=>c1 h/\c2 h⟩ h
 | _,_=>.no
def ah1(f g:SE):SI:=λτ h=>(f τ h).bind λx h1=>(g τ h1).bind λy h2=>ar7 x y h2
theorem ah2{K:PySem.W.Frag}{ι:List Addr}{H:Hp}{h:Hd}{v:V}{d:D}{xs:List D}{ck:Hd->Prop}(r:Rep K ι H v d)(hr:HRep K ι H h)(e:srcOf d h=some (xs,ck)) :
  ∃ k:Srk,v=k.v/\ck h/\∀ ι' H' h',Gr ι H ι' H'->HRep K ι' H' h'->ck h'->∃ vs,its H' k=some vs/\Reps K ι' H' vs xs:=by
 cases r with
 | @tup a vs ys ha rs =>
  cases e
  exact ⟨.tup a,rfl,True.intro,λι' H' h' g _ _=>⟨vs,by simp [its,g.tup _ _ ha],rs.mono g⟩⟩
 | @rol a vs ys ha rs =>
  cases e
  refine ⟨.lst a,rfl,True.intro,λι' H' h' g _ _=>⟨vs,?_,rs.mono g⟩⟩;obtain ⟨o,q⟩:=ha.mono g;simp [its,q]
 | str x =>
  cases e
  exact ⟨.str x,rfl,True.intro,λι' H' h' g _ _=>⟨_,rfl,a4q x⟩⟩
 | @ref a i ha =>
  obtain ⟨ob,e1,e2⟩:=hr.at ha
  cases ob with
  | lst zs =>
   simp only [srcOf,e1] at e;cases e
   refine ⟨.lst a,rfl,e1,λι' H' h' g hr' c=>?_⟩;obtain ⟨us,q1,q2⟩:=hr'.obj i a _ (g.at ha) c;exact ⟨us,by simp [its,q1],q2⟩
  | dK _=>simp only [srcOf,e1] at e;cases e
  | dT _=>simp only [srcOf,e1] at e;cases e
 | _=>cases e
theorem amo{X:Cx}{E:XD}{elts:List Expr}{x1:Nat}{tpos:Pos}{e1 e2:Expr}{f g:SE}{p pos:Pos}(hg:Gl X "zip")(hm:X.mg "zip" = none)(hb:bootBuiltins "zip" = some (.type "zip"))(ha:ME X E e1 f)(hb':ME X E e2 g)
  (h1:starEach [e1,e2] X.env=[(false,eval e1 X.env),(false,eval e2 X.env)]:=by rfl) (h2:starEach [e2] X.env=[(false,eval e2 X.env)]:=by rfl) :
  MI X E (.Tuple elts x1 tpos) (.Call (.Name "zip" p) [e1,e2] [] pos) (ah1 f g):=by
 intro pins s σ H Rr I ⟨ι,τ,h,S,Rh,o⟩
 refine atx hg hm hb (a7r ha (a7r hb' afw (by rw [h2];rfl)) (by rw [h1,h2])) h1 h2 pins s σ H Rr I ?_
 refine ⟨ι,τ,h,S,Rh,g8 o λd h1 ι1 H1 v g1 r1 hr1 o1=>?_⟩;refine ⟨ι1,τ,h1,S.mono g1,hr1,g8 o1 λd2 h2 ι2 H2 u g2 r2 hr2 o2=>?_⟩;unfold ar7 at o2
 split at o2
 ·rename_i xs c1 ys c2 q1 q2;obtain ⟨k1,rfl,k1c,k1f⟩:=ah2 (r1.mono g2) hr2 q1;obtain ⟨k2,rfl,k2c,k2f⟩:=ah2 r2 hr2 q2;obtain ⟨vs1,w1,w2⟩:=k1f ι2 H2 h2 (.refl _ _) hr2 k1c;obtain ⟨vs2,w3,w4⟩:=k2f ι2 H2 h2 (.refl _ _) hr2 k2c;refine ⟨k1,k2,vs1,vs2,rfl,w1,w3,o2 ι2 H2 _ (.refl _ _) ?_ hr2⟩
  intro ι3 H3 h3 g3 hr3 c
  obtain ⟨us1,a1,a2⟩:=k1f ι3 H3 h3 g3 hr3 c.1;obtain ⟨us2,a3,a4⟩:=k2f ι3 H3 h3 g3 hr3 c.2;refine ⟨λi d ed=>?_,us1,us2,a1,a3,?_⟩
  ·simp only [List.getElem?_map,Option.map_eq_some_iff] at ed;obtain ⟨⟨x,y⟩,ez,rfl⟩:=ed;obtain ⟨ex,ey⟩:=List.getElem?_zip_eq_some.mp ez;obtain ⟨v1,b1,b2⟩:=a2.get ex;obtain ⟨v2,b3,b4⟩:=a4.get ey;refine ⟨⟨us1,us2,v1,v2,a1,a3,b1,b3⟩,λx H' yl=>?_⟩;obtain ⟨xs',ys',x',y',p,c1,c2,c3,c4,c5,rfl,rfl⟩:=yl;rw [a1] at c1;cases c1
   rw [a3] at c2;cases c2
   rw [b1] at c3;cases c3
   rw [b3] at c4;cases c4
   exact ⟨yj c5 _, .tup mq (.cons (b2.mono (yj c5 _)) (.cons (b4.mono (yj c5 _)) .nil)),hr3.aside c5 _⟩
  ·rw [List.length_map,List.length_zip,a2.len,a4.len];omega
 ·exact o2.elim
theorem amq:bootBuiltins "zip" = some (.type "zip"):=by first | exact PySem.boot_zip | exact PyProof.Rows.boot_zip | rfl
end MI
namespace MI
open PySem PySem.Spec L2
def FrzOf(L:List Addr)(H H2:Hp):Prop:=∀ a,(a ∉ L->H2 a=H a)/\(a∈L->∃ o u,H a=some u/\H2 a=some (.frz o u))
def aek(H:Hp)(L:List Addr):Prop:=∀ a∈L,(∃ xs,H a=some (.lst xs))\/(∃ kvs,H a=some (.dK kvs))\/∃ kvs,H a=some (.dT kvs)
def still:HO->Prop
 | .lst _=>False | .dK _=>False | .dT _=>False
 | _=>True
theorem FrzOf.still{L:List Addr}{H H2:Hp}(f:FrzOf L H H2)(ab:aek H L){a:Addr}{u:HO}(e:H a=some u)(st:MI.still u):H2 a=some u:=by
 rw [(f a).1 λz=>?_]
 ·exact e
 ·rcases ab a z with ⟨_,q⟩ | ⟨_,q⟩ | ⟨_,q⟩<;>(rw [e] at q;cases q;exact st)
theorem Inv.frz{X:Cx}{pins:List (Addr × Obj)}{σ:St}{H:Hp}{s:Shared}{L:List Addr}(I:Inv X pins σ H s)(ab:aek H L):∃ H2,FrzOf L H H2/\Inv X pins σ H2 s:=by
 have obj:∀ a∈L,∀ u,H a=some u->∃ o,s.heap.get? a=some o:=λa ha u e=>by
  rcases ab a ha with ⟨_,q⟩ | ⟨_,q⟩ | ⟨_,q⟩
  ·obtain ⟨_,_,_,_,z⟩:=I.hok a _ q;exact ⟨_,z⟩
  ·obtain ⟨_,_,_,_,z⟩:=I.hok a _ q;obtain ⟨o,_,_,z,_⟩:=z;exact ⟨o,z⟩
  ·obtain ⟨_,_,_,_,o,_,_,z,_⟩:=I.hok a _ q;exact ⟨o,z⟩
 let H2:Hp:=λa=>if a∈L then (match s.heap.get? a,H a with | some o,some u=>some (.frz o u) | _,w=>w) else H a
 have f:FrzOf L H H2:=λa=>⟨λh=>by simp [H2,h],λh=>by
  obtain ⟨u,e⟩:∃ u,H a=some u:=by
   rcases ab a h with ⟨_,q⟩ | ⟨_,q⟩ | ⟨_,q⟩<;>exact ⟨_,q⟩
  obtain ⟨o,eo⟩:=obj a h u e;exact ⟨o,u,e,by simp [H2,h,e,eo]⟩⟩
 refine ⟨H2,f,?_⟩;have mv:∀ a u,ObjOk X.prog X.w H s.heap a u->ObjOk X.prog X.w H2 s.heap a u:=λa u x=>x.stay (λb v _ q=>q) (λc q=>f.still ab q True.intro) λc xs q=>f.still ab q True.intro;have ok:HOk X.prog X.w H2 s.heap:=λa u e=>by
  by_cases hl:a∈L
  ·obtain ⟨u0,e0⟩:∃ u,H a=some u:=by
    rcases ab a hl with ⟨_,q⟩ | ⟨_,q⟩ | ⟨_,q⟩<;>exact ⟨_,q⟩
   obtain ⟨o,eo⟩:=obj a hl u0 e0;have e':H2 a=some (.frz o u0):=by simp [H2,hl,e0,eo]
   rw [e'] at e;cases e
   exact ⟨eo,mv a u0 (I.hok a u0 e0)⟩
  ·rw [(f a).1 hl] at e;exact mv a u (I.hok a u e)
 have fn:∀ b,H b=none->H2 b=none:=λb n=>by
  rw [(f b).1 λz=>?_]
  ·exact n
  ·rcases ab b z with ⟨_,q⟩ | ⟨_,q⟩ | ⟨_,q⟩<;>(rw [n] at q;cases q)
 have un:Un X.fs [] H H2 s.heap s.heap:=⟨λb o q _ _ _=>q,λb o q _ _ _=>⟨o.slots,q⟩,λb o _ n _=>fn b n,λb o q _=>⟨o,q⟩,λb xs q=>f.still ab q True.intro,λb o u q=>f.still ab q True.intro,λb ps q=>⟨#[],by rw [f.still ab q True.intro];simp⟩⟩
 exact I.un (t':=s.toks) un ok
theorem ah3{X:Cx}{e:Expr}{t:TE}(h:PE X e t):PE X e (λσ H Q=>t σ H λv H1=>∃ L,aek H1 L/\∀ H2,FrzOf L H1 H2->Q v H2):=λpins s σ H Q I q =>
 thn (h pins s σ H _ I q) λu s' ⟨v,H1,I1,r,L,ab,k⟩=>let ⟨H2,f,I2⟩:=Inv.frz I1 ab; ⟨v,H2,I2,r,k H2 f⟩
def a0i{α β:Type}(f:α->Option β):List α->Option (List β)
 | []=>some []
 | x::xs=>match f x,a0i f xs with | some y,some ys=>some (y::ys) | _,_=>none
open Classical in
noncomputable def a4l(n:Nat)(h:Hd):Nat->D->Option D
 | 0,_=>none
 | k+1,d=>if clo n d then some d else match d with
  | .tup xs=>(a0i (a4l n h k) xs).map .tup
  | .rol xs=>(a0i (a4l n h k) xs).map .rol
  | .scr xs=>(a0i (a4l n h k) xs).map .scr
  | .rod ks xs=>(a0i (a4l n h k) xs).map (.rod ks)
  | .rdT ks xs=>(a0i (a4l n h k) xs).map (.rdT ks)
  | .ref i=>match h[i]? with
   | some (.lst xs)=>(a0i (a4l n h k) xs).map .rol
   | some (.dK kvs)=>(a0i (a4l n h k) (kvs.map (·.2))).map (.rod (kvs.map (·.1)))
   | some (.dT kvs)=>(a0i (a4l n h k) (kvs.map (·.2))).map (.rdT (kvs.map (·.1)))
   | none=>none
  | _=>none
open Classical in
noncomputable def aty(n:Nat)(h:Hd)(k:Nat)(o:O):Option O:=if a1o n o then some o else match o with
 | .lst xs=>(a0i (a4l n h k) xs).map .lst
 | .dK kvs=>(a0i (a4l n h k) (kvs.map (·.2))).map λys=>.dK ((kvs.map (·.1)).zip ys)
 | .dT kvs=>(a0i (a4l n h k) (kvs.map (·.2))).map λys=>.dT ((kvs.map (·.1)).zip ys)
abbrev FU:Nat:=20
noncomputable def abm(n:Nat):R D->R D
 | .ok d h1=>match a4l n h1 FU d,a0i (aty n h1 FU) (h1.take n) with | some d',some g=>.ok d' g | _,_=>.no
 | _=>.no
open Classical in
noncomputable def ar8(n:Nat):R D->R D
 | .ok (.ref i) h1=>(match h1[i]? with
   | some o=>if n<=i/\a1o n o/\∀ u∈h1.take n,a1o n u then .ok (.ref n) (h1.take n++[o]) else .no
   | none=>.no)
 | _=>.no
section
variable{K:PySem.W.Frag}{ι ι':List Addr}{H H' H2:Hp}{h1:Hd}{n:Nat}{L:List Addr}
theorem ad0(f:FrzOf L H' H2)(ab:aek H' L)(κ:List Addr):Gw κ H' κ H2:=⟨⟨[],by simp⟩,λa vs e=>f.still ab e True.intro,λa o u e=>f.still ab e True.intro⟩
theorem ph{K:PySem.W.Frag}{ι κ:List Addr}{H H2:Hp}{f:D->Option D}(ih:∀ {v d d'},Rep K ι H v d->f d=some d'->Rep K κ H2 v d'):∀ {vs:List V} {ds ds':List D},Reps K ι H vs ds->a0i f ds=some ds'->Reps K κ H2 vs ds'
 | _,_,_, .nil,e=>by cases e;exact .nil
 | _,x::xs,_, .cons r rs,e=>by
  unfold a0i at e
  split at e
  ·rename_i y ys h1 h2;cases e
   exact .cons (ih r h1) (ph ih rs h2)
  ·cases e
theorem a88(hr:HRep K ι' H' h1)(hL:∀ (i:Nat) a,ι'[i]? = some a->n<=i->a∈L)(f:FrzOf L H' H2)(ab:aek H' L):∀ (k:Nat) {v:V} {d d':D},Rep K ι' H' v d->a4l n h1 k d=some d'->Rep K (ι'.take n) H2 v d':=by
 intro k
 induction k with
 | zero=>intro v d d' r e;cases e
 | succ k ih =>
  intro v d d' r e
  unfold a4l at e
  split at e
  ·rename_i c;cases e
   exact (r.cut c).monoW (ad0 f ab _)
  ·rename_i c
   cases r with
   | tup h rs =>
    simp only [Option.map_eq_some_iff] at e;obtain ⟨ys,e1,rfl⟩:=e;exact .tup (f.still ab h True.intro) (ph (λr e=>ih r e) rs e1)
   | rol h rs =>
    simp only [Option.map_eq_some_iff] at e;obtain ⟨ys,e1,rfl⟩:=e;exact .rol (h.monoW (ad0 f ab ι')) (ph (λr e=>ih r e) rs e1)
   | scr h rs =>
    simp only [Option.map_eq_some_iff] at e;obtain ⟨ys,e1,rfl⟩:=e;exact .scr (h.monoW (ad0 f ab ι')) (ph (λr e=>ih r e) rs e1)
   | rod h ek rs =>
    simp only [Option.map_eq_some_iff] at e;obtain ⟨ys,e1,rfl⟩:=e;exact .rod (f.still ab h True.intro) ek (ph (λr e=>ih r e) rs e1)
   | rdT h ek rs =>
    simp only [Option.map_eq_some_iff] at e;obtain ⟨ys,e1,rfl⟩:=e;exact .rdT (f.still ab h True.intro) ek (ph (λr e=>ih r e) rs e1)
   | @ref a i ha =>
    have hi:n<=i:=by
     simp only [clo] at c;omega
    obtain ⟨o,u,e1,e2⟩:=(f a).2 (hL i a ha hi);obtain ⟨ob,h3,h4⟩:=hr.at ha;simp only [h3] at e
    cases ob with
    | lst xs =>
     simp only [Option.map_eq_some_iff] at e;obtain ⟨ys,e3,rfl⟩:=e;obtain ⟨vs,h5,h6⟩:=h4;rw [e1] at h5;cases h5
     exact .rol ⟨o,e2⟩ (ph (λr e=>ih r e) h6 e3)
    | dK kvs =>
     simp only [Option.map_eq_some_iff] at e;obtain ⟨ys,e3,rfl⟩:=e;obtain ⟨us,h5,h6,h7⟩:=h4;rw [e1] at h5;cases h5
     exact .rod e2 h6 (ph (λr e=>ih r e) h7 e3)
    | dT kvs =>
     simp only [Option.map_eq_some_iff] at e;obtain ⟨ys,e3,rfl⟩:=e;obtain ⟨us,h5,h6,h7⟩:=h4;rw [e1] at h5;cases h5
     exact .rdT e2 h6 (ph (λr e=>ih r e) h7 e3)
   | non=>simp only [clo,not_true_eq_false] at c
   | exc _ _ _=>simp only [clo,not_true_eq_false] at c
   | bl b=>simp only [clo,not_true_eq_false] at c
   | int b=>simp only [clo,not_true_eq_false] at c
   | str b=>simp only [clo,not_true_eq_false] at c
   | ty b=>simp only [clo,not_true_eq_false] at c
theorem a89{κ:Type}{H:Hp}{us:List (κ × V)}{ks:List κ}{ys:List D}(e:us.map (·.1)=ks)(r:Reps K ι H (us.map (·.2)) ys):KRep K ι H us (ks.zip ys):=by
 have l:ks.length=ys.length:=by rw [<-e,List.length_map,<-r.len,List.length_map]
 refine ⟨?_,?_⟩
 ·rw [List.map_fst_zip (by omega)];exact e
 ·rw [List.map_snd_zip (by omega)];exact r
theorem apj(hr:HRep K ι' H' h1)(hL:∀ (i:Nat) a,ι'[i]? = some a->n<=i->a∈L)(f:FrzOf L H' H2)(ab:aek H' L){k:Nat}{a:Addr}{o o':O}(na:a ∉ L)(r:ORep K ι' H' a o)(e:aty n h1 k o=some o'):ORep K (ι'.take n) H2 a o':=by
 have same:H2 a=H' a:=(f a).1 na;unfold aty at e
 split at e
 ·rename_i c;cases e
  exact (r.cut c).monoW (ad0 f ab _) same
 ·cases o with
  | lst xs =>
   simp only [Option.map_eq_some_iff] at e;obtain ⟨ys,e1,rfl⟩:=e;obtain ⟨vs,h3,h4⟩:=r;exact ⟨vs,by rw [same];exact h3,ph (λr e=>a88 hr hL f ab k r e) h4 e1⟩
  | dK kvs =>
   simp only [Option.map_eq_some_iff] at e;obtain ⟨ys,e1,rfl⟩:=e;obtain ⟨us,h3,h4,h5⟩:=r;exact ⟨us,by rw [same];exact h3,a89 h4 (ph (λr e=>a88 hr hL f ab k r e) h5 e1)⟩
  | dT kvs =>
   simp only [Option.map_eq_some_iff] at e;obtain ⟨ys,e1,rfl⟩:=e;obtain ⟨us,h3,h4,h5⟩:=r;exact ⟨us,by rw [same];exact h3,a89 h4 (ph (λr e=>a88 hr hL f ab k r e) h5 e1)⟩
theorem a2j{α β:Type}{f:α->Option β}:∀ {xs:List α} {ys:List β},a0i f xs=some ys->xs.length=ys.length/\∀ (i:Nat) y,ys[i]? = some y->∃ x,xs[i]? = some x/\f x=some y
 | [],_,e=>by cases e;exact ⟨rfl,λi y e=>by simp at e⟩
 | x::xs,ys,e=>by
  unfold a0i at e
  split at e
  ·rename_i y ys h1 h2;cases e
   obtain ⟨l,g⟩:=a2j h2;refine ⟨by simp [l],λi z e=>?_⟩
   cases i with
   | zero=>simp at e;subst e;exact ⟨x,rfl,h1⟩
   | succ i=>simpa using g i z (by simpa using e)
  ·cases e
theorem ah4(hr:HRep K ι' H' h1)(M:List Addr)(hM:∀ a∈M,a∈ι'):aek H' M:=λa ha=>by
 obtain ⟨i,hi⟩:=List.getElem?_of_mem (hM a ha);obtain ⟨o,_,q⟩:=hr.at hi
 cases o with
 | lst xs=>obtain ⟨vs,h,_⟩:=q;exact .inl ⟨_,h⟩
 | dK xs=>obtain ⟨vs,h,_⟩:=q;exact .inr (.inl ⟨_,h⟩)
 | dT xs=>obtain ⟨vs,h,_⟩:=q;exact .inr (.inr ⟨_,h⟩)
theorem a6g{α:Type}{l:List α}(nd:l.Nodup){i j:Nat}{a:α}(h1:l[i]? = some a)(h2:l[j]? = some a):i=j:=by
 obtain ⟨l1,e1⟩:=List.getElem?_eq_some_iff.mp h1;obtain ⟨l2,e2⟩:=List.getElem?_eq_some_iff.mp h2
 rcases Nat.lt_trichotomy i j with l | l | l
 ·exact absurd (e1.trans e2.symm) (List.pairwise_iff_getElem.mp nd i j l1 l2 l)
 ·exact l
 ·exact absurd (e2.trans e1.symm) (List.pairwise_iff_getElem.mp nd j i l2 l1 l)
theorem atz(g:Gr ι H ι' H')(f:FrzOf L H' H2)(ab:aek H' L)(hL:∀ a∈L,H a=none){m:List Addr}(hm:∀ a∈m,H a=none):Gr ι H (ι++m) H2:=by
 refine ⟨⟨m,rfl,hm⟩,λa vs e=>f.still ab (g.tup a vs e) True.intro,λa o u e=>f.still ab (g.frz a o u e) True.intro,λa u e hn=>?_,λa u e=>?_⟩
 ·rw [(f a).1 λz=>by rw [hL a z] at e;cases e]
  exact g.oth a u e hn
 ·obtain ⟨u',e'⟩:=g.kp a u e;rw [(f a).1 λz=>by rw [hL a z] at e;cases e]
  exact ⟨u',e'⟩
theorem ah5{d d':D}{v:V}{g':Hd}(g:Gr ι H ι' H')(rb:Rep K ι' H' v d)(hr:HRep K ι' H' h1)(e:abm ι.length (.ok d h1) = .ok d' g') :
  ∃ L,aek H' L/\∀ H2,FrzOf L H' H2->Gr ι H ι H2/\Rep K ι H2 v d'/\HRep K ι H2 g':=by
 obtain ⟨m,rfl,hm⟩:=g.pre;have tk:(ι++m).take ι.length=ι:=by simp
 have ab:aek H' m:=ah4 hr m λa ha=>List.mem_append_right _ ha;have hL:∀ (i:Nat) a,(ι++m)[i]? = some a->ι.length<=i->a∈m:=λi a e hi=>by
  rw [List.getElem?_append_right hi] at e;exact List.mem_of_getElem? e
 refine ⟨m,ab,λH2 f=>?_⟩;unfold abm at e;simp only at e
 split at e
 ·rename_i dd gg e1 e2;cases e
  refine ⟨by simpa using atz g f ab hm (m:=[]) (by simp),by have:=a88 hr hL f ab FU rb e1;rwa [tk] at this,?_⟩
  obtain ⟨l,gt⟩:=a2j e2;have hl:=hr.len;have ln:ι.length<=h1.length:=by rw [<-hl];simp
  refine ⟨(List.nodup_append.mp hr.nd).1,by rw [<-l,List.length_take];omega,λi a o q1 q2=>?_⟩
  obtain ⟨x,hx,fx⟩:=gt i o q2;have hi:i<ι.length:=(List.getElem?_eq_some_iff.mp q1).1;rw [List.getElem?_take,if_pos hi] at hx;have q3:(ι++m)[i]? = some a:=by rw [List.getElem?_append_left hi];exact q1
  have na:a ∉ m:=λz=>(List.nodup_append.mp hr.nd).2.2 a (List.mem_of_getElem? q1) a z rfl;have:=apj hr hL f ab na (hr.obj i a x q3 hx) fx
  rwa [tk] at this
 ·cases e
theorem akc{d d':D}{v:V}{g':Hd}(g:Gr ι H ι' H')(rb:Rep K ι' H' v d)(hr:HRep K ι' H' h1)(e:ar8 ι.length (.ok d h1) = .ok d' g') :
  ∃ b,H b=none/\Gr ι H (ι++[b]) H'/\Rep K (ι++[b]) H' v d'/\HRep K (ι++[b]) H' g':=by
 obtain ⟨m,rfl,hm⟩:=g.pre;have tk:(ι++m).take ι.length=ι:=by simp
 have up:∀ b,Gw ι H' (ι++[b]) H':=λb=>⟨⟨[b],rfl⟩,λ_ _ h=>h,λ_ _ _ h=>h⟩
 cases rb with
 | @ref b i hb =>
  unfold ar8 at e;simp only at e
  split at e
  ·rename_i ob ho
   split at e
   ·rename_i hc;obtain ⟨hi,c1,c2⟩:=hc;cases e
    have hb':=hb;rw [List.getElem?_append_right hi] at hb';have bm:b∈m:=List.mem_of_getElem? hb';obtain ⟨nd1,nd2,nd3⟩:=List.nodup_append.mp hr.nd;have hl:=hr.len;have ln:ι.length<=h1.length:=by rw [<-hl];simp
    have lt:(h1.take ι.length).length=ι.length:=by rw [List.length_take];omega
    refine ⟨b,hm b bm,⟨⟨[b],rfl,by simpa using hm b bm⟩,g.tup,g.frz,g.oth,g.kp⟩, .ref (by simp),?_⟩
    refine ⟨List.nodup_append.mpr ⟨nd1,by simp,λa ha c hc z=>nd3 a ha c (by rw [List.mem_singleton.mp hc];exact bm) z⟩,by simp [lt],λj a o q1 q2=>?_⟩
    by_cases hj:j<ι.length
    ·rw [List.getElem?_append_left hj] at q1;rw [List.getElem?_append_left (by omega)] at q2
     have q2':=q2;rw [List.getElem?_take,if_pos hj] at q2';have:=(hr.obj j a o (by rw [List.getElem?_append_left hj];exact q1) q2').cut (c2 o (List.mem_of_getElem? q2))
     rw [tk] at this;exact this.monoW (up b) rfl
    ·have hj2:j<(ι++[b]).length:=(List.getElem?_eq_some_iff.mp q1).1;have:j=ι.length:=by simp at hj2;omega
     subst this;rw [List.getElem?_append_right (Nat.le_refl _)] at q1;rw [List.getElem?_append_right (by omega),lt] at q2
     simp at q1 q2
     subst q1 q2;have:=(hr.obj i b ob hb ho).cut c1;rw [tk] at this;exact this.monoW (up b) rfl
   ·cases e
  ·cases e
 | _=>cases e
end
noncomputable def sZ(f:SE):SE:=λτ h=>abm h.length (f τ h)
abbrev azq(Q:VK):VK:=λv H1=>∃ L,aek H1 L/\∀ H2,FrzOf L H1 H2->Q v H2
theorem axg{K:PySem.W.Frag}{E:XD}{fa:SE}{σ:St}{H:Hp}{Q:VK}(q:lift K E (a0a K) (sZ fa) σ H Q):lift K E (a0a K) fa σ H (azq Q):=by
 obtain ⟨ι,τ,h,S,Rh,o⟩:=q;refine ⟨ι,τ,h,S,Rh,?_⟩;unfold sZ at o;rw [<-Rh.len] at o
 cases hf:fa τ h with
 | ok d h1 =>
  rw [hf] at o
  intro ι' H' v g r hr
  cases hz:abm ι.length (.ok d h1) with
  | ok d' g' =>
   rw [hz] at o;obtain ⟨L,ab,k⟩:=ah5 g r hr hz;refine ⟨L,ab,λH2 f=>?_⟩;obtain ⟨k1,k2,k3⟩:=k H2 f;exact o ι H2 v k1 k2 k3
  | ex c hx=>unfold abm at hz;simp only at hz;split at hz<;>cases hz
  | no=>rw [hz] at o;exact o.elim
 | ex c h1=>rw [hf] at o;exact o.elim
 | no=>rw [hf] at o;exact o.elim
theorem a9i{X:Cx}{E:XD}{e:Expr}{fa:SE}(ha:ME X E e fa):ME X E e (sZ fa):=PE.weak (ah3 ha) λσ H Q q=>axg q
def refOf:D->Option Nat
 | .ref i=>some i
 | _=>none
def a1w(ds:List D):List Nat:=ds.filterMap refOf
def a0j:Nat->List D->List D
 | _,[]=>[]
 | k,d::ds=>match d with
  | .ref _=>.ref k::a0j (k+1) ds
  | d=>d::a0j k ds
def ud:Hd->List Nat->List O->Hd
 | h,i::is,o::os=>ud (h.set i o) is os
 | h,_,_=>h
def isRef(d:D):Prop:=∃ i,d = .ref i
open Classical in
noncomputable def apk(m:Bool)(F:SF)(ds:List D)(h:Hd):R D:=match a0i (λi=>h[i]?) (a1w ds) with
 | none=>.no
 | some os=>if (a1w ds).Nodup/\(∀ d∈ds,clo 0 d\/isRef d)/\(∀ o∈os,a1o 0 o) then
   (match (if m then ar8 os.length (F (a0j 0 ds) os) else abm os.length (F (a0j 0 ds) os)) with
   | .ok d h1=>if ∀ o∈h1,a1o 0 o then
     (if m then .ok (.ref h.length) (ud h (a1w ds) h1++h1.drop os.length)
      else if clo 0 d then .ok d (ud h (a1w ds) h1) else .no) else .no
   | _=>.no)
  else .no
noncomputable def jz(m:Bool)(n:Nat)(F:SF):SF:=λds h=>if ds.length=n then apk m F ds h else .no
section
variable{K:PySem.W.Frag}{ι ι':List Addr}{H H' H2:Hp}{h h1:Hd}{n:Nat}
theorem amr(κ:List Addr):Gw [] H κ H:=⟨⟨κ,rfl⟩,λ_ _ h=>h,λ_ _ _ h=>h⟩
theorem Rep.any{v:V}{d:D}(r:Rep K ι H v d)(c:MI.clo 0 d)(κ:List Addr):Rep K κ H v d:=by
 have:=r.cut c
 rw [List.take_zero] at this;exact this.monoW (amr κ)
theorem ORep.any{a:Addr}{o:O}(r:ORep K ι H a o)(c:a1o 0 o)(κ:List Addr):ORep K κ H a o:=by
 have:=r.cut c
 rw [List.take_zero] at this;exact this.monoW (amr κ) rfl
theorem aa6{α:Type}(l:List α):∀ {is:List Nat},(∀ i∈is,i<l.length)->∃ ys,a0i (λi=>l[i]?) is=some ys
 | [],_=>⟨[],rfl⟩
 | i::is,hi=>by
  obtain ⟨ys,e⟩:=aa6 l (is:=is) λj hj=>hi j (List.mem_cons_of_mem _ hj);have:=hi i List.mem_cons_self;exact ⟨l[i]::ys,by unfold a0i;rw [e,List.getElem?_eq_getElem this]⟩
theorem a4u:∀ {ds:List D} {vs:List V} {pre κ:List Addr},Reps K ι H vs ds->(∀ d∈ds,clo 0 d\/isRef d)->a0i (λi=>ι[i]?) (a1w ds)=some κ->Reps K (pre++κ) H vs (a0j pre.length ds)
 | [],_,_,_, .nil,_,_=>.nil
 | d::ds,_,pre,κ, .cons r rs,hc,e=>by
  have hc':∀ d∈ds,clo 0 d\/isRef d:=λx hx=>hc x (List.mem_cons_of_mem _ hx)
  by_cases hd:isRef d
  ·obtain ⟨i,rfl⟩:=hd;have e':a0i (λi=>ι[i]?) (i::a1w ds)=some κ:=e;unfold a0i at e'
   split at e'
   ·rename_i a κ' h1 h2
    cases e'
    cases r with
    | ref ha =>
     rw [ha] at h1;cases h1
     have:=a4u (pre:=pre++[a]) rs hc' h2
     simp only [List.append_assoc,List.singleton_append,List.length_append,List.length_singleton] at this;refine .cons (.ref ?_) this;rw [List.getElem?_append_right (Nat.le_refl _)];simp
   ·cases e'
  ·have c:=(hc d List.mem_cons_self).resolve_right hd;have e1:a1w (d::ds)=a1w ds:=by
    unfold a1w
    cases d<;>first | rfl | exact absurd ⟨_,rfl⟩ hd
   have e2:a0j pre.length (d::ds)=d::a0j pre.length ds:=by
    cases d<;>first | rfl | exact absurd ⟨_,rfl⟩ hd
   rw [e1] at e;rw [e2];exact .cons (r.any c _) (a4u rs hc' e)
theorem a07:∀ {is:List Nat} {os:List O} {h:Hd},(ud h is os).length=h.length
 | [],_,_=>by simp [ud]
 | _::_,[],_=>by simp [ud]
 | i::is,o::os,h=>by rw [ud,a07,List.length_set]
theorem a4v{i:Nat}:∀ {is:List Nat} {os:List O} {h:Hd},i ∉ is->(ud h is os)[i]? = h[i]?
 | [],_,_,_=>by simp [ud]
 | _::_,[],_,_=>by simp [ud]
 | j::is,o::os,h,n=>by
  rw [ud,a4v λz=>n (List.mem_cons_of_mem _ z),List.getElem?_set_ne λz=>n (by rw [z];exact List.mem_cons_self)]
theorem aa7{i:Nat}{o:O}:∀ {is:List Nat} {os:List O} {h:Hd} {j:Nat},is.Nodup->is[j]? = some i->os[j]? = some o->i<h.length->(ud h is os)[i]? = some o
 | [],_,_,_,_,e,_,_=>by simp at e
 | _::_,[],_,_,_,_,e,_=>by simp at e
 | k::is,o'::os,h,j,nd,e1,e2,hl=>by
  cases j with
  | zero =>
   simp at e1 e2
   subst e1 e2;rw [ud,a4v (List.nodup_cons.mp nd).1,List.getElem?_set_self hl]
  | succ j =>
   rw [ud];exact aa7 (j:=j) (List.nodup_cons.mp nd).2 (by simpa using e1) (by simpa using e2) (by simpa using hl)
theorem aa8{α:Type}{l:List α}(nl:l.Nodup){is:List Nat}{ys:List α}(e:a0i (λi=>l[i]?) is=some ys)(ni:is.Nodup):ys.Nodup:=by
 obtain ⟨le,g⟩:=a2j e;refine List.pairwise_iff_getElem.mpr λi j hi hj lt z=>?_;obtain ⟨x,h1,h2⟩:=g i _ (List.getElem?_eq_getElem hi);obtain ⟨y,h3,h4⟩:=g j _ (List.getElem?_eq_getElem hj);rw [<-z] at h4;have:=a6g nl h2 h4;subst this;have:=a6g ni h1 h3;omega
theorem ad5{is:List Nat}{κ m:List Addr}{g:Hd}(hr:HRep K ι H h)(e1:a0i (λi=>ι[i]?) is=some κ)(nd:is.Nodup)(gr:Gr κ H (κ++m) H2)(hg:HRep K (κ++m) H2 g)(cg:∀ o∈g,a1o 0 o)(hm:m.length<=1) :
  Gr ι H (ι++m) H2/\HRep K (ι++m) H2 (ud h is g++g.drop κ.length):=by
 obtain ⟨l1,g1⟩:=a2j e1;have mn:∀ a∈m,H a=none:=by
  obtain ⟨m',e,hm'⟩:=gr.pre;rw [List.append_cancel_left e];exact hm'
 have sub:∀ a∈κ,a∈ι:=λa ha=>by
  obtain ⟨j,hj⟩:=List.getElem?_of_mem ha;obtain ⟨i,_,q⟩:=g1 j a hj;exact List.mem_of_getElem? q
 have some_of:∀ a∈ι,∃ u,H a=some u:=λa ha=>by
  obtain ⟨i,hi⟩:=List.getElem?_of_mem ha;obtain ⟨o,_,q⟩:=hr.at hi;obtain ⟨u,q,_⟩:=q.some;exact ⟨u,q⟩
 have G:Gr ι H (ι++m) H2:=⟨⟨m,rfl,mn⟩,gr.tup,gr.frz,λa u e n=>gr.oth a u e λz=>n (sub a z),gr.kp⟩;have lg:=hg.len;rw [List.length_append] at lg;refine ⟨G,?_,?_,λj a o q1 q2=>?_⟩
 ·refine List.nodup_append.mpr ⟨hr.nd,(List.nodup_append.mp hg.nd).2.1,λa ha b hb z=>?_⟩;obtain ⟨u,q⟩:=some_of a ha;rw [z,mn b hb] at q;cases q
 ·rw [List.length_append,List.length_append,a07,List.length_drop,hr.len];omega
 ·by_cases hj:j<ι.length
  ·rw [List.getElem?_append_left hj] at q1;rw [List.getElem?_append_left (by rw [a07,<-hr.len];exact hj)] at q2
   by_cases hp:j∈is
   ·obtain ⟨k,hk⟩:=List.getElem?_of_mem hp;have hkl:k<κ.length:=by rw [<-l1];exact (List.getElem?_eq_some_iff.mp hk).1
    obtain ⟨i,h3,h4⟩:=g1 k _ (List.getElem?_eq_getElem hkl);rw [hk] at h3;cases h3
    rw [q1] at h4;have hkg:k<g.length:=by omega
    have e5:=aa7 (h:=h) nd hk (List.getElem?_eq_getElem hkg) (by rw [<-hr.len];exact hj)
    rw [e5] at q2;cases q2
    have ea:(κ++m)[k]? = some a:=by rw [List.getElem?_append_left hkl,List.getElem?_eq_getElem hkl];exact h4.symm
    exact (hg.obj k a _ ea (List.getElem?_eq_getElem hkg)).any (cg _ (List.getElem_mem hkg)) _
   ·rw [a4v hp] at q2;have r:=hr.obj j a o q1 q2;obtain ⟨u,hu,_⟩:=r.some;have na:a ∉ κ:=λz=>by
     obtain ⟨k,hk⟩:=List.getElem?_of_mem z;obtain ⟨i,h3,h4⟩:=g1 k a hk;have:=a6g hr.nd q1 h4;subst this;exact hp (List.mem_of_getElem? h3)
    exact r.mono G (by rw [hu];exact gr.oth a u hu na)
  ·have q1':=q1;rw [List.getElem?_append_right (by omega)] at q1
   rw [List.getElem?_append_right (by rw [a07,<-hr.len];omega),a07,<-hr.len,List.getElem?_drop] at q2
   have ea:(κ++m)[κ.length+(j - ι.length)]? = some a:=by rw [List.getElem?_append_right (by omega)];simpa using q1
   exact (hg.obj _ a o ea q2).any (cg o (List.mem_of_getElem? q2)) _
theorem ah6{m:Bool}{F:SF}{vs:List V}{ds:List D}{Q:VK}(r:Reps K ι H vs ds)(hr:HRep K ι H h)(o:out K X0 (a0a K) ι H (jz m n F ds h) Q)(E:XK) :
  qd K n F vs H (λv H1=>∃ L,aek H1 L/\∀ H2,FrzOf L H1 H2->Q v H2) E:=by
 unfold jz at o
 split at o
 ·rename_i hl;refine ⟨by rw [r.len];exact hl,?_⟩
  unfold apk at o
  split at o
  ·exact o.elim
  ·rename_i os hos
   split at o
   ·rename_i hc;obtain ⟨nd,hd,hcl⟩:=hc;obtain ⟨l0,g0⟩:=a2j hos;obtain ⟨κ,e1⟩:=aa6 ι (is:=a1w ds) λi hi=>by
     obtain ⟨j,hj⟩:=List.getElem?_of_mem hi;have hjl:j<os.length:=by rw [<-l0];exact (List.getElem?_eq_some_iff.mp hj).1
     obtain ⟨x,h3,h4⟩:=g0 j _ (List.getElem?_eq_getElem hjl);rw [hj] at h3;cases h3
     rw [hr.len];exact (List.getElem?_eq_some_iff.mp h4).1
    obtain ⟨l1,g1⟩:=a2j e1;have lk:κ.length=os.length:=by omega
    have R0:Reps K κ H vs (a0j 0 ds):=by simpa using a4u (pre:=[]) r hd e1
    have H0:HRep K κ H os:=by
     refine ⟨aa8 hr.nd e1 nd,lk,λj a ob q1 q2=>?_⟩;obtain ⟨i,h3,h4⟩:=g1 j a q1;obtain ⟨i',h5,h6⟩:=g0 j ob q2;rw [h3] at h5;cases h5
     exact (hr.obj i a ob h4 h6).any (hcl ob (List.mem_of_getElem? q2)) _
    refine ⟨κ,a0j 0 ds,os,R0,H0,?_⟩
    cases hF:F (a0j 0 ds) os with
    | no=>rw [hF] at o;cases m<;>exact o.elim
    | ex c hx=>rw [hF] at o;cases m<;>exact o.elim
    | ok d h1 =>
     rw [hF] at o
     intro ι' H' v g rb hr1
     rw [<-lk] at o
     cases m with
     | false =>
      simp only [Bool.false_eq_true,if_false] at o
      cases hz:abm κ.length (.ok d h1) with
      | ok d' g' =>
       rw [hz] at o;simp only at o;obtain ⟨L,ab,k⟩:=ah5 g rb hr1 hz;refine ⟨L,ab,λH2 f=>?_⟩;obtain ⟨k1,k2,k3⟩:=k H2 f
       split at o
       ·rename_i cg
        split at o
        ·rename_i cd;have q:=ad5 (m:=[]) hr e1 nd (by simpa using k1) (by simpa using k3) cg (by simp)
         have lg:=k3.len;have dr:g'.drop κ.length=[]:=List.drop_eq_nil_of_le (by omega)
         rw [dr,List.append_nil,List.append_nil] at q;exact o ι H2 v q.1 (k2.any cd _) q.2
        ·exact o.elim
       ·exact o.elim
      | ex c hx=>rw [hz] at o;exact o.elim
      | no=>rw [hz] at o;exact o.elim
     | true =>
      simp only [if_true] at o
      cases hz:ar8 κ.length (.ok d h1) with
      | ok d' g' =>
       rw [hz] at o;simp only at o;obtain ⟨b,hb,k1,k2,k3⟩:=akc g rb hr1 hz;refine ⟨[],λa ha=>(by simp at ha),λH2 f=>?_⟩
       have e2:H2=H':=by funext a;exact (f a).1 (by simp)
       subst e2
       split at o
       ·rename_i cg;have q:=ad5 (m:=[b]) hr e1 nd k1 k3 cg (by simp)
        refine o (ι++[b]) H2 v q.1 ?_ q.2;have hd':d' = .ref κ.length:=by
         unfold ar8 at hz
         split at hz
         ·rename_i i h2 hh
          injection hh with z1 z2
          split at hz
          ·split at hz
           ·injection hz with z3 z4;exact z3.symm
           ·cases hz
          ·cases hz
         ·cases hz
        subst hd'
        cases k2 with
        | ref hk =>
         rw [List.getElem?_append_right (Nat.le_refl _)] at hk;simp at hk;subst hk;exact .ref (by rw [<-hr.len];simp)
       ·exact o.elim
      | ex c hx=>rw [hz] at o;exact o.elim
      | no=>rw [hz] at o;exact o.elim
   ·exact o.elim
 ·exact o.elim
end
theorem cj(m:Bool){X:Cx}{k n:Nat}{f:Addr}{fd:FuncData}{ps:List Str}{x:Str}{F:SF}{ka:SA}{e:Expr}{es:List Expr}{p pos:Pos}(G:Dn X.prog X.w X.K X.mg X.base k x ps (qd X.K n F) f fd)(hr:Room k X.A)(hg:Gl X x)(ha:MA X X0 (e::es) ka)
  (hdb:(x == ("__debug__" : Str))=false:=by decide) (he:starEach (e::es) X.env=(false,eval e X.env)::starEach es X.env:=by rfl) (hpl:(backTo pos (starEach es X.env)).any (·.1)=false:=by rfl):ME X X0 (.Call (.Name x p) (e::es) [] pos) (sA (jz m n F) ka):=by
 refine PE.weak (ah3 (aod G.ok hr hg G.m G.kp G.b .nil asx ha hdb he hpl)) λσ H Q ⟨ι,τ,h,S,Rh,o⟩=>?_;refine ⟨ι,τ,h,S,Rh,g8 o λds h1 ι1 H1 vs g1 r1 hr1 o1=>?_⟩;rw [List.append_nil];exact ah6 r1 hr1 o1 _
theorem aa9(m:Bool){X:Cx}{k n:Nat}{f:Addr}{fd:FuncData}{ps:List Str}{x:Str}{F:SF}{p pos:Pos}(G:Dn X.prog X.w X.K X.mg X.base k x ps (qd X.K n F) f fd)(hr:Room k X.A)(hg:Gl X x)(hdb:(x == ("__debug__" : Str))=false:=by decide) :
  ME X X0 (.Call (.Name x p) [] [] pos) (sA (jz m n F) di):=by
 refine PE.weak (ah3 (ajn G.ok hr hg G.m G.kp G.b .nil asx hdb)) λσ H Q ⟨ι,τ,h,S,Rh,o⟩=>?_;exact ah6 (vs:=[]) .nil Rh o E0
def ar9:SS:=λ_ _=>.no
section
variable{X:Cx}{E:XD}
theorem ad6{st:List Stmt}:MSs X E st ar9:=λ_ _ _ _ _ _ ⟨_,_,_,_,_,o⟩=>o.elim
end
theorem ams{X:Cx}{st:Stmt}{t:TS}(h:PS X st t):PS X st (λD σ H=>t { D with nx:=λσ' H1=>∃ L,aek H1 L/\∀ H2,FrzOf L H1 H2->D.nx σ' H2 } σ H):=λpins s σ H D I q =>
 thn (h pins s σ H _ I q) λf s' k=>by
  cases f with
  | next =>
   obtain ⟨σ',H1,I1,L,ab,k⟩:=k;obtain ⟨H2,f,I2⟩:=Inv.frz I1 ab;exact ⟨σ',H2,I2,k H2 f⟩
  | brk=>exact k
  | cont=>exact k
  | ret u=>exact k
theorem ah7{K:PySem.W.Frag}{E:XD}{f:SE}{i:Nat}{N:Ends}{σ:St}{H:Hp}(q:a80 K E (m7 i f) N σ H):lift K E (a0a K) f σ H (λv H1=>N.nx (σ.set i (some v)) H1):=by
 obtain ⟨ι,τ,h,S,Rh,o⟩:=q;exact ⟨ι,τ,h,S,Rh,qy o λd h1 ι1 H1 v g1 r1 hr1 o1=>o1 ι1 H1 _ (.refl _ _) ((S.mono g1).set r1 i) hr1⟩
theorem ah8{K:PySem.W.Frag}{E:XD}{fi:SI}{t:D->Option Sd}{fe:SE}{ix:List Nat}{n:Nat}{g:TG}{σ:St}{H:Hp}{Q:VK}(ht:aj7 K n g t)(q:lift K E (a0a K) (m9 fi t fe ix) σ H Q):ajv (lift K E (axc K) fi) (qx n ix) g (lift K E (a0a K) fe) σ H Q:=by
 obtain ⟨ι,τ,h,Sr,Rh,o⟩:=q;refine ⟨ι,τ,h,Sr,Rh,g8 o λit h1 ι1 H1 J g1 r1 hr1 o1=>?_⟩
 by_cases hl:it.xs.length<=LINE
 ·rw [if_pos hl] at o1;exact acs r1 ht (a5l (Sr.mono g1) ix) hr1 hl o1
 ·rw [if_neg hl] at o1;exact o1.elim
theorem akd{K:PySem.W.Frag}{E:XD}{fi:SI}{t:D->Option Sd}{fc:ST}{fe:SE}{ix:List Nat}{n:Nat}{g:TG}{σ:St}{H:Hp}{Q:VK}(ht:aj7 K n g t)(q:lift K E (a0a K) (xn fi t fc fe ix) σ H Q):a7y (lift K E (axc K) fi) (qx n ix) g (lift K E amg fc) (lift K E (a0a K) fe) σ H Q:=by
 obtain ⟨ι,τ,h,Sr,Rh,o⟩:=q;refine ⟨ι,τ,h,Sr,Rh,g8 o λit h1 ι1 H1 J g1 r1 hr1 o1=>?_⟩
 by_cases hl:it.xs.length<=LINE
 ·rw [if_pos hl] at o1;exact aa1 r1 ht (a5l (Sr.mono g1) ix) hr1 hl o1
 ·rw [if_neg hl] at o1;exact o1.elim
section
variable{X:Cx}{E:XD}{elt tg iter cnd:Expr}{scope:Scope}{pos spos pos':Pos}{cl:List (Str × Addr)}{ts fr:List Str}{ix:List Nat}{fi:SI}{g:TG}{t:D->Option Sd}{fe:SE}{fc:ST}{i:Nat}{x:Str}
theorem apl(hN:X.N.Nodup)(hi':X.N[i]? = some x)(hx:Loc X.env.scope x)(hc:X.calm=true)(S:CSc X scope cl ts fr ix)(hi:MI X E tg iter fi)(hg:∀ C fp s H,PG (cxC X (ts++fr) scope cl C fp s H) tg g)(ht:aj7 X.K ts.length g t)(he:∀ C fp s H,ME (cxC X (ts++fr) scope cl C fp s H) E elt fe)
  (hs:∀ x,foldedSetIterable iter X.env x=pure x:=by intro _;rfl) (hsw:swapsWith (.ListComp elt [⟨tg,iter,[],0⟩] scope pos) (some (.Name x pos')) spos.line X.env=pure true:=by rfl) (hf:X.fn x=true\/X.env.scope.names.lookup x=some .local:=by first | exact .inl rfl | exact .inr rfl | assumption) :
  MS X E (.Assign [.Name x pos'] (.ListComp elt [⟨tg,iter,[],0⟩] scope pos) spos) (m7 i (m9 fi t fe ix)) :=
 PS.weak (aco (te:=lift X.K E (a0a X.K) fe) hN hi' hx hc S hi hg he hs hsw hf) λN σ H q=>ah8 ht (ah7 q)
theorem a2k(hN:X.N.Nodup)(hi':X.N[i]? = some x)(hx:Loc X.env.scope x)(hc:X.calm=true)(S:CSc X scope cl ts fr ix)(hi:MI X E tg iter fi)(hg:∀ C fp s H,PG (cxC X (ts++fr) scope cl C fp s H) tg g)(ht:aj7 X.K ts.length g t)(he:∀ C fp s H,ME (cxC X (ts++fr) scope cl C fp s H) E elt fe)
  (hs:∀ x,foldedSetIterable iter X.env x=pure x:=by intro _;rfl) (hsw:swapsWith (.ListComp elt [⟨tg,iter,[],0⟩] scope pos) (some (.Name x pos')) spos.line X.env=pure true:=by rfl) (hf:X.fn x=true\/X.env.scope.names.lookup x=some .local:=by first | exact .inl rfl | exact .inr rfl | assumption) :
  MS X E (.Assign [.Name x pos'] (.ListComp elt [⟨tg,iter,[],0⟩] scope pos) spos) (m7 i (sZ (m9 fi t fe ix))) :=
 PS.weak (ams (aco (te:=lift X.K E (a0a X.K) fe) hN hi' hx hc S hi hg he hs hsw hf)) λN σ H q=>ah8 ht (axg (ah7 q))
theorem ad7(hN:X.N.Nodup)(hi':X.N[i]? = some x)(hx:Loc X.env.scope x)(hc:X.calm=true)(S:CSc X scope cl ts fr ix)(hi:MI X E tg iter fi)(hg:∀ C fp s H,PG (cxC X (ts++fr) scope cl C fp s H) tg g)(ht:aj7 X.K ts.length g t)(he:∀ C fp s H,ME (cxC X (ts++fr) scope cl C fp s H) E elt fe)
  (hq:∀ C fp s H,MT (cxC X (ts++fr) scope cl C fp s H) E cnd fc)
  (hs:∀ x,foldedSetIterable iter X.env x=pure x:=by intro _;rfl) (hsw:swapsWith (.ListComp elt [⟨tg,iter,[cnd],0⟩] scope pos) (some (.Name x pos')) spos.line X.env=pure true:=by rfl) (hf:X.fn x=true\/X.env.scope.names.lookup x=some .local:=by first | exact .inl rfl | exact .inr rfl | assumption) :
  MS X E (.Assign [.Name x pos'] (.ListComp elt [⟨tg,iter,[cnd],0⟩] scope pos) spos) (m7 i (sZ (xn fi t fc fe ix))) :=
 PS.weak (ams (aed (te:=lift X.K E (a0a X.K) fe) (tc:=lift X.K E amg fc) hN hi' hx hc S hi hg he hq hs hsw hf)) λN σ H q=>akd ht (axg (ah7 q))
end
theorem o7{P:Program}{w:World}{K:PySem.W.Frag}{mg:Str->Option Value}{base:Heap}{x qual:Str}{st:Stmt}{f:Addr}{fd:FuncData}{N ps:List Str}{k:Nat}{b:SS}(Fu:Fun K x qual st f fd)(S:FnScope N ps (aq st))
  (hb:∀ (cdv:Value) (A:Around) (outer:List Env) (s:Shared) (H:Hp) (E:XK),Room k (A.deeper (PyProof.Rows.envOfC qual (aq st) s.heap.objs.size f cdv))->MSs (a1n CX0 P w K mg base N qual (aq st) f cdv A outer s H E).nox X0 (jh st) b) :
  FnOk P w K mg base CX0 (k+1) f fd ps (qd K ps.length (oh b N.length)):=ati Fu S hb λds h _ _ _=>Rf.same rfl
end MI
namespace MI
open PySem PySem.Spec L2 HT
theorem ael{prog:Program}{w:World}{A:Around}{E:Value->Shared->Prop}{s:Shared}{t sl:Addr}{items:Array Value}{vl vu:Value}{lo hi:Option Int}{Q:Value->Shared->Prop}(ht:PyProof.Rows.IsTup s.heap t items)(hs:s.heap.IsSliceOf sl vl vu .none)(pl:IsPart vl lo)(pu:IsPart vu hi)
  (hw:HT.sIx items.size 0 lo=0/\HT.sIx items.size items.size hi=items.size) (h:Q (.ref t) s):wpAny (model prog w) A (getItem (.ref t) (.ref sl)) Q E s:=by
 obtain ⟨os,f1,f2,f3⟩:=id hs;have ty:s.TypeIs (.ref sl) "slice":=⟨os,f1,f2⟩;have tt:s.TypeIs (.ref t) "tuple":=ht.typeIs;rw [getItem]
 try apply wpAny_holding
 first | (apply wpAny_bind;apply wpAny_pure) | skip
 apply wpAny_bind;apply wpAny_sequenceKey tt (by decide)
 apply wpAny_bind
 apply wpAny_callSpecial?_slot (name:=Str.ofString "__getitem__") tt PyProof.Rows.slot_tuple_getitem
 apply wpAny_call_entry PyProof.Rows.slot_tuple_getitem tt PyProof.Rows.entry_tuple_getitem _ (PyProof.Rows.args_tuple_getitem _ _)
 change wpAny (model prog w) A.in1 (Builtin.Tuple.tupleItemsOf (.ref t)>>=_) _ _ s
 apply wpAny_bind;apply PyProof.Rows.tupleItemsOf_ ht
 apply wpAny_bind;apply wpAny_typeOf ty
 rw [if_pos (by decide)]
 apply wpAny_bind;apply HT.a1g hs pl pu
 rw [hw.1,hw.2];dsimp only;rw [if_pos (by simp)]
 apply wpAny_bind
 rw [Builtin.Tuple.tupleIsExact]
 apply wpAny_bind;apply wpAny_typeOf tt
 apply wpAny_pure
 rw [if_pos (by decide)]
 apply wpAny_bind;apply wpAny_rule
 apply wpAny_pure
 exact ⟨_,rfl,wpAny_pure h⟩
def ayd(K:PySem.W.Frag):V->Option Int->Option Int->Hp->VK->Prop:=λx lo hi H Q=>∃ a xs,x = .ref a/\SqT K H a xs/\whole xs.length lo hi/\Q (.ref a) H
theorem ake{X:Cx}:SlR X (ayd X.K):=by
 intro pins s σ H x v vl vu lo hi sl Q I rx hs pl pu h
 obtain ⟨a,xs,rfl,hx,hw,q⟩:=h;cases rx
 obtain ⟨its,r,ht,hz⟩:=I.tuple hx;have hlen:its.toArray.size=xs.length:=by rw [List.size_toArray];exact r.length.symm
 exact ⟨"tuple",_,PyProof.Rows.slot_tuple_getitem.lookup,ht.typeIs,ael ht hs pl pu (by rw [hlen];exact hw) ⟨.ref a,H,I,rfl,q⟩⟩
def aj9(d:D)(lo hi:Option Int)(h:Hd):R D:=match d with
 | .tup xs=>if whole xs.length lo hi then .ok (.tup xs) h else .ok (.tup (a76 xs lo hi)) h
 | d=>gSl d lo hi h
def a4w(f:SE)(l u:SO):SE:=λτ h=>(f τ h).bind λd h1=>(l τ h1).bind λlo h2=>(u τ h2).bind λhi h3=>aj9 d lo hi h3
theorem apm{K:PySem.W.Frag}{E:XD}{ι:List Addr}{H:Hp}{h:Hd}{x:V}{d:D}{lo hi:Option Int}{Q:VK}(rx:Rep K ι H x d)(hr:HRep K ι H h)(o:out K E (a0a K) ι H (aj9 d lo hi h) Q):(ax7 x lo hi H Q\/awx K x lo hi H Q\/awz K x lo hi H Q)\/ayd K x lo hi H Q:=by
 cases rx with
 | @tup p vs xs hp r =>
  by_cases hc:whole xs.length lo hi
  ·simp only [aj9,if_pos hc] at o;exact .inr ⟨p,vs,rfl,SqT.of hp,by rw [r.len];exact hc,ans o (.tup hp r) hr⟩
  ·simp only [aj9,if_neg hc] at o;exact .inl (.inr (.inl ⟨p,vs,rfl,SqT.of hp,by rw [r.len];exact hc,a1r (a3w r lo hi) hr o⟩))
 | non=>exact o.elim
 | bl _=>exact o.elim
 | int _=>exact o.elim
 | ty _=>exact o.elim
 | str z=>exact .inl (acx (.str z) hr o)
 | rol a b=>exact .inl (acx (.rol a b) hr o)
 | scr a b=>exact .inl (acx (.scr a b) hr o)
 | rod a b c=>exact o.elim
 | rdT a b c=>exact o.elim
 | exc a b c=>exact o.elim
 | ref a=>exact .inl (acx (.ref a) hr o)
theorem pq{X:Cx}{E:XD}{e:Expr}{fa:SE}{lo hi:Option Expr}{l u:SO}{p2 pos:Pos}(he:ME X E e fa)(hl:MO X E lo l)(hu:MO X E hi u):ME X E (.Subscript e (.Slice lo hi none p2) pos) (a4w fa l u):=by
 refine PE.weak (ajq ((ata.or (asp.or aok)).or ake) he hl hu) λσ H Q ⟨ι,τ,h,S,Rh,o⟩=>?_;refine ⟨ι,τ,h,S,Rh,g8 o λd h1 ι1 H1 v g1 r1 hr1 o1=>?_⟩;refine ⟨ι1,τ,h1,S.mono g1,hr1,g8 o1 λlo h2 ι2 H2 lv g2 r2 hr2 o2=>?_⟩;refine ⟨ι2,τ,h2,(S.mono g1).mono g2,hr2,g8 o2 λhi h3 ι3 H3 hv g3 r3 hr3 o3=>?_⟩
 cases r2;cases r3
 exact apm ((r1.mono g2).mono g3) hr3 o3
end MI
namespace TPM
open PySem PySem.Spec PySem.W L2 HT MI
theorem a1j:fillsNumberSlot (.type "tuple") "mul" = pure false :=
 fillsNumberSlot_seq (id := "tuple.__mul__") (r:=some (.builtin "tuple.__rmul__")) F.slot_tuple_mul.lookup (by decide +kernel) F.slot_tuple_rmul.lookup (by decide +kernel)
theorem ah9(t:Addr)(items:Array Value)(n:Nat)(dd:Option Addr)(sl:Array (Option Value))(x:Int)(u:Tok)(h0:items.isEmpty=false)(h2:2<=x)(h3:x<2 ^ 63)(hz:items.size*x.toNat<=sizeLine) :
  Meets (Builtin.«tuple.__mul__» ⟨[.ref t, .int x u],[]⟩) (λ_ R s=>s.heap.get? t=some { cls:=.type "tuple",dict:=dd,data:=.seq items n,slots:=sl }/\R (.ok (.ret (.ref s.heap.objs.size))) { s with heap:=s.heap.push { cls:=.type "tuple",data:=.seq (List.foldl (λx1 x2=>x1++x2) #[] (List.replicate x.toNat items)) } }) :=
 .of_wp λprog w A R s h=>by
  obtain ⟨hp,g,d,tk,os⟩:=s;obtain ⟨hl,h⟩:=h;have c1:¬ (decide (x < -2 ^ 63) || decide (x≥2 ^ 63))=true:=by
   rw [Bool.or_eq_true,decide_eq_true_eq,decide_eq_true_eq];omega
  have c2:¬ (items.isEmpty || x == 1)=true:=by
   rw [h0,Bool.false_or];simp;omega
  have c3:¬ (decide (x<=0) || items.isEmpty)=true:=by
   rw [h0,Bool.or_false,decide_eq_true_eq];omega
  have ex:((items.size:Nat):Int)*x=((items.size*x.toNat:Nat):Int):=by
   rw [Int.natCast_mul,Int.toNat_of_nonneg (by omega)]
  have sl':(sizeLine:Nat)<=(2 ^ 63 - 1) / 8:=by decide
  have c4:¬ (items.size:Int)*x > (2 ^ 63 - 1) / 8:=by rw [ex];omega
  have c5:¬ Builtin.Tuple.tupleTooMany ((items.size:Int)*x)=true:=by
   rw [ex];simp only [Builtin.Tuple.tupleTooMany,decide_eq_true_eq];omega
  wp_walk
  rw [if_neg c1]
  wp_walk
  rw [if_neg c2]
  wp_walk
  rw [if_neg c3]
  wp_walk
  rw [if_neg c4]
  wp_walk
  rw [if_neg c5]
  wp_walk
  have fs:¬ (List.foldl (λx1 x2=>x1++x2) #[] (List.replicate x.toNat items)).size > sizeLine:=by
   have:=foldl_rep items.toList x.toNat []
   rw [List.nil_append,Array.toArray_toList] at this;rw [show (#[]:Array Value)=([]:List Value).toArray from rfl,this,List.size_toArray,len_rep,Array.length_toList,Nat.mul_comm]
   omega
  rw [if_neg fs]
  wp_walk
  exact ⟨_,rfl,h⟩
theorem a5f(a:Int)(t:Tok)(l:Addr)(items:Array Value)(n:Nat)(dd:Option Addr)(sl:Array (Option Value)) :
  Meets (Builtin.«int.__rmul__» ⟨[.int a t, .ref l],[]⟩) (λ_ R s=>s.heap.get? l=some { cls:=.type "tuple",dict:=dd,data:=.seq items n,slots:=sl }/\R (.ok (.ret Value.notImplemented)) s):=by
 refine .of_wp λprog w A R s h=>?_;obtain ⟨hp,g,d,tk,os⟩:=s;obtain ⟨hl,h⟩:=h
 wp_walk
 exact ⟨_,rfl,h⟩
theorem aaa:seqRepeat? (.type "tuple")=pure (some (.builtin "tuple.__mul__")):=by
 unfold seqRepeat?;rw [seqSlot_of (T := "tuple") (name := "__mul__") (id := "tuple.__mul__") F.slot_tuple_mul.lookup (by decide +kernel),seqSlot_of (T := "tuple") (name := "__rmul__") (id := "tuple.__rmul__") F.slot_tuple_rmul.lookup (by decide +kernel)]
 rfl
def akf(K:PySem.W.Frag):R2:=λx y H Q=>∃ a k xs,x = .ref a/\y = .int k/\SqT K H a xs/\xs≠[]/\2<=k/\k<2 ^ 63/\xs.length*k.toNat<=sizeLine/\∀ p,H p=none->Q (.ref p) (upd H p (.tup (List.replicate k.toNat xs).flatten))
theorem apn{X:Cx}:OpR X (binaryOp .Mult) (akf X.K):=by
 intro pins s σ H x y v u Q I rx ry h
 obtain ⟨a,k,xs,rfl,rfl,ha,hx,h1,h2,hz,q⟩:=h;cases rx
 obtain ⟨t,rfl⟩:=ry;obtain ⟨its,r1,p1,_⟩:=I.tuple ha;obtain ⟨⟨cls,dd,data,sl⟩,ho,hc,n,hd⟩:=id p1;simp only at hc hd;subst hc hd;have he:its.toArray.isEmpty=false:=by
  cases its with
  | nil=>exact (hx (r1.nil_iff.mp rfl)).elim
  | cons _ _=>rfl
 have hz2:its.toArray.size*k.toNat<=sizeLine:=by rw [List.size_toArray,<-r1.length];exact hz
 have hnew:List.foldl (λx1 x2=>x1++x2) #[] (List.replicate k.toNat its.toArray)=(List.replicate k.toNat its).flatten.toArray:=by
  have:=foldl_rep its k.toNat []
  rw [List.nil_append] at this;exact this
 refine wpAny_binaryOp_repeat_ref (T := "tuple") (U := "int") (by decide) ⟨_,ho,rfl⟩ (λs'=>typeIs_int s' k t) a1j F.fills_int_mul F.slot_int_rmul aaa F.slot_int_index.lookup
  (call_meets F.slot_int_rmul (typeIs_int s k t) F.entry_int_rmul (F.args_int_rmul_2 _ _) (a5f k t a its.toArray n dd sl)
   ⟨ho,rfl,⟨_,ho,rfl⟩,call_meets F.slot_tuple_mul ⟨_,ho,rfl⟩ F.entry_tuple_mul (F.args_tuple_mul_2 _ _) (ah9 a its.toArray n dd sl k t he h1 h2 hz2) ⟨ho,?_⟩⟩)
 rw [hnew];refine ⟨.ref s.heap.objs.size,_,I.laid (t':=s.toks) (o:=.tup (List.replicate k.toNat xs).flatten) (λb ob q=>Heap.get?_push_of_some _ q) (Nat.le_refl _) ?_,rfl,q _ (I.hok.fresh (Nat.le_refl _))⟩;exact ⟨by rw [len_rep,Nat.mul_comm];exact hz,_,r1.rep k.toNat,PyProof.Rows.IsTup.new _ _⟩
end TPM
namespace MI
open PySem PySem.Spec L2 TPM
open Classical in
noncomputable def akg(x y:D)(h:Hd):R D:=match x,y with
 | .tup xs, .int k=>if (xs≠[]/\2<=k/\k<2 ^ 63)/\xs.length*k.toNat<=LINE then .ok (.tup (List.replicate k.toNat xs).flatten) h else .no
 | x,y=>atj x y h
theorem a8a{K:PySem.W.Frag}:a2f K akg (λx y H Q=>(rI CMul (λi j=>.int (i*j)) x y H Q\/asv x y H Q)\/akf K x y H Q):=by
 intro E ι H h x y dx dy Q rx ry hr o
 cases rx with
 | @tup a vs xs ha rs =>
  cases ry with
  | int k =>
   simp only [akg] at o
   split at o
   ·rename_i hc;refine .inr ⟨a,k,vs,rfl,rfl,SqT.of ha,λz=>?_,hc.1.2.1,hc.1.2.2,ll (by rw [rs.len];exact hc.2),a1r (rs.flat _) hr o⟩
    subst z;cases rs
    exact hc.1.1 rfl
   ·exact o.elim
  | _=>exact o.elim
 | int i=>exact .inl (ago _ _ _ _ _ _ _ _ _ (.int i) ry hr o)
 | ref e=>exact .inl (ago _ _ _ _ _ _ _ _ _ (.ref e) ry hr o)
 | _=>exact o.elim
end MI
namespace L2
open PySem PySem.Spec PyProof.Rows
theorem akh{X:Cx}:ay4 X (avx X.K):=by
 intro pins s σ H o i ov iv Q I ro ri h
 obtain ⟨p,xs,k,z,rfl,rfl,hq,he,q⟩:=h;cases ro
 obtain ⟨t,rfl⟩:=ri;obtain ⟨its,r,pl,hz⟩:=I.list hq;obtain ⟨j,h1,h2,h3,h4,h5⟩:=a7s he;obtain ⟨w,ew,rw'⟩:=r.get h2;have len:=r.length;have l63:=a5a;have done:EP X pins σ Q w s:=⟨z,H,I,rw',q⟩
 by_cases neg:k<0
 ·have ej:(k+(its.toArray.size:Int)).toNat=j:=by
   rw [seqIndex_neg neg h4] at h1;rw [List.size_toArray,<-len];exact Option.some.inj h1
  exact wpAny_getItem_list_neg pl.isList neg (by rw [List.size_toArray];omega) (by omega) (by rw [ej];simpa using ew) done
 ·have ej:k.toNat=j:=by
   rw [seqIndex_of (by omega) h5] at h1
   exact Option.some.inj h1
  exact wpAny_getItem_list pl.isList (by omega) (by omega) (by rw [ej];simpa using ew) done
end L2
namespace MI
open PySem PySem.Spec L2
def aja(x y:D)(h:Hd):R D:=match x,y with
 | .ref p, .int i=>(match h[p]? with | some (.lst xs)=>(match atI xs i with | some d=>.ok d h | none=>.no) | _=>.no)
 | _,_=>.no
theorem apo{K:PySem.W.Frag}:a2f K aja (avx K):=by
 intro E ι H h x y dx dy Q rx ry hr o
 cases rx with
 | @ref p i hp =>
  cases ry with
  | int k =>
   simp only [aja] at o
   split at o
   ·rename_i xs hx;obtain ⟨vs,h3,h4⟩:=hr.lst hp hx
    split at o
    ·rename_i d he;obtain ⟨v,h1,h2⟩:=acw h4 he;exact ⟨p,vs,k,v,rfl,rfl,SqL.of h3,h1,ans o h2 hr⟩
    ·exact o.elim
   ·exact o.elim
  | _=>exact o.elim
 | _=>exact o.elim
def a2u(g:D->D->Hd->R D)(fo fi fe:SE):SS:=λτ h=>(fo τ h).fl λo h1=>(fi τ h1).fl λi h2=>(aja o i h2).fl λx h3=>(fe τ h3).fl λy h4=>(g x y h4).fl λz h5=>match put o i z h5 with | some h6=>.nx τ h6 | none=>.no
section
variable{X:Cx}{E:XD}{e o i:Expr}{fa fb fc:SE}{pos:Pos}
theorem abn{op:Operator}{r:R2}{gg:D->D->Hd->R D}{tpos:Pos}(ho:ME X E o fa)(hi:ME X E i fb)(he:ME X E e fc)(hp:OpR X (inplaceOp op) r)(hs:a2f X.K gg r)
  (ha:∀ ov iv new,augStore i ov iv new=(do holding [new,ov,iv] (setItem ov iv new);release [new,ov,iv] [];pure .next):=by intros;rfl):MS X E (.AugAssign (.Subscript o i tpos) op e pos) (a2u gg fa fb fc):=by
 refine PS.weak (ao8 ho hi akh he hp set_list ha) λN σ H ⟨ι,τ,h,S,Rh,oo⟩=>?_;refine ⟨ι,τ,h,S,Rh,qy oo λd h1 ι1 H1 v g1 r1 hr1 o1=>?_⟩;refine ⟨ι1,τ,h1,S.mono g1,hr1,qy o1 λd2 h2 ι2 H2 u g2 r2 hr2 o2=>?_⟩;refine apo E ι2 H2 h2 v u d d2 _ (r1.mono g2) r2 hr2 (qy o2 λd3 h3 ι3 H3 w g3 r3 hr3 o3=>?_);have S3:=((S.mono g1).mono g2).mono g3;refine ⟨ι3,τ,h3,S3,hr3,qy o3 λd4 h4 ι4 H4 y g4 r4 hr4 o4=>?_⟩;refine hs E ι4 H4 h4 w y d3 d4 _ (r3.mono g4) r4 hr4 (qy o4 λd5 h5 ι5 H5 z g5 r5 hr5 o5=>?_)
 cases hq:put d d2 d5 h5 with
 | none=>rw [hq] at o5;exact o5.elim
 | some h6 =>
  rw [hq] at o5;exact agk ((((r1.mono g2).mono g3).mono g4).mono g5) (((r2.mono g3).mono g4).mono g5) r5 hr5 hq λH' g6 hr6=>o5 ι5 H' σ g6 (((S3.mono g4).mono g5).mono g6) hr6
end
end MI
namespace TPM
open PySem PySem.Spec PySem.W L2 HT MI
theorem aem(t b:Addr)(items2:Array Value)(n n2:Nat)(dd dd2:Option Addr)(sl sl2:Array (Option Value)) :
  Meets (Builtin.«tuple.__add__» ⟨[.ref t, .ref b],[]⟩) (λ_ R s=>s.heap.get? t=some { cls:=.type "tuple",dict:=dd,data:=.seq #[] n,slots:=sl }/\s.heap.get? b=some { cls:=.type "tuple",dict:=dd2,data:=.seq items2 n2,slots:=sl2 }/\R (.ok (.ret (.ref b))) s):=by
 refine .of_wp λprog w A R s h=>?_;obtain ⟨hp,g,d,tk,os⟩:=s;obtain ⟨hl,hb,h⟩:=h
 wp_walk
 refine wpAny_of_eq sub_tuple_self ?_
 wp_walk
 exact ⟨_,rfl,h⟩
def au0(K:PySem.W.Frag):R2:=λx y H Q=>∃ a b ys,x = .ref a/\y = .ref b/\SqT K H a []/\SqT K H b ys/\Q (.ref b) H
theorem apq{X:Cx}:OpR X (binaryOp .Add) (au0 X.K):=by
 intro pins s σ H x y v u Q I rx ry h
 obtain ⟨a,b,ys,rfl,rfl,ha,hb,q⟩:=h;cases rx
 cases ry
 obtain ⟨its,r1,p1,_⟩:=I.tuple ha;obtain ⟨its2,r2,p2,_⟩:=I.tuple hb;cases r1
 obtain ⟨⟨cls,dd,data,sl⟩,ho,hc,n,hd⟩:=id p1;obtain ⟨⟨cls2,dd2,data2,sl2⟩,ho2,hc2,n2,hd2⟩:=id p2;simp only at hc hd hc2 hd2;subst hc hd hc2 hd2;exact concat_meets ⟨_,ho,rfl⟩ ⟨_,ho2,rfl⟩ noFill_tuple_add seq_tuple_add F.slot_tuple_add F.entry_tuple_add (F.args_tuple_add_2 _ _) (aem a b its2.toArray n n2 dd dd2 sl sl2) ⟨ho,ho2,⟨.ref b,H,I,rfl,q⟩⟩
end TPM
namespace MI
open PySem PySem.Spec L2 TPM
end MI
namespace TPM
open PySem PySem.Spec PySem.W L2 HT MI PyProof.Rows
end TPM
namespace MI
open PySem PySem.Spec L2 TPM
end MI
namespace L2
open PySem PySem.Spec PyProof.Rows
section
variable{X:Cx}
theorem Inv.lstR{pins:List (Addr × Obj)}{σ:St}{H:Hp}{s:Shared}{l:Addr}{xs:List V}(I:Inv X pins σ H s)(hH:Rd H l (.lst xs)):xs.length<=sizeLine/\∃ (its:List Value) (n:Nat),Vals xs its/\xs.length=its.length/\s.heap.get? l=some { cls:=.type "list",data:=.seq its.toArray n }:=by
 obtain ⟨z,its,n,r,e⟩:=hH.ok I.hok;exact ⟨z,its,n,r,r.length,e⟩
def apr:R2:=λx y H Q=>∃ l b xs zs,x = .ref l/\y = .ref b/\Rd H l (.lst xs)/\Rd H b (.lst zs)/\xs.length+zs.length<=sizeLine/\∀ p,H p=none->Q (.ref p) (upd H p (.lst (xs++zs)))
theorem aps:OpR X (binaryOp .Add) apr:=λpins s σ H x y v u Q I rx ry ⟨l,b,xs,zs,ex,ey,h1,h2,hz,q⟩=>by
 subst ex ey;cases rx
 cases ry
 obtain ⟨_,as,_,va,la,ea⟩:=I.lstR h1;obtain ⟨_,bs,_,vb,lb,eb⟩:=I.lstR h2;have app:as.toArray++bs.toArray=(as++bs).toArray:=by simp
 refine PySem.P.add_list ea eb ?_ (by simp;omega)
 rw [app];exact ⟨.ref _,_,I.lnew (t':=s.toks) (va.append vb) (by simpa using hz),rfl,q _ I.fresh⟩
def au1:R2:=λx y H Q=>∃ l k xs,x = .ref l/\y = .int k/\Rd H l (.lst xs) /\ -(2 ^ 63)<=k/\k<2 ^ 63/\xs.length*k.toNat<=sizeLine/\∀ p,H p=none->Q (.ref p) (upd H p (.lst (List.replicate k.toNat xs).flatten))
theorem apt(its:List Value)(k:Nat):List.foldl (λx1 x2=>x1++x2) #[] (List.replicate (if its.toArray.isEmpty=true then 0 else k) its.toArray)=(List.replicate k its).flatten.toArray:=by
 have g:∀ m:Nat,List.foldl (λx1 x2=>x1++x2) #[] (List.replicate m its.toArray)=(List.replicate m its).flatten.toArray:=λm=>by simpa using foldl_rep its m []
 cases its with
 | nil=>simp
 | cons a r=>rw [if_neg (by simp),g]
theorem apu:OpR X (binaryOp .Mult) au1:=λpins s σ H x y v u Q I rx ry ⟨l,k,xs,ex,ey,h1,k1,k2,hz,q⟩=>by
 subst ex ey;cases rx
 obtain ⟨t,rfl⟩:=ry;obtain ⟨_,as,n,va,la,ea⟩:=I.lstR h1;have few:as.toArray.size*k.toNat<=sizeLine:=by rw [List.size_toArray,<-la];exact hz
 have top:(sizeLine:Nat)<=(2 ^ 63 - 1) / 8:=by decide
 refine wpAny_binaryOp_repeat_ref (T := "list") (U := "int") (by decide) ⟨_,ea,rfl⟩ (λs'=>typeIs_int s' k t) noFill_list_mul F.fills_int_mul F.slot_int_rmul repeat_list F.slot_int_index.lookup
  (call_meets F.slot_int_rmul (typeIs_int s k t) F.entry_int_rmul (F.args_int_rmul_2 _ _) (int___rmul___int_list k t l as.toArray n)
   ⟨ea,rfl,⟨_,ea,rfl⟩,call_meets F.slot_list_mul ⟨_,ea,rfl⟩ F.entry_list_mul (F.args_list_mul_2 _ _)
    (AutoListH.list___mul___list_int_3 l as.toArray n k t (by rw [fitsIndex_both k1 k2];exact Bool.false_ne_true) (by omega) (by rw [acg few];exact Bool.false_ne_true)) ⟨ea,?_⟩⟩)
 rw [apt];exact ⟨.ref _,_,I.lnew (t':=s.toks) (va.rep k.toNat) (by rw [len_rep,Nat.mul_comm];exact hz),rfl,q _ I.fresh⟩
end
end L2
namespace MI
open PySem PySem.Spec L2 TPM
def v8(d:D)(h:Hd):Option (List D):=match d with
 | .rol xs=>some xs
 | .ref i=>(match h[i]? with | some (.lst xs)=>some xs | _=>none)
 | _=>none
section
variable{K:PySem.W.Frag}{ι:List Addr}{H:Hp}{h:Hd}
theorem a0k{x:V}{d:D}{xs:List D}(r:Rep K ι H x d)(hr:HRep K ι H h)(e:v8 d h=some xs):∃ a vs,x = .ref a/\Rd H a (.lst vs)/\Reps K ι H vs xs:=by
 cases r with
 | @rol a vs ys hp rs=>cases e;exact ⟨a,vs,rfl, .inr hp,rs⟩
 | @ref a i hp =>
  obtain ⟨ob,e1,e2⟩:=hr.at hp;simp only [v8,e1] at e
  cases ob with
  | lst ys=>cases e;obtain ⟨vs,h3,h4⟩:=e2;exact ⟨a,vs,rfl, .inl h3,h4⟩
  | _=>cases e
 | _=>cases e
def j6:D->D->Hd->R D
 | .int i, .int j,h=>.ok (.int (i+j)) h
 | .str x, .str y,h=>if x.length+y.length<=LINE then .ok (.str (x++y)) h else .no
 | .tup [], .tup ys,h=>.ok (.tup ys) h
 | .tup (x::xs), .tup ys,h=>if (x::xs).length+ys.length<=LINE then .ok (.tup (x::xs++ys)) h else .no
 | x,y,h=>match v8 x h,v8 y h with
  | some xs,some ys=>if xs.length+ys.length<=LINE then .ok (.ref h.length) (h++[.lst (xs++ys)]) else .no
  | _,_=>.no
theorem aha{x y:D}{xs ys:List D}(e1:v8 x h=some xs)(e2:v8 y h=some ys):j6 x y h=if xs.length+ys.length<=LINE then .ok (.ref h.length) (h++[.lst (xs++ys)]) else .no:=by
 cases x<;>first | (cases e1;done) | (cases y<;>first | (cases e2;done) | (simp only [j6,e1,e2]))
theorem aki:a2f K j6 (λx y H Q=>(rI0 (λi j=>.int (i+j)) x y H Q\/(∃ i j,x = .str i/\y = .str j/\i.length+j.length<=sizeLine/\Q (.str (i++j)) H)\/asq K x y H Q\/apr x y H Q)\/au0 K x y H Q):=by
 intro E ι H h x y dx dy Q rx ry hr o
 have lists:∀ xs ys,v8 dx h=some xs->v8 dy h=some ys->apr x y H Q:=λxs ys e1 e2=>by
  rw [aha e1 e2] at o;obtain ⟨a,vs,rfl,h1,h2⟩:=a0k rx hr e1;obtain ⟨b,us,rfl,h3,h4⟩:=a0k ry hr e2
  split at o
  ·rename_i hc;exact ⟨a,b,vs,us,rfl,rfl,h1,h3,ll (by rw [h2.len,h4.len];exact hc),um (h2.app h4) hr o⟩
  ·exact o.elim
 cases hx:v8 dx h with
 | some xs =>
  cases hy:v8 dy h with
  | some ys=>exact .inl (.inr (.inr (.inr (lists xs ys hx hy))))
  | none =>
   exfalso
   cases rx<;>first | (cases hx;done) | (cases ry<;>first | (simp only [j6,hx,hy] at o;exact o) | (simp only [j6] at o;exact o))
 | none =>
  cases rx with
  | int i =>
   cases ry with
   | int j=>exact .inl (.inl ⟨i,j,rfl,rfl,ans o (.int _) hr⟩)
   | _=>exact o.elim
  | str i =>
   cases ry with
   | str j =>
    simp only [j6] at o
    split at o
    ·rename_i hc;exact .inl (.inr (.inl ⟨i,j,rfl,rfl,ll hc,ans o (.str _) hr⟩))
    ·exact o.elim
   | _=>exact o.elim
  | @tup a vs xs ha r1 =>
   cases ry with
   | @tup b us ys hb r2 =>
    cases xs with
    | nil=>cases r1;exact .inr ⟨a,b,us,rfl,rfl,SqT.of ha,SqT.of hb,ans o (.tup hb r2) hr⟩
    | cons z xs =>
     simp only [j6] at o
     split at o
     ·rename_i hc;refine .inl (.inr (.inr (.inl ⟨a,b,vs,us,rfl,rfl,SqT.of ha,SqT.of hb,λz=>(by subst z;cases r1),ll (by rw [r1.len,r2.len];exact hc),λz=>?_,λ_=>?_⟩)))
      ·subst z;cases r2
       rw [List.append_nil] at o;exact ans o (.tup ha r1) hr
      ·exact a1r (r1.app r2) hr o
     ·exact o.elim
   | _=>cases xs<;>exact o.elim
  | rol _ _=>cases hx
  | ref _=>cases ry<;>(simp only [j6,hx] at o;exact o.elim)
  | _=>cases ry<;>exact o.elim
theorem jc{X:Cx}{E:XD}{a b:Expr}{fa fb:SE}{pos:Pos}(ha:ME X E a fa)(hb:ME X E b fb):ME X E (.BinOp a .Add b pos) (s2 j6 fa fb) :=
 abh (OpR.or (asa.or (ae6.or (aoi.or aps))) apq) aki ha hb
open Classical in
noncomputable def xr:D->D->Hd->R D
 | .int i, .int j,h=>if CMul i j then .ok (.int (i*j)) h else .no
 | x, .int k,h=>match v8 x h with
  | some xs=>if (-(2 ^ 63)<=k/\k<2 ^ 63)/\xs.length*k.toNat<=LINE then .ok (.ref h.length) (h++[.lst (List.replicate k.toNat xs).flatten]) else .no
  | none=>.no
 | _,_,_=>.no
theorem akj:a2f K xr (λx y H Q=>rI CMul (λi j=>.int (i*j)) x y H Q\/au1 x y H Q):=by
 intro E ι H h x y dx dy Q rx ry hr o
 cases ry with
 | int k =>
  cases hx:v8 dx h with
  | some xs =>
   obtain ⟨a,vs,rfl,h1,h2⟩:=a0k rx hr hx;have o':out K E (a0a K) ι H (if (-(2 ^ 63)<=k/\k<2 ^ 63)/\xs.length*k.toNat<=LINE then .ok (.ref h.length) (h++[.lst (List.replicate k.toNat xs).flatten]) else .no) Q:=by
    cases dx<;>first | (cases hx;done) | (simp only [xr,hx] at o;exact o)
   split at o'
   ·rename_i hc;exact .inr ⟨a,k,vs,rfl,rfl,h1,hc.1.1,hc.1.2,ll (by rw [h2.len];exact hc.2),um (h2.flat _) hr o'⟩
   ·exact o'.elim
  | none =>
   cases rx with
   | int i =>
    by_cases hc:CMul i k
    ·simp only [xr,if_pos hc] at o;exact .inl ⟨i,k,rfl,rfl,hc,ans o (.int _) hr⟩
    ·simp only [xr,if_neg hc] at o;exact o.elim
   | _=>simp only [xr,hx] at o;exact o.elim
 | _=>cases rx<;>exact o.elim
theorem a4x{X:Cx}{E:XD}{a b:Expr}{fa fb:SE}{pos:Pos}(ha:ME X E a fa)(hb:ME X E b fb):ME X E (.BinOp a .Mult b pos) (s2 xr fa fb):=abh (am6.or apu) akj ha hb
end
end MI
namespace MI
open PySem PySem.Spec L2
def a7d(d:D)(h:Hd):Option (List Int):=match d with
 | .ref i=>(match h[i]? with | some (.lst xs)=>a86 xs | _=>none)
 | .rol xs=>a86 xs
 | _=>none
theorem aab{K:PySem.W.Frag}{ι:List Addr}{H:Hp}{h:Hd}{v:V}{d:D}{ns:List Int}(r:Rep K ι H v d)(hr:HRep K ι H h)(e:a7d d h=some ns):∃ p,v = .ref p/\SqL K H p (ns.map V.int):=by
 unfold a7d at e
 split at e
 ·cases r with
  | @ref p _ hp =>
   split at e
   ·rename_i xs hx;obtain ⟨vs,h3,h4⟩:=hr.lst hp hx;exact ⟨p,rfl,SqL.of (by rw [h3,a3x h4 e])⟩
   ·cases e
 ·cases r with
  | @rol p vs xs hp r=>exact ⟨p,rfl,by rw [<-a3x r e];exact hp.l⟩
 ·cases e
end MI
namespace L2
open PySem PySem.Spec PyProof.Rows
section
variable{X:Cx}
theorem a8b:CallR X (.builtin "sorted") (λxs H Q=>∃ (p:Addr) (ns:List Int),xs=[.ref p]/\SqL X.K H p (ns.map V.int)/\ns.length<64/\∀ l,H l=none->Q (.ref l) (upd H l (.lst ((PySem.W.sortI ns).map V.int)))):=by
 intro pins s σ H xs us Q I r ⟨p,ns,e,hq,h64,q⟩
 subst e;obtain ⟨u,rfl,ru⟩:=vals1 r;cases ru
 obtain ⟨its,r',pl,hz⟩:=I.list hq;have hI:IntsAre its ns:=intsAre_of r';have hl:its.length=ns.length:=by have:=r'.length;simp at this;omega
 refine sorted_ints pl.isList hI (by omega) λout ns' a1 a2 a3=>?_
 obtain ⟨e,he⟩:=sortedAll_at s.heap its out;have e2:ns'=PySem.W.sortI ns:=PySem.W.eq_sortI a2 a3;subst e2;have ln:(PySem.W.sortI ns).length=ns.length:=(PySem.W.sortI_perm ns).length_eq;refine ⟨.ref (s.heap.objs.size+1),_,I.laid (t':=s.toks) (λ_ _=>sortedAll_old) (Nat.le_succ _) (show ObjOk X.prog X.w _ _ _ (.lst ((PySem.W.sortI ns).map V.int)) from ⟨by rw [List.length_map,ln];have:=sizeLine_eq;omega,out.toList,e,a66 a1,by simpa [seqObj] using he⟩),rfl,q _ (I.hok.fresh (Nat.le_succ _))⟩
end
end L2
namespace MI
open PySem PySem.Spec L2
def a3k:List D->Hd->R D
 | [d],h=>(match a7d d h with | some ns=>if ns.length<64 then .ok (.ref h.length) (h++[.lst ((PySem.W.sortI ns).map D.int)]) else .no | none=>.no)
 | _,_=>.no
theorem a7e{K:PySem.W.Frag}{ι:List Addr}{H:Hp}:∀ ns:List Int,Reps K ι H (ns.map V.int) (ns.map D.int)
 | []=>.nil
 | n::ns=>.cons (.int n) (a7e ns)
theorem aen{K:PySem.W.Frag}:aef K a3k (λxs H Q=>∃ (p:Addr) (ns:List Int),xs=[.ref p]/\SqL K H p (ns.map V.int)/\ns.length<64/\∀ l,H l=none->Q (.ref l) (upd H l (.lst ((PySem.W.sortI ns).map V.int)))):=by
 intro E ι H h xs ds Q r hr o
 unfold a3k at o
 split at o
 ·cases r with
  | cons r rs =>
   cases rs
   split at o
   ·rename_i ns e
    split at o
    ·rename_i hl;obtain ⟨p,rfl,q⟩:=aab r hr e;exact ⟨p,ns,rfl,q,hl,um (a7e _) hr o⟩
    ·exact o.elim
   ·exact o.elim
 ·exact o.elim
end MI
namespace L2
open PySem PySem.Spec PyProof.Rows
def ixI(n:Int):List Int->Option Nat
 | []=>none
 | a::l=>if a=n then some 0 else (ixI n l).map (·+1)
theorem ad8{n:Int}:∀ {l:List Int} {j:Nat},ixI n l=some j->l[j]? = some n/\∀ i,i<j->l[i]?≠some n
 | [],_,h=>by cases h
 | a::l,j,h=>by
  unfold ixI at h
  split at h
  ·rename_i e;cases h
   exact ⟨by rw [e];rfl,λi hi=>absurd hi (Nat.not_lt_zero i)⟩
  ·rename_i e;obtain ⟨k,hk,rfl⟩:=Option.map_eq_some_iff.mp h;obtain ⟨h1,h2⟩:=ad8 hk;refine ⟨h1,λi hi=>?_⟩
   cases i with
   | zero=>intro z;exact e (Option.some.inj z)
   | succ i=>exact h2 i (Nat.lt_of_succ_lt_succ hi)
theorem ad9{n:Int}:∀ {l:List Int},n∈l->∃ j,ixI n l=some j
 | [],h=>by cases h
 | a::l,h=>by
  unfold ixI
  split
  ·exact ⟨0,rfl⟩
  ·rename_i e
   rcases List.mem_cons.mp h with h | h
   ·exact absurd h.symm e
   ·obtain ⟨j,hj⟩:=ad9 h;exact ⟨j+1,by rw [hj];rfl⟩
def eqI(n:Int):Value->Bool
 | .int a _=>a == n
 | _=>false
def ahb(K:PySem.W.Frag):V->List V->Hp->VK->Prop:=λx vs H Q=>∃ (l:Addr) (ns:List Int) (n:Int) (j:Nat),x = .ref l/\vs=[.int n]/\SqL K H l (ns.map V.int)/\ixI n ns=some j/\Q (.int (j:Nat)) H
theorem ahc{X:Cx}:MtR X "list.index" (ahb X.K):=by
 intro pins s σ H x vs v us Q I rx rv h
 obtain ⟨l,ns,n,j,rfl,rfl,hq,hj,q⟩:=h;cases rx
 obtain ⟨u,rfl,ru⟩:=rv.one;obtain ⟨t,rfl⟩:=ru;obtain ⟨its,r,⟨⟨cls,dict,data,slots⟩,m,e1,e2,e3,e4⟩,hz⟩:=I.list hq;have e2:cls = .type "list":=e2;have e3:dict=none:=e3;have e4:data = .seq its.toArray m:=e4;subst e2 e3 e4;have hl:its.length=ns.length:=by have:=r.length;simp at this;omega
 have each:∀ i (h:i<its.length),∃ a t,its[i] = .int a t/\ns[i]? = some a:=λi h=>by
  obtain ⟨y,h1,h2⟩:=r.get (show (ns.map V.int)[i]? = some (V.int (ns[i]'(by omega))) by rw [List.getElem?_map,List.getElem?_eq_getElem (by omega)];rfl)
  obtain ⟨t,rfl⟩:=h2;exact ⟨_,t,(List.getElem?_eq_some_iff.mp h1).2,List.getElem?_eq_getElem _⟩
 obtain ⟨p1,p2⟩:=ad8 hj;have jl:j<ns.length:=(List.getElem?_eq_some_iff.mp p1).1;rw [List.length_map] at hz;rw [sizeLine_eq] at hz;refine call_meets F.slot_list_index ⟨_,e1,rfl⟩ F.entry_list_index (F.args_list_index_2 _ _)
  (SeqAt.list_indexAt l its.toArray m none slots (.int n t) (eqI n) j (by simp;omega) (by omega) ?_ ?_) ⟨e1,λy hy=>?_, .int (j:Nat),H,I.tok _,⟨_,rfl⟩,q⟩
 ·obtain ⟨a,t,h1,h2⟩:=each j (by omega)
  rw [p1] at h2;cases h2
  rw [List.getElem_toArray,h1];exact beq_self_eq_true _
 ·intro i hi hij
  obtain ⟨a,t,h1,h2⟩:=each i (by simpa using hi)
  rw [List.getElem_toArray,h1];exact beq_eq_false_iff_ne.mpr λz=>p2 i hij (by rw [h2,z])
 ·obtain ⟨i,hi,rfl⟩:=List.getElem_of_mem (List.mem_toArray.mp hy);obtain ⟨a,t',h1,_⟩:=each i hi;rw [h1];exact SeqAt.EqAt.int_int a t' n t
end L2
namespace MI
open PySem PySem.Spec L2
def a6h(d:D)(ds:List D)(h:Hd):R D:=match a7d d h,ds with
 | some ns,[.int n]=>(match ixI n ns with | some j=>.ok (.int (j:Nat)) h | none=>.no)
 | _,_=>.no
theorem aeo{K:PySem.W.Frag}:apc K a6h (ahb K):=by
 intro E ι H h x dx xs ds Q rx r hr o
 unfold a6h at o
 split at o
 ·rename_i ns n e
  cases r with
  | cons r rs =>
   cases r;cases rs
   split at o
   ·rename_i j hj;obtain ⟨p,rfl,q⟩:=aab rx hr e;exact ⟨p,ns,n,j,rfl,rfl,q,hj,ans o (.int _) hr⟩
   ·exact o.elim
 ·exact o.elim
def ajb:D->Option Key
 | .int i=>some (.inl i)
 | .str x=>some (.inr x)
 | _=>none
def ara:D->Option (List Key)
 | .tup xs=>a0i ajb xs
 | _=>none
def a3l{κ:Type}[DecidableEq κ](kvs:List (κ × D))(k:κ):Option D:=(kvs.find? λkv=>decide (kv.1=k)).map (·.2)
def putD{κ:Type}[DecidableEq κ](kvs:List (κ × D))(k:κ)(d:D):List (κ × D):=if (kvs.any λkv=>decide (kv.1=k))=true then kvs.map λkv=>if kv.1=k then (kv.1,d) else kv else kvs++[(k,d)]
section
variable{K:PySem.W.Frag}{ι:List Addr}{H:Hp}{h:Hd}
theorem a8c{v:V}{d:D}{k:Key}(r:Rep K ι H v d)(e:ajb d=some k):v=kV k:=by
 cases r with
 | int i=>cases e;rfl
 | str x=>cases e;rfl
 | _=>cases e
theorem ada:∀ {vs:List V} {ds:List D} {ks:List Key},Reps K ι H vs ds->a0i ajb ds=some ks->vs=ks.map kV
 | _,_,_, .nil,e=>by cases e;rfl
 | _,d::ds,_, .cons r rs,e=>by
  unfold a0i at e
  split at e
  ·rename_i y ys h1 h2;cases e
   rw [a8c r h1,ada rs h2];rfl
  ·cases e
theorem ahd{v:V}{d:D}{ks:List Key}(r:Rep K ι H v d)(e:ara d=some ks):∃ b,v = .ref b/\H b=some (.tup (ks.map kV)):=by
 cases r with
 | @tup a vs xs hp rs=>exact ⟨a,rfl,by rw [<-ada rs e];exact hp⟩
 | _=>cases e
theorem a8d{κ:Type}[DecidableEq κ](k:κ):∀ {us:List (κ × V)} {kvs:List (κ × D)},KRep K ι H us kvs->match a3l kvs k with | some d=>∃ v,ach us k=some v/\Rep K ι H v d | none=>ach us k=none
 | [],[],_=>rfl
 | [],_::_,r=>by have:=congrArg List.length r.1;simp at this
 | _::_,[],r=>by have:=congrArg List.length r.1;simp at this
 | (a,v)::us,(b,d)::kvs,r=>by
  obtain ⟨e,rs⟩:=r;simp only [List.map_cons,List.cons.injEq] at e;obtain ⟨e1,e2⟩:=e;subst e1
  cases rs with
  | cons r1 rs =>
   by_cases hk:a=k
   ·simp only [a3l,ach,List.find?_cons,hk,decide_true,Option.map_some];exact ⟨v,rfl,r1⟩
   ·have ih:=a8d k (us:=us) (kvs:=kvs) ⟨e2,rs⟩;simp only [a3l,ach,List.find?_cons,hk,decide_false] at ih ⊢;exact ih
theorem adb{κ:Type}[DecidableEq κ]{us:List (κ × V)}{kvs:List (κ × D)}(k:κ){v:V}{d:D}(r:KRep K ι H us kvs)(rv:Rep K ι H v d):KRep K ι H (putK us k v) (putD kvs k d):=by
 have anyEq:∀ {us:List (κ × V)} {kvs:List (κ × D)},us.map (·.1)=kvs.map (·.1)->(us.any λkv=>decide (kv.1=k))=(kvs.any λkv=>decide (kv.1=k)):=λ{us kvs} e=>by
  have h1:(us.any λkv=>decide (kv.1=k))=(us.map (·.1)).any λa=>decide (a=k):=by rw [List.any_map];rfl
  have h2:(kvs.any λkv=>decide (kv.1=k))=(kvs.map (·.1)).any λa=>decide (a=k):=by rw [List.any_map];rfl
  rw [h1,h2,e]
 have rmap:∀ {us:List (κ × V)} {kvs:List (κ × D)},KRep K ι H us kvs->KRep K ι H (us.map λkv=>if kv.1=k then (kv.1,v) else kv) (kvs.map λkv=>if kv.1=k then (kv.1,d) else kv):=λ{us}=>by
  induction us with
  | nil=>intro kvs r;cases kvs with
   | nil=>exact ⟨rfl, .nil⟩
   | cons _ _=>have:=congrArg List.length r.1;simp at this
  | cons a us ih=>intro kvs r;cases kvs with
   | nil=>have:=congrArg List.length r.1;simp at this
   | cons b kvs =>
    obtain ⟨e,rs⟩:=r;simp only [List.map_cons,List.cons.injEq] at e;obtain ⟨e1,e2⟩:=e
    cases rs with
    | cons r1 rs =>
     obtain ⟨i1,i2⟩:=ih ⟨e2,rs⟩;obtain ⟨a1,a2⟩:=a;obtain ⟨b1,b2⟩:=b;simp only at e1;subst e1
     by_cases hk:a1=k
     ·simp only [List.map_cons,hk,if_true];exact ⟨by simp only [List.map_cons,i1], .cons rv i2⟩
     ·simp only [List.map_cons,hk,if_false];exact ⟨by simp only [List.map_cons,i1], .cons r1 i2⟩
 have ae:=anyEq r.1;unfold putK putD;rw [ae]
 split
 ·exact rmap r
 ·exact ⟨by simp [r.1],by simpa using r.2.snoc rv⟩
def amt(x y:D)(h:Hd):Option (Option D):=match x with
 | .ref i=>(match h[i]? with
  | some (.dK kvs)=>(ajb y).map λk=>a3l kvs k
  | some (.dT kvs)=>(ara y).map λk=>a3l kvs k
  | _=>none)
 | .rod ks xs=>(ajb y).map λk=>a3l (ks.zip xs) k
 | .rdT ks xs=>(ara y).map λk=>a3l (ks.zip xs) k
 | _=>none
def axh(K:PySem.W.Frag)(ι:List Addr)(H:Hp)(a:Addr)(y:V):Option D->Prop
 | some d=>∃ v,ag8 H a y (some v)/\Rep K ι H v d
 | none=>ag8 H a y none
theorem ahe{κ:Type}{us:List (κ × V)}{ks:List κ}{xs:List D}(e:us.map (·.1)=ks)(r:Reps K ι H (us.map (·.2)) xs):KRep K ι H us (ks.zip xs):=a89 e r
theorem a8e{x y:V}{dx dy:D}{r:Option D}(rx:Rep K ι H x dx)(ry:Rep K ι H y dy)(hr:HRep K ι H h)(e:amt dx dy h=some r):∃ a,x = .ref a/\axh K ι H a y r:=by
 have goK:∀ {a:Addr} {us:List (Key × V)} {kvs:List (Key × D)},Rd H a (.dK us)->KRep K ι H us kvs->(ajb dy).map (λk=>a3l kvs k)=some r->axh K ι H a y r:=λ{a us kvs} rd kr e=>by
  simp only [Option.map_eq_some_iff] at e;obtain ⟨k,ek,rfl⟩:=e;have ey:=a8c ry ek;have q:=a8d k kr
  cases hv:a3l kvs k with
  | none=>rw [hv] at q;exact .inl ⟨us,k,rd,ey,q.symm⟩
  | some d=>rw [hv] at q;obtain ⟨v,q1,q2⟩:=q;exact ⟨v, .inl ⟨us,k,rd,ey,q1.symm⟩,q2⟩
 have goT:∀ {a:Addr} {us:List (List Key × V)} {kvs:List (List Key × D)},Rd H a (.dT us)->KRep K ι H us kvs->(ara dy).map (λk=>a3l kvs k)=some r->axh K ι H a y r:=λ{a us kvs} rd kr e=>by
  simp only [Option.map_eq_some_iff] at e;obtain ⟨k,ek,rfl⟩:=e;obtain ⟨b,ey,eb⟩:=ahd ry ek;have q:=a8d k kr
  cases hv:a3l kvs k with
  | none=>rw [hv] at q;exact .inr ⟨us,k,b,rd,ey,eb,q.symm⟩
  | some d=>rw [hv] at q;obtain ⟨v,q1,q2⟩:=q;exact ⟨v, .inr ⟨us,k,b,rd,ey,eb,q1.symm⟩,q2⟩
 cases rx with
 | @ref a i ha =>
  obtain ⟨ob,e1,e2⟩:=hr.at ha;simp only [amt,e1] at e
  cases ob with
  | lst _=>cases e
  | dK kvs=>obtain ⟨us,h3,h4⟩:=e2;exact ⟨a,rfl,goK (.inl h3) h4 e⟩
  | dT kvs=>obtain ⟨us,h3,h4⟩:=e2;exact ⟨a,rfl,goT (.inl h3) h4 e⟩
 | @rod a o us ks xs hp ek rs=>exact ⟨a,rfl,goK (.inr ⟨o,hp⟩) (ahe ek rs) e⟩
 | @rdT a o us ks xs hp ek rs=>exact ⟨a,rfl,goT (.inr ⟨o,hp⟩) (ahe ek rs) e⟩
 | _=>cases e
def aac(x y:D)(h:Hd):R D:=match amt x y h with
 | some (some d)=>.ok d h
 | _=>.no
def aep(neg:Bool)(y x:D)(h:Hd):R D:=match amt x y h with
 | some r=>.ok (.bl (if neg then !r.isSome else r.isSome)) h
 | none=>.no
def aye:R2:=λy x H Q=>∃ a o,x = .ref a/\ag8 H a y o/\Q (.bl o.isSome) H
def ahf:R2:=λy x H Q=>∃ a o,x = .ref a/\ag8 H a y o/\Q (.bl (!o.isSome)) H
theorem u1{A:Around}(hu:A.units+64<cLine):A.units+1<cLine:=by omega
theorem au2{X:Cx}(hu:X.A.units+64<cLine):OpR X (compareOp .In) aye:=λpins s σ H y x v u Q I ry rx ⟨a,o,ex,g,q⟩=>by
 subst ex;obtain rfl:u=Value.ref a:=rx;exact azi (u1 hu) I g ry λs3 I3=>⟨.bl o.isSome,H,I3,rfl,q⟩
theorem aad{X:Cx}(hu:X.A.units+64<cLine):OpR X (compareOp .NotIn) ahf:=λpins s σ H y x v u Q I ry rx ⟨a,o,ex,g,q⟩=>by
 subst ex;obtain rfl:u=Value.ref a:=rx;exact aom (u1 hu) I g ry λs3 I3=>⟨.bl (!o.isSome),H,I3,rfl,q⟩
theorem apv:a2f K (aep false) aye:=by
 intro E ι H h y x dy dx Q ry rx hr o
 unfold aep at o
 split at o
 ·rename_i r e;obtain ⟨a,rfl,q⟩:=a8e rx ry hr e
  cases r with
  | none=>exact ⟨a,none,rfl,q,ans o (.bl _) hr⟩
  | some d=>obtain ⟨v,q,_⟩:=q;exact ⟨a,some v,rfl,q,ans o (.bl _) hr⟩
 ·exact o.elim
theorem a7f:a2f K (aep true) ahf:=by
 intro E ι H h y x dy dx Q ry rx hr o
 unfold aep at o
 split at o
 ·rename_i r e;obtain ⟨a,rfl,q⟩:=a8e rx ry hr e
  cases r with
  | none=>exact ⟨a,none,rfl,q,ans o (.bl _) hr⟩
  | some d=>obtain ⟨v,q,_⟩:=q;exact ⟨a,some v,rfl,q,ans o (.bl _) hr⟩
 ·exact o.elim
variable{X:Cx}{E:XD}{a b e o i:Expr}{fa fb fc:SE}{pos:Pos}
theorem ahg(hu:X.A.units+64<cLine)(ha:ME X E a fa)(hb:ME X E b fb)(hs:ax3 b):ME X E (.Subscript a b pos) (s2 aac fa fb):=by
 refine PE.weak (aoo (u1 hu) ha hb hs) λσ H Q ⟨ι,τ,h,S,Rh,o⟩=>?_;refine ⟨ι,τ,h,S,Rh,g8 o λd h1 ι1 H1 v g1 r1 hr1 o1=>?_⟩;refine ⟨ι1,τ,h1,S.mono g1,hr1,g8 o1 λd2 h2 ι2 H2 u g2 r2 hr2 o2=>?_⟩;unfold aac at o2
 split at o2
 ·rename_i dd e;obtain ⟨p,rfl,w,q1,q2⟩:=a8e (r1.mono g2) r2 hr2 e;exact ⟨p,w,rfl,q1,ans o2 q2 hr2⟩
 ·exact o2.elim
def amu(o k v:D)(h:Hd):Option Hd:=match o with
 | .ref i=>(match h[i]? with
  | some (.dK kvs)=>(match ajb k with | some kk=>if kvs.length<LINE then some (h.set i (.dK (putD kvs kk v))) else none | none=>none)
  | some (.dT kvs)=>(match ara k with | some kk=>if kvs.length<LINE then some (h.set i (.dT (putD kvs kk v))) else none | none=>none)
  | _=>none)
 | _=>none
def a6i(fe fo fi:SE):SS:=λτ h=>(fe τ h).fl λv h1=>(fo τ h1).fl λo h2=>(fi τ h2).fl λk h3=>match amu o k v h3 with | some h4=>.nx τ h4 | none=>.no
theorem KRep.mono{κ:Type}{ι':List Addr}{H':Hp}{us:List (κ × V)}{kvs:List (κ × D)}(g:Gr ι H ι' H')(r:KRep K ι H us kvs):KRep K ι' H' us kvs:=⟨r.1,r.2.mono g⟩
theorem akk{h':Hd}{o k v:V}{od kd vd:D}{Q:Hp->Prop}(r1:Rep K ι H o od)(r2:Rep K ι H k kd)(r3:Rep K ι H v vd)(hr:HRep K ι H h)(e:amu od kd vd h=some h')(q:∀ H',Gr ι H ι H'->HRep K ι H' h'->Q H') :
  ∃ a H4,o = .ref a/\ax2 H a k v H4/\Q H4:=by
 cases r1 with
 | @ref a i ha =>
  obtain ⟨ob,h1,h2⟩:=hr.at ha;simp only [amu,h1] at e
  cases ob with
  | lst _=>cases e
  | dK kvs =>
   obtain ⟨us,h3,h4⟩:=h2
   cases hk:ajb kd with
   | none=>simp only [hk] at e;cases e
   | some kk =>
    simp only [hk] at e
    split at e
    ·rename_i hl;cases e
     have lu:us.length=kvs.length:=by simpa using congrArg List.length h4.1
     exact ⟨a,_,rfl, .inl ⟨us,kk,h3,a8c r2 hk,by rw [aos,lu];exact hl,rfl⟩,q _ (a2v hr ha _) (hr.put ha ⟨_,mq,(adb kk h4 r3).mono (a2v hr ha _)⟩)⟩
    ·cases e
  | dT kvs =>
   obtain ⟨us,h3,h4⟩:=h2
   cases hk:ara kd with
   | none=>simp only [hk] at e;cases e
   | some kk =>
    simp only [hk] at e
    split at e
    ·rename_i hl;cases e
     have lu:us.length=kvs.length:=by simpa using congrArg List.length h4.1
     obtain ⟨b,eb,tb⟩:=ahd r2 hk;exact ⟨a,_,rfl, .inr ⟨us,kk,b,h3,eb,tb,by rw [aos,lu];exact hl,rfl⟩,q _ (a2v hr ha _) (hr.put ha ⟨_,mq,(adb kk h4 r3).mono (a2v hr ha _)⟩)⟩
    ·cases e
 | _=>cases e
theorem abo{pos':Pos}(hu:X.A.units+64<cLine)(he:ME X E e fa)(ho:ME X E o fb)(hi:ME X E i fc)(hs:swapsWith e (some (.Subscript o i pos')) pos.line X.env=pure false:=by rfl):MS X E (.Assign [.Subscript o i pos'] e pos) (a6i fa fb fc):=by
 refine PS.weak (aop (u1 hu) ho hi he hs) λN σ H ⟨ι,τ,h,S,Rh,oo⟩=>?_;refine ⟨ι,τ,h,S,Rh,qy oo λd h1 ι1 H1 v g1 r1 hr1 o1=>?_⟩;refine ⟨ι1,τ,h1,S.mono g1,hr1,qy o1 λd2 h2 ι2 H2 u g2 r2 hr2 o2=>?_⟩;refine ⟨ι2,τ,h2,(S.mono g1).mono g2,hr2,qy o2 λd3 h3 ι3 H3 w g3 r3 hr3 o3=>?_⟩
 cases hp:amu d2 d3 d h3 with
 | none=>rw [hp] at o3;exact o3.elim
 | some h4 =>
  rw [hp] at o3;exact akk (r2.mono g3) r3 ((r1.mono g2).mono g3) hr3 hp λH' g4 hr4=>o3 ι3 H' σ g4 ((((S.mono g1).mono g2).mono g3).mono g4) hr4
def gD1(x y:D)(h:Hd):R D:=match ajb x with
 | some k=>.ok (.ref h.length) (h++[.dK [(k,y)]])
 | none=>.no
theorem ahh{p:Addr}{o:HO}{ob:O}(hr:HRep K ι H h)(pn:p ∉ ι)(gw:Gw ι H (ι++[p]) (upd H p o))(q:ORep K (ι++[p]) (upd H p o) p ob):HRep K (ι++[p]) (upd H p o) (h++[ob]):=by
 refine ⟨List.nodup_append.mpr ⟨hr.nd,by simp,λa ha b hb z=>pn (by rw [List.mem_singleton.mp hb] at z;rw [<-z];exact ha)⟩,by simp [hr.len],λj a o' q1 q2=>?_⟩
 by_cases hj:j<ι.length
 ·rw [List.getElem?_append_left hj] at q1;rw [List.getElem?_append_left (by rw [<-hr.len];exact hj)] at q2
  exact (hr.obj j a o' q1 q2).monoW gw (jf λz=>pn (by rw [<-z];exact List.mem_of_getElem? q1))
 ·have hj2:j<(ι++[p]).length:=(List.getElem?_eq_some_iff.mp q1).1;have:j=ι.length:=by simp at hj2;omega
  subst this;rw [List.getElem?_append_right (Nat.le_refl _)] at q1;rw [hr.len,List.getElem?_append_right (Nat.le_refl _)] at q2;simp at q1 q2;subst q1 q2;exact q
theorem axi(ha:ME X E a fa)(hb:ME X E b fb):ME X E (.Dict [some a] [b] pos) (s2 gD1 fa fb):=by
 refine PE.weak (aor (ajt ha hb aoq) rfl rfl (by simp) (by simp)) λσ H Q ⟨ι,τ,h,S,Rh,o⟩ p hp=>?_
 have pn:p ∉ ι:=Rh.notin hp;have g0:Gr ι H ι (upd H p (.dK [])):=yj hp _;unfold s2 at o;refine ⟨ι,τ,h,S.mono g0,Rh.aside hp _,?_⟩
 cases hfa:fa τ h with
 | no=>rw [hfa] at o;exact o.elim
 | ex c hx=>rw [hfa] at o;exact a3t (Rp:=a0a X.K) (r:=.ex c hx) (Q:=Q) o g0
 | ok d h1 =>
  rw [hfa] at o
  intro ι1 H1 v g1 r1 hr1
  refine ⟨ι1,τ,h1,(S.mono g0).mono g1,hr1,?_⟩;simp only [R.bind] at o
  cases hfb:fb τ h1 with
  | no=>rw [hfb] at o;exact o.elim
  | ex c hx=>rw [hfb] at o;exact a3t (Rp:=a0a X.K) (r:=.ex c hx) (Q:=Q) o (g0.trans g1)
  | ok d2 h2 =>
   rw [hfb] at o
   intro ι2 H2 u g2 r2 hr2
   have g12:=g1.trans g2;have e2:H2 p=some (.dK []):=g12.oth p _ mq pn;simp only [gD1] at o
   cases hk:ajb d with
   | none=>rw [hk] at o;exact o.elim
   | some k =>
    rw [hk] at o;refine ⟨e2,[(k,u)],?_,by simp,?_⟩
    ·rw [a8c (r1.mono g2) hk];rfl
    ·obtain ⟨m,em,hm⟩:=g12.pre;have nm:∀ c∈m,c≠p/\H c=none:=λc hc=>by
      have q:=hm c hc
      by_cases z:c=p
      ·subst z;rw [mq] at q;cases q
      ·rw [jf z] at q;exact ⟨z,q⟩
     have pn2:p ∉ ι2:=λz=>by
      rw [em] at z
      rcases List.mem_append.mp z with z | z
      ·exact pn z
      ·exact (nm p z).1 rfl
     have ne:∀ {c u'},H c=some u'->c≠p:=λe=>jo e hp;have up:∀ {c u'},H c=some u'->(upd H p (.dK [])) c=some u':=λe=>by rw [jf (ne e)];exact e
     have gw:Gw ι2 H2 (ι2++[p]) (upd H2 p (.dK [(k,u)])):=⟨⟨[p],rfl⟩,λc vs e=>by rw [jf (λz=>by subst z;rw [e2] at e;cases e)];exact e,λc o u' e=>by rw [jf (λz=>by subst z;rw [e2] at e;cases e)];exact e⟩
     have G:Gr ι H (ι2++[p]) (upd H2 p (.dK [(k,u)])):=by
      refine ⟨⟨m++[p],by rw [em];simp,λc hc=>?_⟩,λc vs e=>?_,λc o u' e=>?_,λc u' e hn=>?_,λc u' e=>?_⟩
      ·rcases List.mem_append.mp hc with hc | hc
       ·exact (nm c hc).2
       ·rw [List.mem_singleton.mp hc];exact hp
      ·rw [jf (ne e)];exact g12.tup _ _ (up e)
      ·rw [jf (ne e)];exact g12.frz _ _ _ (up e)
      ·rw [jf (ne e)];exact g12.oth _ _ (up e) hn
      ·obtain ⟨w,q⟩:=g12.kp _ _ (up e);exact ⟨w,by rw [jf (ne e)];exact q⟩
     refine o (ι2++[p]) _ (.ref p) G (.ref (by rw [List.getElem?_append_right (by rw [hr2.len];exact Nat.le_refl _),hr2.len];simp)) (ahh hr2 pn2 gw ⟨_,mq,rfl, .cons (r2.monoW gw) .nil⟩)
end
end MI
namespace ZP
open PySem PySem.Spec PySem.Builtin PySem.Builtin.SmallTypes L2
def a5g(it:Addr):Obj:={ cls:=.type "enumerate",data:=.fields #[.none, .bool false, .ref it,rawInt 0, .none, .none] }
theorem ahi(t:Tok)(k:Srk)(us:List Value):Meets (Builtin.«enumerate.__new__» ⟨[.type "enumerate",val t k],[]⟩)
  (λ_ R s=>cont s.heap k us/\R (.ok (.ret (.ref (s.heap.objs.size+1)))) { s with heap:=(s.heap.push (iob t k)).push (a5g s.heap.objs.size) }) :=
 .of_wp λprog w A R s h=>by
  obtain ⟨hp,g,d,tk,os⟩:=s;obtain ⟨c,h⟩:=h;have sub:=sub_enumerate;have c':cont (Shared.heap ⟨hp,g,d,tk,os⟩) k us:=c;have fin:R (.ok (.ret (.ref (hp.push (iob t k)).objs.size))) { heap:=(hp.push (iob t k)).push (a5g hp.objs.size),gens:=g,drawn:=d,toks:=tk,os:=os }:=by simpa [Heap.size_push] using h
  wp_walk
  refine wpAny_stack_any λst=>wpAny_pure ?_
  split
  ·rename_i cl _ _ _ _ _
   cases (cl == Value.type "enumerate")
   ·wp_walk using a3z (t:=t) c'
    exact ⟨_,rfl,fin⟩
   ·wp_walk using a3z (t:=t) c'
    exact ⟨_,rfl,fin⟩
  ·wp_walk using a3z (t:=t) c'
   exact ⟨_,rfl,fin⟩
def ItE(k:Srk):It where
 go:=λi H=>∃ xs x,its H k=some xs/\xs[i]? = some x
 yld:=λi H v H'=>∃ xs x p,its H k=some xs/\xs[i]? = some x/\H p=none/\v = .ref p/\H'=upd H p (.tup [.int i,x])
 stop:=λi H=>∃ xs,its H k=some xs/\i=xs.length
def tnE(e it:Addr)(t:Tok)(k:Srk)(i:Nat)(h:Heap):Prop:=(∃ old,IsEnum h e it i old)/\own it t k i h
theorem ahj{P:Program}{w:World}{K:PySem.W.Frag}{elts:List Expr}{x1:Nat}{pos:Pos}{e it:Addr}{t:Tok}{k:Srk}(ne:e≠it):Turn P w K (.Tuple elts x1 pos) (ItE k) [e,it] e (tnE e it t k) where
 mem:=by simp
 obj:=λi h st b hb=>by
  obtain ⟨⟨old,h1⟩,h4⟩:=st;simp only [List.mem_cons,List.not_mem_nil,or_false] at hb
  rcases hb with rfl | rfl
  ·exact ⟨_,h1,λv z=>(by cases z)⟩
  ·exact a4r h4
 keep:=λi h h' st kk=>by
  obtain ⟨⟨old,h1⟩,h4⟩:=st;exact ⟨⟨old,kk e (by simp) _ h1⟩,a2i h4 λob q=>kk it (by simp) ob q⟩
 item:=by
  intro X hP hw hK hc i pins s σ H E I hf st hg
  subst hP hw hK;obtain ⟨xs,x,e1,g1⟩:=hg;obtain ⟨⟨old,h1⟩,h4⟩:=st;have n:∀ c∈[e,it],H c=none:=λc hc=>(hf c hc).1;obtain ⟨cs,P1,S1,D1,a1,b1,c1,d1⟩:=a4s I (t:=t) e1 (n it (by simp))
  have hd:=I.ok.hd hc;have ef:e ∉ it::cs:=by
   intro z
   rcases List.mem_cons.mp z with z | z
   ·exact ne z
   ·exact c1 e z (n e (by simp))
  refine wpAny_pyNext_enum_itemD (D1 X.A.in1 hd) h1 (a1 i h4) (List.getElem?_eq_some_iff.mp g1).1 ne ef λu h' tk pu eo s1' pr sz kp=>?_;obtain ⟨x',q1,r1⟩:=d1 i u pu;rw [g1] at q1;cases q1
  refine ⟨_,rfl,wpAny_letOwnedTupleGo_enum eo λh2' z2' sb=>?_⟩;have hp:H s.heap.objs.size=none:=I.hok.fresh (Nat.le_refl _);have lt:∀ c∈[e,it],c<s.heap.objs.size:=λc hc=>by
   simp only [List.mem_cons,List.not_mem_nil,or_false] at hc
   rcases hc with rfl | rfl
   ·exact Heap.lt_size h1
   ·obtain ⟨_,q,_⟩:=a4r h4;exact Heap.lt_size q
  have nT:∀ c∈[e,it],c≠s.heap.objs.size:=λc hc=>Nat.ne_of_lt (lt c hc);have all:∀ c o,c ∉ [e,it]->s.heap.get? c=some o->h2'.get? c=some o:=λc o nc q=>by
   simp only [List.mem_cons,List.not_mem_nil,or_false,not_or] at nc;exact (sb.2 c nc.1).trans (kp c o nc.1 nc.2 q)
  have I0:Inv X pins σ (upd H s.heap.objs.size (.tup [.int i,x])) { s with heap:=s.heap.push { cls:=.type "tuple",data:=.seq #[.int i tk,u] } } :=
   I.laid (t':=s.toks) (o:=.tup [.int i,x]) (λb o q=>Heap.get?_push_of_some _ q) (Nat.le_refl _) ⟨by show 2<=sizeLine;decide,[.int i tk,u], .cons ⟨tk,rfl⟩ (.cons r1 .nil),⟨_,Heap.get?_push_size _ rfl,rfl,_,rfl⟩⟩
  have I1:Inv X pins σ (upd H s.heap.objs.size (.tup [.int i,x])) { s with heap:=h2',toks:=tk+1 }:=by
   refine a4t (s:={ s with heap:=s.heap.push { cls:=.type "tuple",data:=.seq #[.int i tk,u] } }) (ch:=[e,it]) I0 (λb hb=>?_) λc o nc q=>?_
   ·obtain ⟨f0,f1⟩:=hf b hb;exact ⟨by rw [jf (nT b hb)];exact f0,f1⟩
   ·rcases Heap.get?_push_cases q with ⟨rfl,rfl⟩ | q
    ·exact (sb.2 _ (nT e (by simp)).symm).trans pr
    ·exact all c o nc q
  refine ⟨.ref s.heap.objs.size,_,I1,rfl,⟨xs,x,_,e1,g1,hp,rfl,rfl⟩,⟨⟨u,by simpa using z2'⟩,a2i (b1 _ _ s1') λob q=>(sb.2 _ ne.symm).trans q⟩,λb hb=>?_⟩
  rw [jf (nT b hb)];exact n b hb
 done:=by
  intro X hP hw hK hc i pins s σ H E I hf st hg
  subst hP hw hK;obtain ⟨xs,e1,rfl⟩:=hg;obtain ⟨⟨old,h1⟩,h4⟩:=st;have n:∀ c∈[e,it],H c=none:=λc hc=>(hf c hc).1;obtain ⟨cs,P1,S1,D1,a1,b1,c1,d1⟩:=a4s I (t:=t) e1 (n it (by simp))
  have hd:=I.ok.hd hc;refine wpAny_pyNext_enum_endD (D1 X.A.in1 hd) h1 (a1 _ h4) λh' ex=>⟨rfl,a4t (t':=s.toks) I hf λc o nc q=>?_⟩;simp only [List.mem_cons,List.not_mem_nil,or_false,not_or] at nc;exact ex c o nc.2 q
 self:=λ_ _ _ _ _ st h=>by
  obtain ⟨⟨old,h1⟩,_⟩:=st;exact wpAny_pyIter_enum h1 h
section
variable{X:Cx}{elts:List Expr}{x1:Nat}{tpos:Pos}
def axj(ta:TA):TI:=λσ H R=>ta σ H λvs H1=>∃ k xs,vs=[Srk.v k]/\its H1 k=some xs/\R (ItE k) H1
theorem apw{e1:Expr}{ta:TA}{p pos:Pos}(hg:Gl X "enumerate")(hm:X.mg "enumerate" = none)(ha:PA X [e1] ta)
  (h1:starEach [e1] X.env=[(false,eval e1 X.env)]:=by rfl):PI X (.Tuple elts x1 tpos) (.Call (.Name "enumerate" p) [e1] [] pos) (axj ta):=by
 intro pins s σ H R I h
 refine wpAny_Call_Name_kw (a5w I hg hm PyProof.Rows.boot_enumerate ?_ (by decide) (by decide))
 refine PyProof.Rows.callWith_type1 (thn (ha pos pins s σ H _ I h) λus s1 ⟨vs,H1,I1,r1,q1⟩=>?_) (by rw [h1];rfl) (by rfl)
 obtain ⟨k,xs,rfl,e1,q⟩:=q1;obtain ⟨v1,rfl,rv1⟩:=vals1 r1;obtain ⟨t,rfl⟩:=ah0 rv1;obtain ⟨us1,c1,_⟩:=a6f I1 e1;refine callType_new F.called_enumerate (by decide) (F.typeCall_enumerate_1 _) (F.newCall_enumerate_1 _) (λobj=>F.args_object_init_2 obj _) F.entry_enumerate_new (ahi t k us1) ⟨c1,?_⟩
 have at0:((s1.heap.push (iob t k)).push (a5g s1.heap.objs.size)).get? s1.heap.objs.size=some (iob t k):=Heap.get?_push_of_some _ (Heap.get?_push_size _ (by cases k<;>rfl))
 have at1:IsEnum ((s1.heap.push (iob t k)).push (a5g s1.heap.objs.size)) (s1.heap.objs.size+1) s1.heap.objs.size 0 .none:=by
  have:=Heap.get?_push_size (o:=a5g s1.heap.objs.size) (s1.heap.push (iob t k)) rfl
  rw [Heap.size_push] at this;exact this
 have keepA:∀ b o,s1.heap.get? b=some o->((s1.heap.push (iob t k)).push (a5g s1.heap.objs.size)).get? b=some o:=λb o q=>Heap.get?_push_of_some _ (Heap.get?_push_of_some _ q);have I2:Inv X pins σ H1 { s1 with heap:=(s1.heap.push (iob t k)).push (a5g s1.heap.objs.size) }:=I1.kept (t':=s1.toks) keepA
 refine ⟨⟨_,at1,rfl⟩,?_⟩;refine wpAny_pyIter_enum (s:={ s1 with heap:=(s1.heap.push (iob t k)).push (a5g s1.heap.objs.size) }) at1 ?_
 refine ⟨s1.heap.objs.size+1,[s1.heap.objs.size+1,s1.heap.objs.size],tnE _ _ t k,ItE k,H1,rfl,I2,ahj (by intro z;have z:(_:Nat)=_:=z;omega),⟨⟨.none,at1⟩,axe at0⟩,λb hb=>?_,q⟩
 have:s1.heap.objs.size<=b:=by
  simp only [List.mem_cons,List.not_mem_nil,or_false] at hb
  rcases hb with rfl | rfl
  ·exact Nat.le_succ _
  ·exact Nat.le_refl _
 exact I1.fpOk this (I1.hok.fresh this)
end
end ZP
namespace MI
open PySem PySem.Spec L2 ZP
def ahk(x:D)(h:Hd):R Itm:=match srcOf x h with
 | some (xs,c)=>.ok ⟨((List.range xs.length).zip xs).map λp=>.tup [.int (p.1:Nat),p.2],c⟩ h
 | none=>.no
def a8f(f:SE):SI:=λτ h=>(f τ h).bind ahk
theorem ahl{X:Cx}{E:XD}{elts:List Expr}{x1:Nat}{tpos:Pos}{e1:Expr}{f:SE}{p pos:Pos}(hg:Gl X "enumerate")(hm:X.mg "enumerate" = none)(ha:ME X E e1 f)
  (h1:starEach [e1] X.env=[(false,eval e1 X.env)]:=by rfl):MI X E (.Tuple elts x1 tpos) (.Call (.Name "enumerate" p) [e1] [] pos) (a8f f):=by
 intro pins s σ H Rr I ⟨ι,τ,h,S,Rh,o⟩
 refine apw hg hm (a7r ha afw (by rw [h1];rfl)) h1 pins s σ H Rr I ?_
 refine ⟨ι,τ,h,S,Rh,g8 o λd h1 ι1 H1 v g1 r1 hr1 o1=>?_⟩;unfold ahk at o1
 split at o1
 ·rename_i xs c q1;obtain ⟨k,rfl,kc,kf⟩:=ah2 r1 hr1 q1;obtain ⟨vs,w1,w2⟩:=kf ι1 H1 h1 (.refl _ _) hr1 kc;refine ⟨k,vs,rfl,w1,o1 ι1 H1 _ (.refl _ _) ?_ hr1⟩
  intro ι3 H3 h3 g3 hr3 c3
  obtain ⟨us,a1,a2⟩:=kf ι3 H3 h3 g3 hr3 c3;refine ⟨λi d ed=>?_,us,a1,?_⟩
  ·simp only [List.getElem?_map,Option.map_eq_some_iff] at ed;obtain ⟨⟨j,y⟩,ez,rfl⟩:=ed;obtain ⟨ex,ey⟩:=List.getElem?_zip_eq_some.mp ez;have hj:j=i:=by
    obtain ⟨_,q⟩:=List.getElem?_eq_some_iff.mp ex;simpa using q.symm
   subst hj;obtain ⟨v2,b3,b4⟩:=a2.get ey;refine ⟨⟨us,v2,a1,b3⟩,λx H' yl=>?_⟩;obtain ⟨xs',x',p,c1,c3,c5,rfl,rfl⟩:=yl;rw [a1] at c1;cases c1
   rw [b3] at c3;cases c3
   exact ⟨yj c5 _, .tup mq (.cons (.int _) (.cons (b4.mono (yj c5 _)) .nil)),hr3.aside c5 _⟩
  ·rw [List.length_map,List.length_zip,List.length_range,a2.len];omega
 ·exact o1.elim
end MI
namespace L2
open PySem PySem.Spec PyProof.Rows
end L2
namespace MI
open PySem PySem.Spec L2
end MI
namespace L2
open PySem PySem.Spec PyProof.Rows
end L2
namespace MI
open PySem PySem.Spec L2
def azs(lo:Int)(n:Nat):List D:=(List.range n).map λi=>D.int (lo - (i:Nat))
def au3(ds:List D)(h:Hd):R Itm:=match ds with
 | [.int i, .int j, .int k]=>if k = -1/\B62 i/\B62 j then .ok ⟨azs i (i - j).toNat,λ_=>True⟩ h else .no
 | _=>.no
theorem ahm:bootBuiltins "sorted" = some (.builtin "sorted"):=by decide +kernel
theorem d7{α β:Type}(a:α)(h:Hd)(k:α->Hd->R β):(R.ok a h).bind k=k a h:=rfl
theorem a08{α:Type}(a:α)(h:Hd)(k:α->Hd->Fl):(R.ok a h).fl k=k a h:=rfl
def thn(r:Fl)(g:SS):Fl:=match r with | .nx τ h=>g τ h | r=>r
theorem vm(f g:SS)(τ:Sd)(h:Hd):j7 f g τ h=thn (f τ h) g:=by unfold j7 thn;cases f τ h<;>rfl
theorem a1x(τ:Sd)(h:Hd)(g:SS):thn (.nx τ h) g=g τ h:=rfl
theorem aae(d:D)(h:Hd)(g:SS):thn (.rt d h) g = .rt d h:=rfl
def toR(r:Fl):R D:=match r with | .rt d h1=>.ok d h1 | .nx _ h1=>.ok .non h1 | .ex c h1=>.ex c h1 | _=>.no
theorem j9(b:SS)(n:Nat)(ds:List D)(h:Hd):oh b n ds h=toR (b (a6c n ds) h):=by unfold oh toR;cases b (a6c n ds) h<;>rfl
theorem aaf(d:D)(h:Hd):toR (.rt d h) = .ok d h:=rfl
theorem adc(τ:Sd)(h:Hd):toR (.nx τ h) = .ok .non h:=rfl
theorem a0l{n:Nat}:∀ {xs:List D},clos n xs↔∀ x∈xs,clo n x
 | []=>by simp [clos]
 | x::xs=>by simp [clos,a0l (xs:=xs)]
theorem jw{n:Nat}(i:Int):clo n (.int i):=by simp [clo]
theorem jq{n:Nat}(i:Str):clo n (.str i):=by simp [clo]
theorem mj{n:Nat}(i:Bool):clo n (.bl i):=by simp [clo]
theorem abp{n:Nat}:clo n .non:=by simp [clo]
theorem uq{n:Nat}:clos n []:=by simp [clos]
theorem iu{n:Nat}{x:D}{xs:List D}(a:clo n x)(b:clos n xs):clos n (x::xs):=by simp only [clos];exact ⟨a,b⟩
theorem ur{n:Nat}{xs:List D}(h:clos n xs):clo n (.tup xs):=by simpa [clo] using h
theorem ut{n:Nat}{xs:List D}(h:clos n xs):clo n (.rol xs):=by simpa [clo] using h
theorem jd{α:Type}{n:Nat}{f:α->D}{l:List α}(h:∀ a∈l,clo n (f a)):clos n (l.map f):=by
 rw [a0l]
 intro x hx
 obtain ⟨a,ha,rfl⟩:=List.mem_map.mp hx;exact h a ha
mutual
theorem aag{n m:Nat}(hm:n<=m):∀ {d:D},clo n d->clo m d
 | .non,_=>by simp [clo]
 | .bl _,_=>by simp [clo]
 | .int _,_=>by simp [clo]
 | .str _,_=>by simp [clo]
 | .ty _,_=>by simp [clo]
 | .tup xs,h=>by simp only [clo] at h ⊢;exact a0m hm h
 | .rol xs,h=>by simp only [clo] at h ⊢;exact a0m hm h
 | .scr xs,h=>by simp only [clo] at h ⊢;exact a0m hm h
 | .rod _ xs,h=>by simp only [clo] at h ⊢;exact a0m hm h
 | .rdT _ xs,h=>by simp only [clo] at h ⊢;exact a0m hm h
 | .exc _,_=>by simp [clo]
 | .ref i,h=>by simp only [clo] at h ⊢;omega
theorem a0m{n m:Nat}(hm:n<=m):∀ {xs:List D},clos n xs->clos m xs
 | [],_=>by simp [clos]
 | x::xs,h=>by simp only [clos] at h ⊢;exact ⟨aag hm h.1,a0m hm h.2⟩
end
theorem p8{n m:Nat}(hm:n<=m){o:O}(h:a1o n o):a1o m o:=by
 cases o with
 | lst xs=>exact a0m hm h
 | dK kvs=>exact a0m hm h
 | dT kvs=>exact a0m hm h
theorem a8g{α:Type}{f:α->Option α}:∀ {xs:List α},(∀ x∈xs,f x=some x)->a0i f xs=some xs
 | [],_=>rfl
 | x::xs,h=>by
  unfold a0i;rw [h x List.mem_cons_self,a8g λy hy=>h y (List.mem_cons_of_mem _ hy)]
theorem a8h{n k:Nat}{h:Hd}{d:D}(c:clo n d):a4l n h (k+1) d=some d:=by unfold a4l;rw [if_pos c]
theorem akl{n k:Nat}{h:Hd}{o:O}(c:a1o n o):aty n h k o=some o:=by unfold aty;rw [if_pos c]
theorem a8i{n k i:Nat}{h:Hd}{xs:List D}(hi:n<=i)(e:h[i]? = some (.lst xs))(c:clos n xs):a4l n h (k+2) (.ref i)=some (.rol xs):=by
 unfold a4l;rw [if_neg (by simp only [clo];omega)]
 simp only [e];rw [a8g λx hx=>a8h (a0l.mp c x hx)];rfl
theorem akm{n k:Nat}{h:Hd}{xs ys:List D}(e:a0i (a4l n h k) xs=some ys)(nc:¬ clos n xs):a4l n h (k+1) (.tup xs)=some (.tup ys):=by
 unfold a4l;rw [if_neg (by simpa only [clo] using nc)]
 simp only [e,Option.map_some]
theorem a6j{n:Nat}{d d':D}{h1:Hd}(e:a4l n h1 FU d=some d')(c:∀ o∈h1.take n,a1o n o):abm n (.ok d h1) = .ok d' (h1.take n):=by
 unfold abm;simp only [e];rw [a8g λo ho=>akl (c o ho)]
theorem jx{n:Nat}{d:D}{h1:Hd}(e:clo n d)(c:∀ o∈h1.take n,a1o n o):abm n (.ok d h1) = .ok d (h1.take n):=a6j (a8h e) c
theorem a0n{n i:Nat}{h1:Hd}{xs:List D}(hi:n<=i)(e:h1[i]? = some (.lst xs))(cx:clos n xs)(c:∀ o∈h1.take n,a1o n o):abm n (.ok (.ref i) h1) = .ok (.rol xs) (h1.take n):=a6j (a8i hi e cx) c
theorem yz{f:SE}{τ:Sd}{h:Hd}{xs:List D}(e:f τ h = .ok (.ref h.length) (h++[.lst xs]))(cx:clos h.length xs)(c:∀ o∈h,a1o h.length o):sZ f τ h = .ok (.rol xs) h:=by
 unfold sZ;rw [e,a0n (Nat.le_refl _) (by simp) cx (by simpa using c)]
 simp
def Pu(F:SF)(n:Nat)(ds:List D)(d:D):Prop:=∀ h,jz false n F ds h = .ok d h
def Dr(F:SF)(n:Nat)(ds:List D)(o:O)(d:D)(o':O):Prop:=∀ p h,h[p]? = some o->jz false n F (.ref p::ds) h = .ok d (h.set p o')
theorem a5m:∀ {ds:List D},(∀ d∈ds,clo 0 d)->a1w ds=[]/\a0j 0 ds=ds/\∀ k,a0j k ds=ds
 | [],_=>⟨rfl,rfl,λ_=>rfl⟩
 | d::ds,h=>by
  obtain ⟨a,b,c⟩:=a5m (ds:=ds) λx hx=>h x (List.mem_cons_of_mem _ hx);have hd:=h d List.mem_cons_self;have nr:refOf d=none:=by cases d<;>first | rfl | (simp only [clo] at hd;omega)
  refine ⟨?_,?_,λk=>?_⟩
  ·simpa [a1w,nr] using a
  ·cases d<;>first | (simp only [clo] at hd;omega) | (simp only [a0j,b])
  ·cases d<;>first | (simp only [clo] at hd;omega) | (simp only [a0j,c])
theorem Pu.of{F:SF}{n:Nat}{ds:List D}{r:R D}{d:D}(hn:ds.length=n)(cd:∀ x∈ds,clo 0 x)(e:F ds []=r)(z:abm 0 r = .ok d [])(c:clo 0 d):Pu F n ds d:=λh=>by
 obtain ⟨p1,p2,_⟩:=a5m cd;unfold jz;rw [if_pos hn];unfold apk;rw [p1];simp only [a0i,List.length_nil,Bool.false_eq_true,if_false];rw [if_pos ⟨List.nodup_nil,λx hx=>.inl (cd x hx),λo ho=>by simp at ho⟩,p2,e,z]
 simp [c,ud]
theorem Dr.of{F:SF}{n:Nat}{ds:List D}{o o':O}{r:R D}{d:D}(hn:ds.length+1=n)(cd:∀ x∈ds,clo 0 x)(co:a1o 0 o)(e:F (.ref 0::ds) [o]=r)(z:abm 1 r = .ok d [o'])(c:clo 0 d)(co':a1o 0 o'):Dr F n ds o d o':=λp h hp=>by
 obtain ⟨p1,_,p3⟩:=a5m cd;have e1:a1w (.ref p::ds)=[p]:=by
  have:a1w (.ref p::ds)=p::a1w ds:=rfl
  rw [this,p1]
 have e2:a0j 0 (.ref p::ds) = .ref 0::ds:=by
  have:a0j 0 (.ref p::ds) = .ref 0::a0j 1 ds:=rfl
  rw [this,p3]
 unfold jz;rw [if_pos (by simpa using hn)]
 unfold apk;rw [e1];simp only [a0i,hp,List.length_singleton,Bool.false_eq_true,if_false];have all:∀ x∈(D.ref p::ds),clo 0 x\/isRef x:=λx hx=>by
  rcases List.mem_cons.mp hx with rfl | hx
  ·exact .inr ⟨p,rfl⟩
  ·exact .inl (cd x hx)
 rw [if_pos ⟨by simp,all,λu hu=>by rw [List.mem_singleton.mp hu];exact co⟩,e2,e,z]
 simp [c,co',ud]
theorem au4{F:SF}{n i:Nat}{ds:List D}{o:O}{h1:Hd}(hn:ds.length=n)(cd:∀ x∈ds,clo 0 x)(e:F ds [] = .ok (.ref i) h1)(ho:h1[i]? = some o)(co:a1o 0 o)(h:Hd):jz true n F ds h = .ok (.ref h.length) (h++[o]):=by
 obtain ⟨p1,p2,_⟩:=a5m cd;unfold jz;rw [if_pos hn];unfold apk;rw [p1];simp only [a0i,List.length_nil,if_true];rw [if_pos ⟨List.nodup_nil,λx hx=>.inl (cd x hx),λo ho=>by simp at ho⟩,p2,e]
 unfold ar8;simp only [ho];rw [if_pos ⟨Nat.zero_le _,co,by simp⟩]
 simp [co,ud]
theorem akn(g:SG)(b:SS)(τ:Sd)(h:Hd):forL (λ_=>True) g b [] τ h = .nx τ h:=by rw [forL,if_pos True.intro]
def trn(r:Fl)(k:Sd->Hd->Fl):Fl:=match r with | .nx τ h=>k τ h | .ct τ h=>k τ h | .bk τ h=>.nx τ h | r=>r
theorem ahn(g:SG)(b:SS)(x:D)(xs:List D)(τ τ1:Sd)(h h1:Hd)(e:g x τ h = .nx τ1 h1):forL (λ_=>True) g b (x::xs) τ h=trn (b τ1 h1) (forL (λ_=>True) g b xs):=by
 rw [forL,if_pos True.intro,e];dsimp only;unfold trn
 cases b τ1 h1<;>rfl
theorem au5(τ:Sd)(h:Hd)(k:Sd->Hd->Fl):trn (.nx τ h) k=k τ h:=rfl
theorem au6(d:D)(h:Hd)(k:Sd->Hd->Fl):trn (.rt d h) k = .rt d h:=rfl
theorem zg{g:SG}{b:SS}{α:Type}(f:α->D)(I:List α->Sd->Hd->Prop)(Rt:D->Hd->Prop):∀ (xs pre:List α) (τ:Sd) (h:Hd),
  (∀ pre' x post τ h,pre++xs=pre'++x::post->I pre' τ h->∃ τ1 h1,g (f x) τ h = .nx τ1 h1/\((∃ τ2 h2,b τ1 h1 = .nx τ2 h2/\I (pre'++[x]) τ2 h2)\/∃ d h2,b τ1 h1 = .rt d h2/\Rt d h2))->I pre τ h->
  (∃ τ' h',forL (λ_=>True) g b (xs.map f) τ h = .nx τ' h'/\I (pre++xs) τ' h')\/∃ d h',forL (λ_=>True) g b (xs.map f) τ h = .rt d h'/\Rt d h'
 | [],pre,τ,h,_,i0=>.inl ⟨τ,h,akn ..,by simpa using i0⟩
 | x::xs,pre,τ,h,st,i0=>by
  obtain ⟨τ1,h1,e1,q⟩:=st pre x xs τ h rfl i0;rw [List.map_cons,ahn _ _ _ _ _ _ _ _ e1]
  rcases q with ⟨τ2,h2,e2,i2⟩ | ⟨d,h2,e2,r⟩
  ·rw [e2,au5];have:=zg f I Rt xs (pre++[x]) τ2 h2 (λpre' y post τ h e=>st pre' y post τ h (by simpa using e)) i2
   simpa using this
  ·rw [e2,au6];exact .inr ⟨d,h2,rfl,r⟩
theorem mz{g:SG}{b:SS}{α:Type}(f:α->D)(I:List α->Sd->Hd->Prop)(xs:List α)(τ:Sd)(h:Hd)
  (st:∀ pre x post τ h,xs=pre++x::post->I pre τ h->∃ τ1 h1,g (f x) τ h = .nx τ1 h1/\∃ τ2 h2,b τ1 h1 = .nx τ2 h2/\I (pre++[x]) τ2 h2) (i0:I [] τ h) :
  ∃ τ' h',forL (λ_=>True) g b (xs.map f) τ h = .nx τ' h'/\I xs τ' h':=by
 rcases zg f I (λ_ _=>False) xs [] τ h (λpre' x post τ h e i=>let ⟨τ1,h1,a,b⟩:=st pre' x post τ h e i; ⟨τ1,h1,a, .inl b⟩) i0 with ⟨τ',h',a,b⟩ | ⟨_,_,_,z⟩
 ·exact ⟨τ',h',a,b⟩
 ·exact z.elim
theorem a8j{f:D->Hd->R D}{α:Type}(g:α->D)(I:List α->List D->Hd->Prop):∀ (xs pre:List α) (ys:List D) (h:Hd),
  (∀ pre' x post ys h,pre++xs=pre'++x::post->I pre' ys h->∃ y h',f (g x) h = .ok y h'/\I (pre'++[x]) (ys++[y]) h')->I pre ys h->∃ zs h',mapR (λ_=>True) f (xs.map g) h = .ok zs h'/\I (pre++xs) (ys++zs) h'
 | [],pre,ys,h,_,i0=>⟨[],h,by rw [List.map_nil,mapR,if_pos True.intro],by simpa using i0⟩
 | x::xs,pre,ys,h,st,i0=>by
  obtain ⟨y,h1,e1,i1⟩:=st pre x xs ys h rfl i0;obtain ⟨zs,h',e2,i2⟩:=a8j g I xs (pre++[x]) (ys++[y]) h1 (λpre' z post ys h e=>st pre' z post ys h (by simpa using e)) i1
  refine ⟨y::zs,h',?_,by simpa using i2⟩
  rw [List.map_cons,mapR,if_pos True.intro,e1];show (mapR _ f (xs.map g) h1).bind _=_;rw [e2];rfl
theorem aah{f:D->Hd->R D}{α:Type}(g F:α->D){h:Hd}:∀ {xs:List α},(∀ x∈xs,f (g x) h = .ok (F x) h)->mapR (λ_=>True) f (xs.map g) h = .ok (xs.map F) h
 | [],_=>by rw [List.map_nil,mapR,if_pos True.intro];rfl
 | x::xs,st=>by
  rw [List.map_cons,mapR,if_pos True.intro,st x List.mem_cons_self];show (mapR _ f (xs.map g) h).bind _=_;rw [aah g F λy hy=>st y (List.mem_cons_of_mem _ hy)];rfl
theorem aai{f:D->Hd->R (Option D)}{α:Type}(g:α->D)(F:α->Option D){h:Hd}:∀ {xs:List α},(∀ x∈xs,f (g x) h = .ok (F x) h)->aj6 (λ_=>True) f (xs.map g) h = .ok (xs.filterMap F) h
 | [],_=>by rw [List.map_nil,aj6,if_pos True.intro];rfl
 | x::xs,st=>by
  rw [List.map_cons,aj6,if_pos True.intro,st x List.mem_cons_self];show (aj6 _ f (xs.map g) h).bind _=_;rw [aai g F λy hy=>st y (List.mem_cons_of_mem _ hy)];show R.ok ((F x).toList++xs.filterMap F) h=_
  cases e:F x<;>simp [List.filterMap_cons,e]
theorem apx{c:ST}{f:SS}(I:Nat->Sd->Hd->Prop)(N:Sd->Hd->Prop)(Rt:D->Hd->Prop)
  (st:∀ m τ h,I m τ h->(∃ h1,c τ h = .ok false h1/\N τ h1)\/∃ h1,c τ h = .ok true h1/\((∃ τ2 h2 m',f τ h1 = .nx τ2 h2/\m'<m/\I m' τ2 h2)\/∃ d h2,f τ h1 = .rt d h2/\Rt d h2)) :
  ∀ (m n:Nat) (τ:Sd) (h:Hd),m<n->I m τ h->(∃ τ' h',sWh c f n τ h = .nx τ' h'/\N τ' h')\/∃ d h',sWh c f n τ h = .rt d h'/\Rt d h':=by
 intro m
 induction m using Nat.strongRecOn with
 | ind m ih =>
  intro n τ h hn i0
  cases n with
  | zero=>omega
  | succ n =>
   rcases st m τ h i0 with ⟨h1,e1,q⟩ | ⟨h1,e1,q⟩
   ·exact .inl ⟨τ,h1,by rw [sWh,e1];rfl,q⟩
   ·rcases q with ⟨τ2,h2,m',e2,lt,i2⟩ | ⟨d,h2,e2,r⟩
    ·have e3:sWh c f (n+1) τ h=sWh c f n τ2 h2:=by
      rw [sWh,e1,a08,if_pos rfl,e2]
     rw [e3];exact ih m' lt n τ2 h2 (by omega) i2
    ·refine .inr ⟨d,h2,?_,r⟩;rw [sWh,e1,a08,if_pos rfl,e2]
structure KD (P:Program) (w:World) (K:PySem.W.Frag) (a:Addr) (kvs:List (Str × Str)):Prop where
 sys:(a == sysModules)=false
 ex:∃ (o:Obj) (vs:List (Key × Value)),K.lookup a=some o/\KV (kvs.map λp=>((.inr p.1:Key),V.str p.2)) vs/\∀ h:Heap,h.get? a=some o->h.DictOf (km P w) a vs
section
variable{X:Cx}{E:XD}{e:Expr}{fa:SE}{pos p:Pos}{a:Addr}{kvs:List (Str × Str)}{x:Str}
theorem KD.at(kd:KD X.prog X.w X.K a kvs){pins:List (Addr × Obj)}{σ:L2.St}{H:Hp}{s:Shared}(I:Inv X pins σ H s):∃ vs,KV (kvs.map λp=>((.inr p.1:Key),V.str p.2)) vs/\s.heap.DictOf (km X.prog X.w) a vs:=by
 obtain ⟨o,vs,l,r,d⟩:=kd.ex;exact ⟨vs,r,d _ (I.bk _ _ (I.mod.kin _ _ l))⟩
end
mutual
def toPy:D->Option PyData
 | .non=>some .none
 | .bl b=>some (.bool b)
 | .int i=>some (.int i)
 | .str x=>some (.str x)
 | .tup xs=>(apy xs).map .tuple
 | .rol xs=>(apy xs).map .list
 | .rod [] []=>some (.dict [])
 | _=>none
def apy:List D->Option (List PyData)
 | []=>some []
 | x::xs=>match toPy x,apy xs with | some p,some ps=>some (p::ps) | _,_=>none
end
mutual
def noL:D->Bool
 | .rol _=>false
 | .tup xs=>ayf xs
 | _=>true
def ayf:List D->Bool
 | []=>true
 | x::xs=>noL x && ayf xs
end
open Classical in
theorem a1y{X:Cx}:CallR X (.builtin "isinstance") (λxs H Q=>∃ a o us T b,xs=[.ref a, .ty T]/\H a=some (.frz o (.dK us))/\PySem.W.kitOne X.K (.type "dict") (.type T)=some b/\Q (.bl b) H):=by
 intro pins s σ H xs us Q I r h
 obtain ⟨a,o,kv,T,b,rfl,ea,e,q⟩:=h;obtain ⟨u,w',rfl,rx,rt⟩:=vals2 r;cases rt
 obtain rfl:u=Value.ref a:=rx
 obtain ⟨_,_,_,vs,_,p⟩:=(show ObjOk X.prog X.w H s.heap a (.frz o (.dK kv)) from I.hok a _ ea)
 obtain ⟨o',es,ep,h1,h2,_⟩:=p;exact PySem.W.kia_one PySem.W.kitx_dict I.kIn ⟨o',h1,h2.1⟩ e (λz=>nomatch z) λtk=>⟨.bl b,H,I.tok tk,rfl,q⟩
def a6k:List D->Hd->R D
 | [.rod ks xs, .ty T],h=>(match apa "dict" T with | some b=>.ok (.bl b) h | none=>.no)
 | ds,h=>ato ds h
theorem a8k{K:PySem.W.Frag}:aef K a6k (λxs H Q=>(∃ x T t b,xs=[x, .ty T]/\TyOf K H x t/\PySem.W.kitOne K t (.type T)=some b/\Q (.bl b) H)\/∃ a o us T b,xs=[.ref a, .ty T]/\H a=some (.frz o (.dK us))/\PySem.W.kitOne K (.type "dict") (.type T)=some b/\Q (.bl b) H):=by
 intro E ι H h xs ds Q r hr o
 unfold a6k at o
 split at o
 ·split at o
  ·rename_i b hb
   cases r with
   | cons r1 rs =>
    cases rs with
    | cons r2 rs2 =>
     cases rs2
     cases r2
     cases r1 with
     | rod hp ek rr=>exact .inr ⟨_,_,_,_,b,rfl,hp,agt hb,ans o (.bl _) hr⟩
  ·exact o.elim
 ·exact .inl (apb E ι H h xs _ Q r hr o)
end MI
namespace TPM
open PySem PySem.Spec PySem.W L2 HT MI PyProof.Rows
end TPM
namespace MI
open PySem PySem.Spec L2 TPM
end MI
namespace SRC
open PySem PySem.Spec L2 MI
noncomputable def yp:SE :=
 (s2 j6 (s2 xr (sC (.int 2)) (sA aw0 (ak (sV 0) di))) (sA ap8 (ak (s2 gLt (sV 0) (sC (.int 0))) di)))
noncomputable def zj:SS :=
 (j7 (m7 1 (sZ (m9 (sIt (sZ (a4w (sV 0) oN (oS (sC (.int 63)))))) t1 yp [])))
 (qj (sA a5c (ak (sV 1) (ak (sC (.int 0)) (ak (sC (.int 0)) (ak (sC (.int 0)) (ak (s2 a5d (sA atr (ak (sV 1) di)) (sC (.int 2147483647))) di))))))))
noncomputable def a2l:SS :=
 (j7 (a2u a1m (sV 0) (sC (.int 3)) (sC (.int 1)))
 (j7 (sIf (a6a (sT (s2 hEq (s2 gIx (sV 0) (sC (.int 2))) (sC (.int 0)))) (sT (s2 gLt (s2 gIx (sV 0) (sC (.int 1))) (sA vh (ak (s2 gIx (sV 0) (sC (.int 0))) di)))))
 (j7 (m7 2 (s2 gIx (s2 gIx (sV 0) (sC (.int 0))) (s2 gIx (sV 0) (sC (.int 1)))))
 (j7 (a2u a1m (sV 0) (sC (.int 1)) (sC (.int 1)))
 (sIf (sT (s2 gGe (sV 2) (s2 a7a (sC (.int 10)) (sC (.int 18)))))
 (a9z (sV 2) (sV 0) (sC (.int 2)))
 (a9z (s2 a5d (s2 j6 (s2 xr (s2 gIx (sV 0) (sC (.int 4))) (sC (.int 31))) (sV 2)) (sC (.int 2147483647))) (sV 0) (sC (.int 4))))))
 sNx)
 (j7 (sIf (sT (s2 gGt (s2 gIx (sV 0) (sC (.int 2))) (sC (.int 0))))
 (j7 (m7 3 (s2 a5d (s2 gIx (sV 0) (sC (.int 2))) (sV 1)))
 (j7 (a2u ab2 (sV 0) (sC (.int 2)) (sV 1))
 (qj (sV 3))))
 sNx)
 (j7 (m7 3 (s2 a5d (s2 a7a (s2 j6 (s2 j6 (s2 gIx (sV 0) (sC (.int 4))) (sC (.int 1))) (s2 xr (s2 gIx (sV 0) (sC (.int 3))) (sC (.int 7919)))) (sC (.int 3))) (sC (.int 2147483647))))
 (qj (s2 a5d (s2 ab2 (s2 a5d (s2 a7a (s2 j6 (s2 xr (sV 3) (sC (.int 48271))) (s2 gIx (sV 0) (sC (.int 3)))) (sC (.int 2))) (sC (.int 2147483629))) (sC (.int 64))) (sV 1)))))))
noncomputable def yq:SS :=
 (j7 (m7 0 (sC (.str " !\"#$&'()*+,-./0123456789:;<=>?@ABCDEFGHIJKLMNOPQRSTUVWXYZ[\\]^_`")))
 (qj (s2 j6 (sV 0) (sC (.str "abcdefghijklmnopqrstuvwxyz{|}~\n")))))
noncomputable def yr(aa:SF)(d8:SF):SS :=
 (j7 (m7 4 (sA (jz false 2 aa) (ak (sV 0) (ak (sA vh (ak (sV 1) di)) di))))
 (j7 (aeg 2 a1m (s2 gIx (sV 1) (sV 4)))
 (m7 1 (s2 j6 (a4w (sV 1) oN (oS (sV 4))) (a4w (sV 1) (oS (s2 j6 (sV 4) (sC (.int 1)))) oN)))))
noncomputable def zp(aa:SF)(d8:SF):SS :=
 (j7 (m7 1 (sA (jz false 0 d8) di))
 (j7 (m7 2 (sC (.str "")))
 (j7 (a2g (sRg yx (ak (s2 j6 (sC (.int 1)) (sA (jz false 2 aa) (ak (sV 0) (ak (sC (.int 6)) di)))) di)) (kN 3) (yr aa d8))
 (qj (sV 2)))))
noncomputable def vo(aa:SF):SS :=
 (a0f (sML a7c (sV 3) (ak (afd (sT (s2 gLt (sA (jz false 2 aa) (ak (sV 0) (ak (sC (.int 5)) di))) (sC (.int 2)))) (sA (jz false 2 aa) (ak (sV 0) (ak (sC (.int 6)) di))) (s1 a6t (sC (.int 1)))) di)))
noncomputable def vp(aa:SF):SE :=
 (sA (jz false 2 aa) (ak (sV 1) (ak (sV 2) di)))
noncomputable def a3a(aa:SF):SE :=
 (afd (a6a (sT (s2 gLt (s2 gIx (sV 2) (sV 0)) (sC (.int 0)))) (sT (s2 gLe (sV 0) (sV 3)))) (s2 ab5 (sV 1) (sC (.int 1))) (sV 0))
noncomputable def zx(aa:SF):SE :=
 (sV 1)
noncomputable def vq(aa:SF):SS :=
 (j7 (m7 7 (sZ (m9 (sIt (sV 1)) t1 (vp aa) [0,2])))
 (j7 (sIf (sT (s2 gGt (sV 5) (sC (.int 0))))
 (m7 7 (sZ (m9 (sIt (sV 7)) t1 (a3a aa) [2,3,4])))
 sNx)
 (j7 (sIf (a6a (sT (s2 hEq (sV 5) (sC (.int 1)))) (sT (s2 hEq (sV 4) (s2 ab5 (sV 2) (sC (.int 1))))))
 (m7 7 (sZ (m9 (sIt (sV 7)) t1 (zx aa) [4])))
 sNx)
 (a0f (sML a7c (sV 6) (ak (sV 7) di))))))
noncomputable def a0o(aa:SF):SS :=
 (j7 (m7 3 (sA a5c (ak (s1 a6t (sC (.int 1))) di)))
 (j7 (a2g (sRg a5j (ak (sC (.int 1)) (ak (sV 2) di))) (kN 4) (vo aa))
 (j7 (m7 5 (sA (jz false 2 aa) (ak (sV 0) (ak (sC (.int 3)) di))))
 (j7 (m7 6 (sA a5c di))
 (j7 (a2g (sRg yx (ak (sV 2) di)) (kN 4) (vq aa))
 (qj (sA a4k (ak (sV 6) (ak (sV 3) di)))))))))
noncomputable def vy(aa:SF)(iw:SF)(gk:SF):SS :=
 (sIf (sT (s2 (gIn true) (sV 8) (sV 6)))
 (a0f (sML a7c (sV 6) (ak (sV 8) di)))
 sNx)
noncomputable def zy(aa:SF)(iw:SF)(gk:SF):ST :=
 (sT (s2 gLt (sV 7) (sA vh (ak (sV 6) di))))
noncomputable def vz(aa:SF)(iw:SF)(gk:SF):SS :=
 (j7 (a2g (sIt (s2 gIx (sV 4) (s2 gIx (sV 6) (sV 7)))) (kN 8) (vy aa iw gk))
 (aeg 7 a1m (sC (.int 1))))
noncomputable def a00(aa:SF)(iw:SF)(gk:SF):SE :=
 (sML a6h (sV 1) (ak (sV 0) di))
noncomputable def w6(aa:SF)(iw:SF)(gk:SF):SE :=
 (sA v4 (ak (sZ (m9 (sIt (s2 gIx (sV 1) (sV 0))) t1 (a00 aa iw gk) [2])) di))
noncomputable def wg(aa:SF)(iw:SF)(gk:SF):SE :=
 (s2 gIx (sV 1) (sV 0))
noncomputable def a0p(aa:SF)(iw:SF)(gk:SF):SS :=
 (j7 (m7 2 (sA (jz false 1 gk) (ak (sV 0) di)))
 (j7 (m7 3 (s2 j6 (sC (.int 2)) (sA (jz false 2 aa) (ak (sV 0) (ak (sC (.int 7)) di)))))
 (j7 (sIf (sT (s2 hEq (sA (jz false 2 aa) (ak (sV 0) (ak (sC (.int 6)) di))) (sC (.int 0))))
 (m7 3 (s2 j6 (sC (.int 1)) (sA (jz false 2 aa) (ak (sV 0) (ak (sV 1) di)))))
 sNx)
 (j7 (a6u (sA (jz false 3 iw) (ak (sV 0) (ak (sV 2) (ak (sA aa3 (ak (sV 3) (ak (sV 1) di))) di)))) (a2x 2 (jn (kN 4) (jn (kN 5) a2w))))
 (j7 (m7 6 (sA a5c (ak (sC (.int 0)) di)))
 (j7 (m7 7 (sC (.int 0)))
 (j7 (sWh (zy aa iw gk) (vz aa iw gk) 100000)
 (j7 (m7 6 (sA a3k (ak (sV 6) di)))
 (j7 (m7 9 (sA v4 (ak (sZ (m9 (sIt (sV 6)) t1 (w6 aa iw gk) [4,6])) di)))
 (qj (sA a4k (ak (sV 2) (ak (sV 9) (ak (sA v4 (ak (sZ (m9 (sIt (sV 6)) t1 (wg aa iw gk) [5])) di)) di))))))))))))))
end SRC
namespace L2
open PySem PySem.Spec PySem.W PyProof.Rows
end L2
namespace L2
open PySem PySem.Spec PySem.W PyProof.Rows Builtin Builtin.ObjectAttr Builtin.Getset_descriptor
section
variable{prog:Program}{w:World}{A:Around}{E:Value->Shared->Prop}{s:Shared}{K:Frag}{x D:Addr}{ox:Obj}{odo:Option Obj}
structure XKit (K:Frag) (D:Addr):Prop where
 ga:findIn K (.ref D) "__getattribute__" = some (some (.builtin "BaseException.__getattribute__"))
 gn:findIn K (.ref D) "__getattr__" = some none
 cl:(clsIn K D).isSome=true
 ca:findIn K (.ref D) "__class__" = some (some (.builtin "object.__class__"))
 sp:specialIn K (.builtin "object.__class__") "__get__" = some (some (.builtin "getset_descriptor.__get__"))
 tk:takesIn K (.builtin "object.__class__")=some true
 ob:mroIn K D (.type "object")=some true
 be:subIn K (.ref D) (.type "BaseException")=some true
 kc:kitCls K (.ref D) (.ref D)=some true
abbrev ExAt(x D:Addr)(h:Heap):Prop:=∃ o,h.get? x=some o/\o.cls = .ref D
theorem ExAt.ty{M:Model}{h:Heap}(I:ExAt x D h):Looks M h (typeOf (.ref x)) (.ref D):=by
 obtain ⟨o,q,c⟩:=I;exact c ▸ (Looks.ld q).andThen .now
theorem XKit.at(Z:XKit K D):∃ c o cd sl,K.lookup D=some ⟨c,o, .cls cd,sl⟩:=by
 have:=Z.cl
 unfold clsIn at this
 split at this
 ·exact ⟨_,_,_,_, ‹_›⟩
 ·cases this
theorem XKit.no(Z:XKit K D){h:Heap}{tp:Addr}{dd:Option Addr}{its:List Value}{n:Nat}{sl:Array (Option Value)}(X:K.In h)(q:h.get? tp=some ⟨.type "tuple",dd, .seq its.toArray n,sl⟩):(Value.ref D == .ref tp)=false :=
 beq_eq_false_iff_ne.mpr λe=>by
  obtain ⟨_,_,_,_,lo⟩:=Z.at;rw [Value.ref.inj e] at lo;have:=X _ _ lo;rw [q] at this;cases this
end
end L2
namespace L2
open PySem PySem.Spec PySem.W PyProof.Rows
end L2
namespace MI
open PySem PySem.Spec L2
end MI
namespace EVX
open PySem PySem.Spec L2 MI
end EVX
namespace MI
open PySem PySem.Spec L2
end MI
namespace EVX
open PySem PySem.Spec L2 MI
end EVX
namespace ZP
open PySem PySem.Spec PySem.Builtin PySem.Builtin.SmallTypes L2
end ZP
namespace MI
open PySem PySem.Spec L2 ZP
end MI
namespace AT
open L2
theorem ako{α:Type}(x0:α)(xs:List α):atI (x0::xs) 0=some x0:=v7 (j:=0) rfl
theorem akp{α:Type}(x0 x1:α)(xs:List α):atI (x0::x1::xs) 1=some x1:=v7 (j:=1) rfl
theorem akq{α:Type}(x0 x1 x2:α)(xs:List α):atI (x0::x1::x2::xs) 2=some x2:=v7 (j:=2) rfl
theorem akr{α:Type}(x0 x1 x2 x3:α)(xs:List α):atI (x0::x1::x2::x3::xs) 3=some x3:=v7 (j:=3) rfl
theorem aks{α:Type}(x0 x1 x2 x3 x4:α)(xs:List α):atI (x0::x1::x2::x3::x4::xs) 4=some x4:=v7 (j:=4) rfl
theorem akt{α:Type}(x0 x1 x2 x3 x4 x5:α)(xs:List α):atI (x0::x1::x2::x3::x4::x5::xs) 5=some x5:=v7 (j:=5) rfl
theorem aku{α:Type}(x0 x1 x2 x3 x4 x5 x6:α)(xs:List α):atI (x0::x1::x2::x3::x4::x5::x6::xs) 6=some x6:=v7 (j:=6) rfl
theorem akv{α:Type}(x0 x1 x2 x3 x4 x5 x6 x7:α)(xs:List α):atI (x0::x1::x2::x3::x4::x5::x6::x7::xs) 7=some x7:=v7 (j:=7) rfl
theorem x10:ixN 1 0=some 0:=rfl
theorem x20:ixN 2 0=some 0:=rfl
theorem x21:ixN 2 1=some 1:=rfl
theorem x30:ixN 3 0=some 0:=rfl
theorem x31:ixN 3 1=some 1:=rfl
theorem x32:ixN 3 2=some 2:=rfl
theorem x40:ixN 4 0=some 0:=rfl
theorem x41:ixN 4 1=some 1:=rfl
theorem x42:ixN 4 2=some 2:=rfl
theorem x43:ixN 4 3=some 3:=rfl
theorem x50:ixN 5 0=some 0:=rfl
theorem x51:ixN 5 1=some 1:=rfl
theorem x52:ixN 5 2=some 2:=rfl
theorem x53:ixN 5 3=some 3:=rfl
theorem x54:ixN 5 4=some 4:=rfl
theorem x60:ixN 6 0=some 0:=rfl
theorem x61:ixN 6 1=some 1:=rfl
theorem x62:ixN 6 2=some 2:=rfl
theorem x63:ixN 6 3=some 3:=rfl
theorem x64:ixN 6 4=some 4:=rfl
theorem x65:ixN 6 5=some 5:=rfl
theorem x70:ixN 7 0=some 0:=rfl
theorem x71:ixN 7 1=some 1:=rfl
theorem x72:ixN 7 2=some 2:=rfl
theorem x73:ixN 7 3=some 3:=rfl
theorem x74:ixN 7 4=some 4:=rfl
theorem x75:ixN 7 5=some 5:=rfl
theorem x76:ixN 7 6=some 6:=rfl
def ayg(x:Int):Int:=if x<0 then -x else x
theorem aho(x:Int)(h:MI.Hd):MI.aw0 [.int x] h = .ok (.int (ayg x)) h:=rfl
theorem p18(h:MI.Hd):MI.a7a (.int 10) (.int 18) h = .ok (.int 1000000000000000000) h:=by rw [MI.a7a,if_pos (by decide)];rfl
theorem au7{i j:Int}{h:MI.Hd}(c:0<=j/\j<=1000000/\i.natAbs<2 ^ 64):MI.a7a (.int i) (.int j) h = .ok (.int (i ^ j.toNat)) h:=by rw [MI.a7a,if_pos c]
end AT
namespace MI
open PySem PySem.Spec L2 SeqAt
def ayh(neg:Bool)(K:PySem.W.Frag):R2:=λx y H Q=>∃ (ι:List Addr) (p q:Addr) (vs us:List V) (xs ys:List D),x = .ref p/\y = .ref q/\Rd H p (.lst vs)/\Rd H q (.lst us)/\Reps K ι H vs xs/\Reps K ι H us ys/\xs.all (pur 59)=true/\ys.all (pur 59)=true/\Q (.bl (if neg then !acz xs ys else acz xs ys)) H
theorem akx{X:Cx}{pins:List (Addr × Obj)}{s:Shared}{σ:St}{H:Hp}(I:Inv X pins σ H s)(hu:X.A.units+64<cLine){ι:List Addr}{p q:Addr}{vs us:List V}{xs ys:List D}(h1:Rd H p (.lst vs))(h2:Rd H q (.lst us))(rs:Reps X.K ι H vs xs)(qs:Reps X.K ι H us ys)(p1:xs.all (pur 59)=true)(p2:ys.all (pur 59)=true) :
  RcAt X.A s (.ref p) (.ref q) (acz xs ys)/\RcNeAt X.A s (.ref p) (.ref q) (!acz xs ys):=by
 obtain ⟨its,r1,pl1,z1⟩:=I.list (.inl h1);obtain ⟨its2,r2,pl2,z2⟩:=I.list (.inl h2);have l1:its.toArray.size=xs.length:=by rw [List.size_toArray,<-r1.length,rs.len]
 have l2:its2.toArray.size=ys.length:=by rw [List.size_toArray,<-r2.length,qs.len]
 by_cases hl:xs.length=ys.length
 ·have step:∀ j (h1:j<its.toArray.size) (h2:j<its2.toArray.size),EqAt X.A.in1 s its.toArray[j] its2.toArray[j] (pairE xs ys j):=λj h1 h2=>by
   have j1:j<xs.length:=by omega
   have j2:j<ys.length:=by omega
   obtain ⟨v1,e1,q1⟩:=rs.get (List.getElem?_eq_getElem j1);obtain ⟨v2,e2,q2⟩:=qs.get (List.getElem?_eq_getElem j2);obtain ⟨u1,e3,q3⟩:=r1.get e1;obtain ⟨u2,e4,q4⟩:=r2.get e2;have f1:its.toArray[j]=u1:=by simpa using (List.getElem?_eq_some_iff.mp e3).2
   have f2:its2.toArray[j]=u2:=by simpa using (List.getElem?_eq_some_iff.mp e4).2
   have pe:pairE xs ys j=eqD xs[j] ys[j]:=by simp [pairE,List.getElem?_eq_getElem j1,List.getElem?_eq_getElem j2]
   rw [f1,f2,pe];rw [List.all_eq_true] at p1 p2;exact amn I.hok 59 X.A.in1 q1 q2 q3 q4 (p1 _ (List.getElem_mem j1)) (p2 _ (List.getElem_mem j2)) (by rw [Around.in1_units];omega)
  have c1:=RcAt.lists (A:=X.A) (s:=s) (e:=pairE xs ys) pl1.isList pl2.isList (by omega) (by omega) step
  have c2:=RcNeAt.lists (A:=X.A) (s:=s) (e:=pairE xs ys) pl1.isList pl2.isList (by omega) (by omega) step
  have ea:=a3y xs ys;rw [hl,Nat.min_self,beq_self_eq_true,Bool.and_true,<-hl] at ea;rw [l1,ea] at c1 c2;exact ⟨c1,c2⟩
 ·have ne:(its.toArray.size != its2.toArray.size)=true:=by rw [l1,l2];simpa using hl
  have ea:=a3y xs ys;rw [beq_eq_false_iff_ne.mpr hl,Bool.and_false] at ea;rw [<-ea];exact ⟨RcAt.lists_lengths pl1.isList pl2.isList ne (by omega),RcNeAt.lists_lengths pl1.isList pl2.isList ne (by omega)⟩
theorem au8{X:Cx}(hu:X.A.units+64<cLine):OpR X (compareOp .NotEq) (ayh true X.K):=by
 intro pins s σ H x y v u Q I rx ry h
 obtain ⟨ι,p,q,vs,us,xs,ys,rfl,rfl,h1,h2,r1,r2,p1,p2,hq⟩:=h
 cases rx;cases ry
 exact (akx I hu h1 h2 r1 r2 p1 p2).2 X.prog X.w X.xe _ ⟨.bl _,H,I,rfl,hq⟩
def arb(neg:Bool)(x y:D)(h:Hd):R D:=match v8 x h,v8 y h with
 | some xs,some ys=>if xs.all (pur 59)=true/\ys.all (pur 59)=true then .ok (.bl (if neg then !acz xs ys else acz xs ys)) h else .no
 | _,_=>.no
theorem apz(neg:Bool){K:PySem.W.Frag}:a2f K (arb neg) (ayh neg K):=by
 intro E ι H h x y dx dy Q rx ry hr o
 unfold arb at o
 split at o
 ·rename_i xs ys e1 e2
  split at o
  ·rename_i hc;obtain ⟨a,vs,rfl,h1,r1⟩:=a0k rx hr e1;obtain ⟨b,us,rfl,h2,r2⟩:=a0k ry hr e2;exact ⟨ι,a,b,vs,us,xs,ys,rfl,rfl,h1,h2,r1,r2,hc.1,hc.2,ans o (.bl _) hr⟩
  ·exact o.elim
 ·exact o.elim
end MI
namespace SETA
open PySem PySem.SetTable
end SETA
namespace SETH
def it:Nat->Nat->Nat
 | 0,x=>x
 | n+1,x=>it n (5*x+1)
open PySem PySem.SetTable
def ls(mask:Nat):Nat->Nat × Nat->Nat × Nat
 | 0,x=>x
 | n+1,x=>ls mask n (leap mask x.1 x.2)
end SETH
namespace SETH
open PySem PySem.SetTable SETA
end SETH
namespace SETB
open PySem PySem.Spec PyProof.Rows SETA
end SETB
set_option maxHeartbeats 1000000
namespace SETB
open PySem PySem.Spec PyProof.Rows SETA PySem.Builtin
end SETB
set_option maxHeartbeats 1000000
namespace SETB
open PySem PySem.Spec PyProof.Rows SETA PySem.Builtin
end SETB
set_option maxHeartbeats 1000000
namespace SETB
open PySem PySem.Spec PyProof.Rows SETA PySem.Builtin
end SETB
set_option maxHeartbeats 1000000
namespace SETB
open PySem PySem.Spec PyProof.Rows SETA PySem.Builtin
end SETB
set_option maxHeartbeats 1000000
namespace SETB
open PySem PySem.Spec PyProof.Rows SETA PySem.Builtin
end SETB
set_option maxHeartbeats 1000000
namespace SETB
open PySem PySem.Spec PyProof.Rows SETA PySem.Builtin
end SETB
set_option maxHeartbeats 1000000
namespace L2
open PySem PySem.Spec PyProof.Rows SETB
end L2
set_option maxHeartbeats 1000000
namespace L2
open PySem PySem.Spec PyProof.Rows SETB
end L2
namespace MI
open PySem PySem.Spec L2 SETB
end MI
namespace RCH
open PySem PySem.Spec L2 MI
noncomputable def uv(d9:SF):SE :=
 (sA (jz false 2 d9) (ak (sV 1) (ak (sV 0) di)))
noncomputable def ue(d9:SF):SS :=
 (qj (sA v4 (ak (sZ (m9 (sRg yx (ak (sA vh (ak (s2 gIx (sV 0) (sC (.int 1))) di)) di)) t1 (uv d9) [0])) di)))
noncomputable def ju:SS :=
 (j7 (sIf (sT (s2 hNe (s2 gIx (sV 4) (sV 11)) (s1 a6t (sC (.int 1)))))
 (qj (s2 j6 (sV 9) (sV 10)))
 sNx)
 (sIf (sT (s2 (aep true) (sV 11) (sV 6)))
 (j7 (a6i (sC (.bl true)) (sV 6) (sV 11))
 (a0f (sML a7c (sV 5) (ak (sA a4k (ak (sV 11) (ak (s2 j6 (sV 9) (sV 10)) di))) di))))
 sNx))
noncomputable def qz:ST :=
 (sT (s2 gLt (sV 7) (sA vh (ak (sV 5) di))))
noncomputable def nj:SS :=
 (j7 (a6u (s2 gIx (sV 5) (sV 7)) (a2x 2 (jn (kN 8) (jn (kN 9) a2w))))
 (j7 (a2g (ah1 (sV 2) (s2 gIx (sV 3) (sV 8))) (a2x 2 (jn (kN 10) (jn (kN 11) a2w))) ju)
 (aeg 7 a1m (sC (.int 1)))))
noncomputable def v9:SS :=
 (j7 (a6u (sV 0) (a2x 3 (jn (kN 2) (jn (kN 3) (jn (kN 4) a2w)))))
 (j7 (m7 5 (sA a5c (ak (sA a4k (ak (sV 1) (ak (sC (.str "")) di))) di)))
 (j7 (m7 6 (s2 gD1 (sV 1) (sC (.bl true))))
 (j7 (m7 7 (sC (.int 0)))
 (j7 (sWh qz nj 100000)
 (qj (sC .non)))))))
noncomputable def a0q:SE :=
 (sC (.bl false))
noncomputable def a0r:SS :=
 (sIf (sOr (sT (s2 gGe (s2 gIx (s2 gIx (sV 0) (sC (.int 2))) (sV 4)) (sC (.int 0)))) (a3u (s2 gIx (sV 1) (sV 4))))
 (a9z (sC (.bl true)) (sV 1) (sV 3))
 sNx)
noncomputable def xu:SS :=
 (a2g (sIt (s2 gIx (s2 gIx (sV 0) (sC (.int 1))) (sV 3))) (kN 4) a0r)
noncomputable def xx:SS :=
 (a2g (sRg yx (ak (sA vh (ak (sV 1) di)) di)) (kN 3) xu)
noncomputable def a2m:SS :=
 (j7 (m7 1 (m9 (sIt (s2 gIx (sV 0) (sC (.int 1)))) t1 a0q []))
 (j7 (a2g (sRg yx (ak (sA vh (ak (sV 1) di)) di)) (kN 2) xx)
 (qj (sV 1))))
noncomputable def a0s:SS :=
 (sIf (sT (s2 (gIn true) (sV 4) (sV 2)))
 (a0f (sML a7c (sV 2) (ak (sV 4) di)))
 sNx)
noncomputable def a0t:SS :=
 (a2g (sIt (s2 gIx (s2 gIx (sV 0) (sC (.int 1))) (sV 3))) (kN 4) a0s)
noncomputable def a2n:SS :=
 (j7 (m7 2 (sA a5c di))
 (j7 (a2g (sIt (sV 1)) (kN 3) a0t)
 (qj (sV 2))))
noncomputable def a01(fj:SF)(fu:SF):SE :=
 (sV 0)
noncomputable def rm(fj:SF)(fu:SF):ST :=
 (sT (s2 gGe (s2 gIx (s2 gIx (sV 1) (sC (.int 2))) (sV 0)) (sC (.int 0))))
noncomputable def a02(fj:SF)(fu:SF):SE :=
 (sV 0)
noncomputable def rz(fj:SF)(fu:SF):ST :=
 (a6a (sT (s2 gLt (s2 gIx (s2 gIx (sV 1) (sC (.int 2))) (sV 0)) (sC (.int 0)))) (a3u (s2 gIx (sV 2) (sV 0))))
noncomputable def a03(fj:SF)(fu:SF):SS :=
 (j7 (m7 1 (sA (jz false 2 fu) (ak (sV 0) (ak (sV 1) di))))
 (j7 (sIf (sT (s2 (arb true) (sZ (xn (sIt (sV 1)) t1 (rm fj fu) (a01 fj fu) [0])) (sZ (sA a5c di))))
 (m7 3 (sV 4))
 sNx)
 (m7 1 (sZ (xn (sIt (sV 1)) t1 (rz fj fu) (a02 fj fu) [0,2])))))
noncomputable def a0u(fj:SF)(fu:SF):SS :=
 (j7 (m7 2 (sA (jz false 1 fj) (ak (sV 0) di)))
 (j7 (m7 3 (sC (.int 0)))
 (j7 (a2g (sRg a5j (ak (sC (.int 1)) (ak (s2 j6 (s2 xr (sC (.int 2)) (sA vh (ak (sV 2) di))) (sC (.int 2))) di))) (kN 4) (a03 fj fu))
 (qj (afd (sT (s2 gLe (sV 3) (sA vh (ak (sV 2) di)))) (sV 3) (sC .non))))))
end RCH
namespace HGT
open PySem PySem.Spec L2 MI
end HGT
namespace L2
open PySem PySem.Spec PyProof.Rows
end L2
namespace MI
open PySem PySem.Spec L2
def Bz(j:Int):Prop:=0<=j/\j<2 ^ 62
instance (j:Int):Decidable (Bz j):=by unfold Bz;exact inferInstance
end MI
namespace L2
open PySem PySem.Spec PyProof.Rows
section
variable{prog:Program}{w:World}{A:Around}{E:Value->Shared->Prop}{s:Shared}
theorem aeq{l:Addr}{xs:List Value}{y:Value}{Q:List Value->Shared->Prop}(hh:A.handled=none)(hl:s.heap.IsList l (xs++[y]).toArray)(hz:(xs++[y]).length<=sizeLine)
  (q:∀ (s':Shared),(∀ b o,s.heap.get? b=some o->s'.heap.get? b=some o)->s'.gens=s.gens->s'.drawn=s.drawn->s'.os=s.os->Q [.ref s'.heap.objs.size,y] { s' with heap:=s'.heap.push { cls:=.type "list",data:=.seq xs.toArray } }) :
  wpAny (model prog w) A (unpackItems (.ref l) 2 (some 0)) Q E s:=by
 have ll:l<s.heap.objs.size:=by obtain ⟨o,ho,_⟩:=hl;exact Heap.lt_size ho
 unfold unpackItems
 apply wpAny_bind
 unfold notIterableAtAll
 apply wpAny_bind
 refine wpAny_specialOf hl.typeIs F.slot_list_iter.lookup ?_;refine wpAny_pure ?_;simp only [Bool.false_eq_true,if_false]
 apply wpAny_bind
 apply wpAny_holding
 refine wpAny_pyIter_list hl ?_
 apply wpAny_bind
 apply wpAny_holding
 refine wpAny_pure ?_;rw [if_neg (by simp)]
 apply wpAny_bind
 apply wpAny_holding
 have il:=hl.at (h':=s.heap.push { cls:=.type "list_iterator",data:=.fields #[.ref l,rawInt 0] }) λo e=>Heap.get?_push_of_some _ e;have W:=(Walks.list (prog:=prog) (w:=w) (A:=A.in1) (by simpa using hh) s.heap.objs.size l (Nat.ne_of_lt ll) (xs++[y]).toArray).toS
 refine wpAny_collect_iter (T := "list_iterator") (.inr (.inr (.inl rfl))) W (λi s1 st=>?_) ?_ ?_ (by simp) (λs' acc mv it=>?_) (by simpa using hz)
 ·obtain ⟨o,e,c,d⟩:=st.1;exact ⟨o,e,c⟩
 ·exact ⟨⟨_,Heap.get?_push_size _ rfl,rfl,rfl⟩,il⟩
 ·intro b hb
  show b<(s.heap.push _).objs.size;rw [Heap.size_push];simp only [List.mem_cons,List.not_mem_nil,or_false] at hb
  rcases hb with rfl | rfl
  ·exact Nat.lt_succ_self _
  ·exact Nat.lt_succ_of_lt ll
 ·have ea:acc.toList=xs++[y]:=by
   refine List.ext_getElem? λi=>?_;have sz:acc.size=(xs++[y]).length:=by have:=it.1;simpa using this
   by_cases hi:i<acc.size
   ·have:=it.2 i acc[i] (Array.getElem?_eq_getElem hi)
    rw [Array.getElem?_toList,Array.getElem?_eq_getElem hi];simpa using this.symm
   ·rw [List.getElem?_eq_none (by simpa using hi),List.getElem?_eq_none (by omega)]
  rw [ea];have n1:¬ (xs++[y]).length<2 - 1 - 0:=by rw [List.length_append,List.length_singleton];omega
  rw [if_neg n1];have n2:(xs++[y]).length - (2 - 1 - 0)=xs.length:=by rw [List.length_append,List.length_singleton];omega
  rw [n2]
  apply wpAny_bind
  unfold newList;rw [List.take_left' rfl,List.drop_left' rfl];refine wpAny_newObj_type (wpAny_pure ?_) (by
   have:xs.length<=sizeLine:=by rw [List.length_append] at hz;omega
   simpa [sizeOk] using this)
  refine q s' (λb o e=>mv.heap b o (λz=>?_) (Heap.get?_push_of_some _ e)) mv.gens mv.drawn mv.os;rw [List.mem_singleton] at z;exact absurd (z ▸ Heap.lt_size e) (Nat.lt_irrefl _)
end
section
variable{X:Cx}{pos pos1 pos2 pos3:Pos}
def axk(K:PySem.W.Frag)(i j:Nat):TG:=λv σ H Q=>∃ a xs y,v = .ref a/\SqL K H a (xs++[y])/\∀ l,H l=none->Q ((σ.set i (some (.ref l))).set j (some y)) (upd H l (.lst xs))
theorem aq0{i j k:Nat}{x z:Str}(hc:X.calm=true)(hN:X.N.Nodup)(hi:X.N[i]? = some x)(hx:Loc X.env.scope x)(hj:X.N[j]? = some z)(hx2:Loc X.env.scope z)
  (hf:X.fn x=true\/X.env.scope.names.lookup x=some .local:=by first | exact .inl rfl | exact .inr rfl | assumption) (hf2:X.fn z=true\/X.env.scope.names.lookup z=some .local:=by first | exact .inl rfl | exact .inr rfl | assumption) :
  PG X (.Tuple [.Starred (.Name x pos1) pos2, .Name z pos3] k pos) (axk X.K i j):=by
 intro pins s σ H v u Q I r ⟨a,xs,y,ev,hq,q⟩
 subst ev;cases r
 obtain ⟨its,rv,pl,hz⟩:=I.list hq;obtain ⟨us,w,eu,r1,r2⟩:∃ us w,its=us++[w]/\Vals xs us/\RelV y w:=by
  clear hq q pl hz
  induction xs generalizing its with
  | nil =>
   cases rv with
   | cons r rs=>cases rs;exact ⟨[],_,rfl, .nil,r⟩
  | cons x xs ih =>
   cases rv with
   | cons r rs =>
    obtain ⟨us,w,e,a,b⟩:=ih _ rs;exact ⟨_::us,w,by rw [e];rfl, .cons r a,b⟩
 subst eu;rw [assign_Tuple];refine wpAny_bind (wpAny_standAt ?_);unfold unpack;refine wpAny_bind (wpAny_holding ?_);show wpAny _ _ (unpackItems (.ref a) 2 (some 0)) _ _ s;refine aeq (I.ok.hd hc) pl.isList (by rw [<-rv.length];exact hz) λs' k1 g1 d1 o1=>?_
 obtain ⟨h',g',d',t',o'⟩:=s';dsimp only at g1 d1 o1 k1;subst g1 d1 o1;have I1:Inv X pins σ H { s with heap:=h',toks:=t' }:=I.kept k1
 have lx:=r1.length;have hzx:xs.length<=sizeLine:=by rw [List.length_append] at hz;omega
 have I2:Inv X pins σ (upd H h'.objs.size (.lst xs)) { s with heap:=h'.push { cls:=.type "list",data:=.seq us.toArray },toks:=t' } :=
  I1.laid (t':=t') (λb u e=>Heap.get?_push_of_some _ e) (Nat.le_refl _) (show ObjOk X.prog X.w _ _ _ (.lst xs) from ⟨hzx,us,0,r1,Heap.get?_push_size _ rfl⟩)
 have q2:=q _ (I1.hok.fresh (Nat.le_refl _));show wpAny _ _ (assignInOrder [assign (.Name x pos1) X.env,assign (.Name z pos3) X.env] [.ref h'.objs.size,w]) _ _ _;refine assignInOrder_cons (wpAny_assign_Name (a3p (v:=.ref h'.objs.size) I2 hN hi hx rfl (λs3 I3=>?_) hf));refine assignInOrder_cons (wpAny_assign_Name (a3p (v:=y) I3 hN hj hx2 r2 (λs4 I4=>?_) hf2));exact assignInOrder_nil ⟨_,_,I4,q2⟩
end
end L2
namespace MI
open PySem PySem.Spec L2
def ahp(i j:Nat):SG:=λd τ h=>match v8 d h with
 | some xs=>(match xs.reverse with
  | y::r=>.nx ((τ.set i (some (.ref h.length))).set j (some y)) (h++[.lst r.reverse])
  | []=>.no)
 | none=>.no
theorem aaj{K:PySem.W.Frag}{ι:List Addr}{H:Hp}{y:D}:∀ {ys:List D} {vs:List V},Reps K ι H vs (ys++[y])->∃ us w,vs=us++[w]/\Reps K ι H us ys/\Rep K ι H w y
 | [],_, .cons r .nil=>⟨[],_,rfl, .nil,r⟩
 | _::ys,_, .cons r rs=>by
  obtain ⟨us,w,e,a,b⟩:=aaj (ys:=ys) rs;exact ⟨_::us,w,by rw [e];rfl, .cons r a,b⟩
theorem aq1{X:Cx}{E:XD}{pos pos1 pos2 pos3:Pos}{i j k:Nat}{x z:Str}(hc:X.calm=true)(hN:X.N.Nodup)(hi:X.N[i]? = some x)(hx:Loc X.env.scope x)(hj:X.N[j]? = some z)(hx2:Loc X.env.scope z)
  (hf:X.fn x=true\/X.env.scope.names.lookup x=some .local:=by first | exact .inl rfl | exact .inr rfl | assumption) (hf2:X.fn z=true\/X.env.scope.names.lookup z=some .local:=by first | exact .inl rfl | exact .inr rfl | assumption) :
  MG X E (.Tuple [.Starred (.Name x pos1) pos2, .Name z pos3] k pos) (ahp i j):=by
 refine PG.weak (aq0 hc hN hi hx hj hx2 hf hf2) λv σ H Q ⟨ι,τ,h,d,r,S,Rh,o⟩=>?_;unfold ahp at o
 cases e:v8 d h with
 | none=>rw [e] at o;exact o.elim
 | some xs =>
  rw [e] at o;simp only at o
  cases er:xs.reverse with
  | nil=>rw [er] at o;exact o.elim
  | cons y l =>
   rw [er] at o;simp only at o;have ex:xs=l.reverse++[y]:=by rw [<-List.reverse_reverse xs,er,List.reverse_cons]
   obtain ⟨a,vs,rfl,h1,h2⟩:=a0k r Rh e;rw [ex] at h2;obtain ⟨us,w,ev,r1,r2⟩:=aaj h2;subst ev;refine ⟨a,us,w,rfl, .inl h1,λp hp=>?_⟩;have g:=a9x (ι:=ι) hp (HO.lst us);have li:(ι++[p])[h.length]? = some p:=by rw [<-Rh.len,List.getElem?_append_right (Nat.le_refl _)];simp
   refine o (ι++[p]) (upd H p (.lst us)) _ g (((S.mono g).set (.ref li) i).set (r2.mono g) j) ?_;exact Rh.add hp ⟨us,mq,r1.mono g⟩
theorem aq2{i j:Nat}{d y:D}{xs ys:List D}{τ:Sd}{h:Hd}(e:v8 d h=some xs)(ex:xs=ys++[y]):ahp i j d τ h = .nx ((τ.set i (some (.ref h.length))).set j (some y)) (h++[.lst ys]):=by
 unfold ahp;rw [e,ex];simp
end MI
namespace STP
open PySem PySem.Spec L2 MI
noncomputable def wu:SE :=
 (s2 (gIn false) (sV 0) (sV 1))
noncomputable def sr:SS :=
 (qj (a2t (sA a6k (ak (sV 1) (ak (sC (.ty "str")) di))) (sA aj8 (ak (sZ (m9 (sIt (sV 1)) t1 wu [0])) di))))
noncomputable def vf(dw:SF):SS :=
 (qj (s2 gIx (sA (jz false 3 dw) (ak (sV 0) (ak (sV 1) (ak (sV 2) di)))) (s1 a6t (sC (.int 1)))))
noncomputable def qb:SS :=
 (a0f (sML a7c (sV 6) (ak (s2 gIx (s2 gIx (sV 4) (s2 gIx (sV 6) (s1 a6t (sC (.int 1))))) (sMS aa4 (sV 3) (ak (sV 7) di))) di)))
noncomputable def qu:SS :=
 (j7 (a6u (sV 0) (a2x 3 (jn (kN 3) (jn (kN 4) (jn (kN 5) a2w)))))
 (j7 (m7 6 (sA a5c (ak (sV 1) di)))
 (j7 (a2g (sIt (sV 2)) (kN 7) qb)
 (qj (sV 6)))))
noncomputable def yc:SS :=
 (sIf (a6a (a3u (s2 gIx (sV 2) (sV 12))) (sT (s2 (aep true) (sV 12) (sV 6))))
 (j7 (a6i (s2 j6 (sV 10) (sV 11)) (sV 6) (sV 12))
 (a0f (sML a7c (sV 7) (ak (sA a4k (ak (sV 12) (ak (s2 j6 (sV 10) (sV 11)) di))) di))))
 sNx)
noncomputable def a4a:ST :=
 (sT (s2 gLt (sV 8) (sA vh (ak (sV 7) di))))
noncomputable def a0v:SS :=
 (j7 (a6u (s2 gIx (sV 7) (sV 8)) (a2x 2 (jn (kN 9) (jn (kN 10) a2w))))
 (j7 (a2g (ah1 (sV 3) (s2 gIx (sV 4) (sV 9))) (a2x 2 (jn (kN 11) (jn (kN 12) a2w))) yc)
 (aeg 8 a1m (sC (.int 1)))))
noncomputable def a2o:SS :=
 (j7 (a6u (sV 0) (a2x 3 (jn (kN 3) (jn (kN 4) (jn (kN 5) a2w)))))
 (j7 (m7 6 apf)
 (j7 (m7 7 (sA a5c (ak (sA a4k (ak (sV 1) (ak (sC (.str "")) di))) di)))
 (j7 (m7 8 (sC (.int 0)))
 (j7 (sWh a4a a0v 100000)
 (qj (sV 6)))))))
noncomputable def zq(dh:SF):SE :=
 (s2 aac (sV 1) (sV 0))
noncomputable def a4b(dh:SF):SS :=
 (j7 (m7 1 (sA vh (ak (s2 gIx (sV 0) (sC (.int 1))) di)))
 (j7 (m7 2 (sA (jz false 3 dh) (ak (sV 0) (ak (sC (.int 0)) (ak (sZ (s2 xr (sZ (sA a5c (ak (sC (.bl true)) di))) (sV 1))) di)))))
 (qj (sA v4 (ak (sZ (s2 j6 (sZ (sA a5c (ak (sC (.str "")) di))) (sZ (m9 (sRg a5j (ak (sC (.int 1)) (ak (sV 1) di))) t1 (zq dh) [2])))) di)))))
noncomputable def a1z(iy:SF)(dw:SF):SE :=
 (s2 hEq (s2 gIx (sV 1) (sV 0)) (s1 a6t (sC (.int 1))))
noncomputable def a4c(iy:SF)(dw:SF):SS :=
 (j7 (m7 3 (s2 gIx (sV 0) (sC (.int 2))))
 (j7 (m7 4 (sA (jz false 3 iy) (ak (sV 0) (ak (sC (.int 0)) (ak (sV 1) di)))))
 (j7 (sIf (sOr (sT (s2 hEq (sV 2) (sC (.str "")))) (sT (s2 hEq (s2 gIx (sV 3) (sV 4)) (s1 a6t (sC (.int 1))))))
 (qj (sC (.bl false)))
 sNx)
 (j7 (a6u (sZ (a4w (sA (jz false 3 dw) (ak (sV 0) (ak (sV 4) (ak (sV 2) di)))) (oS (sC (.int 1))) oN)) (ahp 5 6))
 (qj (a2t (s2 hNe (s2 gIx (sV 3) (sV 6)) (s1 a6t (sC (.int 1)))) (sA aj8 (ak (sZ (m9 (sIt (sV 5)) t1 (a1z iy dw) [3])) di))))))))
noncomputable def a2p:SS :=
 (j7 (sIf (a3u (sV 1))
 (qj (s2 gIs (sV 0) (sC (.bl true))))
 sNx)
 (qj (s2 gIs (sV 0) (sC (.bl false)))))
noncomputable def a0w:SS :=
 (m7 2 (s2 gIx (s2 gIx (s2 gIx (sV 0) (sC (.int 1))) (sV 2)) (sMS aei (s2 gIx (sV 0) (sC (.int 0))) (ak (sV 3) di))))
noncomputable def a2q:SS :=
 (j7 (m7 2 (sC (.int 0)))
 (j7 (a2g (sIt (sV 1)) (kN 3) a0w)
 (qj (sV 2))))
noncomputable def a1k:SS :=
 (sIf (sT (s2 (gIn true) (sV 2) (s2 gIx (sV 0) (sC (.int 0)))))
 (qj (sC (.bl false)))
 sNx)
noncomputable def ye:SS :=
 (j7 (sIf (a5i (a3u (sA a6k (ak (sV 1) (ak (sC (.ty "str")) di)))))
 (qj (sC (.bl false)))
 sNx)
 (j7 (a2g (sIt (sV 1)) (kN 2) a1k)
 (qj (sC (.bl true)))))
noncomputable def xg(dz:SF)(jk:SF):SS :=
 (j7 (m7 3 (s2 gIx (s2 gIx (s2 gIx (sV 0) (sC (.int 1))) (sV 3)) (sMS aei (s2 gIx (sV 0) (sC (.int 0))) (ak (s2 gIx (sV 2) (sV 4)) di))))
 (sIf (sT (s2 hNe (s2 gGe (s2 gIx (s2 gIx (sV 0) (sC (.int 2))) (sV 3)) (sC (.int 0))) (s2 hEq (sV 4) (s2 ab5 (sA vh (ak (sV 2) di)) (sC (.int 1))))))
 (qj (sC (.bl false)))
 sNx))
noncomputable def yf(dz:SF)(jk:SF):SS :=
 (j7 (sIf (sOr (a5i (a3u (sA (jz false 2 dz) (ak (sV 0) (ak (sV 1) di))))) (sOr (a5i (a3u (sA (jz false 2 dz) (ak (sV 0) (ak (sV 2) di))))) (sT (s2 hEq (sV 2) (sC (.str ""))))))
 (qj (sC (.bl false)))
 sNx)
 (j7 (m7 3 (sA (jz false 2 jk) (ak (sV 0) (ak (sV 1) di))))
 (j7 (sIf (sT (s2 gLt (s2 gIx (s2 gIx (sV 0) (sC (.int 2))) (sV 3)) (sC (.int 0))))
 (qj (sC (.bl false)))
 sNx)
 (j7 (a2g (sRg yx (ak (sA vh (ak (sV 2) di)) di)) (kN 4) (xg dz jk))
 (qj (sC (.bl true)))))))
noncomputable def qw(aa:SF)(d8:SF):SE :=
 (sV 0)
noncomputable def m8(aa:SF)(d8:SF):ST :=
 (sT (s2 (gIn true) (sV 0) (sV 1)))
noncomputable def xq(aa:SF)(d8:SF):SE :=
 (sV 0)
noncomputable def jb(aa:SF)(d8:SF):SS :=
 (j7 (m7 4 (sA (jz false 2 aa) (ak (sV 0) (ak (s2 j6 (sA vh (ak (sV 2) di)) (sC (.int 1))) di))))
 (j7 (m7 5 (s2 gIx (sV 1) (sA (jz false 2 aa) (ak (sV 0) (ak (sA vh (ak (sV 1) di)) di)))))
 (j7 (m7 6 (sZ (xn (sIt (sA (jz false 0 d8) di)) t1 (m8 aa d8) (qw aa d8) [1])))
 (j7 (sIf (sT (s2 hEq (sV 3) (sC (.int 0))))
 (qj (s2 j6 (s2 j6 (a4w (sV 2) oN (oS (sV 4))) (sV 5)) (a4w (sV 2) (oS (sV 4)) oN)))
 sNx)
 (j7 (sIf (sT (s2 hEq (sV 3) (sC (.int 1))))
 (qj (s2 j6 (a4w (sV 2) oN (oS (sV 4))) (a4w (sV 2) (oS (s2 j6 (sV 4) (sC (.int 1)))) oN)))
 sNx)
 (j7 (sIf (sT (s2 hEq (sV 3) (sC (.int 2))))
 (qj (s2 j6 (s2 j6 (a4w (sV 2) oN (oS (sV 4))) (sV 5)) (a4w (sV 2) (oS (s2 j6 (sV 4) (sC (.int 1)))) oN)))
 sNx)
 (j7 (sIf (sT (s2 hEq (sV 3) (sC (.int 3))))
 (qj (s2 j6 (s2 j6 (a4w (sV 2) oN (oS (sV 4))) (s2 gIx (sV 6) (sA (jz false 2 aa) (ak (sV 0) (ak (sA vh (ak (sV 6) di)) di))))) (a4w (sV 2) (oS (s2 j6 (sV 4) (sC (.int 1)))) oN)))
 sNx)
 (j7 (sIf (sT (s2 hEq (sV 3) (sC (.int 4))))
 (qj (sC .non))
 sNx)
 (j7 (sIf (sT (s2 hEq (sV 3) (sC (.int 5))))
 (qj (m9 (sIt (sV 2)) t1 (xq aa d8) []))
 sNx)
 (qj (sC (.str ""))))))))))))
end STP
namespace ZP
open PySem PySem.Spec PySem.Builtin L2
def ItI(a:Addr)(o:Obj)(kvs:List (Key × V)):It where
 go:=λi H=>H a=some (.frz o (.dK kvs))/\∃ k x,kvs[i]? = some (k,x)
 yld:=λi H v H'=>∃ k x p,kvs[i]? = some (k,x)/\H p=none/\v = .ref p/\H'=upd H p (.tup [kV k,x])
 stop:=λi H=>H a=some (.frz o (.dK kvs))/\i=kvs.length
theorem axl{P:Program}{w:World}{k:Key}{u:Value}(e:(km P w).is k u=true):RelV (kV k) u:=by
 rw [ae1] at e
 cases k with
 | inl i=>cases u<;>first | (simp [a5v,Value.isInt] at e;done) | (simp [a5v,Value.isInt] at e;exact ⟨_,by rw [e]⟩)
 | inr x=>cases u<;>first | (simp [a5v,Value.isStrOf] at e;done) | (simp [a5v,Value.isStrOf] at e;exact ⟨_,by rw [e]⟩)
theorem au9{kvs:List (Key × V)}{vs:List (Key × Value)}(r:KV kvs vs):∀ {i:Nat} {k:Key} {x:V},kvs[i]? = some (k,x)->∃ v,vs[i]? = some (k,v)/\RelV x v:=by
 unfold KV at r
 induction r with
 | nil=>intro i k x e;simp at e
 | cons h t ih =>
  rename_i p q l m
  intro i k x e
  cases i with
  | zero =>
   simp only [List.getElem?_cons_zero,Option.some.injEq] at e;subst e;exact ⟨q.2,by rw [List.getElem?_cons_zero];exact congrArg some (Prod.ext h.1.symm rfl),h.2⟩
  | succ i=>exact ih e
theorem ahq{P:Program}{w:World}{H:Hp}{h:Heap}{a:Addr}{o:Obj}{kvs:List (Key × V)}(ok:HOk P w H h)(e:H a=some (.frz o (.dK kvs))):(a == sysModules)=false/\∃ vs es ep,KV kvs vs/\o.data = .dict es ep/\h.DictAt (km P w) a vs ep:=by
 obtain ⟨ho,z,hd,vs,rel,o',es,ep,ho',r⟩:h.get? a=some o/\ObjOk P w H h a (.dK kvs):=ok a _ e;rw [ho] at ho'
 cases ho'
 exact ⟨hd,vs,es,ep,rel,r.2.1,o,es,ho,r⟩
def tnI(it a:Addr)(ep n i:Nat)(h:Heap):Prop:=∃ ok ov,IsItemIter h it a i n ep ok ov
theorem aer{P:Program}{w:World}{K:PySem.W.Frag}{elts:List Expr}{x1:Nat}{pos:Pos}{it a:Addr}{o:Obj}{kvs:List (Key × V)}{es:Array DictEntry}{ep:Nat}(od:o.data = .dict es ep):Turn P w K (.Tuple elts x1 pos) (ItI a o kvs) [it] it (tnI it a ep kvs.length) where
 mem:=by simp
 obj:=λi h st b hb=>by
  obtain ⟨ok,ov,h1⟩:=st;rw [List.mem_singleton] at hb;subst hb;exact ⟨_,h1,λv z=>(by cases z)⟩
 keep:=λi h h' st kk=>by
  obtain ⟨ok,ov,h1⟩:=st;exact ⟨ok,ov,kk it (by simp) _ h1⟩
 item:=by
  intro X hP hw hK hc i pins s σ H E I hf st hg
  subst hP hw hK;obtain ⟨e1,k,x,g1⟩:=hg;obtain ⟨okv,ov,h1⟩:=st;obtain ⟨_,vs,es',ep',rel,od',hm⟩:=ahq I.hok e1;have:ep'=ep:=by rw [od] at od';cases od';rfl
  subst this;obtain ⟨v,hx,rv⟩:=au9 rel g1;have ln:kvs.length=vs.length:=rel.length;rw [ln] at h1;have ni:H it=none:=(hf it (by simp)).1
  refine wpAny_pyNext_items_item h1 hm hx λkey h' hkey ho hT hsz hk=>?_;refine ⟨_,rfl,wpAny_letOwnedTupleGo_items ho λh2' z2' sb=>?_⟩;have rk:=axl hkey;have hp:H s.heap.objs.size=none:=I.hok.fresh (Nat.le_refl _);have nT:it≠s.heap.objs.size:=Nat.ne_of_lt (Heap.lt_size h1);have I0:Inv X pins σ (upd H s.heap.objs.size (.tup [kV k,x])) { s with heap:=s.heap.push { cls:=.type "tuple",data:=.seq #[key,v] } } :=
   I.laid (t':=s.toks) (o:=.tup [kV k,x]) (λb o q=>Heap.get?_push_of_some _ q) (Nat.le_refl _) ⟨by show 2<=sizeLine;decide,[key,v], .cons rk (.cons rv .nil),⟨_,Heap.get?_push_size _ rfl,rfl,_,rfl⟩⟩
  have I1:Inv X pins σ (upd H s.heap.objs.size (.tup [kV k,x])) { s with heap:=h2' }:=by
   refine a4t (s:={ s with heap:=s.heap.push { cls:=.type "tuple",data:=.seq #[key,v] } }) (t':=s.toks) (ch:=[it]) I0 (λb hb=>?_) λc o nc q=>?_
   ·obtain ⟨f0,f1⟩:=hf b hb;rw [List.mem_singleton] at hb;subst hb;exact ⟨by rw [jf nT];exact f0,f1⟩
   ·have nc':c≠it:=λz=>nc (by rw [z];simp)
    rcases Heap.get?_push_cases q with ⟨rfl,rfl⟩ | q
    ·exact (sb.2 _ nc').trans hT
    ·exact (sb.2 c nc').trans (hk c o nc' q)
  rw [<-ln] at z2';refine ⟨.ref s.heap.objs.size,_,I1,rfl,⟨k,x,_,g1,hp,rfl,rfl⟩,⟨key,v,z2'⟩,λb hb=>?_⟩;rw [List.mem_singleton] at hb;subst hb;rw [jf nT];exact ni
 done:=by
  intro X hP hw hK hc i pins s σ H E I hf st hg
  subst hP hw hK;obtain ⟨e1,rfl⟩:=hg;obtain ⟨okv,ov,h1⟩:=st;obtain ⟨_,vs,es',ep',rel,od',hm⟩:=ahq I.hok e1;have:ep'=ep:=by rw [od] at od';cases od';rfl
  subst this;have ln:kvs.length=vs.length:=rel.length;rw [ln] at h1;refine wpAny_pyNext_items_end (I.ok.hd hc) h1 hm (List.getElem?_eq_none (Nat.le_refl _)) λh' ex=>⟨rfl,a4t (t':=s.toks) I hf λc o nc q=>?_⟩;exact ex c o (λz=>nc (by rw [z];simp)) q
 self:=λ_ _ _ _ _ st h=>by
  obtain ⟨ok,ov,h1⟩:=st;exact PySem.W.kcp_self h1 h
structure M0 (X:Cx) (o:Expr) (m:Str) (apos:Pos) (cpos:Pos):Prop where
 base:attributeBase o m X.env (eval o X.env)=eval o X.env
 line:(apos.endLine == cpos.line)=true
section
variable{X:Cx}{elts:List Expr}{x1:Nat}{tpos:Pos}
def aua(td:TE):TI:=λσ H R=>td σ H λx H1=>∃ a o kvs,x = .ref a/\H1 a=some (.frz o (.dK kvs))/\R (ItI a o kvs) H1
theorem aky{e:Expr}{td:TE}{apos cpos:Pos}(he:PE X e td)(m:M0 X e "items" apos cpos):PI X (.Tuple elts x1 tpos) (.Call (.Attribute e "items" apos) [] [] cpos) (aua td):=by
 intro pins s σ H R I h
 refine wpAny_Call_method m.base rfl m.line PySem.F.plainAttrs_dict PySem.F.slot_dict_items PySem.F.type_dict_items (thn (he pins s σ H _ I h) λu s1 ⟨x,H1,I1,rx,a,o,kvs,ex,ea,q⟩=>?_);subst ex;obtain rfl:u=Value.ref a:=rx;obtain ⟨t1,t2,_⟩:=amc I1 (.inl ⟨kvs, .inr ⟨o,ea⟩⟩);refine ⟨t1,t2,?_⟩;obtain ⟨hd,vs,es,ep,rel,od,hm⟩:=ahq I1.hok ea;have dd:s1.heap.DictOf (km X.prog X.w) a vs:=by
  obtain ⟨o',es',r⟩:=hm;exact ⟨o',es',ep,r⟩
 refine Calls.callWith_builtin rfl (PyProof.Rows.evalArgs_none ?_);refine call_meetsIn PySem.F.slot_dict_items dd.typeIs PySem.F.entry_dict_items (PySem.F.args_dict_items_1 _) (meets_dict_items (km X.prog X.w) a hd) ⟨⟨vs,dd⟩,?_⟩;have keepA:∀ b o,s1.heap.get? b=some o->(s1.heap.push { cls:=.type "dict_items",data:=.fields #[.ref a] }).get? b=some o:=λb o q=>Heap.get?_push_of_some _ q;have hm2:(s1.heap.push { cls:=.type "dict_items",data:=.fields #[.ref a] }).DictAt (km X.prog X.w) a vs ep:=by
  obtain ⟨o',es',ho',r⟩:=hm;exact ⟨o',es',keepA _ _ ho',r⟩
 refine wpAny_pyIter_items (s:={ s1 with heap:=s1.heap.push { cls:=.type "dict_items",data:=.fields #[.ref a] } }) ⟨_,Heap.get?_push_size _ rfl,rfl,rfl⟩ hm2 ?_
 have at1:=Heap.get?_push_size (o:={ cls:=.type "dict_itemiterator",data:=.fields #[.none, .bool false, .ref a, .int 0 0, .int vs.length 0, .int ep 0, .none, .none] }) (s1.heap.push { cls:=.type "dict_items",data:=.fields #[.ref a] }) rfl;have ln:vs.length=kvs.length:=rel.length.symm;have keepB:∀ b o,s1.heap.get? b=some o->((s1.heap.push { cls:=.type "dict_items",data:=.fields #[.ref a] }).push { cls:=.type "dict_itemiterator",data:=.fields #[.none, .bool false, .ref a, .int 0 0, .int vs.length 0, .int ep 0, .none, .none] }).get? b=some o:=λb o q=>Heap.get?_push_of_some _ (keepA b o q)
 have I2:Inv X pins σ H1 { s1 with heap:=(s1.heap.push { cls:=.type "dict_items",data:=.fields #[.ref a] }).push { cls:=.type "dict_itemiterator",data:=.fields #[.none, .bool false, .ref a, .int 0 0, .int vs.length 0, .int ep 0, .none, .none] } }:=I1.kept (t':=s1.toks) keepB
 refine ⟨_,[_],tnI _ a ep kvs.length,ItI a o kvs,H1,rfl,I2,aer od,⟨.none, .none,by rw [<-ln];exact at1⟩,λb hb=>?_,q⟩
 rw [List.mem_singleton] at hb;have:s1.heap.objs.size<=b:=by rw [hb,Heap.size_push];exact Nat.le_succ _
 exact I1.fpOk this (I1.hok.fresh this)
end
end ZP
namespace MI
open PySem PySem.Spec L2 ZP
def kD:Key->D
 | .inl i=>.int i
 | .inr x=>.str x
theorem aub{K:PySem.W.Frag}{ι:List Addr}{H:Hp}(k:Key):Rep K ι H (kV k) (kD k):=by cases k;exact .int _;exact .str _
def amv(d:D)(h:Hd):R Itm:=match d with
 | .rod ks xs=>.ok ⟨(ks.zip xs).map λp=>.tup [kD p.1,p.2],λ_=>True⟩ h
 | _=>.no
def ade(f:SE):SI:=λτ h=>(f τ h).bind amv
theorem akz{X:Cx}{E:XD}{elts:List Expr}{x1:Nat}{tpos:Pos}{e:Expr}{f:SE}{apos cpos:Pos}(ha:ME X E e f)(m:M0 X e "items" apos cpos):MI X E (.Tuple elts x1 tpos) (.Call (.Attribute e "items" apos) [] [] cpos) (ade f):=by
 intro pins s σ H Rr I ⟨ι,τ,h,S,Rh,o⟩
 refine aky ha m pins s σ H Rr I ?_;refine ⟨ι,τ,h,S,Rh,g8 o λd h1 ι1 H1 v g1 r1 hr1 o1=>?_⟩
 cases r1 with
 | @rod a ob us ks xs hp ek rs =>
  refine ⟨a,ob,us,rfl,hp,o1 ι1 H1 _ (.refl _ _) ?_ hr1⟩
  intro ι3 H3 h3 g3 hr3 c3
  have hp3:=g3.frz _ _ _ hp;have rs3:=rs.mono g3;refine ⟨λi d ed=>?_,hp3,?_⟩
  ·simp only [List.getElem?_map,Option.map_eq_some_iff] at ed;obtain ⟨⟨k,y⟩,ez,rfl⟩:=ed;obtain ⟨ex,ey⟩:=List.getElem?_zip_eq_some.mp ez;obtain ⟨v2,b3,b4⟩:=rs3.get ey;rw [<-ek,List.getElem?_map] at ex;rw [List.getElem?_map] at b3;obtain ⟨p,hu,rfl⟩:=Option.map_eq_some_iff.mp ex;rw [hu] at b3;cases b3
   refine ⟨⟨hp3,p.1,p.2,hu⟩,λx H' yl=>?_⟩;obtain ⟨k',x',q,c1,c5,rfl,rfl⟩:=yl;rw [hu] at c1;cases c1
   exact ⟨yj c5 _, .tup mq (.cons (aub _) (.cons (b4.mono (yj c5 _)) .nil)),hr3.aside c5 _⟩
  ·have l1:=rs.len;have l2:=congrArg List.length ek;rw [List.length_map] at l1 l2;rw [List.length_map,List.length_zip];omega
 | _=>exact o1.elim
def abq(x y:D)(h:Hd):R D:=match amt x y h with
 | some r=>.ok (r.getD .non) h
 | none=>.no
def al0(f g:SE):SE:=λτ h=>(f τ h).bind λx h1=>match x with
 | .rod _ _=>(g τ h1).bind λy h2=>abq x y h2
 | _=>.no
theorem aq3{X:Cx}{E:XD}{o e:Expr}{f g:SE}{apos cpos:Pos}(hu:X.A.units+64<cLine)(ha:ME X E o f)(hb:ME X E e g)(m:M1 X o "get" apos e cpos):ME X E (.Call (.Attribute o "get" apos) [e] [] cpos) (al0 f g):=by
 refine PE.weak (aju (u1 hu) ha hb m) λσ H Q ⟨ι,τ,h,S,Rh,o⟩=>?_;refine ⟨ι,τ,h,S,Rh,g8 o λd h1 ι1 H1 v g1 r1 hr1 o1=>?_⟩
 cases r1 with
 | @rod a ob us ks xs hp ek rs =>
  refine ⟨a,rfl, .inl ⟨us, .inr ⟨ob,hp⟩⟩,ι1,τ,h1,S.mono g1,hr1,g8 o1 λd2 h2 ι2 H2 u g2 r2 hr2 o2=>?_⟩;have r1':Rep X.K ι2 H2 (.ref a) (.rod ks xs):=(Rep.rod hp ek rs).mono g2;unfold abq at o2
  split at o2
  ·rename_i r e;obtain ⟨a',ea,q⟩:=a8e r1' r2 hr2 e;cases ea
   cases r with
   | none=>exact ⟨none,q,ans o2 .non hr2⟩
   | some d=>obtain ⟨w,q1,q2⟩:=q;exact ⟨some w,q1,ans o2 q2 hr2⟩
  ·exact o2.elim
 | _=>exact o1.elim
end MI
namespace RND
open PySem PySem.Spec L2 MI
noncomputable def abr(kj:SF)(m5:SF)(dh:SF):SE :=
 (s2 hEq (sV 0) (s1 a6t (sC (.int 1))))
noncomputable def a3m(kj:SF)(m5:SF)(dh:SF):SS :=
 (sIf (a6a (a5i (a3u (s2 gIx (sV 1) (sV 3)))) (sT (s2 (aep false) (sV 5) (sV 2))))
 (j7 (a6u (s2 aac (sV 2) (sV 5)) (a2x 2 (jn (kN 7) (jn (kN 8) a2w))))
 (qj (sA a4k (ak (sV 4) (ak (sV 6) (ak (sV 7) (ak (sV 8) di)))))))
 sNx)
noncomputable def a0x(kj:SF)(m5:SF)(dh:SF):SS :=
 (a2g (ade (sA (jz false 3 dh) (ak (sV 0) (ak (sV 3) (ak (sV 1) di))))) (a2x 2 (jn (kN 5) (jn (kN 6) a2w))) (a3m kj m5 dh))
noncomputable def a5n(kj:SF)(m5:SF)(dh:SF):SS :=
 (j7 (m7 1 (sZ (m9 (sIt (s2 gIx (sV 0) (sC (.int 2)))) t1 (abr kj m5 dh) [])))
 (j7 (m7 2 (sA (jz false 1 kj) (ak (sV 0) di)))
 (j7 (a2g (a8f (sA (jz false 1 m5) (ak (sV 0) di))) (a2x 2 (jn (kN 3) (jn (kN 4) a2w))) (a0x kj m5 dh))
 (qj (sC .non)))))
noncomputable def a8l(dg:SF)(dh:SF):SE :=
 (s2 hEq (sV 0) (s1 a6t (sC (.int 1))))
noncomputable def a0y(dg:SF)(dh:SF):SS :=
 (j7 (m7 5 (al0 (sA (jz false 3 dh) (ak (sV 0) (ak (sV 3) (ak (sV 1) di)))) (sV 3)))
 (sIf (a6a (sT (s2 a06 (sV 4) (sC .non))) (sT (s2 a06 (sV 5) (sC .non))))
 (a6i (sA a4k (ak (sV 5) (ak (sV 4) di))) (sV 2) (sV 3))
 sNx))
noncomputable def a2r(dg:SF)(dh:SF):SS :=
 (j7 (m7 1 (sZ (m9 (sIt (s2 gIx (sV 0) (sC (.int 2)))) t1 (a8l dg dh) [])))
 (j7 (m7 2 apf)
 (j7 (a2g (a8f (sA (jz false 1 dg) (ak (sV 0) di))) (a2x 2 (jn (kN 3) (jn (kN 4) a2w))) (a0y dg dh))
 (qj (sV 2)))))
end RND
namespace TPM
open PySem PySem.Spec PySem.W L2 HT MI
theorem aes(t:Addr)(items:Array Value)(n:Nat)(dd:Option Addr)(sl:Array (Option Value))(u:Tok) :
  Meets (Builtin.«tuple.__mul__» ⟨[.ref t, .int 1 u],[]⟩) (λ_ R s=>s.heap.get? t=some { cls:=.type "tuple",dict:=dd,data:=.seq items n,slots:=sl }/\R (.ok (.ret (.ref t))) s) :=
 .of_wp λprog w A R s h=>by
  obtain ⟨hp,g,d,tk,os⟩:=s;obtain ⟨hl,h⟩:=h
  wp_walk
  exact ⟨_,rfl,h⟩
def aq4(K:PySem.W.Frag):R2:=λx y H Q=>∃ a xs,x = .ref a/\y = .int 1/\SqT K H a xs/\Q (.ref a) H
theorem aq5{X:Cx}:OpR X (binaryOp .Mult) (aq4 X.K):=by
 intro pins s σ H x y v u Q I rx ry h
 obtain ⟨a,xs,rfl,rfl,ha,q⟩:=h;cases rx
 obtain ⟨t,rfl⟩:=ry;obtain ⟨its,r1,p1,_⟩:=I.tuple ha;obtain ⟨⟨cls,dd,data,sl⟩,ho,hc,n,hd⟩:=id p1;simp only at hc hd;subst hc hd;exact wpAny_binaryOp_repeat_ref (T := "tuple") (U := "int") (by decide) ⟨_,ho,rfl⟩ (λs'=>typeIs_int s' 1 t) a1j F.fills_int_mul F.slot_int_rmul aaa F.slot_int_index.lookup
  (call_meets F.slot_int_rmul (typeIs_int s 1 t) F.entry_int_rmul (F.args_int_rmul_2 _ _) (a5f 1 t a its.toArray n dd sl)
   ⟨ho,rfl,⟨_,ho,rfl⟩,call_meets F.slot_tuple_mul ⟨_,ho,rfl⟩ F.entry_tuple_mul (F.args_tuple_mul_2 _ _) (aes a its.toArray n dd sl t) ⟨ho, .ref a,H,I,rfl,q⟩⟩)
end TPM
namespace MI
open PySem PySem.Spec L2 TPM
noncomputable def al1(x y:D)(h:Hd):R D:=match x,y with
 | .tup xs, .int k=>if k=1 then .ok (.tup xs) h else akg (.tup xs) (.int k) h
 | x,y=>akg x y h
theorem a5o{K:PySem.W.Frag}:a2f K al1 (λx y H Q=>((rI CMul (λi j=>.int (i*j)) x y H Q\/asv x y H Q)\/akf K x y H Q)\/aq4 K x y H Q):=by
 intro E ι H h x y dx dy Q rx ry hr o
 cases rx with
 | @tup a vs xs ha rs =>
  cases ry with
  | int k =>
   simp only [al1] at o
   split at o
   ·rename_i hc;subst hc;exact .inr ⟨a,vs,rfl,rfl,SqT.of ha,ans o (.tup ha rs) hr⟩
   ·exact .inl (a8a _ _ _ _ _ _ _ _ _ (.tup ha rs) (.int k) hr o)
  | _=>exact o.elim
 | int i=>exact .inl (a8a _ _ _ _ _ _ _ _ _ (.int i) ry hr o)
 | ref e=>exact .inl (a8a _ _ _ _ _ _ _ _ _ (.ref e) ry hr o)
 | _=>exact o.elim
end MI
namespace MI
open PySem PySem.Spec L2
abbrev S(l:List Nat):Str:=⟨l.toArray⟩
theorem zb(l:List Nat):(S l).cps.toList=l:=by simp
theorem aak(l:List Nat):(S l).length=l.length:=by simp [Str.length]
theorem aet(x:Str):S x.cps.toList=x:=by cases x;simp
theorem aq6(a b:List Nat):S a++S b=S (a++b):=by rw [<-aet (S a++S b),ax8]
theorem axm{a b:List Nat}(h:S a=S b):a=b:=by
 have:=congrArg (λx:Str=>x.cps.toList) h
 simpa using this
theorem aq7(a b:List Nat):(S a == S b)=decide (a=b):=by
 by_cases h:a=b
 ·subst h;simp
 ·have:¬ S a=S b:=λz=>h (axm z)
  simp [h]
section
variable{h:Hd}{a b l:List Nat}{i:Nat}{c:Nat}
theorem aw1(hl:l.length<=LINE)(e:l[i]? = some c):gIx (.str (S l)) (.int (i:Nat)) h = .ok (.str (S [c])) h:=by
 unfold gIx;simp only [aak,if_pos hl,zb,v7 e]
theorem a04(hl:a.length+b.length<=LINE):j6 (.str (S a)) (.str (S b)) h = .ok (.str (S (a++b))) h:=by
 unfold j6;simp only [aak,if_pos hl,aq6]
theorem aeu(hl:l.length<=LINE):vh [.str (S l)] h = .ok (.int l.length) h:=by
 unfold vh;simp only [aak,if_pos hl]
theorem ayi(k:Nat)(hl:l.length<=LINE):aj9 (.str (S l)) none (some (k:Int)) h = .ok (.str (S (l.take k))) h:=by
 show gSl (.str (S l)) none (some (k:Int)) h=_;unfold gSl;simp only [aak,if_pos hl,zb,age]
theorem ahr(k:Nat)(hl:l.length<=LINE):aj9 (.str (S l)) (some (k:Int)) none h = .ok (.str (S (l.drop k))) h:=by
 show gSl (.str (S l)) (some (k:Int)) none h=_;unfold gSl;simp only [aak,if_pos hl,zb,a9w]
end
section
variable{h:Hd}{i j:Int}{xs ys:List D}
theorem a5y:gIx (.tup xs) (.int i) h=(match atI xs i with | some d=>.ok d h | none=>.no):=rfl
theorem a7g:gIx (.rol xs) (.int i) h=(match atI xs i with | some d=>.ok d h | none=>.no):=rfl
theorem a7h{k:Nat}:gIx (.ref k) (.int i) h=(match a0b (.ref k) h with | some xs=>(match atI xs i with | some d=>.ok d h | none=>.no) | none=>.no):=rfl
theorem a2a:vh [.tup xs] h = .ok (.int xs.length) h:=rfl
theorem a2b:vh [.rol xs] h = .ok (.int xs.length) h:=rfl
theorem a6l{k:Nat}:vh [.ref k] h=(match a0b (.ref k) h with | some xs=>.ok (.int xs.length) h | none=>.no):=rfl
theorem v5:j6 (.int i) (.int j) h = .ok (.int (i+j)) h:=rfl
theorem a0z:a1m (.int i) (.int j) h = .ok (.int (i+j)) h:=rfl
open Classical in
theorem a4d:xr (.int i) (.int j) h=if CMul i j then .ok (.int (i*j)) h else .no:=by unfold xr;rfl
theorem u5(b:Bool):tru (.bl b) h = .ok b h:=rfl
theorem a8m:tru (.int i) h = .ok (i != 0) h:=rfl
theorem a8n:tru (.rol xs) h = .ok (!xs.isEmpty) h:=rfl
theorem a8o:tru (.tup xs) h = .ok (!xs.isEmpty) h:=rfl
theorem a8p:tru .non h = .ok false h:=rfl
theorem aev:hEq (.int i) (.int j) h = .ok (.bl (i == j)) h:=rfl
theorem aew:hNe (.int i) (.int j) h = .ok (.bl (!(i == j))) h:=rfl
theorem aq8(a b:Str):hEq (.str a) (.str b) h = .ok (.bl (a == b)) h:=rfl
theorem al3(a b:Bool):hEq (.bl a) (.bl b) h = .ok (.bl (a == b)) h:=rfl
theorem al4(a b:Bool):hNe (.bl a) (.bl b) h = .ok (.bl (!(a == b))) h:=rfl
theorem adf(x:D):gIs x .non h = .ok (.bl (a4p x)) h:=by cases x<;>rfl
theorem a4e(x:D):a06 x .non h = .ok (.bl (!a4p x)) h:=by cases x<;>rfl
theorem al5(a b:Bool):gIs (.bl a) (.bl b) h = .ok (.bl (a == b)) h:=rfl
theorem a5p(a b:Bool):a06 (.bl a) (.bl b) h = .ok (.bl (a != b)) h:=rfl
theorem aw2:a4p (.int i)=false:=rfl
theorem aw3(x:Str):a4p (.str x)=false:=rfl
theorem aw4:a4p .non=true:=rfl
theorem aw5:a4p (.tup xs)=false:=rfl
end
theorem axn(n:Nat):rng 0 n=(List.range n).map λi:Nat=>D.int (i:Nat):=by
 unfold rng;exact List.map_congr_left λi _=>by rw [Int.zero_add]
theorem axo(a:Int)(n:Nat):rng a n=(List.range n).map λi:Nat=>D.int (a+(i:Nat)):=rfl
theorem abt{n:Nat}(h:n<=LINE):B62 (n:Int):=by
 have:n<=16777216:=h
 unfold B62;omega
theorem auc{n:Nat}(h:Hd)(z:n<=LINE):yx [.int (n:Nat)] h = .ok ⟨(List.range n).map λi:Nat=>D.int (i:Nat),λ_=>True⟩ h:=by
 unfold yx;simp only [abt z,if_true,Int.toNat_natCast,axn]
theorem aud{a n:Nat}(h:Hd)(za:a<=LINE)(z:n<=LINE):a5j [.int (a:Nat), .int (n:Nat)] h = .ok ⟨(List.range (n - a)).map λi:Nat=>D.int ((a+i:Nat)),λ_=>True⟩ h:=by
 unfold a5j;simp only [abt z,abt za,and_self,if_true,axo];rw [show ((n:Int) - (a:Int)).toNat=n - a by omega]
 congr 2
theorem axp{f:SE}{τ:Sd}{h:Hd}{d:D}(e:f τ h = .ok d h):ak f di τ h = .ok [d] h:=by unfold ak di;rw [e];rfl
theorem a6w{f g:SE}{τ:Sd}{h:Hd}{c d:D}(e:f τ h = .ok c h)(e':g τ h = .ok d h):ak f (ak g di) τ h = .ok [c,d] h:=by unfold ak;rw [e,d7,e',d7];rfl
theorem a3n{f:SE}{τ:Sd}{h:Hd}{n:Nat}(e:f τ h = .ok (.int (n:Nat)) h)(z:n<=LINE):sRg yx (ak f di) τ h = .ok ⟨(List.range n).map λi:Nat=>D.int (i:Nat),λ_=>True⟩ h:=by
 unfold sRg;rw [axp e,d7];exact auc h z
theorem abu{f g:SE}{τ:Sd}{h:Hd}{a n:Nat}(e':g τ h = .ok (.int (a:Nat)) h)(e:f τ h = .ok (.int (n:Nat)) h)(za:a<=LINE)(z:n<=LINE):sRg a5j (ak g (ak f di)) τ h = .ok ⟨(List.range (n - a)).map λi:Nat=>D.int ((a+i:Nat)),λ_=>True⟩ h:=by
 unfold sRg;rw [a6w e' e,d7];exact aud h za z
theorem au{i:Nat}{τ:Sd}{h:Hd}{d:D}(e:τ[i]? = some (some d)):sV i τ h = .ok d h:=by unfold sV;rw [e]
theorem uw{fi:SI}{t:D->Option Sd}{fe:SE}{ix:List Nat}{τ:Sd}{h:Hd}{α:Type}(g F:α->D)(xs:List α)(e:fi τ h = .ok ⟨xs.map g,λ_=>True⟩ h)(z:xs.length<=LINE)
  (st:∀ x∈xs,a6v t fe (frs' ix τ) (g x) h = .ok (F x) h):m9 fi t fe ix τ h = .ok (.ref h.length) (h++[.lst (xs.map F)]):=by
 unfold m9;rw [e,d7];dsimp only;rw [if_pos (by rw [List.length_map];exact z),aah g F st]
 rfl
theorem a4f{fi:SI}{t:D->Option Sd}{c:ST}{fe:SE}{ix:List Nat}{τ:Sd}{h:Hd}{α:Type}(g:α->D)(F:α->Option D)(xs:List α)(e:fi τ h = .ok ⟨xs.map g,λ_=>True⟩ h)(z:xs.length<=LINE)
  (st:∀ x∈xs,abj t c fe (frs' ix τ) (g x) h = .ok (F x) h):xn fi t c fe ix τ h = .ok (.ref h.length) (h++[.lst (xs.filterMap F)]):=by
 unfold xn;rw [e,d7];dsimp only;rw [if_pos (by rw [List.length_map];exact z),aai g F st]
 rfl
theorem vg(fe:SE)(r:Sd)(x:D)(h:Hd):a6v t1 fe r x h=fe (some x::r) h:=rfl
theorem a8q(c:ST)(fe:SE)(r:Sd)(x:D)(h:Hd):abj t1 c fe r x h=(c (some x::r) h).bind λb h1=>if b=true then (fe (some x::r) h1).bind λy h2=>.ok (some y) h2 else .ok none h1:=rfl
theorem a2s(i:Nat)(ix:List Nat)(τ:Sd):frs' (i::ix) τ=(τ[i]?).join::frs' ix τ:=rfl
theorem a6m(τ:Sd):frs' [] τ=[]:=rfl
section
variable{f k f1 f2 f3:SE}{c c1 c2:ST}{g p q:SS}{τ τ1:Sd}{h h1 h2 h3 h4:Hd}{a b d v:D}{i:Nat}{t u:Bool}
theorem ig(d:D)(τ:Sd)(h:Hd):sC d τ h = .ok d h:=rfl
theorem ayj{G:List D->Hd->R D}(e3:G [] h = .ok v h1):sA G di τ h = .ok v h1:=e3
theorem yg{G:List D->Hd->R D}(e1:f τ h = .ok a h1)(e3:G [a] h1 = .ok v h2):sA G (ak f di) τ h = .ok v h2:=by
 have:ak f di τ h = .ok [a] h1:=by unfold ak;rw [e1];rfl
 unfold sA;rw [this,d7,e3]
theorem yt{G:List D->Hd->R D}(e1:f τ h = .ok a h1)(e2:k τ h1 = .ok b h2)(e3:G [a,b] h2 = .ok v h3):sA G (ak f (ak k di)) τ h = .ok v h3:=by
 have:ak f (ak k di) τ h = .ok [a,b] h2:=by unfold ak;rw [e1,d7,e2];rfl
 unfold sA;rw [this,d7,e3]
theorem aal{G:List D->Hd->R D}(e0:f1 τ h = .ok d h1)(e1:f τ h1 = .ok a h2)(e2:k τ h2 = .ok b h3)(e3:G [d,a,b] h3 = .ok v h4):sA G (ak f1 (ak f (ak k di))) τ h = .ok v h4:=by
 have:ak f1 (ak f (ak k di)) τ h = .ok [d,a,b] h3:=by unfold ak;rw [e0,d7,e1,d7,e2];rfl
 unfold sA;rw [this,d7,e3]
theorem jy(e:f τ h = .ok d h1):j7 (m7 i f) g τ h=g (τ.set i (some d)) h1:=by
 rw [vm];unfold m7;rw [e];rfl
theorem aq9(e:f τ h = .ok d h1):m7 i f τ h = .nx (τ.set i (some d)) h1:=by
 unfold m7;rw [e];rfl
theorem ux(e:p τ h = .nx τ1 h1):j7 p g τ h=g τ1 h1:=by rw [vm,e];rfl
theorem a4y(e:p τ h = .rt d h1):j7 p g τ h = .rt d h1:=by rw [vm,e];rfl
theorem ifT(e:c τ h = .ok true h1):sIf c p q τ h=p τ h1:=by unfold sIf;rw [e];rfl
theorem ifF(e:c τ h = .ok false h1):sIf c p q τ h=q τ h1:=by unfold sIf;rw [e];rfl
theorem ifN(e:c τ h = .ok false h1):j7 (sIf c p sNx) g τ h=g τ h1:=by rw [vm,ifF e];rfl
theorem tof(e:f τ h = .ok (.bl t) h1):sT f τ h = .ok t h1:=by unfold sT;rw [e];rfl
theorem a2c(e:f τ h = .ok d h1)(e':tru d h1 = .ok t h2):a3u f τ h = .ok t h2:=by unfold a3u;rw [e,d7,e']
theorem al6(e:c1 τ h = .ok true h1)(e':c2 τ h1 = .ok t h2):a6a c1 c2 τ h = .ok t h2:=by unfold a6a;rw [e,d7,if_pos rfl,e']
theorem aue(e:c1 τ h = .ok false h1):a6a c1 c2 τ h = .ok false h1:=by unfold a6a;rw [e,d7,if_neg (by simp)]
theorem orT(e:c1 τ h = .ok true h1):sOr c1 c2 τ h = .ok true h1:=by unfold sOr;rw [e,d7,if_pos rfl]
theorem orF(e:c1 τ h = .ok false h1)(e':c2 τ h1 = .ok t h2):sOr c1 c2 τ h = .ok t h2:=by unfold sOr;rw [e,d7,if_neg (by simp),e']
theorem abv(e:c τ h = .ok t h1):a5i c τ h = .ok (!t) h1:=by unfold a5i;rw [e];rfl
theorem arc(e:c τ h = .ok true h1):a5i c τ h = .ok false h1:=abv e
theorem azu(e:c τ h = .ok false h1):a5i c τ h = .ok true h1:=abv e
theorem n6(e:f τ h = .ok d h1):qj f τ h = .rt d h1:=by unfold qj;rw [e];rfl
theorem auf(e:f τ h = .ok (.bl true) h1)(e':k τ h1 = .ok d h2):a2t f k τ h = .ok d h2:=by unfold a2t;rw [e,d7];exact e'
theorem a4g{G:D->List D->Hd->R D}{A:SA}{ds:List D}(e1:f τ h = .ok d h1)(l:isL d h1=true)(e2:A τ h1 = .ok ds h2)(e3:G d ds h2 = .ok v h3):a0f (sML G f A) τ h = .nx τ h3:=by
 unfold a0f sML;rw [e1,d7,if_pos l,e2,d7,e3];rfl
theorem axq{G:D->List D->Hd->R D}{A:SA}{ds:List D}(e1:f τ h = .ok d h1)(l:isL d h1=true)(e2:A τ h1 = .ok ds h2)(e3:G d ds h2 = .ok v h3):sML G f A τ h = .ok v h3:=by
 unfold sML;rw [e1,d7,if_pos l,e2,d7,e3]
theorem arg1(e:f τ h = .ok d h1):ak f di τ h = .ok [d] h1:=by unfold ak di;rw [e];rfl
theorem dm{G:D->D->Hd->R D}(e1:f τ h = .ok a h1)(e2:k τ h1 = .ok b h2)(e3:G a b h2 = .ok v h3):s2 G f k τ h = .ok v h3:=by
 unfold s2;rw [e1,d7,e2,d7,e3]
theorem al7{G:D->Hd->R D}(e1:f τ h = .ok a h1)(e3:G a h1 = .ok v h2):s1 G f τ h = .ok v h2:=by
 unfold s1;rw [e1,d7,e3]
theorem al8{G:D->D->Hd->R D}(ht:τ[i]? = some (some a))(e:f τ h = .ok b h1)(e2:G a b h1 = .ok d h2):aeg i G f τ h = .nx (τ.set i (some d)) h2:=by
 unfold aeg;rw [ht];dsimp only;rw [e,a08,e2];rfl
theorem a6x{G:SG}(e:f τ h = .ok d h1)(e2:G d τ h1 = .nx τ1 h2):a6u f G τ h = .nx τ1 h2:=by
 unfold a6u;rw [e,a08,e2]
theorem aex(e1:f1 τ h = .ok v h1)(e2:f2 τ h1 = .ok a h2)(e3:f3 τ h2 = .ok b h3)(e4:put a b v h3=some h4):a9z f1 f2 f3 τ h = .nx τ h4:=by
 unfold a9z;rw [e1,a08,e2,a08,e3,a08,e4]
theorem ahs(e1:f1 τ h = .ok v h1)(e2:f2 τ h1 = .ok a h2)(e3:f3 τ h2 = .ok b h3)(e4:amu a b v h3=some h4):a6i f1 f2 f3 τ h = .nx τ h4:=by
 unfold a6i;rw [e1,a08,e2,a08,e3,a08,e4]
theorem a09{fi:SI}{G:SG}{b:SS}{xs:List D}{ck:Hd->Prop}(e:fi τ h = .ok ⟨xs,ck⟩ h1):j7 (a2g fi G b) g τ h=thn (forL ck G b xs τ h1) g:=by
 rw [vm];unfold a2g;rw [e];rfl
theorem a5q{xs:List D}{ck:Hd->Prop}(e:f τ h = .ok d h1)(e2:aj5 d h1 = .ok ⟨xs,ck⟩ h1):sIt f τ h = .ok ⟨xs,ck⟩ h1:=by
 unfold sIt;rw [e,d7,e2]
theorem a4h{xs:List D}(e:h[i]? = some (.lst xs))(z:xs.length<LINE):a7c (.ref i) [a] h = .ok .non (h.set i (.lst (xs++[a]))):=by
 unfold a7c;simp only [e,if_pos z]
theorem al9{xs:List D}{j:Nat}(e:h[i]? = some (.lst xs))(hj:j<xs.length):put (.ref i) (.int (j:Nat)) v h=some (h.set i (.lst (xs.set j v))):=by
 have:ixN xs.length (j:Int)=some j:=by unfold ixN;rw [if_pos (by omega),if_pos (by omega)];simp
 unfold put;simp only [e,this]
theorem yu{xs:List D}{j:Nat}{y:D}(e:h[i]? = some (.lst xs))(hj:xs[j]? = some y):gIx (.ref i) (.int (j:Nat)) h = .ok y h:=by
 rw [a7h];unfold a0b;simp only [e,v7 hj]
theorem afe{xs:List D}{j:Nat}{y:D}(hj:xs[j]? = some y):gIx (.rol xs) (.int (j:Nat)) h = .ok y h:=by
 rw [a7g];simp only [v7 hj]
theorem a6y{xs:List D}{j:Nat}{y:D}(hj:xs[j]? = some y):gIx (.tup xs) (.int (j:Nat)) h = .ok y h:=by
 rw [a5y];simp only [v7 hj]
theorem a8r{xs:List D}(e:h[i]? = some (.lst xs)):vh [.ref i] h = .ok (.int (xs.length:Nat)) h:=by
 rw [a6l];unfold a0b;simp only [e]
theorem div_ii{x y:Int}(c:0<y/\y<1073741824):ab2 (.int x) (.int y) h = .ok (.int (x / y)) h:=by unfold ab2;exact if_pos c
theorem a7i{x y:Int}(c:0<y):a5d (.int x) (.int y) h = .ok (.int (x % y)) h:=by unfold a5d;exact if_pos c
theorem ayk{x y:Int}(c:y<x):gGt (.int x) (.int y) h = .ok (.bl true) h:=by unfold gGt;simp only [c,decide_true]
theorem ayl{x y:Int}(c:¬ y<x):gGt (.int x) (.int y) h = .ok (.bl false) h:=by unfold gGt;simp only [c,decide_false]
theorem aqa{x y:Int}(c:x<y):gLt (.int x) (.int y) h = .ok (.bl true) h:=by unfold gLt;simp only [c,decide_true]
theorem ard{x y:Int}(c:¬ x<y):gLt (.int x) (.int y) h = .ok (.bl false) h:=by unfold gLt;simp only [c,decide_false]
theorem aam{x y:Int}(c:x=y):hEq (.int x) (.int y) h = .ok (.bl true) h:=by rw [aev,c,beq_self_eq_true]
theorem aey{x y:Int}(c:¬ x=y):hEq (.int x) (.int y) h = .ok (.bl false) h:=by rw [aev,beq_eq_false_iff_ne.mpr c]
theorem aqb{x y:Int}(c:x=y):hNe (.int x) (.int y) h = .ok (.bl false) h:=by rw [aew,c,beq_self_eq_true];rfl
theorem auh{x y:Int}(c:¬ x=y):hNe (.int x) (.int y) h = .ok (.bl true) h:=by rw [aew,beq_eq_false_iff_ne.mpr c];rfl
theorem a8s(x:Int):a6t (.int x) h = .ok (.int (-x)) h:=rfl
theorem adg(x y:Int):MI.ab5 (.int x) (.int y) h = .ok (.int (x - y)) h:=rfl
theorem gq{n:Nat}(h:n<=1000000):n<=LINE:=by show n<=16777216;omega
theorem a1l{n:Nat}(h:n<=1000000):n<LINE:=by show n<16777216;omega
theorem arf:MI.a4k [a,b] h = .ok (.tup [a,b]) h:=by unfold MI.a4k;rw [if_pos (gq (by simp))]
theorem axr:MI.a4k [a,b,v] h = .ok (.tup [a,b,v]) h:=by unfold MI.a4k;rw [if_pos (gq (by simp))]
end
end MI
namespace L2
open PySem PySem.Spec PyProof.Rows
theorem adh(x:Array Nat):∀ (n:Nat) (a:Array Nat),(List.replicate n x).foldl (·++·) a=(a.toList++(List.replicate n x.toList).flatten).toArray
 | 0,a=>by simp
 | n+1,a=>by rw [List.replicate_succ,List.foldl_cons,adh x n];simp [List.replicate_succ]
theorem ala{α:Type}(n:Nat)(l:List α):(List.replicate n l).flatten.length=n*l.length:=by simp
def aui:R2:=λx y H Q=>∃ z k,x = .str z/\y = .int k /\ -1000000<=k/\k<=1000000/\z.length*k.toNat<=sizeLine/\Q (.str ⟨((List.replicate k.toNat z.cps.toList).flatten).toArray⟩) H
theorem aqc{X:Cx}:OpR X (binaryOp .Mult) aui:=by
 intro pins s σ H x y v u Q I rx ry ⟨z,k,ex,ey,k1,k2,hz,q⟩
 subst ex ey;obtain ⟨t,rfl⟩:=rx;obtain ⟨t',rfl⟩:=ry;refine P.mul_str (by rw [decide_eq_false (by omega),decide_eq_false (by omega)];rfl) (λh1 h2=>?_) (λ_ _=>?_) ?_
 ·have hs:=sizeLine_eq;have hx:z.length<=sizeLine:=by
   have:1<=k.toNat:=by omega
   exact Nat.le_trans (Nat.le_mul_of_pos_right _ this) hz
  have:(1000000000:Int)<=(2 ^ 63 - 1) / k:=by
   rw [Int.le_ediv_iff_mul_le (by omega)]
   omega
  omega
 ·exact decide_eq_false (Nat.not_lt.mpr hz)
 ·split
  ·rename_i h1;have:k.toNat=0:=by omega
   refine ⟨by decide, .str _,H,I.tok _,⟨_,rfl⟩,?_⟩
   rw [this] at q;exact q
  ·split
   ·rename_i h1 h2;rw [Bool.or_eq_true] at h2;refine ⟨.str z,H,I,⟨_,rfl⟩,?_⟩;have e:(⟨((List.replicate k.toNat z.cps.toList).flatten).toArray⟩:Str)=z:=by
     rcases h2 with h2 | h2
     ·have:k=1:=by simpa using h2
      subst this;simp
     ·have h0:z.length=0:=by simpa using h2
      have:z.cps.toList=[]:=List.length_eq_zero_iff.mp (by rw [Array.length_toList];exact h0)
      rw [this];obtain ⟨c⟩:=z;have:c = #[]:=by simpa using this
      subst this;simp
    rw [e] at q;exact q
   ·have e:(⟨(List.replicate k.toNat z.cps).foldl (·++·) #[]⟩:Str)=⟨((List.replicate k.toNat z.cps.toList).flatten).toArray⟩:=by rw [adh];simp
    rw [e];refine ⟨?_, .str _,H,I.tok _,⟨_,rfl⟩,q⟩;show ((List.replicate k.toNat z.cps.toList).flatten).toArray.size<=_;have hl:((List.replicate k.toNat z.cps.toList).flatten).toArray.size=z.length*k.toNat:=by
     rw [List.size_toArray,ala];exact Nat.mul_comm _ _
    omega
def axs(i j:Int):Prop:=i.natAbs<2 ^ 1000/\j.natAbs<2 ^ 1000
theorem aqd{X:Cx}:OpR X (binaryOp .Mult) (rI axs λi j=>.int (i*j)):=opI λ_ _ _ _ _ _ _ hc q=>P.mul_int q (IntMulOk.of_le (intBits_le_iff.mpr hc.1) (intBits_le_iff.mpr hc.2) (by omega))
end L2
namespace MI
open PySem PySem.Spec L2 TPM
open Classical in
noncomputable def aan(x y:D)(h:Hd):R D:=match x,y with
 | .str z, .int k=>if (-1000000<=k/\k<=1000000)/\z.length*k.toNat<=LINE then .ok (.str ⟨((List.replicate k.toNat z.cps.toList).flatten).toArray⟩) h else .no
 | .int i, .int j=>if axs i j then .ok (.int (i*j)) h else al1 (.int i) (.int j) h
 | x,y=>al1 x y h
theorem alb{K:PySem.W.Frag}:a2f K aan (λx y H Q=>((((rI CMul (λi j=>.int (i*j)) x y H Q\/asv x y H Q)\/akf K x y H Q)\/aq4 K x y H Q)\/rI axs (λi j=>.int (i*j)) x y H Q)\/aui x y H Q):=by
 intro E ι H h x y dx dy Q rx ry hr o
 cases rx with
 | str z =>
  cases ry with
  | int k =>
   simp only [aan] at o
   split at o
   ·rename_i hc;exact .inr ⟨z,k,rfl,rfl,hc.1.1,hc.1.2,ll hc.2,ans o (.str _) hr⟩
   ·exact o.elim
  | _=>exact o.elim
 | int i =>
  cases ry with
  | int j =>
   simp only [aan] at o
   split at o
   ·rename_i hc;exact .inl (.inr ⟨i,j,rfl,rfl,hc,ans o (.int _) hr⟩)
   ·exact .inl (.inl (a5o _ _ _ _ _ _ _ _ _ (.int i) (.int j) hr o))
  | _=>exact o.elim
 | @tup a vs xs ha rs=>exact .inl (.inl (a5o _ _ _ _ _ _ _ _ _ (.tup ha rs) ry hr o))
 | ref e=>exact .inl (.inl (a5o _ _ _ _ _ _ _ _ _ (.ref e) ry hr o))
 | _=>first | exact o.elim | exact .inl (.inl (a5o _ _ _ _ _ _ _ _ _ (by assumption) ry hr o))
theorem aqe{X:Cx}{E:XD}{a b:Expr}{fa fb:SE}{pos:Pos}(ha:ME X E a fa)(hb:ME X E b fb):ME X E (.BinOp a .Mult b pos) (s2 aan fa fb):=abh (((((am6.or asw).or apn).or aq5).or aqd).or aqc) alb ha hb
open Classical in
theorem auj{l:List Nat}{k:Nat}{h:Hd}(hk:k<=1000)(hl:l.length<=1000):aan (.str (S l)) (.int (k:Nat)) h = .ok (.str (S (List.replicate k l).flatten)) h:=by
 have:aan (.str (S l)) (.int (k:Nat)) h=if (-1000000<=(k:Int)/\(k:Int)<=1000000)/\(S l).length*(k:Int).toNat<=LINE then .ok (.str ⟨((List.replicate (k:Int).toNat (S l).cps.toList).flatten).toArray⟩) h else .no:=rfl
 have hz:(S l).length*(k:Int).toNat<=LINE:=by
  rw [aak,Int.toNat_natCast];exact gq (Nat.le_trans (Nat.mul_le_mul hl hk) (by omega))
 rw [this,if_pos ⟨by omega,hz⟩,Int.toNat_natCast]
end MI
namespace L2
open PySem PySem.Spec PyProof.Rows
section
variable{prog:Program}{w:World}{A:Around}{E:Value->Shared->Prop}
theorem aao{it l:Addr}(ne:l≠it):∀ (rest pre:List Value) {s:Shared} {Q:List Value->Shared->Prop},s.heap.IsListIter it l pre.length->s.heap.IsList l (pre++rest).toArray->
  (∀ h',h'.IsListIter it l (pre++rest).length->Heap.SameBut it s.heap h'->Q rest { s with heap:=h' })->wpAny (model prog w) A (draw (.ref it) rest.length) Q E s
 | [],pre,s,Q,i0,_,q=>wpAny_pure (q s.heap (by rw [List.append_nil];exact i0) (Heap.SameBut.refl _ _))
 | v::rest,pre,s,Q,i0,l0,q=>by
  show wpAny (model prog w) A (pyNext (.ref it)>>=_) Q E s
  apply wpAny_bind
  refine wpAny_pyNext_list_item i0 l0 (x:=v) (by simp) λh1 i1 s1=>?_
  apply wpAny_bind
  apply wpAny_holding
  have l1:h1.IsList l ((pre++[v])++rest).toArray:=by
   rw [List.append_assoc];exact l0.at λo e=>s1.extBut l o ne e
  refine aao ne rest (pre++[v]) (s:={ s with heap:=h1 }) (by rw [List.length_append];exact i1) l1 λh2 i2 s2=>wpAny_pure (q h2 ?_ (s1.trans s2))
  rw [List.append_assoc] at i2;exact i2
theorem aez{l:Addr}{us:List Value}{s:Shared}{Q:List Value->Shared->Prop}(hh:A.handled=none)(hl:s.heap.IsList l us.toArray)
  (q:∀ h',(∀ b o,s.heap.get? b=some o->h'.get? b=some o)->Q us { s with heap:=h' }):wpAny (model prog w) A (unpackItems (.ref l) us.length none) Q E s:=by
 have ll:l<s.heap.objs.size:=by obtain ⟨o,ho,_⟩:=hl;exact Heap.lt_size ho
 unfold unpackItems notIterableAtAll
 apply wpAny_bind
 apply wpAny_bind
 refine wpAny_specialOf hl.typeIs F.slot_list_iter.lookup (wpAny_pure ?_);simp only [Bool.false_eq_true,if_false]
 apply wpAny_bind
 apply wpAny_holding
 refine wpAny_pyIter_list hl ?_;have il:=hl.at (h':=s.heap.push { cls:=.type "list_iterator",data:=.fields #[.ref l, .int 0 0] }) λo e=>Heap.get?_push_of_some _ e
 apply wpAny_bind
 apply wpAny_holding
 refine aao (Nat.ne_of_lt ll) us [] (s:={ s with heap:=s.heap.push { cls:=.type "list_iterator",data:=.fields #[.ref l, .int 0 0] } }) ⟨_,Heap.get?_push_size _ rfl,rfl,rfl⟩ il λh1 i1 s1=>?_
 rw [if_neg (Nat.lt_irrefl _)]
 apply wpAny_bind
 apply wpAny_holding
 refine wpAny_pyNext_list_end (s:={ s with heap:=h1 }) hh i1 (il.at λo e=>s1.extBut l o (Nat.ne_of_lt ll) e) (by simp) λh2 e2=>?_
 simp only [Option.isSome_none,Bool.false_eq_true,if_false];refine wpAny_pure (q h2 λb o e=>?_);have nb:b≠s.heap.objs.size:=Nat.ne_of_lt (Heap.lt_size e);exact e2 b o nb (s1.extBut b o nb (Heap.get?_push_of_some _ e))
end
section
variable{X:Cx}{pos:Pos}
def axt(K:PySem.W.Frag)(n:Nat)(t:TGs):TG:=λv σ H Q=>∃ a xs,v = .ref a/\SqL K H a xs/\xs.length=n/\t xs σ H Q
theorem aqf{es:List Expr}{k:Nat}{t:TGs}{n:Nat}(hc:X.calm=true)(h:PGs X es t)
  (hn:(assignEach es X.env).length=n:=by rfl) (hst:(assignEach es X.env).findIdx? (·.1)=none:=by rfl):PG X (.Tuple es k pos) (axt X.K n t):=by
 intro pins s σ H v u Q I r ⟨a,xs,ev,hq,hl,hw⟩
 subst ev;cases r
 obtain ⟨its,rv,pl,hz⟩:=I.list hq;rw [assign_Tuple];refine wpAny_bind (wpAny_standAt ?_);unfold unpack;rw [hst,hn,<-hl,rv.length];refine wpAny_bind (wpAny_holding (aez (I.ok.hd hc) pl.isList λh' k1=>?_));exact h pins _ σ H xs _ Q (I.kept (t':=s.toks) k1) rv hw
end
end L2
namespace MI
open PySem PySem.Spec L2
def a8t(n:Nat)(k:SGs):SG:=λd τ h=>match d with
 | .tup ds=>if ds.length=n then k ds τ h else .no
 | d=>match v8 d h with
  | some ds=>if ds.length=n then k ds τ h else .no
  | none=>.no
section
variable{X:Cx}{E:XD}{es:List Expr}{pos:Pos}{ks:SGs}
theorem aqg{k n:Nat}(hc:X.calm=true)(h:MGs X E es ks)(hn:(assignEach es X.env).length=n:=by rfl)(hst:(assignEach es X.env).findIdx? (·.1)=none:=by rfl):MG X E (.Tuple es k pos) (a8t n ks):=by
 intro pins s σ H v u Q I rv hw
 obtain ⟨ι,τ,hd,d,r,S,Rh,o⟩:=hw;have both:(∃ a xs,d = .tup xs/\v = .ref a)\/∃ xs,v8 d hd=some xs/\∀ ys,d≠.tup ys:=by
  cases r with
  | @tup a vs xs e rs=>exact .inl ⟨a,xs,rfl,rfl⟩
  | _ =>
   refine .inr ?_;simp only [a8t] at o
   split at o
   ·exact ⟨_,by assumption,λys z=>by cases z⟩
   ·exact o.elim
 rcases both with ⟨a,xs,rfl,rfl⟩ | ⟨xs,e,nt⟩
 ·refine zf hc h hn hst pins s σ H (.ref a) u Q I rv ⟨ι,τ,hd, .tup xs,r,S,Rh,?_⟩;exact o
 ·obtain ⟨a,vs,ev,h1,h2⟩:=a0k r Rh e;refine aqf hc h hn hst pins s σ H v u Q I rv ⟨a,vs,ev, .inl h1,?_⟩;have eq:a8t n ks d τ hd=if xs.length=n then ks xs τ hd else .no:=by
   unfold a8t
   cases d<;>first | exact (nt _ rfl).elim | (simp only [e])
  have o':=o;rw [eq] at o'
  by_cases hl:xs.length=n
  ·rw [if_pos hl] at o';exact ⟨by rw [h2.len];exact hl,ι,τ,hd,xs,h2,S,Rh,o'⟩
  ·rw [if_neg hl] at o';exact o'.elim
end
theorem auk{n:Nat}{k:SGs}{ds:List D}{τ:Sd}{h:Hd}(hl:ds.length=n):a8t n k (.tup ds) τ h=k ds τ h:=if_pos hl
theorem amw{n:Nat}{k:SGs}{d:D}{ds:List D}{τ:Sd}{h:Hd}(e:v8 d h=some ds)(hl:ds.length=n):a8t n k d τ h=k ds τ h:=by
 unfold a8t
 cases d<;>first | (simp only [e];exact if_pos hl) | (simp [v8] at e)
end MI
namespace K42
open PySem PySem.Spec L2 MI
noncomputable def xj(qt:SF)(lq:SF)(iy:SF):SS :=
 (sIf (sOr (a5i (a3u (sA (jz false 2 lq) (ak (s2 gIx (sV 0) (sC (.int 0))) (ak (sV 5) di))))) (sT (s2 hEq (sV 5) (sC (.str "")))))
 (qj (sC (.bl false)))
 sNx)
noncomputable def yh(qt:SF)(lq:SF)(iy:SF):SS :=
 (j7 (a2g (sIt (sA a4k (ak (sV 1) (ak (sV 2) (ak (sV 3) (ak (sV 4) di)))))) (kN 5) (xj qt lq iy))
 (j7 (m7 6 (sA (jz false 3 iy) (ak (sV 0) (ak (sC (.int 0)) (ak (s2 j6 (sV 1) (sV 2)) di)))))
 (qj (a2t (s2 hEq (sA (jz false 3 iy) (ak (sV 0) (ak (sV 6) (ak (sV 3) di)))) (sV 6)) (sA (jz false 3 qt) (ak (sV 0) (ak (sV 1) (ak (s2 j6 (s2 j6 (sV 2) (sV 3)) (sV 4)) di))))))))
noncomputable def a05(bx:SF)(dz:SF)(jk:SF):SS :=
 (sIf (sOr (a5i (a3u (sA (jz false 2 dz) (ak (sV 0) (ak (sV 2) di))))) (sT (s2 hEq (sV 2) (sC (.str "")))))
 (qj (sC (.bl false)))
 sNx)
noncomputable def a1a(bx:SF)(dz:SF)(jk:SF):SS :=
 (j7 (a2g (sIt (sV 1)) (kN 2) (a05 bx dz jk))
 (j7 (a6u (sV 1) (a8t 4 (jn (kN 3) (jn (kN 4) (jn (kN 5) (jn (kN 6) a2w))))))
 (j7 (sIf (sT (s2 hNe (sA (jz false 2 jk) (ak (sV 0) (ak (s2 j6 (sV 3) (sV 4)) di))) (sA (jz false 2 jk) (ak (sV 0) (ak (s2 j6 (s2 j6 (sV 3) (sV 4)) (sV 5)) di)))))
 (qj (sC (.bl false)))
 sNx)
 (qj (sA (jz false 3 bx) (ak (sV 0) (ak (sV 3) (ak (s2 j6 (s2 j6 (sV 4) (sV 5)) (sV 6)) di))))))))
noncomputable def qm(aa:SF)(bz:SF)(my:SF)(dq:SF)(jr:SF):SS :=
 (j7 (m7 9 (sA (jz false 2 bz) (ak (sV 1) (ak (sV 8) di))))
 (sIf (a5i (a3u (sA (jz false 2 my) (ak (sA (jz false 5 jr) (ak (sV 1) (ak (s2 gIx (sV 8) (sC (.int 0))) (ak (s2 gIx (sV 8) (sC (.int 1))) (ak (s2 gIx (sV 8) (sC (.int 2))) (ak (s2 gIx (sV 8) (sC (.int 3))) di)))))) (ak (sV 9) di)))))
 ar9
 sNx))
noncomputable def zr(aa:SF)(bz:SF)(my:SF)(dq:SF)(jr:SF):SS :=
 (j7 (m7 3 (sA (jz false 2 aa) (ak (sV 0) (ak (sC (.int 4)) di))))
 (j7 (m7 4 (sA (jz false 2 aa) (ak (sV 0) (ak (sC (.int 4)) di))))
 (j7 (m7 5 (sA (jz false 2 aa) (ak (sV 0) (ak (sC (.int 7)) di))))
 (j7 (m7 6 (sA a3j (ak (sV 2) di)))
 (j7 (a9z (sA (jz false 4 dq) (ak (sV 0) (ak (s2 gIx (sV 1) (sC (.int 0))) (ak (s2 gIx (sV 2) (sV 3)) (ak (sV 5) di))))) (sV 6) (sV 3))
 (j7 (m7 7 (sA a3j (ak (sV 2) di)))
 (j7 (a9z (s2 gIx (sV 2) (sV 4)) (sV 7) (sV 3))
 (j7 (a9z (s2 gIx (sV 2) (sV 3)) (sV 7) (sV 4))
 (j7 (a2g (sIt (sA a4k (ak (sZ (sA a3j (ak (sV 2) di))) (ak (sV 6) (ak (sV 7) di))))) (kN 8) (qm aa bz my dq jr))
 (qj (sC (.bl true))))))))))))
noncomputable def adi(aa:SF)(bz:SF)(bx:SF)(cu:SF)(ie:SF)(dj:SF)(gj:SF)(jt:SF):SE :=
 (sV 0)
noncomputable def a5r(aa:SF)(bz:SF)(bx:SF)(cu:SF)(ie:SF)(dj:SF)(gj:SF)(jt:SF):ST :=
 (sT (s2 gGe (s2 gIx (s2 gIx (sV 1) (sC (.int 2))) (sV 0)) (sC (.int 0))))
noncomputable def adk(aa:SF)(bz:SF)(bx:SF)(cu:SF)(ie:SF)(dj:SF)(gj:SF)(jt:SF):SE :=
 (s2 gIx (s2 gIx (sV 2) (sC (.int 0))) (sA (jz false 2 aa) (ak (sV 1) (ak (sA vh (ak (s2 gIx (sV 2) (sC (.int 0))) di)) di))))
noncomputable def a8u(aa:SF)(bz:SF)(bx:SF)(cu:SF)(ie:SF)(dj:SF)(gj:SF)(jt:SF):SS :=
 (j7 (m7 6 (s2 j6 (sC (.int 1)) (sA (jz false 2 aa) (ak (sV 1) (ak (sC (.int 3)) di)))))
 (a0f (sML a7c (sV 4) (ak (sMS aej (sC (.str "")) (ak (sZ (m9 (sRg yx (ak (sV 6) di)) t1 (adk aa bz bx cu ie dj gj jt) [1,2])) di)) di))))
noncomputable def a8v(aa:SF)(bz:SF)(bx:SF)(cu:SF)(ie:SF)(dj:SF)(gj:SF)(jt:SF):SS :=
 (sIf (a5i (a3u (sA (jz false 3 bx) (ak (sV 2) (ak (sV 8) (ak (s2 j6 (s2 j6 (sV 9) (s2 aan (sV 10) (sV 6))) (sV 11)) di))))))
 ar9
 sNx)
noncomputable def alc(aa:SF)(bz:SF)(bx:SF)(cu:SF)(ie:SF)(dj:SF)(gj:SF)(jt:SF):SS :=
 (j7 (m7 1 (sA (jz true 1 dj) (ak (sV 0) di)))
 (j7 (m7 2 (sA (jz false 2 gj) (ak (sV 1) (ak (sC (.int 32)) di))))
 (j7 (m7 3 (sA (jz false 2 ie) (ak (sV 2) (ak (sZ (xn (sRg yx (ak (sA vh (ak (s2 gIx (sV 2) (sC (.int 2))) di)) di)) t1 (a5r aa bz bx cu ie dj gj jt) (adi aa bz bx cu ie dj gj jt) [2])) di))))
 (j7 (m7 4 (sA a5c di))
 (j7 (a2g (sRg yx (ak (sC (.int 4)) di)) (kN 5) (a8u aa bz bx cu ie dj gj jt))
 (j7 (sIf (a5i (a3u (sA (jz false 3 cu) (ak (sV 1) (ak (sV 2) (ak (sV 4) di))))))
 ar9
 sNx)
 (j7 (m7 7 (sA (jz false 1 jt) (ak (sV 2) di)))
 (j7 (sIf (sT (s2 a06 (sV 3) (sC .non)))
 (qj (s2 gIs (sV 7) (sC .non)))
 sNx)
 (j7 (sIf (sOr (a5i (a3u (sA a6k (ak (sV 7) (ak (sC (.ty "tuple")) di))))) (sOr (sT (s2 hNe (sA vh (ak (sV 7) di)) (sC (.int 4)))) (a5i (a3u (sA (jz false 2 bz) (ak (sV 2) (ak (sV 7) di)))))))
 ar9
 sNx)
 (j7 (a6u (sV 7) (a2x 4 (jn (kN 8) (jn (kN 9) (jn (kN 10) (jn (kN 11) a2w))))))
 (j7 (a2g (sIt (sA a4k (ak (sC (.int 0)) (ak (sC (.int 1)) (ak (sC (.int 3)) di))))) (kN 6) (a8v aa bz bx cu ie dj gj jt))
 (qj (sA (jz false 3 cu) (ak (sV 1) (ak (sV 2) (ak (sV 7) di))))))))))))))))
def top(i:Nat):Stmt:=PySem.Challenge.pw_nearreach_k42_rounds.main.body.getD i (.Pass ⟨0,0,0,0⟩)
structure Nm (mg:Str->Option Value):Prop where
 abs:mg "abs" = none
 all:mg "all" = none
 enumerate:mg "enumerate" = none
 int:mg "int" = none
 isinstance:mg "isinstance" = none
 len:mg "len" = none
 list:mg "list" = none
 min:mg "min" = none
 range:mg "range" = none
 sorted:mg "sorted" = none
 str:mg "str" = none
 sum:mg "sum" = none
 tuple:mg "tuple" = none
 zip:mg "zip" = none
section
variable{P:Program}{w:World}{K:PySem.W.Frag}{mg:Str->Option Value}{base:Heap}{f:Addr}
theorem aym:FnScope ["tongue", "thing"] ["tongue", "thing"] (aq (top 1)):=⟨rfl,rfl,rfl,by decide +kernel,rfl,by decide +kernel,by decide +kernel⟩
theorem m_0{k:Nat}(M:Nm mg)(cdv:Value)(A:Around)(outer:List Env)(s:Shared)(H:Hp)(E:XK)(hr:Room k (A.deeper (PyProof.Rows.envOfC "is_text" (aq (top 1)) s.heap.objs.size f cdv))):MSs (a1n CX0 P w K mg base ["tongue", "thing"] "is_text" (aq (top 1)) f cdv A outer s H E).nox X0 (jh (top 1)) (STP.sr) :=
 have SC:=aym
 (bj (jj (agi (uz (L2.CallR.or a3f a1y) a8k rfl M.isinstance a0c (aj (bf 1) (aj (aox rfl M.str ame) bc))) (agh (uz (a67 rfl) agv rfl M.all amf (aj (a9i (a0h rfl (CSc.of (ts:=["sign"]) (fr:=["tongue"]) (ix:=[0]) rfl rfl rfl rfl (by intro p hp;cases List.mem_singleton.mp hp;rfl) rfl rfl rfl rfl) (o8 (bf 1)) (λ_ _ _ _=>(n8 (i:=0) (show (["sign", "tongue"]:List Str).Nodup by decide +kernel) rfl (Or.inl rfl) (.inr rfl))) u9 (λ_ _ _ _=>(ww (aou.or ag4) ap6 (bf 0) (bf 1) (by with_unfolding_all rfl))))) bc))))))
theorem ayn:FnScope ["table", "room", "word"] ["table", "room", "word"] (aq (top 3)):=⟨rfl,rfl,rfl,by decide +kernel,rfl,by decide +kernel,by decide +kernel⟩
theorem m_1{k:Nat}{a_2:Addr}{d_2:FuncData}{k_2:Nat}{F_2:SF}(D_2:Dn P w K mg base k_2 "rooms_along" ["table", "room", "word"] (qd K 3 F_2) a_2 d_2)(h_2:k_2<=k)(cdv:Value)(A:Around)(outer:List Env)(s:Shared)(H:Hp)(E:XK)(hr:Room k (A.deeper (PyProof.Rows.envOfC "room_from" (aq (top 3)) s.heap.objs.size f cdv))):MSs (a1n CX0 P w K mg base ["table", "room", "word"] "room_from" (aq (top 3)) f cdv A outer s H E).nox X0 (jh (top 3)) (STP.vf F_2) :=
 have SC:=ayn
 (bj (jj (bw (cj false D_2 (hr.mono h_2) rfl (aj (bf 0) (aj (bf 1) (aj (bf 2) bc)))) (a2z az) (λ_ _=>rfl))))
theorem ayo:FnScope ["table", "room", "word", "tongue", "goes", "kinds", "rooms", "sign"] ["table", "room", "word"] (aq (top 4)):=⟨rfl,rfl,rfl,by decide +kernel,rfl,by decide +kernel,by decide +kernel⟩
theorem m_2{k:Nat}(cdv:Value)(A:Around)(outer:List Env)(s:Shared)(H:Hp)(E:XK)(hr:Room k (A.deeper (PyProof.Rows.envOfC "rooms_along" (aq (top 4)) s.heap.objs.size f cdv))):MSs (a1n CX0 P w K mg base ["table", "room", "word", "tongue", "goes", "kinds", "rooms", "sign"] "rooms_along" (aq (top 4)) f cdv A outer s H E).nox X0 (jh (top 4)) (STP.qu) :=
 have SC:=ayo
 (ao (a2y (bf 0) (zf rfl (j5 (du (i:=3) SC.nd rfl (Or.inl rfl)) (j5 (du (i:=4) SC.nd rfl (Or.inl rfl)) (j5 (du (i:=5) SC.nd rfl (Or.inl rfl)) uo)))))
 (ao (j8 (i:=6) SC.nd rfl (Or.inl rfl) (a1i (aj (bf 1) bc)))
 (ao (qe PassesOwn.never rfl (o8 (bf 2)) (du (i:=7) SC.nd rfl (Or.inl rfl)) (bj (a1t (a83 PySem.F.slot_list_append PySem.F.type_list_append wj a1u (bf 6) (aj (bw (bw (bf 4) (bw (bf 6) (a2z az) (λ_ _=>rfl)) (λ_ _=>rfl)) (ak3 PySem.F.slot_str_index PySem.F.type_str_index ajx agu (bf 3) (aj (bf 7) bc)) (λ_ _=>rfl)) bc)))))
 (bj (jj (bf 6))))))
theorem ayp:FnScope ["table", "start", "passed", "tongue", "goes", "kinds", "words", "waiting", "looked", "room", "word", "sign", "to"] ["table", "start", "passed"] (aq (top 5)):=⟨rfl,rfl,rfl,by decide +kernel,rfl,by decide +kernel,by decide +kernel⟩
theorem m_3{k:Nat}(M:Nm mg)(cdv:Value)(A:Around)(outer:List Env)(s:Shared)(H:Hp)(E:XK)(hr:Room k (A.deeper (PyProof.Rows.envOfC "words_to" (aq (top 5)) s.heap.objs.size f cdv))):MSs (a1n CX0 P w K mg base ["table", "start", "passed", "tongue", "goes", "kinds", "words", "waiting", "looked", "room", "word", "sign", "to"] "words_to" (aq (top 5)) f cdv A outer s H E).nox X0 (jh (top 5)) (STP.a2o) :=
 have SC:=ayp
 (ao (a2y (bf 0) (zf rfl (j5 (du (i:=3) SC.nd rfl (Or.inl rfl)) (j5 (du (i:=4) SC.nd rfl (Or.inl rfl)) (j5 (du (i:=5) SC.nd rfl (Or.inl rfl)) uo)))))
 (ao (j8 (i:=6) SC.nd rfl (Or.inl rfl) agw)
 (ao (j8 (i:=7) SC.nd rfl (Or.inl rfl) (a1i (aj (a1s (aj (bf 1) (aj a1h bc))) bc)))
 (ao (j8 (i:=8) SC.nd rfl (Or.inl rfl) az)
 (ao (a81 100000 PassesOwn.never (ik (a7q.or uf) a3v (bf 8) (uz (L2.CallR.or iz j4) p7 rfl M.len uh (aj (bf 7) bc)) (jg _)) (ao (a2y (bw (bf 7) (bf 8) (λ_ _=>rfl)) (zf rfl (j5 (du (i:=9) SC.nd rfl (Or.inl rfl)) (j5 (du (i:=10) SC.nd rfl (Or.inl rfl)) uo))))
 (ao (qe PassesOwn.never rfl (amo rfl M.zip amq (bf 3) (bw (bf 4) (bf 9) (λ_ _=>rfl))) (zf rfl (j5 (du (i:=11) SC.nd rfl (Or.inl rfl)) (j5 (du (i:=12) SC.nd rfl (Or.inl rfl)) uo))) (bj (qi (PW.pt (a6b (ym (bw (bf 2) (bf 12) (λ_ _=>rfl))) (a3h (ik (aad hr.u) a7f (bf 12) (bf 6) (by with_unfolding_all rfl)))))
 (ao (abo hr.u (jc (bf 10) (bf 11)) (bf 6) (bf 12))
 (bj (a1t (a83 PySem.F.slot_list_append PySem.F.type_list_append wj a1u (bf 7) (aj (a1s (aj (bf 12) (aj (jc (bf 10) (bf 11)) bc))) bc)))))
 jm)))
 (bj (acp (i:=8) SC.nd rfl (Or.inl rfl) (a4m.or v6) a2h az)))))
 (bj (jj (bf 6))))))))
theorem ayq:FnScope ["table"] ["table"] (aq (top 7)):=⟨rfl,rfl,rfl,by decide +kernel,rfl,by decide +kernel,by decide +kernel⟩
theorem m_4{k:Nat}(M:Nm mg){a_5:Addr}{d_5:FuncData}{k_5:Nat}{F_5:SF}(D_5:Dn P w K mg base k_5 "hope_word" ["table", "start"] (qd K 2 F_5) a_5 d_5)(h_5:k_5<=k)(cdv:Value)(A:Around)(outer:List Env)(s:Shared)(H:Hp)(E:XK)(hr:Room k (A.deeper (PyProof.Rows.envOfC "hope_words" (aq (top 7)) s.heap.objs.size f cdv))):MSs (a1n CX0 P w K mg base ["table"] "hope_words" (aq (top 7)) f cdv A outer s H E).nox X0 (jh (top 7)) (RCH.ue F_5) :=
 have SC:=ayq
 (bj (jj (a0e (L2.CallR.or ug (wk rfl)) a1v rfl M.tuple a2d (aj (a9i (a0h rfl (CSc.of (ts:=["room"]) (fr:=["table"]) (ix:=[0]) rfl rfl rfl rfl (by intro p hp;cases List.mem_singleton.mp hp;rfl) rfl rfl rfl rfl) (a0g rfl M.range (aj (uz (L2.CallR.or iz j4) p7 rfl M.len uh (aj (bw (bf 0) az (λ_ _=>rfl)) bc)) bc)) (λ_ _ _ _=>(n8 (i:=0) (show (["room", "table"]:List Str).Nodup by decide +kernel) rfl (Or.inl rfl) (.inr rfl))) u9 (λ_ _ _ _=>(cj false D_5 (hr.mono h_5) rfl (aj (bf 1) (aj (bf 0) bc)))))) bc))))
theorem ayr:FnScope ["table", "start", "tongue", "goes", "kinds", "found", "seen", "looked", "room", "word", "sign", "to"] ["table", "start"] (aq (top 8)):=⟨rfl,rfl,rfl,by decide +kernel,rfl,by decide +kernel,by decide +kernel⟩
theorem m_5{k:Nat}(M:Nm mg)(cdv:Value)(A:Around)(outer:List Env)(s:Shared)(H:Hp)(E:XK)(hr:Room k (A.deeper (PyProof.Rows.envOfC "hope_word" (aq (top 8)) s.heap.objs.size f cdv))):MSs (a1n CX0 P w K mg base ["table", "start", "tongue", "goes", "kinds", "found", "seen", "looked", "room", "word", "sign", "to"] "hope_word" (aq (top 8)) f cdv A outer s H E).nox X0 (jh (top 8)) (RCH.v9) :=
 have SC:=ayr
 (ao (a2y (bf 0) (zf rfl (j5 (du (i:=2) SC.nd rfl (Or.inl rfl)) (j5 (du (i:=3) SC.nd rfl (Or.inl rfl)) (j5 (du (i:=4) SC.nd rfl (Or.inl rfl)) uo)))))
 (ao (j8 (i:=5) SC.nd rfl (Or.inl rfl) (a1i (aj (a1s (aj (bf 1) (aj a1h bc))) bc)))
 (ao (j8 (i:=6) SC.nd rfl (Or.inl rfl) (axi (bf 1) a0d))
 (ao (j8 (i:=7) SC.nd rfl (Or.inl rfl) az)
 (ao (a81 100000 PassesOwn.never (ik (a7q.or uf) a3v (bf 7) (uz (L2.CallR.or iz j4) p7 rfl M.len uh (aj (bf 5) bc)) (jg _)) (ao (a2y (bw (bf 5) (bf 7) (λ_ _=>rfl)) (zf rfl (j5 (du (i:=8) SC.nd rfl (Or.inl rfl)) (j5 (du (i:=9) SC.nd rfl (Or.inl rfl)) uo))))
 (ao (qe PassesOwn.never rfl (amo rfl M.zip amq (bf 2) (bw (bf 3) (bf 8) (λ_ _=>rfl))) (zf rfl (j5 (du (i:=10) SC.nd rfl (Or.inl rfl)) (j5 (du (i:=11) SC.nd rfl (Or.inl rfl)) uo))) (ao (qi (ik (aa5 hr.u) a6e (bw (bf 4) (bf 11) (λ_ _=>rfl)) (a2z az) (jg _))
 (bj (jj (jc (bf 9) (bf 10))))
 jm)
 (bj (qi (ik (aad hr.u) a7f (bf 11) (bf 6) (by with_unfolding_all rfl))
 (ao (abo hr.u a0d (bf 6) (bf 11))
 (bj (a1t (a83 PySem.F.slot_list_append PySem.F.type_list_append wj a1u (bf 5) (aj (a1s (aj (bf 11) (aj (jc (bf 9) (bf 10)) bc))) bc)))))
 jm))))
 (bj (acp (i:=7) SC.nd rfl (Or.inl rfl) (a4m.or v6) a2h az)))))
 (bj (jj a5b)))))))
theorem ays:FnScope ["table", "rooms", "words"] ["table"] (aq (top 10)):=⟨rfl,rfl,rfl,by decide +kernel,rfl,by decide +kernel,by decide +kernel⟩
theorem m_6{k:Nat}(M:Nm mg){a_3:Addr}{d_3:FuncData}{k_3:Nat}{F_3:SF}(D_3:Dn P w K mg base k_3 "words_to" ["table", "start", "passed"] (qd K 3 F_3) a_3 d_3)(h_3:k_3<=k)(cdv:Value)(A:Around)(outer:List Env)(s:Shared)(H:Hp)(E:XK)(hr:Room k (A.deeper (PyProof.Rows.envOfC "ways_to" (aq (top 10)) s.heap.objs.size f cdv))):MSs (a1n CX0 P w K mg base ["table", "rooms", "words"] "ways_to" (aq (top 10)) f cdv A outer s H E).nox X0 (jh (top 10)) (STP.a4b F_3) :=
 have SC:=ays
 (ao (j8 (i:=1) SC.nd rfl (Or.inl rfl) (uz (L2.CallR.or iz j4) p7 rfl M.len uh (aj (bw (bf 0) az (λ_ _=>rfl)) bc)))
 (ao (j8 (i:=2) SC.nd rfl (Or.inr rfl) (cj false D_3 (hr.mono h_3) rfl (aj (bf 0) (aj az (aj (a9i (a4x (a9i (a1i (aj a0d bc))) (bf 1))) bc)))))
 (bj (jj (a0e (L2.CallR.or ug (wk rfl)) a1v rfl M.tuple a2d (aj (a9i (jc (a9i (a1i (aj a1h bc))) (a9i (a0h rfl (CSc.of (ts:=["room"]) (fr:=["words"]) (ix:=[2]) rfl rfl rfl rfl (by intro p hp;cases List.mem_singleton.mp hp;rfl) rfl rfl rfl rfl) (abi rfl M.range (aj az (aj (bf 1) bc))) (λ_ _ _ _=>(n8 (i:=0) (show (["room", "words"]:List Str).Nodup by decide +kernel) rfl (Or.inl rfl) (.inr rfl))) u9 (λ_ _ _ _=>(ahg hr.u (bf 1) (bf 0) (λ_ _=>rfl))))))) bc))))))
theorem ayt:FnScope ["table", "u", "z", "kinds", "start", "between", "last"] ["table", "u", "z"] (aq (top 12)):=⟨rfl,rfl,rfl,by decide +kernel,rfl,by decide +kernel,by decide +kernel⟩
theorem m_7{k:Nat}(M:Nm mg){a_1:Addr}{d_1:FuncData}{k_1:Nat}{F_1:SF}(D_1:Dn P w K mg base k_1 "room_from" ["table", "room", "word"] (qd K 3 F_1) a_1 d_1)(h_1:k_1<=k){a_2:Addr}{d_2:FuncData}{k_2:Nat}{F_2:SF}(D_2:Dn P w K mg base k_2 "rooms_along" ["table", "room", "word"] (qd K 3 F_2) a_2 d_2)(h_2:k_2<=k)(cdv:Value)(A:Around)(outer:List Env)(s:Shared)(H:Hp)(E:XK)(hr:Room k (A.deeper (PyProof.Rows.envOfC "is_step" (aq (top 12)) s.heap.objs.size f cdv))):MSs (a1n CX0 P w K mg base ["table", "u", "z", "kinds", "start", "between", "last"] "is_step" (aq (top 12)) f cdv A outer s H E).nox X0 (jh (top 12)) (STP.a4c F_1 F_2) :=
 have SC:=ayt
 (ao (j8 (i:=3) SC.nd rfl (Or.inr rfl) (bw (bf 0) az (λ_ _=>rfl)))
 (ao (j8 (i:=4) SC.nd rfl (Or.inl rfl) (cj false D_1 (hr.mono h_1) rfl (aj (bf 0) (aj az (aj (bf 1) bc)))))
 (ao (qi (PW.pt (a9y (ik (uc hr.u) o9 (bf 2) a1h (jg _)) (a78 (ik (uc hr.u) o9 (bw (bf 3) (bf 4) (λ_ _=>rfl)) (a2z az) (jg _)))))
 (bj (jj a0d))
 jm)
 (ao (a2y (a9i (pq (cj false D_2 (hr.mono h_2) rfl (aj (bf 0) (aj (bf 4) (aj (bf 2) bc)))) (xf az) wz)) (aq1 (i:=5) (j:=6) rfl SC.nd rfl (Or.inl rfl) rfl (Or.inl rfl)))
 (bj (jj (agi (ww (aa5 hr.u) a6e (bw (bf 3) (bf 6) (λ_ _=>rfl)) (a2z az) (jg _)) (agh (uz (a67 rfl) agv rfl M.all amf (aj (a9i (a0h rfl (CSc.of (ts:=["room"]) (fr:=["kinds"]) (ix:=[3]) rfl rfl rfl rfl (by intro p hp;cases List.mem_singleton.mp hp;rfl) rfl rfl rfl rfl) (o8 (bf 5)) (λ_ _ _ _=>(n8 (i:=0) (show (["room", "kinds"]:List Str).Nodup by decide +kernel) rfl (Or.inl rfl) (.inr rfl))) u9 (λ_ _ _ _=>(ww (uc hr.u) o9 (bw (bf 1) (bf 0) (λ_ _=>rfl)) (a2z az) (jg _))))) bc))))))))))
theorem ayu:FnScope ["table", "bare", "loops", "start", "way", "room", "word", "c", "x"] ["table"] (aq (top 13)):=⟨rfl,rfl,rfl,by decide +kernel,rfl,by decide +kernel,by decide +kernel⟩
theorem m_8{k:Nat}(M:Nm mg){a_9:Addr}{d_9:FuncData}{k_9:Nat}{F_9:SF}(D_9:Dn P w K mg base k_9 "loops_of" ["table"] (qd K 1 F_9) a_9 d_9)(h_9:k_9<=k){a_6:Addr}{d_6:FuncData}{k_6:Nat}{F_6:SF}(D_6:Dn P w K mg base k_6 "ways_to" ["table"] (qd K 1 F_6) a_6 d_6)(h_6:k_6<=k){a_3:Addr}{d_3:FuncData}{k_3:Nat}{F_3:SF}(D_3:Dn P w K mg base k_3 "words_to" ["table", "start", "passed"] (qd K 3 F_3) a_3 d_3)(h_3:k_3<=k)(cdv:Value)(A:Around)(outer:List Env)(s:Shared)(H:Hp)(E:XK)(hr:Room k (A.deeper (PyProof.Rows.envOfC "rounds" (aq (top 13)) s.heap.objs.size f cdv))):MSs (a1n CX0 P w K mg base ["table", "bare", "loops", "start", "way", "room", "word", "c", "x"] "rounds" (aq (top 13)) f cdv A outer s H E).nox X0 (jh (top 13)) (RND.a5n F_9 F_6 F_3) :=
 have SC:=ayu
 (ao (a2k (i:=1) SC.nd rfl (Or.inl rfl) rfl (CSc.noFree (ts:=["kind"]) rfl (by decide +kernel) (by decide +kernel) (by decide +kernel)) (o8 (bw (bf 0) az (λ_ _=>rfl))) (λ_ _ _ _=>(n8 (i:=0) (show (["kind"]:List Str).Nodup by decide +kernel) rfl (Or.inl rfl) (.inr rfl))) u9 (λ_ _ _ _=>(ww (uc hr.u) o9 (bf 0) (a2z az) (jg _))))
 (ao (j8 (i:=2) SC.nd rfl (Or.inl rfl) (cj false D_9 (hr.mono h_9) rfl (aj (bf 0) bc)))
 (ao (qe PassesOwn.never rfl (ahl rfl M.enumerate (cj false D_6 (hr.mono h_6) rfl (aj (bf 0) bc))) (zf rfl (j5 (du (i:=3) SC.nd rfl (Or.inl rfl)) (j5 (du (i:=4) SC.nd rfl (Or.inl rfl)) uo))) (bj (qe PassesOwn.never rfl (akz (cj false D_3 (hr.mono h_3) rfl (aj (bf 0) (aj (bf 3) (aj (bf 1) bc)))) ⟨rfl,rfl⟩) (zf rfl (j5 (du (i:=5) SC.nd rfl (Or.inl rfl)) (j5 (du (i:=6) SC.nd rfl (Or.inl rfl)) uo))) (bj (qi (PW.pt (a6b (a1q (ym (bw (bf 1) (bf 3) (λ_ _=>rfl)))) (a3h (ik (au2 hr.u) apv (bf 5) (bf 2) (by with_unfolding_all rfl)))))
 (ao (a2y (ahg hr.u (bf 2) (bf 5) (λ_ _=>rfl)) (zf rfl (j5 (du (i:=7) SC.nd rfl (Or.inl rfl)) (j5 (du (i:=8) SC.nd rfl (Or.inl rfl)) uo))))
 (bj (jj (a1s (aj (bf 4) (aj (bf 6) (aj (bf 7) (aj (bf 8) bc))))))))
 jm)))))
 (bj (jj a5b)))))
theorem ayv:FnScope ["table", "bare", "loops", "room", "word", "back"] ["table"] (aq (top 14)):=⟨rfl,rfl,rfl,by decide +kernel,rfl,by decide +kernel,by decide +kernel⟩
theorem m_9{k:Nat}(M:Nm mg){a_4:Addr}{d_4:FuncData}{k_4:Nat}{F_4:SF}(D_4:Dn P w K mg base k_4 "hope_words" ["table"] (qd K 1 F_4) a_4 d_4)(h_4:k_4<=k){a_3:Addr}{d_3:FuncData}{k_3:Nat}{F_3:SF}(D_3:Dn P w K mg base k_3 "words_to" ["table", "start", "passed"] (qd K 3 F_3) a_3 d_3)(h_3:k_3<=k)(cdv:Value)(A:Around)(outer:List Env)(s:Shared)(H:Hp)(E:XK)(hr:Room k (A.deeper (PyProof.Rows.envOfC "loops_of" (aq (top 14)) s.heap.objs.size f cdv))):MSs (a1n CX0 P w K mg base ["table", "bare", "loops", "room", "word", "back"] "loops_of" (aq (top 14)) f cdv A outer s H E).nox X0 (jh (top 14)) (RND.a2r F_4 F_3) :=
 have SC:=ayv
 (ao (a2k (i:=1) SC.nd rfl (Or.inl rfl) rfl (CSc.noFree (ts:=["kind"]) rfl (by decide +kernel) (by decide +kernel) (by decide +kernel)) (o8 (bw (bf 0) az (λ_ _=>rfl))) (λ_ _ _ _=>(n8 (i:=0) (show (["kind"]:List Str).Nodup by decide +kernel) rfl (Or.inl rfl) (.inr rfl))) u9 (λ_ _ _ _=>(ww (uc hr.u) o9 (bf 0) (a2z az) (jg _))))
 (ao (j8 (i:=2) SC.nd rfl (Or.inl rfl) agw)
 (ao (qe PassesOwn.never rfl (ahl rfl M.enumerate (cj false D_4 (hr.mono h_4) rfl (aj (bf 0) bc))) (zf rfl (j5 (du (i:=3) SC.nd rfl (Or.inl rfl)) (j5 (du (i:=4) SC.nd rfl (Or.inl rfl)) uo))) (ao (j8 (i:=5) SC.nd rfl (Or.inl rfl) (aq3 hr.u (cj false D_3 (hr.mono h_3) rfl (aj (bf 0) (aj (bf 3) (aj (bf 1) bc)))) (bf 3) ⟨rfl,rfl,rfl,rfl⟩))
 (bj (qi (PW.pt (a6b (ik (ab6.or a3e) a6d (bf 4) a5b (jg _)) (a3h (ik (ab6.or a3e) a6d (bf 5) a5b (jg _)))))
 (bj (abo hr.u (a1s (aj (bf 5) (aj (bf 4) bc))) (bf 2) (bf 3)))
 jm))))
 (bj (jj (bf 2))))))
theorem aul:FnScope ["table", "u", "y", "c", "x", "word", "room"] ["table", "u", "y", "c", "x"] (aq (top 15)):=⟨rfl,rfl,rfl,by decide +kernel,rfl,by decide +kernel,by decide +kernel⟩
theorem azv{k:Nat}{a_7:Addr}{d_7:FuncData}{k_7:Nat}{F_7:SF}(D_7:Dn P w K mg base k_7 "is_step" ["table", "u", "z"] (qd K 3 F_7) a_7 d_7)(h_7:k_7<=k){a_0:Addr}{d_0:FuncData}{k_0:Nat}{F_0:SF}(D_0:Dn P w K mg base k_0 "is_text" ["tongue", "thing"] (qd K 2 F_0) a_0 d_0)(h_0:k_0<=k){a_1:Addr}{d_1:FuncData}{k_1:Nat}{F_1:SF}(D_1:Dn P w K mg base k_1 "room_from" ["table", "room", "word"] (qd K 3 F_1) a_1 d_1)(h_1:k_1<=k)(cdv:Value)(A:Around)(outer:List Env)(s:Shared)(H:Hp)(E:XK)(hr:Room k (A.deeper (PyProof.Rows.envOfC "rounds_hold" (aq (top 15)) s.heap.objs.size f cdv))):MSs (a1n CX0 P w K mg base ["table", "u", "y", "c", "x", "word", "room"] "rounds_hold" (aq (top 15)) f cdv A outer s H E).nox X0 (jh (top 15)) (yh F_7 F_0 F_1) :=
 have SC:=aul
 (ao (qe PassesOwn.never rfl (o8 (a1s (aj (bf 1) (aj (bf 2) (aj (bf 3) (aj (bf 4) bc)))))) (du (i:=5) SC.nd rfl (Or.inl rfl)) (bj (qi (PW.pt (a9y (a1q (ym (cj false D_0 (hr.mono h_0) rfl (aj (bw (bf 0) az (λ_ _=>rfl)) (aj (bf 5) bc))))) (a78 (ik (uc hr.u) o9 (bf 5) a1h (jg _)))))
 (bj (jj a0d))
 jm)))
 (ao (j8 (i:=6) SC.nd rfl (Or.inl rfl) (cj false D_1 (hr.mono h_1) rfl (aj (bf 0) (aj az (aj (jc (bf 1) (bf 2)) bc)))))
 (bj (jj (agi (ww (uc hr.u) o9 (cj false D_1 (hr.mono h_1) rfl (aj (bf 0) (aj (bf 6) (aj (bf 3) bc)))) (bf 6) (jg _)) (agh (cj false D_7 (hr.mono h_7) rfl (aj (bf 0) (aj (bf 1) (aj (jc (jc (bf 2) (bf 3)) (bf 4)) bc))))))))))
theorem aum:FnScope ["_law_found", "_law_wanted"] ["_law_found", "_law_wanted"] (aq (top 17)):=⟨rfl,rfl,rfl,by decide +kernel,rfl,by decide +kernel,by decide +kernel⟩
theorem azw{k:Nat}(cdv:Value)(A:Around)(outer:List Env)(s:Shared)(H:Hp)(E:XK)(hr:Room k (A.deeper (PyProof.Rows.envOfC "_law_said" (aq (top 17)) s.heap.objs.size f cdv))):MSs (a1n CX0 P w K mg base ["_law_found", "_law_wanted"] "_law_said" (aq (top 17)) f cdv A outer s H E).nox X0 (jh (top 17)) (STP.a2p) :=
 have SC:=aum
 (ao (qi (ym (bf 1))
 (bj (jj (ww (afr.or a7w) agr (bf 0) a0d (jg _))))
 jm)
 (bj (jj (ww (afr.or a7w) agr (bf 0) a0d (jg _)))))
theorem aun:FnScope ["_law_script", "_law_cells"] ["_law_script"] (aq (top 18)):=⟨rfl,rfl,rfl,by decide +kernel,rfl,by decide +kernel,by decide +kernel⟩
theorem azx{k:Nat}(M:Nm mg)(cdv:Value)(A:Around)(outer:List Env)(s:Shared)(H:Hp)(E:XK)(hr:Room k (A.deeper (PyProof.Rows.envOfC "_law_source" (aq (top 18)) s.heap.objs.size f cdv))):MSs (a1n CX0 P w K mg base ["_law_script", "_law_cells"] "_law_source" (aq (top 18)) f cdv A outer s H E).nox X0 (jh (top 18)) (SRC.zj) :=
 have SC:=aun
 (ao (a2k (i:=1) SC.nd rfl (Or.inl rfl) rfl (CSc.noFree (ts:=["_law_cell"]) rfl (by decide +kernel) (by decide +kernel) (by decide +kernel)) (o8 (a9i (pq (bf 0) wz (xf az)))) (λ_ _ _ _=>(n8 (i:=0) (show (["_law_cell"]:List Str).Nodup by decide +kernel) rfl (Or.inl rfl) (.inr rfl))) u9 (λ_ _ _ _=>(jc (a4x az (uz ajm ap7 rfl M.abs atc (aj (bf 0) bc))) (a0e aft ap9 rfl M.int atd (aj (ww (a7q.or uf) a3v (bf 0) az (jg _)) bc)))))
 (bj (jj (a1i (aj (bf 1) (aj az (aj az (aj az (aj (a7b (uz (aee rfl) ape rfl M.sum atw (aj (bf 1) bc)) az) bc)))))))))
theorem auo:FnScope ["_law_left", "_law_many", "_law_cell", "_law_told"] ["_law_left", "_law_many"] (aq (top 19)):=⟨rfl,rfl,rfl,by decide +kernel,rfl,by decide +kernel,by decide +kernel⟩
theorem azy{k:Nat}(M:Nm mg)(cdv:Value)(A:Around)(outer:List Env)(s:Shared)(H:Hp)(E:XK)(hr:Room k (A.deeper (PyProof.Rows.envOfC "_law_draw" (aq (top 19)) s.heap.objs.size f cdv))):MSs (a1n CX0 P w K mg base ["_law_left", "_law_many", "_law_cell", "_law_told"] "_law_draw" (aq (top 19)) f cdv A outer s H E).nox X0 (jh (top 19)) (SRC.a2l) :=
 have SC:=auo
 (ao (abn (bf 0) az az (a4m.or v6) a2h)
 (ao (qi (PW.pt (a6b (ik (uc hr.u) o9 (bw (bf 0) az (λ_ _=>rfl)) az (jg _)) (a3h (ik (a7q.or uf) a3v (bw (bf 0) az (λ_ _=>rfl)) (uz (L2.CallR.or iz j4) p7 rfl M.len uh (aj (bw (bf 0) az (λ_ _=>rfl)) bc)) (jg _)))))
 (ao (j8 (i:=2) SC.nd rfl (Or.inl rfl) (bw (bw (bf 0) az (λ_ _=>rfl)) (bw (bf 0) az (λ_ _=>rfl)) (λ_ _=>rfl)))
 (ao (abn (bf 0) az az (a4m.or v6) a2h)
 (bj (qi (ik afp aa2 (bf 2) (agq az az) (jg _))
 (bj (a79 (bf 2) (bf 0) az))
 (bj (a79 (a7b (jc (a4x (bw (bf 0) az (λ_ _=>rfl)) az) (bf 2)) az) (bf 0) az))))))
 jm)
 (ao (qi (ik asi aml (bw (bf 0) az (λ_ _=>rfl)) az (jg _))
 (ao (j8 (i:=3) SC.nd rfl (Or.inl rfl) (a7b (bw (bf 0) az (λ_ _=>rfl)) (bf 1)))
 (ao (abn (bf 0) az (bf 1) ajk agn)
 (bj (jj (bf 3)))))
 jm)
 (ao (j8 (i:=3) SC.nd rfl (Or.inl rfl) (a7b (agq (jc (jc (bw (bf 0) az (λ_ _=>rfl)) az) (a4x (bw (bf 0) az (λ_ _=>rfl)) az)) az) az))
 (bj (jj (a7b (atk (a7b (agq (jc (a4x (bf 3) az) (bw (bf 0) az (λ_ _=>rfl))) az) az) az) (bf 1))))))))
theorem aup:FnScope ["_law_some"] [] (aq (top 20)):=⟨rfl,rfl,rfl,by decide +kernel,rfl,by decide +kernel,by decide +kernel⟩
theorem azz{k:Nat}(cdv:Value)(A:Around)(outer:List Env)(s:Shared)(H:Hp)(E:XK)(hr:Room k (A.deeper (PyProof.Rows.envOfC "_law_signs" (aq (top 20)) s.heap.objs.size f cdv))):MSs (a1n CX0 P w K mg base ["_law_some"] "_law_signs" (aq (top 20)) f cdv A outer s H E).nox X0 (jh (top 20)) (SRC.yq) :=
 have SC:=aup
 (ao (j8 (i:=0) SC.nd rfl (Or.inl rfl) a1h)
 (bj (jj (jc (bf 0) a1h))))
theorem auq:FnScope ["_law_left", "_law_rest", "_law_told", "_law_k", "_law_at"] ["_law_left"] (aq (top 21)):=⟨rfl,rfl,rfl,by decide +kernel,rfl,by decide +kernel,by decide +kernel⟩
theorem b00{k:Nat}(M:Nm mg){a_13:Addr}{d_13:FuncData}{k_13:Nat}{F_13:SF}(D_13:Dn P w K mg base k_13 "_law_draw" ["_law_left", "_law_many"] (qd K 2 F_13) a_13 d_13)(h_13:k_13<=k){a_14:Addr}{d_14:FuncData}{k_14:Nat}{F_14:SF}(D_14:Dn P w K mg base k_14 "_law_signs" [] (qd K 0 F_14) a_14 d_14)(h_14:k_14<=k)(cdv:Value)(A:Around)(outer:List Env)(s:Shared)(H:Hp)(E:XK)(hr:Room k (A.deeper (PyProof.Rows.envOfC "_law_tongue" (aq (top 21)) s.heap.objs.size f cdv))):MSs (a1n CX0 P w K mg base ["_law_left", "_law_rest", "_law_told", "_law_k", "_law_at"] "_law_tongue" (aq (top 21)) f cdv A outer s H E).nox X0 (jh (top 21)) (SRC.zp F_13 F_14) :=
 have SC:=auq
 (ao (j8 (i:=1) SC.nd rfl (Or.inl rfl) (aa9 false D_14 (hr.mono h_14) rfl))
 (ao (j8 (i:=2) SC.nd rfl (Or.inl rfl) a1h)
 (ao (qe PassesOwn.never rfl (a0g rfl M.range (aj (jc az (cj false D_13 (hr.mono h_13) rfl (aj (bf 0) (aj az bc)))) bc)) (du (i:=3) SC.nd rfl (Or.inl rfl)) (ao (j8 (i:=4) SC.nd rfl (Or.inl rfl) (cj false D_13 (hr.mono h_13) rfl (aj (bf 0) (aj (uz (L2.CallR.or iz j4) p7 rfl M.len uh (aj (bf 1) bc)) bc))))
 (ao (acp (i:=2) SC.nd rfl (Or.inl rfl) (a4m.or v6) a2h (bw (bf 1) (bf 4) (λ_ _=>rfl)))
 (bj (j8 (i:=1) SC.nd rfl (Or.inl rfl) (jc (pq (bf 1) wz (xf (bf 4))) (pq (bf 1) (xf (jc (bf 4) az)) wz)))))))
 (bj (jj (bf 2))))))
theorem aur:FnScope ["_law_left", "_law_tongue_here", "_law_many", "_law_kinds", "_law_room_here", "_law_manner", "_law_goes", "_law_row"] ["_law_left", "_law_tongue_here", "_law_many"] (aq (top 22)):=⟨rfl,rfl,rfl,by decide +kernel,rfl,by decide +kernel,by decide +kernel⟩
theorem b01{k:Nat}(M:Nm mg){a_13:Addr}{d_13:FuncData}{k_13:Nat}{F_13:SF}(D_13:Dn P w K mg base k_13 "_law_draw" ["_law_left", "_law_many"] (qd K 2 F_13) a_13 d_13)(h_13:k_13<=k)(cdv:Value)(A:Around)(outer:List Env)(s:Shared)(H:Hp)(E:XK)(hr:Room k (A.deeper (PyProof.Rows.envOfC "_law_rooms" (aq (top 22)) s.heap.objs.size f cdv))):MSs (a1n CX0 P w K mg base ["_law_left", "_law_tongue_here", "_law_many", "_law_kinds", "_law_room_here", "_law_manner", "_law_goes", "_law_row"] "_law_rooms" (aq (top 22)) f cdv A outer s H E).nox X0 (jh (top 22)) (SRC.a0o F_13) :=
 have SC:=aur
 (ao (j8 (i:=3) SC.nd rfl (Or.inr rfl) (a1i (aj (a2z az) bc)))
 (ao (qe PassesOwn.never rfl (abi rfl M.range (aj az (aj (bf 2) bc))) (du (i:=4) SC.nd rfl (Or.inr rfl)) (bj (a1t (a83 PySem.F.slot_list_append PySem.F.type_list_append wj a1u (bf 3) (aj (agj (ik (a7q.or uf) a3v (cj false D_13 (hr.mono h_13) rfl (aj (bf 0) (aj az bc))) az (jg _)) (cj false D_13 (hr.mono h_13) rfl (aj (bf 0) (aj az bc))) (a2z az)) bc)))))
 (ao (j8 (i:=5) SC.nd rfl (Or.inl rfl) (cj false D_13 (hr.mono h_13) rfl (aj (bf 0) (aj az bc))))
 (ao (j8 (i:=6) SC.nd rfl (Or.inl rfl) (a1i bc))
 (ao (qe PassesOwn.never rfl (a0g rfl M.range (aj (bf 2) bc)) (du (i:=4) SC.nd rfl (Or.inr rfl)) (ao (a2k (i:=7) SC.nd rfl (Or.inl rfl) rfl (CSc.of (ts:=["_law_sign"]) (fr:=["_law_left", "_law_many"]) (ix:=[0,2]) rfl rfl rfl rfl (by intro p hp;simp only [List.mem_cons,List.not_mem_nil,or_false] at hp;rcases hp with rfl | rfl<;>rfl) rfl rfl rfl rfl) (o8 (bf 1)) (λ_ _ _ _=>(n8 (i:=0) (show (["_law_sign", "_law_left", "_law_many"]:List Str).Nodup by decide +kernel) rfl (Or.inl rfl) (.inr rfl))) u9 (λ_ _ _ _=>(cj false D_13 (hr.mono h_13) rfl (aj (bf 1) (aj (bf 2) bc)))))
 (ao (qi (ik asi aml (bf 5) az (jg _))
 (bj (a2k (i:=7) SC.nd rfl (Or.inl rfl) rfl (CSc.of (ts:=["_law_to"]) (fr:=["_law_many", "_law_kinds", "_law_room_here"]) (ix:=[2,3,4]) rfl rfl rfl rfl (by intro p hp;simp only [List.mem_cons,List.not_mem_nil,or_false] at hp;rcases hp with rfl | rfl | rfl<;>rfl) rfl rfl rfl rfl) (o8 (bf 7)) (λ_ _ _ _=>(n8 (i:=0) (show (["_law_to", "_law_many", "_law_kinds", "_law_room_here"]:List Str).Nodup by decide +kernel) rfl (Or.inl rfl) (.inr rfl))) u9 (λ_ _ _ _=>(agj (PW.pt (a6b (ik (a7q.or uf) a3v (bw (bf 2) (bf 0) (λ_ _=>rfl)) az (jg _)) (a3h (ik (ash.or a9s) amk (bf 0) (bf 3) (jg _))))) (agp (bf 1) az) (bf 0)))))
 jm)
 (ao (qi (PW.pt (a6b (ik (uc hr.u) o9 (bf 5) az (jg _)) (a3h (ik (uc hr.u) o9 (bf 4) (agp (bf 2) az) (jg _)))))
 (bj (a2k (i:=7) SC.nd rfl (Or.inl rfl) rfl (CSc.of (ts:=["_law_to"]) (fr:=["_law_room_here"]) (ix:=[4]) rfl rfl rfl rfl (by intro p hp;cases List.mem_singleton.mp hp;rfl) rfl rfl rfl rfl) (o8 (bf 7)) (λ_ _ _ _=>(n8 (i:=0) (show (["_law_to", "_law_room_here"]:List Str).Nodup by decide +kernel) rfl (Or.inl rfl) (.inr rfl))) u9 (λ_ _ _ _=>(bf 1))))
 jm)
 (bj (a1t (a83 PySem.F.slot_list_append PySem.F.type_list_append wj a1u (bf 6) (aj (bf 7) bc))))))))
 (bj (jj (a1s (aj (bf 6) (aj (bf 3) bc))))))))))
theorem aus:FnScope ["_law_left", "_law_most", "_law_tongue_here", "_law_many", "_law_goes", "_law_kinds", "_law_met", "_law_at", "_law_to", "_law_rows"] ["_law_left", "_law_most"] (aq (top 23)):=⟨rfl,rfl,rfl,by decide +kernel,rfl,by decide +kernel,by decide +kernel⟩
theorem b02{k:Nat}(M:Nm mg){a_13:Addr}{d_13:FuncData}{k_13:Nat}{F_13:SF}(D_13:Dn P w K mg base k_13 "_law_draw" ["_law_left", "_law_many"] (qd K 2 F_13) a_13 d_13)(h_13:k_13<=k){a_16:Addr}{d_16:FuncData}{k_16:Nat}{F_16:SF}(D_16:Dn P w K mg base k_16 "_law_rooms" ["_law_left", "_law_tongue_here", "_law_many"] (qd K 3 F_16) a_16 d_16)(h_16:k_16<=k){a_15:Addr}{d_15:FuncData}{k_15:Nat}{F_15:SF}(D_15:Dn P w K mg base k_15 "_law_tongue" ["_law_left"] (qd K 1 F_15) a_15 d_15)(h_15:k_15<=k)(cdv:Value)(A:Around)(outer:List Env)(s:Shared)(H:Hp)(E:XK)(hr:Room k (A.deeper (PyProof.Rows.envOfC "_law_table" (aq (top 23)) s.heap.objs.size f cdv))):MSs (a1n CX0 P w K mg base ["_law_left", "_law_most", "_law_tongue_here", "_law_many", "_law_goes", "_law_kinds", "_law_met", "_law_at", "_law_to", "_law_rows"] "_law_table" (aq (top 23)) f cdv A outer s H E).nox X0 (jh (top 23)) (SRC.a0p F_13 F_16 F_15) :=
 have SC:=aus
 (ao (j8 (i:=2) SC.nd rfl (Or.inl rfl) (cj false D_15 (hr.mono h_15) rfl (aj (bf 0) bc)))
 (ao (j8 (i:=3) SC.nd rfl (Or.inl rfl) (jc az (cj false D_13 (hr.mono h_13) rfl (aj (bf 0) (aj az bc)))))
 (ao (qi (ik (uc hr.u) o9 (cj false D_13 (hr.mono h_13) rfl (aj (bf 0) (aj az bc))) az (jg _))
 (bj (j8 (i:=3) SC.nd rfl (Or.inl rfl) (jc az (cj false D_13 (hr.mono h_13) rfl (aj (bf 0) (aj (bf 1) bc))))))
 jm)
 (ao (a2y (cj false D_16 (hr.mono h_16) rfl (aj (bf 0) (aj (bf 2) (aj (uz (afs rfl) ak2 rfl M.min atv (aj (bf 3) (aj (bf 1) bc))) bc)))) (zf rfl (j5 (du (i:=4) SC.nd rfl (Or.inr rfl)) (j5 (du (i:=5) SC.nd rfl (Or.inr rfl)) uo))))
 (ao (j8 (i:=6) SC.nd rfl (Or.inr rfl) (a1i (aj az bc)))
 (ao (j8 (i:=7) SC.nd rfl (Or.inl rfl) az)
 (ao (a81 100000 PassesOwn.never (ik (a7q.or uf) a3v (bf 7) (uz (L2.CallR.or iz j4) p7 rfl M.len uh (aj (bf 6) bc)) (jg _)) (ao (qe PassesOwn.never rfl (o8 (bw (bf 4) (bw (bf 6) (bf 7) (λ_ _=>rfl)) (λ_ _=>rfl))) (du (i:=8) SC.nd rfl (Or.inl rfl)) (bj (qi (ik (a2e.or zc) a82 (bf 8) (bf 6) (by with_unfolding_all rfl))
 (bj (a1t (a83 PySem.F.slot_list_append PySem.F.type_list_append wj a1u (bf 6) (aj (bf 8) bc))))
 jm)))
 (bj (acp (i:=7) SC.nd rfl (Or.inl rfl) (a4m.or v6) a2h az))))
 (ao (j8 (i:=6) SC.nd rfl (Or.inr rfl) (uz a8b aen rfl M.sorted ahm (aj (bf 6) bc)))
 (ao (j8 (i:=9) SC.nd rfl (Or.inl rfl) (a0e (L2.CallR.or ug (wk rfl)) a1v rfl M.tuple a2d (aj (a9i (a0h rfl (CSc.of (ts:=["_law_room_here"]) (fr:=["_law_goes", "_law_met"]) (ix:=[4,6]) rfl rfl rfl rfl (by intro p hp;simp only [List.mem_cons,List.not_mem_nil,or_false] at hp;rcases hp with rfl | rfl<;>rfl) rfl rfl rfl rfl) (o8 (bf 6)) (λ_ _ _ _=>(n8 (i:=0) (show (["_law_room_here", "_law_goes", "_law_met"]:List Str).Nodup by decide +kernel) rfl (Or.inl rfl) (.inr rfl))) u9 (λ_ _ _ _=>(a0e (L2.CallR.or ug (wk rfl)) a1v rfl M.tuple a2d (aj (a9i (a0h rfl (CSc.of (ts:=["_law_to"]) (fr:=["_law_met"]) (ix:=[2]) rfl rfl rfl rfl (by intro p hp;cases List.mem_singleton.mp hp;rfl) rfl rfl rfl rfl) (o8 (bw (bf 1) (bf 0) (λ_ _=>rfl))) (λ_ _ _ _=>(n8 (i:=0) (show (["_law_to", "_law_met"]:List Str).Nodup by decide +kernel) rfl (Or.inl rfl) (.inr rfl))) u9 (λ_ _ _ _=>(a83 PySem.F.slot_list_index PySem.F.type_list_index ahc aeo (bf 1) (aj (bf 0) bc))))) bc))))) bc)))
 (bj (jj (a1s (aj (bf 2) (aj (bf 9) (aj (a0e (L2.CallR.or ug (wk rfl)) a1v rfl M.tuple a2d (aj (a9i (a0h rfl (CSc.of (ts:=["_law_room_here"]) (fr:=["_law_kinds"]) (ix:=[5]) rfl rfl rfl rfl (by intro p hp;cases List.mem_singleton.mp hp;rfl) rfl rfl rfl rfl) (o8 (bf 6)) (λ_ _ _ _=>(n8 (i:=0) (show (["_law_room_here", "_law_kinds"]:List Str).Nodup by decide +kernel) rfl (Or.inl rfl) (.inr rfl))) u9 (λ_ _ _ _=>(bw (bf 1) (bf 0) (λ_ _=>rfl))))) bc)) bc)))))))))))))))
theorem aut:FnScope ["_law_table_here", "_law_hope_here", "_law_k", "_law_room_here", "_law_to"] ["_law_table_here"] (aq (top 24)):=⟨rfl,rfl,rfl,by decide +kernel,rfl,by decide +kernel,by decide +kernel⟩
theorem b03{k:Nat}(M:Nm mg)(cdv:Value)(A:Around)(outer:List Env)(s:Shared)(H:Hp)(E:XK)(hr:Room k (A.deeper (PyProof.Rows.envOfC "_law_hope" (aq (top 24)) s.heap.objs.size f cdv))):MSs (a1n CX0 P w K mg base ["_law_table_here", "_law_hope_here", "_law_k", "_law_room_here", "_law_to"] "_law_hope" (aq (top 24)) f cdv A outer s H E).nox X0 (jh (top 24)) (RCH.a2m) :=
 have SC:=aut
 (ao (apl (i:=1) SC.nd rfl (Or.inl rfl) rfl (CSc.noFree (ts:=["_law_row"]) rfl (by decide +kernel) (by decide +kernel) (by decide +kernel)) (o8 (bw (bf 0) az (λ_ _=>rfl))) (λ_ _ _ _=>(n8 (i:=0) (show (["_law_row"]:List Str).Nodup by decide +kernel) rfl (Or.inl rfl) (.inr rfl))) u9 (λ_ _ _ _=>a0d))
 (ao (qe PassesOwn.never rfl (a0g rfl M.range (aj (uz (L2.CallR.or iz j4) p7 rfl M.len uh (aj (bf 1) bc)) bc)) (du (i:=2) SC.nd rfl (Or.inl rfl)) (bj (qe PassesOwn.never rfl (a0g rfl M.range (aj (uz (L2.CallR.or iz j4) p7 rfl M.len uh (aj (bf 1) bc)) bc)) (du (i:=3) SC.nd rfl (Or.inl rfl)) (bj (qe PassesOwn.never rfl (o8 (bw (bw (bf 0) az (λ_ _=>rfl)) (bf 3) (λ_ _=>rfl))) (du (i:=4) SC.nd rfl (Or.inl rfl)) (bj (qi (PW.pt (a9y (ik afp aa2 (bw (bw (bf 0) az (λ_ _=>rfl)) (bf 4) (λ_ _=>rfl)) az (jg _)) (a78 (ym (bw (bf 1) (bf 4) (λ_ _=>rfl))))))
 (bj (a79 a0d (bf 1) (bf 3)))
 jm)))))))
 (bj (jj (bf 1)))))
theorem auu:FnScope ["_law_table_here", "_law_rooms_here", "_law_told", "_law_room_here", "_law_to"] ["_law_table_here", "_law_rooms_here"] (aq (top 25)):=⟨rfl,rfl,rfl,by decide +kernel,rfl,by decide +kernel,by decide +kernel⟩
theorem b04{k:Nat}(cdv:Value)(A:Around)(outer:List Env)(s:Shared)(H:Hp)(E:XK)(hr:Room k (A.deeper (PyProof.Rows.envOfC "_law_next" (aq (top 25)) s.heap.objs.size f cdv))):MSs (a1n CX0 P w K mg base ["_law_table_here", "_law_rooms_here", "_law_told", "_law_room_here", "_law_to"] "_law_next" (aq (top 25)) f cdv A outer s H E).nox X0 (jh (top 25)) (RCH.a2n) :=
 have SC:=auu
 (ao (j8 (i:=2) SC.nd rfl (Or.inl rfl) (a1i bc))
 (ao (qe PassesOwn.never rfl (o8 (bf 1)) (du (i:=3) SC.nd rfl (Or.inl rfl)) (bj (qe PassesOwn.never rfl (o8 (bw (bw (bf 0) az (λ_ _=>rfl)) (bf 3) (λ_ _=>rfl))) (du (i:=4) SC.nd rfl (Or.inl rfl)) (bj (qi (ik (a2e.or zc) a82 (bf 4) (bf 2) (by with_unfolding_all rfl))
 (bj (a1t (a83 PySem.F.slot_list_append PySem.F.type_list_append wj a1u (bf 2) (aj (bf 4) bc))))
 jm)))))
 (bj (jj (bf 2)))))
theorem auv:FnScope ["_law_table_here", "_law_rooms_here", "_law_hope_here", "_law_due", "_law_many"] ["_law_table_here", "_law_rooms_here"] (aq (top 26)):=⟨rfl,rfl,rfl,by decide +kernel,rfl,by decide +kernel,by decide +kernel⟩
theorem b05{k:Nat}(M:Nm mg){a_18:Addr}{d_18:FuncData}{k_18:Nat}{F_18:SF}(D_18:Dn P w K mg base k_18 "_law_hope" ["_law_table_here"] (qd K 1 F_18) a_18 d_18)(h_18:k_18<=k){a_19:Addr}{d_19:FuncData}{k_19:Nat}{F_19:SF}(D_19:Dn P w K mg base k_19 "_law_next" ["_law_table_here", "_law_rooms_here"] (qd K 2 F_19) a_19 d_19)(h_19:k_19<=k)(cdv:Value)(A:Around)(outer:List Env)(s:Shared)(H:Hp)(E:XK)(hr:Room k (A.deeper (PyProof.Rows.envOfC "_law_reach" (aq (top 26)) s.heap.objs.size f cdv))):MSs (a1n CX0 P w K mg base ["_law_table_here", "_law_rooms_here", "_law_hope_here", "_law_due", "_law_many"] "_law_reach" (aq (top 26)) f cdv A outer s H E).nox X0 (jh (top 26)) (RCH.a0u F_18 F_19) :=
 have SC:=auv
 (ao (j8 (i:=2) SC.nd rfl (Or.inr rfl) (cj false D_18 (hr.mono h_18) rfl (aj (bf 0) bc)))
 (ao (j8 (i:=3) SC.nd rfl (Or.inl rfl) az)
 (ao (qe PassesOwn.never rfl (abi rfl M.range (aj az (aj (jc (a4x az (uz (L2.CallR.or iz j4) p7 rfl M.len uh (aj (bf 2) bc))) az) bc))) (du (i:=4) SC.nd rfl (Or.inl rfl)) (ao (j8 (i:=1) SC.nd rfl (Or.inl rfl) (cj false D_19 (hr.mono h_19) rfl (aj (bf 0) (aj (bf 1) bc))))
 (ao (qi (ik (au8 hr.u) (apz true) (a9i (acu rfl (CSc.of (ts:=["_law_room_here"]) (fr:=["_law_table_here"]) (ix:=[0]) rfl rfl rfl rfl (by intro p hp;cases List.mem_singleton.mp hp;rfl) rfl rfl rfl rfl) (o8 (bf 1)) (λ_ _ _ _=>(n8 (i:=0) (show (["_law_room_here", "_law_table_here"]:List Str).Nodup by decide +kernel) rfl (Or.inl rfl) (.inr rfl))) u9 (λ_ _ _ _=>(bf 0)) (λ_ _ _ _=>(ik afp aa2 (bw (bw (bf 1) az (λ_ _=>rfl)) (bf 0) (λ_ _=>rfl)) az (jg _))))) (a9i (a1i bc)) (jg _))
 (bj (j8 (i:=3) SC.nd rfl (Or.inl rfl) (bf 4)))
 jm)
 (bj (ad7 (i:=1) SC.nd rfl (Or.inl rfl) rfl (CSc.of (ts:=["_law_room_here"]) (fr:=["_law_table_here", "_law_hope_here"]) (ix:=[0,2]) rfl rfl rfl rfl (by intro p hp;simp only [List.mem_cons,List.not_mem_nil,or_false] at hp;rcases hp with rfl | rfl<;>rfl) rfl rfl rfl rfl) (o8 (bf 1)) (λ_ _ _ _=>(n8 (i:=0) (show (["_law_room_here", "_law_table_here", "_law_hope_here"]:List Str).Nodup by decide +kernel) rfl (Or.inl rfl) (.inr rfl))) u9 (λ_ _ _ _=>(bf 0)) (λ_ _ _ _=>(PW.pt (a6b (ik (a7q.or uf) a3v (bw (bw (bf 1) az (λ_ _=>rfl)) (bf 0) (λ_ _=>rfl)) az (jg _)) (a3h (ym (bw (bf 2) (bf 0) (λ_ _=>rfl))))))))))))
 (bj (jj (agj (ik (ash.or a9s) amk (bf 3) (uz (L2.CallR.or iz j4) p7 rfl M.len uh (aj (bf 2) bc)) (jg _)) (bf 3) a5b))))))
theorem auw:FnScope ["_law_table_here", "_law_word", "_law_room_here", "_law_sign"] ["_law_table_here", "_law_word"] (aq (top 27)):=⟨rfl,rfl,rfl,by decide +kernel,rfl,by decide +kernel,by decide +kernel⟩
theorem b06{k:Nat}(cdv:Value)(A:Around)(outer:List Env)(s:Shared)(H:Hp)(E:XK)(hr:Room k (A.deeper (PyProof.Rows.envOfC "_law_room" (aq (top 27)) s.heap.objs.size f cdv))):MSs (a1n CX0 P w K mg base ["_law_table_here", "_law_word", "_law_room_here", "_law_sign"] "_law_room" (aq (top 27)) f cdv A outer s H E).nox X0 (jh (top 27)) (STP.a2q) :=
 have SC:=auw
 (ao (j8 (i:=2) SC.nd rfl (Or.inl rfl) az)
 (ao (qe PassesOwn.never rfl (o8 (bf 1)) (du (i:=3) SC.nd rfl (Or.inl rfl)) (bj (j8 (i:=2) SC.nd rfl (Or.inl rfl) (bw (bw (bw (bf 0) az (λ_ _=>rfl)) (bf 2) (λ_ _=>rfl)) (ak3 PySem.F.slot_str_find PySem.F.type_str_find agg acy (bw (bf 0) az (λ_ _=>rfl)) (aj (bf 3) bc)) (λ_ _=>rfl)))))
 (bj (jj (bf 2)))))
theorem auy:FnScope ["_law_table_here", "_law_word", "_law_sign"] ["_law_table_here", "_law_word"] (aq (top 28)):=⟨rfl,rfl,rfl,by decide +kernel,rfl,by decide +kernel,by decide +kernel⟩
theorem b07{k:Nat}(M:Nm mg)(cdv:Value)(A:Around)(outer:List Env)(s:Shared)(H:Hp)(E:XK)(hr:Room k (A.deeper (PyProof.Rows.envOfC "_law_is_word" (aq (top 28)) s.heap.objs.size f cdv))):MSs (a1n CX0 P w K mg base ["_law_table_here", "_law_word", "_law_sign"] "_law_is_word" (aq (top 28)) f cdv A outer s H E).nox X0 (jh (top 28)) (STP.ye) :=
 have SC:=auy
 (ao (qi (a1q (ym (uz (L2.CallR.or a3f a1y) a8k rfl M.isinstance a0c (aj (bf 1) (aj (aox rfl M.str ame) bc)))))
 (bj (jj a0d))
 jm)
 (ao (qe PassesOwn.never rfl (o8 (bf 1)) (du (i:=2) SC.nd rfl (Or.inl rfl)) (bj (qi (ik (a2e.or zc) a82 (bf 2) (bw (bf 0) az (λ_ _=>rfl)) (by with_unfolding_all rfl))
 (bj (jj a0d))
 jm)))
 (bj (jj a0d))))
theorem auz:FnScope ["_law_table_here", "_law_u", "_law_z", "_law_room_here", "_law_at"] ["_law_table_here", "_law_u", "_law_z"] (aq (top 29)):=⟨rfl,rfl,rfl,by decide +kernel,rfl,by decide +kernel,by decide +kernel⟩
theorem b08{k:Nat}(M:Nm mg){a_22:Addr}{d_22:FuncData}{k_22:Nat}{F_22:SF}(D_22:Dn P w K mg base k_22 "_law_is_word" ["_law_table_here", "_law_word"] (qd K 2 F_22) a_22 d_22)(h_22:k_22<=k){a_21:Addr}{d_21:FuncData}{k_21:Nat}{F_21:SF}(D_21:Dn P w K mg base k_21 "_law_room" ["_law_table_here", "_law_word"] (qd K 2 F_21) a_21 d_21)(h_21:k_21<=k)(cdv:Value)(A:Around)(outer:List Env)(s:Shared)(H:Hp)(E:XK)(hr:Room k (A.deeper (PyProof.Rows.envOfC "_law_is_step" (aq (top 29)) s.heap.objs.size f cdv))):MSs (a1n CX0 P w K mg base ["_law_table_here", "_law_u", "_law_z", "_law_room_here", "_law_at"] "_law_is_step" (aq (top 29)) f cdv A outer s H E).nox X0 (jh (top 29)) (STP.yf F_22 F_21) :=
 have SC:=auz
 (ao (qi (PW.pt (a9y (a1q (ym (cj false D_22 (hr.mono h_22) rfl (aj (bf 0) (aj (bf 1) bc))))) (a9y (a1q (ym (cj false D_22 (hr.mono h_22) rfl (aj (bf 0) (aj (bf 2) bc))))) (a78 (ik (uc hr.u) o9 (bf 2) a1h (jg _))))))
 (bj (jj a0d))
 jm)
 (ao (j8 (i:=3) SC.nd rfl (Or.inl rfl) (cj false D_21 (hr.mono h_21) rfl (aj (bf 0) (aj (bf 1) bc))))
 (ao (qi (ik (a7q.or uf) a3v (bw (bw (bf 0) az (λ_ _=>rfl)) (bf 3) (λ_ _=>rfl)) az (jg _))
 (bj (jj a0d))
 jm)
 (ao (qe PassesOwn.never rfl (a0g rfl M.range (aj (uz (L2.CallR.or iz j4) p7 rfl M.len uh (aj (bf 2) bc)) bc)) (du (i:=4) SC.nd rfl (Or.inl rfl)) (ao (j8 (i:=3) SC.nd rfl (Or.inl rfl) (bw (bw (bw (bf 0) az (λ_ _=>rfl)) (bf 3) (λ_ _=>rfl)) (ak3 PySem.F.slot_str_find PySem.F.type_str_find agg acy (bw (bf 0) az (λ_ _=>rfl)) (aj (bw (bf 2) (bf 4) (λ_ _=>rfl)) bc)) (λ_ _=>rfl)))
 (bj (qi (ik (aa5 hr.u) a6e (ww afp aa2 (bw (bw (bf 0) az (λ_ _=>rfl)) (bf 3) (λ_ _=>rfl)) az (jg _)) (ww (uc hr.u) o9 (bf 4) (agp (uz (L2.CallR.or iz j4) p7 rfl M.len uh (aj (bf 2) bc)) az) (jg _)) (jg _))
 (bj (jj a0d))
 jm))))
 (bj (jj a0d))))))
theorem av0:FnScope ["_law_left", "_law_tongue_here", "_law_word", "_law_which", "_law_at", "_law_sign", "_law_rest"] ["_law_left", "_law_tongue_here", "_law_word", "_law_which"] (aq (top 30)):=⟨rfl,rfl,rfl,by decide +kernel,rfl,by decide +kernel,by decide +kernel⟩
theorem b09{k:Nat}(M:Nm mg){a_13:Addr}{d_13:FuncData}{k_13:Nat}{F_13:SF}(D_13:Dn P w K mg base k_13 "_law_draw" ["_law_left", "_law_many"] (qd K 2 F_13) a_13 d_13)(h_13:k_13<=k){a_14:Addr}{d_14:FuncData}{k_14:Nat}{F_14:SF}(D_14:Dn P w K mg base k_14 "_law_signs" [] (qd K 0 F_14) a_14 d_14)(h_14:k_14<=k)(cdv:Value)(A:Around)(outer:List Env)(s:Shared)(H:Hp)(E:XK)(hr:Room k (A.deeper (PyProof.Rows.envOfC "_law_word_spoilt" (aq (top 30)) s.heap.objs.size f cdv))):MSs (a1n CX0 P w K mg base ["_law_left", "_law_tongue_here", "_law_word", "_law_which", "_law_at", "_law_sign", "_law_rest"] "_law_word_spoilt" (aq (top 30)) f cdv A outer s H E).nox X0 (jh (top 30)) (STP.jb F_13 F_14) :=
 have SC:=av0
 (ao (j8 (i:=4) SC.nd rfl (Or.inl rfl) (cj false D_13 (hr.mono h_13) rfl (aj (bf 0) (aj (jc (uz (L2.CallR.or iz j4) p7 rfl M.len uh (aj (bf 2) bc)) az) bc))))
 (ao (j8 (i:=5) SC.nd rfl (Or.inl rfl) (bw (bf 1) (cj false D_13 (hr.mono h_13) rfl (aj (bf 0) (aj (uz (L2.CallR.or iz j4) p7 rfl M.len uh (aj (bf 1) bc)) bc))) (λ_ _=>rfl)))
 (ao (ad7 (i:=6) SC.nd rfl (Or.inl rfl) rfl (CSc.of (ts:=["_law_one"]) (fr:=["_law_tongue_here"]) (ix:=[1]) rfl rfl rfl rfl (by intro p hp;cases List.mem_singleton.mp hp;rfl) rfl rfl rfl rfl) (o8 (aa9 false D_14 (hr.mono h_14) rfl)) (λ_ _ _ _=>(n8 (i:=0) (show (["_law_one", "_law_tongue_here"]:List Str).Nodup by decide +kernel) rfl (Or.inl rfl) (.inr rfl))) u9 (λ_ _ _ _=>(bf 0)) (λ_ _ _ _=>(ik (a2e.or zc) a82 (bf 0) (bf 1) (by with_unfolding_all rfl))))
 (ao (qi (ik (uc hr.u) o9 (bf 3) az (jg _))
 (bj (jj (jc (jc (pq (bf 2) wz (xf (bf 4))) (bf 5)) (pq (bf 2) (xf (bf 4)) wz))))
 jm)
 (ao (qi (ik (uc hr.u) o9 (bf 3) az (jg _))
 (bj (jj (jc (pq (bf 2) wz (xf (bf 4))) (pq (bf 2) (xf (jc (bf 4) az)) wz))))
 jm)
 (ao (qi (ik (uc hr.u) o9 (bf 3) az (jg _))
 (bj (jj (jc (jc (pq (bf 2) wz (xf (bf 4))) (bf 5)) (pq (bf 2) (xf (jc (bf 4) az)) wz))))
 jm)
 (ao (qi (ik (uc hr.u) o9 (bf 3) az (jg _))
 (bj (jj (jc (jc (pq (bf 2) wz (xf (bf 4))) (bw (bf 6) (cj false D_13 (hr.mono h_13) rfl (aj (bf 0) (aj (uz (L2.CallR.or iz j4) p7 rfl M.len uh (aj (bf 6) bc)) bc))) (λ_ _=>rfl))) (pq (bf 2) (xf (jc (bf 4) az)) wz))))
 jm)
 (ao (qi (ik (uc hr.u) o9 (bf 3) az (jg _))
 (bj (jj a5b))
 jm)
 (ao (qi (ik (uc hr.u) o9 (bf 3) az (jg _))
 (bj (jj (a0h rfl (CSc.noFree (ts:=["_law_one"]) rfl (by decide +kernel) (by decide +kernel) (by decide +kernel)) (o8 (bf 2)) (λ_ _ _ _=>(n8 (i:=0) (show (["_law_one"]:List Str).Nodup by decide +kernel) rfl (Or.inl rfl) (.inr rfl))) u9 (λ_ _ _ _=>(bf 0)))))
 jm)
 (bj (jj a1h)))))))))))
theorem av1:FnScope ["_law_table_here", "_law_four", "_law_word", "_law_u", "_law_y", "_law_c", "_law_x"] ["_law_table_here", "_law_four"] (aq (top 31)):=⟨rfl,rfl,rfl,by decide +kernel,rfl,by decide +kernel,by decide +kernel⟩
theorem b0a{k:Nat}{a_23:Addr}{d_23:FuncData}{k_23:Nat}{F_23:SF}(D_23:Dn P w K mg base k_23 "_law_is_step" ["_law_table_here", "_law_u", "_law_z"] (qd K 3 F_23) a_23 d_23)(h_23:k_23<=k){a_22:Addr}{d_22:FuncData}{k_22:Nat}{F_22:SF}(D_22:Dn P w K mg base k_22 "_law_is_word" ["_law_table_here", "_law_word"] (qd K 2 F_22) a_22 d_22)(h_22:k_22<=k){a_21:Addr}{d_21:FuncData}{k_21:Nat}{F_21:SF}(D_21:Dn P w K mg base k_21 "_law_room" ["_law_table_here", "_law_word"] (qd K 2 F_21) a_21 d_21)(h_21:k_21<=k)(cdv:Value)(A:Around)(outer:List Env)(s:Shared)(H:Hp)(E:XK)(hr:Room k (A.deeper (PyProof.Rows.envOfC "_law_holds" (aq (top 31)) s.heap.objs.size f cdv))):MSs (a1n CX0 P w K mg base ["_law_table_here", "_law_four", "_law_word", "_law_u", "_law_y", "_law_c", "_law_x"] "_law_holds" (aq (top 31)) f cdv A outer s H E).nox X0 (jh (top 31)) (a1a F_23 F_22 F_21) :=
 have SC:=av1
 (ao (qe PassesOwn.never rfl (o8 (bf 1)) (du (i:=2) SC.nd rfl (Or.inl rfl)) (bj (qi (PW.pt (a9y (a1q (ym (cj false D_22 (hr.mono h_22) rfl (aj (bf 0) (aj (bf 2) bc))))) (a78 (ik (uc hr.u) o9 (bf 2) a1h (jg _)))))
 (bj (jj a0d))
 jm)))
 (ao (a2y (bf 1) (aqg rfl (j5 (du (i:=3) SC.nd rfl (Or.inl rfl)) (j5 (du (i:=4) SC.nd rfl (Or.inl rfl)) (j5 (du (i:=5) SC.nd rfl (Or.inl rfl)) (j5 (du (i:=6) SC.nd rfl (Or.inl rfl)) uo))))))
 (ao (qi (ik (aa5 hr.u) a6e (cj false D_21 (hr.mono h_21) rfl (aj (bf 0) (aj (jc (bf 3) (bf 4)) bc))) (cj false D_21 (hr.mono h_21) rfl (aj (bf 0) (aj (jc (jc (bf 3) (bf 4)) (bf 5)) bc))) (jg _))
 (bj (jj a0d))
 jm)
 (bj (jj (cj false D_23 (hr.mono h_23) rfl (aj (bf 0) (aj (bf 3) (aj (jc (jc (bf 4) (bf 5)) (bf 6)) bc)))))))))
theorem av2:FnScope ["_law_left", "_law_table_here", "_law_four", "_law_at", "_law_other", "_law_which", "_law_spoilt", "_law_turned", "_law_some", "_law_wanted"] ["_law_left", "_law_table_here", "_law_four"] (aq (top 32)):=⟨rfl,rfl,rfl,by decide +kernel,rfl,by decide +kernel,by decide +kernel⟩
theorem b0b{k:Nat}(M:Nm mg){a_13:Addr}{d_13:FuncData}{k_13:Nat}{F_13:SF}(D_13:Dn P w K mg base k_13 "_law_draw" ["_law_left", "_law_many"] (qd K 2 F_13) a_13 d_13)(h_13:k_13<=k){a_25:Addr}{d_25:FuncData}{k_25:Nat}{F_25:SF}(D_25:Dn P w K mg base k_25 "_law_holds" ["_law_table_here", "_law_four"] (qd K 2 F_25) a_25 d_25)(h_25:k_25<=k){a_11:Addr}{d_11:FuncData}{k_11:Nat}{F_11:SF}(D_11:Dn P w K mg base k_11 "_law_said" ["_law_found", "_law_wanted"] (qd K 2 F_11) a_11 d_11)(h_11:k_11<=k){a_24:Addr}{d_24:FuncData}{k_24:Nat}{F_24:SF}(D_24:Dn P w K mg base k_24 "_law_word_spoilt" ["_law_left", "_law_tongue_here", "_law_word", "_law_which"] (qd K 4 F_24) a_24 d_24)(h_24:k_24<=k){a_10:Addr}{d_10:FuncData}{k_10:Nat}{F_10:SF}(D_10:Dn P w K mg base k_10 "rounds_hold" ["table", "u", "y", "c", "x"] (qd K 5 F_10) a_10 d_10)(h_10:k_10<=k)(cdv:Value)(A:Around)(outer:List Env)(s:Shared)(H:Hp)(E:XK)(hr:Room k (A.deeper (PyProof.Rows.envOfC "_law_looked" (aq (top 32)) s.heap.objs.size f cdv))):MSs (a1n CX0 P w K mg base ["_law_left", "_law_table_here", "_law_four", "_law_at", "_law_other", "_law_which", "_law_spoilt", "_law_turned", "_law_some", "_law_wanted"] "_law_looked" (aq (top 32)) f cdv A outer s H E).nox X0 (jh (top 32)) (zr F_13 F_25 F_11 F_24 F_10) :=
 have SC:=av2
 (ao (j8 (i:=3) SC.nd rfl (Or.inl rfl) (cj false D_13 (hr.mono h_13) rfl (aj (bf 0) (aj az bc))))
 (ao (j8 (i:=4) SC.nd rfl (Or.inl rfl) (cj false D_13 (hr.mono h_13) rfl (aj (bf 0) (aj az bc))))
 (ao (j8 (i:=5) SC.nd rfl (Or.inl rfl) (cj false D_13 (hr.mono h_13) rfl (aj (bf 0) (aj az bc))))
 (ao (j8 (i:=6) SC.nd rfl (Or.inl rfl) (a0e (L2.CallR.or a1p (a3g rfl)) a85 rfl M.list abf (aj (bf 2) bc)))
 (ao (a79 (cj false D_24 (hr.mono h_24) rfl (aj (bf 0) (aj (bw (bf 1) az (λ_ _=>rfl)) (aj (bw (bf 2) (bf 3) (λ_ _=>rfl)) (aj (bf 5) bc))))) (bf 6) (bf 3))
 (ao (j8 (i:=7) SC.nd rfl (Or.inl rfl) (a0e (L2.CallR.or a1p (a3g rfl)) a85 rfl M.list abf (aj (bf 2) bc)))
 (ao (a79 (bw (bf 2) (bf 4) (λ_ _=>rfl)) (bf 7) (bf 3))
 (ao (a79 (bw (bf 2) (bf 3) (λ_ _=>rfl)) (bf 7) (bf 4))
 (ao (qe PassesOwn.never rfl (o8 (a1s (aj (a9i (a0e (L2.CallR.or a1p (a3g rfl)) a85 rfl M.list abf (aj (bf 2) bc))) (aj (bf 6) (aj (bf 7) bc))))) (du (i:=8) SC.nd rfl (Or.inl rfl)) (ao (j8 (i:=9) SC.nd rfl (Or.inl rfl) (cj false D_25 (hr.mono h_25) rfl (aj (bf 1) (aj (bf 8) bc))))
 (bj (qi (a1q (ym (cj false D_11 (hr.mono h_11) rfl (aj (cj false D_10 (hr.mono h_10) rfl (aj (bf 1) (aj (bw (bf 8) az (λ_ _=>rfl)) (aj (bw (bf 8) az (λ_ _=>rfl)) (aj (bw (bf 8) az (λ_ _=>rfl)) (aj (bw (bf 8) az (λ_ _=>rfl)) bc)))))) (aj (bf 9) bc)))))
 ad6
 jm))))
 (bj (jj a0d)))))))))))
theorem av3:FnScope ["_law_script", "_law_left", "_law_table_here", "_law_due", "_law_drawn", "_law_k", "_law_many", "_law_found", "_law_u", "_law_y", "_law_c", "_law_x"] ["_law_script"] (aq (top 33)):=⟨rfl,rfl,rfl,by decide +kernel,rfl,by decide +kernel,by decide +kernel⟩
theorem b0c{k:Nat}(M:Nm mg){a_13:Addr}{d_13:FuncData}{k_13:Nat}{F_13:SF}(D_13:Dn P w K mg base k_13 "_law_draw" ["_law_left", "_law_many"] (qd K 2 F_13) a_13 d_13)(h_13:k_13<=k){a_25:Addr}{d_25:FuncData}{k_25:Nat}{F_25:SF}(D_25:Dn P w K mg base k_25 "_law_holds" ["_law_table_here", "_law_four"] (qd K 2 F_25) a_25 d_25)(h_25:k_25<=k){a_23:Addr}{d_23:FuncData}{k_23:Nat}{F_23:SF}(D_23:Dn P w K mg base k_23 "_law_is_step" ["_law_table_here", "_law_u", "_law_z"] (qd K 3 F_23) a_23 d_23)(h_23:k_23<=k){a_26:Addr}{d_26:FuncData}{k_26:Nat}{F_26:SF}(D_26:Dn P w K mg base k_26 "_law_looked" ["_law_left", "_law_table_here", "_law_four"] (qd K 3 F_26) a_26 d_26)(h_26:k_26<=k){a_20:Addr}{d_20:FuncData}{k_20:Nat}{F_20:SF}(D_20:Dn P w K mg base k_20 "_law_reach" ["_law_table_here", "_law_rooms_here"] (qd K 2 F_20) a_20 d_20)(h_20:k_20<=k){a_12:Addr}{d_12:FuncData}{k_12:Nat}{F_12:SF}(D_12:Dn P w K mg base k_12 "_law_source" ["_law_script"] (qd K 1 F_12) a_12 d_12)(h_12:k_12<=k){a_17:Addr}{d_17:FuncData}{k_17:Nat}{F_17:SF}(D_17:Dn P w K mg base k_17 "_law_table" ["_law_left", "_law_most"] (qd K 2 F_17) a_17 d_17)(h_17:k_17<=k){a_8:Addr}{d_8:FuncData}{k_8:Nat}{F_8:SF}(D_8:Dn P w K mg base k_8 "rounds" ["table"] (qd K 1 F_8) a_8 d_8)(h_8:k_8<=k)(cdv:Value)(A:Around)(outer:List Env)(s:Shared)(H:Hp)(E:XK)(hr:Room k (A.deeper (PyProof.Rows.envOfC "law" (aq (top 33)) s.heap.objs.size f cdv))):MSs (a1n CX0 P w K mg base ["_law_script", "_law_left", "_law_table_here", "_law_due", "_law_drawn", "_law_k", "_law_many", "_law_found", "_law_u", "_law_y", "_law_c", "_law_x"] "law" (aq (top 33)) f cdv A outer s H E).nox X0 (jh (top 33)) (alc F_13 F_25 F_23 F_26 F_20 F_12 F_17 F_8) :=
 have SC:=av3
 (ao (j8 (i:=1) SC.nd rfl (Or.inr rfl) (cj true D_12 (hr.mono h_12) rfl (aj (bf 0) bc)))
 (ao (j8 (i:=2) SC.nd rfl (Or.inr rfl) (cj false D_17 (hr.mono h_17) rfl (aj (bf 1) (aj az bc))))
 (ao (j8 (i:=3) SC.nd rfl (Or.inl rfl) (cj false D_20 (hr.mono h_20) rfl (aj (bf 2) (aj (a9i (acu rfl (CSc.of (ts:=["_law_room_here"]) (fr:=["_law_table_here"]) (ix:=[2]) rfl rfl rfl rfl (by intro p hp;cases List.mem_singleton.mp hp;rfl) rfl rfl rfl rfl) (a0g rfl M.range (aj (uz (L2.CallR.or iz j4) p7 rfl M.len uh (aj (bw (bf 2) az (λ_ _=>rfl)) bc)) bc)) (λ_ _ _ _=>(n8 (i:=0) (show (["_law_room_here", "_law_table_here"]:List Str).Nodup by decide +kernel) rfl (Or.inl rfl) (.inr rfl))) u9 (λ_ _ _ _=>(bf 0)) (λ_ _ _ _=>(ik afp aa2 (bw (bw (bf 1) az (λ_ _=>rfl)) (bf 0) (λ_ _=>rfl)) az (jg _))))) bc))))
 (ao (j8 (i:=4) SC.nd rfl (Or.inl rfl) (a1i bc))
 (ao (qe PassesOwn.never rfl (a0g rfl M.range (aj az bc)) (du (i:=5) SC.nd rfl (Or.inl rfl)) (ao (j8 (i:=6) SC.nd rfl (Or.inl rfl) (jc az (cj false D_13 (hr.mono h_13) rfl (aj (bf 1) (aj az bc)))))
 (bj (a1t (a83 PySem.F.slot_list_append PySem.F.type_list_append wj a1u (bf 4) (aj (ak3 PySem.F.slot_str_join PySem.F.type_str_join aow ak4 a1h (aj (a9i (a0h rfl (CSc.of (ts:=["_law_step"]) (fr:=["_law_left", "_law_table_here"]) (ix:=[1,2]) rfl rfl rfl rfl (by intro p hp;simp only [List.mem_cons,List.not_mem_nil,or_false] at hp;rcases hp with rfl | rfl<;>rfl) rfl rfl rfl rfl) (a0g rfl M.range (aj (bf 6) bc)) (λ_ _ _ _=>(n8 (i:=0) (show (["_law_step", "_law_left", "_law_table_here"]:List Str).Nodup by decide +kernel) rfl (Or.inl rfl) (.inr rfl))) u9 (λ_ _ _ _=>(bw (bw (bf 2) az (λ_ _=>rfl)) (cj false D_13 (hr.mono h_13) rfl (aj (bf 1) (aj (uz (L2.CallR.or iz j4) p7 rfl M.len uh (aj (bw (bf 2) az (λ_ _=>rfl)) bc)) bc))) (λ_ _=>rfl))))) bc)) bc))))))
 (ao (qi (a1q (ym (cj false D_26 (hr.mono h_26) rfl (aj (bf 1) (aj (bf 2) (aj (bf 4) bc))))))
 ad6
 jm)
 (ao (j8 (i:=7) SC.nd rfl (Or.inl rfl) (cj false D_8 (hr.mono h_8) rfl (aj (bf 2) bc)))
 (ao (qi (ik (ab6.or a3e) a6d (bf 3) a5b (jg _))
 (bj (jj (ww (afr.or a7w) agr (bf 7) a5b (jg _))))
 jm)
 (ao (qi (PW.pt (a9y (a1q (ym (uz (L2.CallR.or a3f a1y) a8k rfl M.isinstance a0c (aj (bf 7) (aj (aox rfl M.tuple a2d) bc))))) (a9y (ik (aa5 hr.u) a6e (uz (L2.CallR.or iz j4) p7 rfl M.len uh (aj (bf 7) bc)) az (jg _)) (a78 (a1q (ym (cj false D_25 (hr.mono h_25) rfl (aj (bf 2) (aj (bf 7) bc)))))))))
 ad6
 jm)
 (ao (a2y (bf 7) (zf rfl (j5 (du (i:=8) SC.nd rfl (Or.inl rfl)) (j5 (du (i:=9) SC.nd rfl (Or.inl rfl)) (j5 (du (i:=10) SC.nd rfl (Or.inl rfl)) (j5 (du (i:=11) SC.nd rfl (Or.inl rfl)) uo))))))
 (ao (qe PassesOwn.never rfl (o8 (a1s (aj az (aj az (aj az bc))))) (du (i:=6) SC.nd rfl (Or.inl rfl)) (bj (qi (a1q (ym (cj false D_23 (hr.mono h_23) rfl (aj (bf 2) (aj (bf 8) (aj (jc (jc (bf 9) (aqe (bf 10) (bf 6))) (bf 11)) bc))))))
 ad6
 jm)))
 (bj (jj (cj false D_26 (hr.mono h_26) rfl (aj (bf 1) (aj (bf 2) (aj (bf 7) bc)))))))))))))))))
end
end K42
namespace K40
open PySem PySem.Spec L2 MI
end K40
namespace HND
open PySem PySem.Spec L2 MI
noncomputable def yq:SS :=
 (j7 (m7 0 (sC (.str " !\"#$&'()*+,-./0123456789:;<=>?@ABCDEFGHIJKLMNOPQRSTUVWXYZ[\\]^_`")))
 (qj (s2 j6 (sV 0) (sC (.str "abcdefghijklmnopqrstuvwxyz{|}~\n")))))
end HND
namespace HND
open PySem PySem.Spec L2 MI AT
local macro_rules | `(tactic| walk_at "ev") => `(tactic| simp only [vm,a1x,aae,aaf,adc,m7,aeg,a2u,sIf,qj,a0f,a9z,put,a6i,a6u,a2x,jn,a2w,kN,sV,sC,s2,s1,sA,ak,di,sNx,sT,asB,a3u,u5,a8m,a8n,a8o,a8p,a6a,sOr,a5i,a2t,avz,ajy,sCh,afd,d7,a08,MI.a5y,MI.a7g,MI.a7h,aja,a0b,gLt,gGt,gGe,gLe,aev,aew,al3,al4,adf,a4e,al5,a5p,aw2,aw3,aw4,aw5,v5,MI.ab5,a5d,ab2,a4d,AT.aho,AT.p18,a2a,a2b,a6l,ap8,a0z,a6t,aa3,ak1,MI.a4k,MI.a5c,sML,isL,a7c,oN,oS,a4w,v8,sIt,aj5,sRg,List.length_map,List.length_cons,List.length_nil,List.length_append,List.getElem?_cons_zero,List.getElem?_cons_succ,List.set_cons_zero,List.set_cons_succ,List.nil_append,List.cons_append,AT.ako,AT.akp,AT.akq,AT.akr,AT.aks,AT.akt,AT.aku,AT.akv,AT.x10,AT.x20,AT.x21,AT.x30,AT.x31,AT.x32,AT.x40,AT.x41,AT.x42,AT.x43,AT.x50,AT.x51,AT.x52,AT.x53,AT.x54,AT.x60,AT.x61,AT.x62,AT.x63,AT.x64,AT.x65,AT.x70,AT.x71,AT.x72,AT.x73,AT.x74,AT.x75,AT.x76,decide_true,decide_false,reduceIte,Bool.true_and,Bool.and_self,Bool.not_true,Bool.not_false,and_self,true_and,and_true,beq_self_eq_true,Nat.reduceAdd,Nat.reduceLeDiff,Nat.reduceLT,Nat.reducePow,Int.reduceLT,Int.reduceLE,Int.reduceNeg,Int.reduceEq,Int.reduceBEq,Bool.false_eq_true,Bool.true_eq_false,ite_true,ite_false,if_true,if_false, *])
end HND
namespace HND
open PySem PySem.Spec L2 MI AT
local macro_rules | `(tactic| walk_at "ev") => `(tactic| simp only [vm,a1x,aae,aaf,adc,m7,aeg,a2u,sIf,qj,a0f,a9z,put,a6i,a6u,a2x,jn,a2w,kN,sV,sC,s2,s1,sA,ak,di,sNx,sT,asB,a3u,u5,a8m,a8n,a8o,a8p,a6a,sOr,a5i,a2t,avz,ajy,sCh,afd,d7,a08,MI.a5y,MI.a7g,MI.a7h,aja,a0b,gLt,gGt,gGe,gLe,aev,aew,al3,al4,adf,a4e,al5,a5p,aw2,aw3,aw4,aw5,v5,MI.ab5,a5d,ab2,a4d,AT.aho,AT.p18,a2a,a2b,a6l,ap8,a0z,a6t,aa3,ak1,MI.a4k,MI.a5c,sML,isL,a7c,oN,oS,a4w,v8,sIt,aj5,sRg,a2g,yx,a5j,au3,a8f,ahk,ah1,ar7,srcOf,  List.length_map,List.length_cons,List.length_nil,List.length_append,List.getElem?_cons_zero,List.getElem?_cons_succ,List.set_cons_zero,List.set_cons_succ,List.nil_append,List.cons_append,AT.ako,AT.akp,AT.akq,AT.akr,AT.aks,AT.akt,AT.aku,AT.akv,AT.x10,AT.x20,AT.x21,AT.x30,AT.x31,AT.x32,AT.x40,AT.x41,AT.x42,AT.x43,AT.x50,AT.x51,AT.x52,AT.x53,AT.x54,AT.x60,AT.x61,AT.x62,AT.x63,AT.x64,AT.x65,AT.x70,AT.x71,AT.x72,AT.x73,AT.x74,AT.x75,AT.x76,decide_true,decide_false,reduceIte,Bool.true_and,Bool.and_self,Bool.not_true,Bool.not_false,and_self,true_and,and_true,beq_self_eq_true,Nat.reduceAdd,Nat.reduceLeDiff,Nat.reduceLT,Nat.reducePow,Int.reduceLT,Int.reduceLE,Int.reduceNeg,Int.reduceEq,Int.reduceBEq,Bool.false_eq_true,Bool.true_eq_false,ite_true,ite_false,if_true,if_false, *])
def aw6:Str := " !\"#$&'()*+,-./0123456789:;<=>?@ABCDEFGHIJKLMNOPQRSTUVWXYZ[\\]^_`"
def aw7:Str := "abcdefghijklmnopqrstuvwxyz{|}~\n"
def sig:List Nat:=aw6.cps.toList++aw7.cps.toList
theorem a8w:sig.length=95:=by decide +kernel
theorem amx:sig.Nodup:=by decide +kernel
noncomputable def d8:SF:=oh yq 1
theorem lits{h:Hd}:j6 (.str aw6) (.str aw7) h = .ok (.str (S sig)) h:=by
 rw [<-aet aw6,<-aet aw7,a04 (by decide +kernel)]
 rfl
theorem a5s:Pu d8 0 [] (.str (S sig)):=by
 refine Pu.of rfl (by simp) (r:=.ok (.str (S sig)) []) ?_ (by rw [jx (jq _) (by simp)];rfl) (jq _)
 unfold d8;rw [j9];unfold yq;have e:=@lits [];unfold aw6 aw7 at e;show toR (j7 (m7 0 _) _ [none] [])=_;simp only [vm,m7,sC,a08,a1x,qj,s2,sV,List.set_cons_zero,List.getElem?_cons_zero,d7,e,aaf]
structure Tongue (l:List Nat):Prop where
 lo:1<=l.length
 hi:l.length<=6
 nd:l.Nodup
 sub:∀ c∈l,c∈sig
theorem aht(a r:List Nat)(i:Nat)(c:Nat)(e:r[i]? = some c):List.Perm (a++r) ((a++[c])++(r.take i++r.drop (i+1))):=by
 obtain ⟨hi,e⟩:=List.getElem?_eq_some_iff.mp e;have:r=r.take i++c::r.drop (i+1):=by rw [<-e];simp
 rw [List.append_assoc];refine List.Perm.append_left a ?_;rw [List.singleton_append]
 conv=>lhs;rw [this]
 exact List.perm_middle
end HND
namespace SRC
open PySem PySem.Spec L2 MI AT
structure Src (o:O) (N:Nat):Prop where
 ex:∃ (cells:List Int) (a l c s:Int),o = .lst [.rol (cells.map D.int), .int a, .int l, .int c, .int s]/\0<=a/\0<=l/\0<=s/\s<2147483647/\0<=c/\c<=N
theorem Src.clo{o:O}{N:Nat}(P:Src o N):a1o 0 o:=by
 obtain ⟨cells,a,l,c,s,rfl,_⟩:=P.ex;exact iu (ut (jd λx _=>jw x)) (iu (jw _) (iu (jw _) (iu (jw _) (iu (jw _) uq))))
theorem Src.up{o:O}{N M:Nat}(P:Src o N)(h:N<=M):Src o M:=by
 obtain ⟨cells,a,l,c,s,e,h1,h2,h3,h4,h5,h6⟩:=P.ex;exact ⟨cells,a,l,c,s,e,h1,h2,h3,h4,h5,by omega⟩
noncomputable def aa:SF:=oh a2l 4
abbrev so(cells:List Int)(a l c s:Int):O:=.lst [.rol (cells.map D.int), .int a, .int l, .int c, .int s]
theorem ahu{xs:List D}{i j:Nat}{y:D}{h:Hd}(e:h[i]? = some (.lst xs))(hj:xs[j]? = some y):aja (.ref i) (.int (j:Nat)) h = .ok y h:=by
 unfold aja;simp only [e,v7 hj]
theorem axu{G:D->D->Hd->R D}{fo fi fe:SE}{τ:Sd}{h h':Hd}{o i x y z:D}(e1:fo τ h = .ok o h)(e2:fi τ h = .ok i h)(e3:aja o i h = .ok x h)(e4:fe τ h = .ok y h)(e5:G x y h = .ok z h)(e6:put o i z h=some h'):a2u G fo fi fe τ h = .nx τ h':=by
 unfold a2u;rw [e1,a08,e2,a08,e3,a08,e4,a08,e5,a08,e6]
theorem b0d{x y:Int}{h:Hd}(c:y<=x):gGe (.int x) (.int y) h = .ok (.bl true) h:=by show R.ok (D.bl (decide (y<=x))) h=_;rw [decide_eq_true c]
theorem b0e{x y:Int}{h:Hd}(c:¬ y<=x):gGe (.int x) (.int y) h = .ok (.bl false) h:=by show R.ok (D.bl (decide (y<=x))) h=_;rw [decide_eq_false c]
theorem ahv{o:O}{N:Nat}{m:Int}(P:Src o N)(hN:N<=1000000000)(m0:0<m)(m1:m<1073741824):∃ r o',aa [.ref 0, .int m] [o] = .ok (.int r) [o']/\0<=r/\r<m/\Src o' (N+1):=by
 obtain ⟨cells,a,l,c,s,rfl,a0,l0,s0,s1,c0,c1⟩:=P.ex;unfold aa;rw [j9];show ∃ r o',toR (a2l [some (.ref 0),some (.int m),none,none] [so cells a l c s])=_/\_;unfold a2l;have last:∀ s':Int,0<=s'->s'<2147483647->∃ r q,0<=r/\r<m/\(s'+1+(c+1)*7919) ^ (3:Int).toNat % 2147483647=q/\(q*48271+(c+1)) ^ (2:Int).toNat % 2147483629 / 64 % m=r/\CMul (c+1) 7919/\CMul q 48271 /\
   (∀ h,a7a (.int (s'+1+(c+1)*7919)) (.int 3) h = .ok (.int ((s'+1+(c+1)*7919) ^ (3:Int).toNat)) h)/\∀ h,a7a (.int (q*48271+(c+1))) (.int 2) h = .ok (.int ((q*48271+(c+1)) ^ (2:Int).toNat)) h:=λs' h0 h1=>by
  have q0:0<=(s'+1+(c+1)*7919) ^ (3:Int).toNat % 2147483647:=Int.emod_nonneg _ (by decide)
  have q1:(s'+1+(c+1)*7919) ^ (3:Int).toNat % 2147483647<2147483647:=Int.emod_lt_of_pos _ (by decide)
  refine ⟨_,_,Int.emod_nonneg _ (by omega),Int.emod_lt_of_pos _ m0,rfl,rfl, .inr ⟨by decide,by decide⟩, .inr ⟨by decide,by decide⟩,λh=>au7 ⟨by decide,by decide,by omega⟩,λh=>au7 ⟨by decide,by decide,?_⟩⟩
  generalize (s'+1+(c+1)*7919) ^ (3:Int).toNat % 2147483647=q at q0 q1
  omega
 have x0:∀ {a l c s:Int},gIx (.ref 0) (.int 0) [so cells a l c s] = .ok (.rol (cells.map D.int)) [so cells a l c s]:=λ{a l c s}=>yu (j:=0) rfl rfl;have x1:∀ {a l c s:Int},gIx (.ref 0) (.int 1) [so cells a l c s] = .ok (.int a) [so cells a l c s]:=λ{a l c s}=>yu (j:=1) rfl rfl;have x2:∀ {a l c s:Int},gIx (.ref 0) (.int 2) [so cells a l c s] = .ok (.int l) [so cells a l c s]:=λ{a l c s}=>yu (j:=2) rfl rfl;have x3:∀ {a l c s:Int},gIx (.ref 0) (.int 3) [so cells a l c s] = .ok (.int c) [so cells a l c s]:=λ{a l c s}=>yu (j:=3) rfl rfl
 have x4:∀ {a l c s:Int},gIx (.ref 0) (.int 4) [so cells a l c s] = .ok (.int s) [so cells a l c s]:=λ{a l c s}=>yu (j:=4) rfl rfl;have u3:∀ {a l c s:Int} {τ:Sd},τ[0]? = some (some (.ref 0))->a2u a1m (sV 0) (sC (.int 3)) (sC (.int 1)) τ [so cells a l c s] = .nx τ [so cells a l (c+1) s]:=λ{a l c s τ} h0=>axu (au h0) (ig _ _ _) (ahu (j:=3) rfl rfl) (ig _ _ _) a0z rfl;have u1:∀ {a l c s:Int} {τ:Sd},τ[0]? = some (some (.ref 0))->a2u a1m (sV 0) (sC (.int 1)) (sC (.int 1)) τ [so cells a l c s] = .nx τ [so cells (a+1) l c s]:=λ{a l c s τ} h0=>axu (au h0) (ig _ _ _) (ahu (j:=1) rfl rfl) (ig _ _ _) a0z rfl
 have p18:∀ {h:Hd},a7a (.int 10) (.int 18) h = .ok (.int 1000000000000000000) h:=λ{h}=>p18 h;have e1:∀ {a l c s:Int} {t2:Option D},0<l->toR (j7 (sIf (sT (s2 gGt (s2 gIx (sV 0) (sC (.int 2))) (sC (.int 0)))) (j7 (m7 3 (s2 a5d (s2 gIx (sV 0) (sC (.int 2))) (sV 1))) (j7 (a2u ab2 (sV 0) (sC (.int 2)) (sV 1)) (qj (sV 3)))) sNx) (j7 (m7 3 (s2 a5d (s2 a7a (s2 j6 (s2 j6 (s2 gIx (sV 0) (sC (.int 4))) (sC (.int 1))) (s2 xr (s2 gIx (sV 0) (sC (.int 3))) (sC (.int 7919)))) (sC (.int 3))) (sC (.int 2147483647)))) (qj (s2 a5d (s2 ab2 (s2 a5d (s2 a7a (s2 j6 (s2 xr (sV 3) (sC (.int 48271))) (s2 gIx (sV 0) (sC (.int 3)))) (sC (.int 2))) (sC (.int 2147483629))) (sC (.int 64))) (sV 1)))) [some (.ref 0),some (.int m),t2,none] [so cells a l c s]) = .ok (.int (l % m)) [so cells a (l / m) c s]:=λ{a l c s t2} hl=>by
  refine congrArg toR (a4y (Eq.trans (ifT (tof (dm (dm (au rfl) (ig _ _ _) x2) (ig _ _ _) (ayk hl)))) ?_));refine Eq.trans (jy (dm (dm (au rfl) (ig _ _ _) x2) (au rfl) (a7i m0))) ?_;refine Eq.trans (ux (axu (au rfl) (ig _ _ _) (ahu (j:=2) rfl rfl) (au rfl) (div_ii ⟨m0,m1⟩) rfl)) ?_;exact n6 (au rfl)
 have e2:∀ {a s':Int} {t2:Option D},0<=s'->s'<2147483647->∃ r,0<=r/\r<m/\toR (j7 (sIf (sT (s2 gGt (s2 gIx (sV 0) (sC (.int 2))) (sC (.int 0)))) (j7 (m7 3 (s2 a5d (s2 gIx (sV 0) (sC (.int 2))) (sV 1))) (j7 (a2u ab2 (sV 0) (sC (.int 2)) (sV 1)) (qj (sV 3)))) sNx) (j7 (m7 3 (s2 a5d (s2 a7a (s2 j6 (s2 j6 (s2 gIx (sV 0) (sC (.int 4))) (sC (.int 1))) (s2 xr (s2 gIx (sV 0) (sC (.int 3))) (sC (.int 7919)))) (sC (.int 3))) (sC (.int 2147483647)))) (qj (s2 a5d (s2 ab2 (s2 a5d (s2 a7a (s2 j6 (s2 xr (sV 3) (sC (.int 48271))) (s2 gIx (sV 0) (sC (.int 3)))) (sC (.int 2))) (sC (.int 2147483629))) (sC (.int 64))) (sV 1)))) [some (.ref 0),some (.int m),t2,none] [so cells a 0 (c+1) s']) = .ok (.int r) [so cells a 0 (c+1) s']:=λ{a s' t2} h0 h1=>by
  obtain ⟨r,q,r0,r1,eq,er,d1,d2,d3,d4⟩:=last s' h0 h1;refine ⟨r,r0,r1,?_⟩;refine Eq.trans (congrArg toR (ifN (tof (dm (dm (au rfl) (ig _ _ _) x2) (ig _ _ _) (ayl (by omega)))))) ?_
  refine Eq.trans (congrArg toR (jy (dm (dm (dm (dm (dm (au rfl) (ig _ _ _) x4) (ig _ _ _) v5) (dm (dm (au rfl) (ig _ _ _) x3) (ig _ _ _) (a4d.trans (if_pos d1))) v5) (ig _ _ _) (d3 _)) (ig _ _ _) (a7i (by decide))))) ?_
  rw [eq];refine Eq.trans (congrArg toR (n6 (dm (dm (dm (dm (dm (dm (au rfl) (ig _ _ _) (a4d.trans (if_pos d2))) (dm (au rfl) (ig _ _ _) x3) v5) (ig _ _ _) (d4 _)) (ig _ _ _) (a7i (by decide))) (ig _ _ _) (div_ii ⟨by decide,by decide⟩)) (au rfl) (a7i m0)))) ?_
  rw [er];rfl
 by_cases hA:l=0/\a<(cells.length:Int)
 ·obtain ⟨rfl,ha⟩:=hA;obtain ⟨j,rfl⟩:=Int.eq_ofNat_of_zero_le a0;have hj:j<cells.length:=by omega
  have gx:∀ {h:Hd},gIx (.rol (cells.map D.int)) (.int (j:Nat)) h = .ok (.int cells[j]) h:=λ{h}=>afe (by rw [List.getElem?_map,List.getElem?_eq_getElem hj];rfl)
  have tt:∀ {c s:Int} {t2 t3:Option D},a6a (sT (s2 hEq (s2 gIx (sV 0) (sC (.int 2))) (sC (.int 0)))) (sT (s2 gLt (s2 gIx (sV 0) (sC (.int 1))) (sA vh (ak (s2 gIx (sV 0) (sC (.int 0))) di)))) [some (.ref 0),some (.int m),t2,t3] [so cells (j:Nat) 0 c s] = .ok true [so cells (j:Nat) 0 c s]:=λ{c s t2 t3} =>
   al6 (tof (dm (dm (au rfl) (ig _ _ _) x2) (ig _ _ _) (aam rfl))) (tof (dm (dm (au rfl) (ig _ _ _) x1) (yg (dm (au rfl) (ig _ _ _) x0) (a2b.trans (by rw [List.length_map]))) (aqa ha)))
  have s2':0<=(s*31+cells[j]) % 2147483647:=Int.emod_nonneg _ (by decide)
  have s3:(s*31+cells[j]) % 2147483647<2147483647:=Int.emod_lt_of_pos _ (by decide)
  have go:∀ {o':O} {g:SS},sIf (sT (s2 gGe (sV 2) (s2 a7a (sC (.int 10)) (sC (.int 18))))) (a9z (sV 2) (sV 0) (sC (.int 2))) (a9z (s2 a5d (s2 j6 (s2 xr (s2 gIx (sV 0) (sC (.int 4))) (sC (.int 31))) (sV 2)) (sC (.int 2147483647))) (sV 0) (sC (.int 4))) [some (.ref 0),some (.int m),some (.int cells[j]),none] [so cells ((j:Nat)+1) 0 (c+1) s] = .nx [some (.ref 0),some (.int m),some (.int cells[j]),none] [o']->
    toR (j7 (a2u a1m (sV 0) (sC (.int 3)) (sC (.int 1))) (j7 (sIf (a6a (sT (s2 hEq (s2 gIx (sV 0) (sC (.int 2))) (sC (.int 0)))) (sT (s2 gLt (s2 gIx (sV 0) (sC (.int 1))) (sA vh (ak (s2 gIx (sV 0) (sC (.int 0))) di))))) (j7 (m7 2 (s2 gIx (s2 gIx (sV 0) (sC (.int 0))) (s2 gIx (sV 0) (sC (.int 1))))) (j7 (a2u a1m (sV 0) (sC (.int 1)) (sC (.int 1))) (sIf (sT (s2 gGe (sV 2) (s2 a7a (sC (.int 10)) (sC (.int 18))))) (a9z (sV 2) (sV 0) (sC (.int 2))) (a9z (s2 a5d (s2 j6 (s2 xr (s2 gIx (sV 0) (sC (.int 4))) (sC (.int 31))) (sV 2)) (sC (.int 2147483647))) (sV 0) (sC (.int 4)))))) sNx) g) [some (.ref 0),some (.int m),none,none] [so cells (j:Nat) 0 c s])=toR (g [some (.ref 0),some (.int m),some (.int cells[j]),none] [o']):=λ{o' g} e=>by
   refine Eq.trans (congrArg toR (ux (u3 rfl))) ?_;refine congrArg toR (ux (Eq.trans (ifT tt) ?_));refine Eq.trans (jy (dm (dm (au rfl) (ig _ _ _) x0) (dm (au rfl) (ig _ _ _) x1) gx)) ?_;exact Eq.trans (ux (u1 rfl)) e
  generalize cells[j]=x at *
  by_cases hB:(1000000000000000000:Int)<=x
  ·refine ⟨x % m,_,(go (o':=so cells ((j:Nat)+1) x (c+1) s) (Eq.trans (ifT (tof (dm (au rfl) (dm (ig _ _ _) (ig _ _ _) p18) (b0d hB)))) (aex (au rfl) (au rfl) (ig _ _ _) rfl))).trans (e1 (by omega)),Int.emod_nonneg _ (by omega),Int.emod_lt_of_pos _ m0,⟨cells,(j:Int)+1,x / m,c+1,s,rfl,by omega,Int.ediv_nonneg (by omega) (by omega),s0,s1,by omega,by omega⟩⟩
  ·obtain ⟨r,r0,r1,e⟩:=e2 (a:=(j:Nat)+1) (t2:=some (.int x)) s2' s3;exact ⟨r,_,(go (o':=so cells ((j:Nat)+1) 0 (c+1) ((s*31+x) % 2147483647)) (Eq.trans (ifF (tof (dm (au rfl) (dm (ig _ _ _) (ig _ _ _) p18) (b0e hB)))) (aex (dm (dm (dm (dm (au rfl) (ig _ _ _) x4) (ig _ _ _) (a4d.trans (if_pos (.inr ⟨by decide,by decide⟩)))) (au rfl) v5) (ig _ _ _) (a7i (by decide))) (au rfl) (ig _ _ _) rfl))).trans e,r0,r1,⟨cells,(j:Int)+1,0,c+1,_,rfl,by omega,by omega,s2',s3,by omega,by omega⟩⟩
 ·have tt:a6a (sT (s2 hEq (s2 gIx (sV 0) (sC (.int 2))) (sC (.int 0)))) (sT (s2 gLt (s2 gIx (sV 0) (sC (.int 1))) (sA vh (ak (s2 gIx (sV 0) (sC (.int 0))) di)))) [some (.ref 0),some (.int m),none,none] [so cells a l (c+1) s] = .ok false [so cells a l (c+1) s]:=by
   by_cases hl:l=0
   ·exact al6 (tof (dm (dm (au rfl) (ig _ _ _) x2) (ig _ _ _) (aam hl))) (tof (dm (dm (au rfl) (ig _ _ _) x1) (yg (dm (au rfl) (ig _ _ _) x0) (a2b.trans (by rw [List.length_map]))) (ard λz=>hA ⟨hl,z⟩)))
   ·exact aue (tof (dm (dm (au rfl) (ig _ _ _) x2) (ig _ _ _) (aey hl)))
  by_cases hC:0<l
  ·exact ⟨l % m,_,(congrArg toR (ux (u3 rfl))).trans ((congrArg toR (ifN tt)).trans (e1 hC)),Int.emod_nonneg _ (by omega),Int.emod_lt_of_pos _ m0,⟨cells,a,l / m,c+1,s,rfl,a0,Int.ediv_nonneg (by omega) (by omega),s0,s1,by omega,by omega⟩⟩
  ·have:l=0:=by omega
   subst this;obtain ⟨r,r0,r1,e⟩:=e2 (a:=a) (t2:=none) s0 s1;exact ⟨r,_,(congrArg toR (ux (u3 rfl))).trans ((congrArg toR (ifN tt)).trans e),r0,r1,⟨cells,a,0,c+1,s,rfl,a0,by omega,s0,s1,by omega,by omega⟩⟩
theorem qp{o:O}{N:Nat}{m:Int}(P:Src o N)(hN:N<=1000000000)(m0:0<m)(m1:m<1073741824):∃ r o',Dr aa 2 [.int m] o (.int r) o'/\0<=r/\r<m/\Src o' (N+1):=by
 obtain ⟨r,o',e,r0,r1,P'⟩:=ahv P hN m0 m1;refine ⟨r,o',Dr.of rfl (by simp [jw]) P.clo e (jx (jw _) ?_) (jw _) P'.clo,r0,r1,P'⟩
 intro u hu
 simp at hu
 subst hu;exact p8 (by omega) P'.clo
end SRC
namespace EVX
open PySem PySem.Spec L2 MI
section
variable{i:Nat}{cs:Str->Bool}{fb fs p g:SS}{τ τ1 τ2:Sd}{h h1 h2:Hd}{c:Str}{f:SE}{ka:SA}{ds:List D}{F:SF}{n:Nat}
theorem b0f(e:ka τ h = .ok ds h1):sA F ka τ h=F ds h1:=by unfold sA;rw [e];rfl
theorem a3b{d:D}(e:f τ h = .ok d h1)(e2:ka τ h1 = .ok ds h2):ak f ka τ h = .ok (d::ds) h2:=by
 unfold ak;rw [e,d7,e2];rfl
theorem axv{G:List D->Hd->R D}{f1 f2 f3 f4:SE}{h3 h4 h5:Hd}{a b c d v:D}(e1:f1 τ h = .ok a h1)(e2:f2 τ h1 = .ok b h2)(e3:f3 τ h2 = .ok c h3)(e4:f4 τ h3 = .ok d h4)(e5:G [a,b,c,d] h4 = .ok v h5):sA G (ak f1 (ak f2 (ak f3 (ak f4 di)))) τ h = .ok v h5:=by
 have:ak f1 (ak f2 (ak f3 (ak f4 di))) τ h = .ok [a,b,c,d] h4:=by unfold ak;rw [e1,d7,e2,d7,e3,d7,e4];rfl
 unfold sA;rw [this,d7,e5]
end
end EVX
namespace SRC
open PySem PySem.Spec L2 MI AT HND EVX
noncomputable def dj:SF:=oh zj 2
theorem ints_map:∀ l:List Int,a86 (l.map D.int)=some l
 | []=>rfl
 | a::l=>by rw [List.map_cons];simp only [a86,ints_map l,Option.map_some]
theorem b0g{g:List D->Hd->R D}{k:SA}{τ:Sd}{h h1 h2:Hd}{ds:List D}{d:D}(e:k τ h = .ok ds h1)(eg:g ds h1 = .ok d h2):sA g k τ h = .ok d h2:=by
 unfold sA;rw [e,d7,eg]
def cell(x:Int):Int:=2*ayg x+(if decide (x<0)=true then 1 else 0)
theorem ahw(ns:List Int)(h:Hd):∃ o,Src o 0/\jz true 1 dj [.scr (ns.map D.int)] h = .ok (.ref h.length) (h++[o]):=by
 have cl:clos 0 ((ns.take 63).map D.int):=jd λx _=>jw x;have z1:sZ (a4w (sV 0) oN (oS (sC (.int 63)))) [some (.scr (ns.map D.int)),none] [] = .ok (.rol ((ns.take 63).map D.int)) []:=by
  refine yz (by
   show gSl (.scr (ns.map D.int)) none (some ((63:Nat):Int)) []=_;unfold gSl;simp only [age,List.map_take]) cl (by simp)
 have z2:sZ (m9 (sIt (sZ (a4w (sV 0) oN (oS (sC (.int 63)))))) t1 yp []) [some (.scr (ns.map D.int)),none] [] = .ok (.rol ((ns.take 63).map λx=>D.int (cell x))) []:=by
  refine yz (uw D.int (λx=>D.int (cell x)) (ns.take 63) (a5q z1 rfl) (gq (by simp;omega)) λx _=>?_) (jd λx _=>jw _) (by simp)
  rw [vg];unfold yp;exact dm (dm (ig _ _ _) (yg (au rfl) (aho _ _)) (a4d.trans (if_pos (.inl ⟨by decide,by decide⟩)))) (yg (dm (au rfl) (ig _ _ _) rfl) rfl) v5
 have em:((ns.take 63).map λx=>D.int (cell x))=((ns.take 63).map cell).map D.int:=by rw [List.map_map];rfl
 rw [em] at z2
 generalize (ns.take 63).map cell=cs at z2
 have e:dj [.scr (ns.map D.int)] [] = .ok (.ref 0) [.lst [.rol (cs.map D.int), .int 0, .int 0, .int 0, .int (cs.sum % 2147483647)]]:=by
  unfold dj;rw [j9];show toR (zj [some (.scr (ns.map D.int)),none] [])=_;unfold zj;refine Eq.trans (congrArg toR (jy z2)) ?_;have su:atr [.rol (cs.map D.int)] [] = .ok (.int cs.sum) []:=by unfold atr;simp only [ints_map]
  exact congrArg toR (n6 (b0g (a3b (au rfl) (a3b (ig _ _ _) (a3b (ig _ _ _) (a3b (ig _ _ _) (a3b (dm (yg (au rfl) su) (ig _ _ _) (a7i (by decide))) rfl))))) rfl))
 have P:Src (.lst [.rol (cs.map D.int), .int 0, .int 0, .int 0, .int (cs.sum % 2147483647)]) 0:=⟨cs,0,0,0,_,rfl,by decide,by decide,Int.emod_nonneg _ (by decide),Int.emod_lt_of_pos _ (by decide),by decide,by decide⟩
 exact ⟨_,P,au4 rfl (by simpa [MI.clo] using (jd λx _=>jw x:clos 0 (ns.map D.int))) e rfl P.clo h⟩
noncomputable def d8:SF:=oh yq 1
theorem a5s:Pu d8 0 [] (.str (S sig)):=HND.a5s
noncomputable def gk:SF:=oh (zp aa d8) 5
theorem av4{a b:List Nat}{h:Hd}(l:a.length+b.length<=LINE):a1m (.str (S a)) (.str (S b)) h = .ok (.str (S (a++b))) h:=by
 have:=a04 (h:=h) l
 simpa [a1m,j6,azn] using this
theorem av5{f:SE}{τ:Sd}{h h1:Hd}{i:Int}(e:f τ h = .ok (.int i) h1):oS f τ h = .ok (some i) h1:=by unfold oS;rw [e];rfl
theorem av6{f:SE}{lo hi:SO}{τ:Sd}{h h1 h2 h3 h4:Hd}{d v:D}{a b:Option Int}(e:f τ h = .ok d h1)(e1:lo τ h1 = .ok a h2)(e2:hi τ h2 = .ok b h3)(e3:aj9 d a b h3 = .ok v h4):a4w f lo hi τ h = .ok v h4:=by
 unfold a4w;rw [e,d7,e1,d7,e2,d7,e3]
theorem ahx{o:O}{N:Nat}(P:Src o N)(hN:N<=999999000):∃ l o',Tongue l/\Dr gk 1 [] o (.str (S l)) o'/\Src o' (N+7):=by
 obtain ⟨r0,o1,e1,r0a,r0b,P1⟩:=qp (m:=6) P (by omega) (by decide) (by decide)
 have lo:=mz (g:=kN 3) (b:=yr aa d8) (λi:Nat=>D.int (0+(i:Nat)))
  (λpre τ h=>∃ (rest told:List Nat) (u:O) (t3 t4:Option D),τ=[some (.ref 0),some (.str (S rest)),some (.str (S told)),t3,t4]/\h=[u]/\Src u (N+1+pre.length)/\told.length=pre.length/\(told++rest).length=95/\(told++rest).Nodup/\∀ c∈told++rest,c∈sig)
  (List.range (1+r0).toNat) [some (.ref 0),some (.str (S sig)),some (.str (S [])),none,none] [o1] ?_
  ⟨sig,[],o1,none,none,rfl,rfl,P1,rfl,by simp [a8w],by simpa using amx,by simp⟩
 ·obtain ⟨τ',h',e2,rest,told,u,t3,t4,rfl,rfl,P2,l1,l2,nd,sb⟩:=lo;rw [List.length_range] at P2 l1;have T:Tongue told:=⟨by omega,by omega,(List.nodup_append.mp nd).1,λc hc=>sb c (List.mem_append_left _ hc)⟩
  refine ⟨told,u,T,Dr.of rfl (by simp) P.clo (r:=.ok (.str (S told)) [u]) ?_ (jx (jq _) (by simpa using p8 (by omega) P2.clo)) (jq _) P2.clo,P2.up (by omega)⟩
  unfold gk;rw [j9];show toR (zp aa d8 [some (.ref 0),none,none,none,none] [o])=_;unfold zp;have c2:jz false 2 aa [.ref 0, .int 6] [o] = .ok (.int r0) [o1]:=e1 0 [o] rfl;have bd:B62 (1+r0):=by unfold B62;omega
  refine Eq.trans (congrArg toR (jy (ayj (a5s _)))) ?_;refine Eq.trans (congrArg toR (jy (ig _ _ _))) ?_;have it:sRg yx (ak (s2 j6 (sC (.int 1)) (sA (jz false 2 aa) (ak (sV 0) (ak (sC (.int 6)) di)))) di) [some (.ref 0),some (.str (S sig)),some (.str ""),none,none] [o] = .ok ⟨rng 0 (1+r0).toNat,λ_=>True⟩ [o1]:=by
   unfold sRg;rw [arg1 (dm (ig _ _ _) (yt (au rfl) (ig _ _ _) c2) v5),d7];exact if_pos bd
  refine Eq.trans (congrArg toR (a09 it)) ?_;refine Eq.trans (congrArg (λz=>toR (MI.thn z _)) e2) ?_;exact congrArg toR (n6 (au rfl))
 ·rintro pre i post τ h all ⟨rest,told,u,t3,t4,rfl,rfl,P2,l1,l2,nd,sb⟩
  have hlen:pre.length<(1+r0).toNat:=by
   have:=congrArg List.length all
   simp at this;omega
  rw [List.length_append] at l2;obtain ⟨r,u',e2,ra,rb,P3⟩:=qp (m:=(rest.length:Nat)) P2 (by omega) (by omega) (by omega)
  obtain ⟨j,rfl⟩:=Int.eq_ofNat_of_zero_le ra;have hj:j<rest.length:=by omega
  have gx:rest[j]? = some rest[j]:=List.getElem?_eq_getElem hj;have pp:=aht told rest j rest[j] gx;refine ⟨_,_,rfl,_,_,?_,rest.take j++rest.drop (j+1),told++[rest[j]],u',some (.int (0+(i:Nat))),some (.int (j:Nat)),rfl,rfl,by simpa [Nat.add_assoc] using P3,by simp [l1],?_,pp.nodup_iff.mp nd,λc hc=>sb c (pp.mem_iff.mpr hc)⟩
  ·unfold yr;have L:∀ n:Nat,n<=95->n<=LINE:=λn hn=>by show n<=16777216;omega
   have c2:=e2 0 [u] rfl;have x1:∀ h,gIx (.str (S rest)) (.int (j:Nat)) h = .ok (.str (S [rest[j]])) h:=λh=>aw1 (L _ (by omega)) gx
   have x2:∀ h,vh [.str (S rest)] h = .ok (.int rest.length) h:=λh=>aeu (L _ (by omega))
   have x3:∀ h,a1m (.str (S told)) (.str (S [rest[j]])) h = .ok (.str (S (told++[rest[j]]))) h:=λh=>av4 (L _ (by simp;omega))
   have x4:∀ h,aj9 (.str (S rest)) none (some (j:Int)) h = .ok (.str (S (rest.take j))) h:=λh=>ayi j (L _ (by omega))
   have x5:∀ h,aj9 (.str (S rest)) (some ((j:Int)+1)) none h = .ok (.str (S (rest.drop (j+1)))) h:=λh=>ahr (j+1) (L _ (by omega))
   have x6:∀ h,j6 (.str (S (rest.take j))) (.str (S (rest.drop (j+1)))) h = .ok (.str (S (rest.take j++rest.drop (j+1)))) h:=λh=>a04 (L _ (by simp;omega))
   have c2:jz false 2 aa [.ref 0, .int (rest.length:Nat)] [u] = .ok (.int (j:Nat)) [u']:=c2;refine Eq.trans (jy (yt (au rfl) (yg (au rfl) (x2 _)) c2)) ?_;refine Eq.trans (ux (al8 rfl (dm (au rfl) (au rfl) (x1 _)) (x3 _))) ?_;exact aq9 (dm (av6 (au rfl) rfl (av5 (au rfl)) (x4 _)) (av6 (au rfl) (av5 (dm (au rfl) (ig _ _ _) v5)) rfl (x5 _)) (x6 _))
  ·rw [<-pp.length_eq];simpa using l2
end SRC
namespace HND
open PySem PySem.Spec L2 MI AT
theorem uy{k i:Nat}{pre post:List Nat}(h:List.range k=pre++i::post):i=pre.length/\i<k:=by
 have h1:=congrArg (λl=>l[pre.length]?) h;have h2:=congrArg List.length h;simp at h1 h2;have:pre.length<k:=by omega
 rw [List.getElem?_range this] at h1;simp at h1;omega
abbrev KOk(k:Int):Prop := -1<=k/\k<=5
abbrev bu(i:Nat):D:=.int (i:Nat)
theorem kh{k:Nat}(l:List Nat):clos k (l.map bu):=jd λx _=>jw _
theorem all_map{α:Type}(f:α->D)(P:α->Prop):∀ (l:List D),(∀ x∈l,∃ r,P r/\x=f r)->∃ G:List α,l=G.map f/\∀ r∈G,P r
 | [],_=>⟨[],rfl,by simp⟩
 | x::l,h=>by
  obtain ⟨r,pr,rfl⟩:=h _ List.mem_cons_self;obtain ⟨G,rfl,pG⟩:=all_map f P l λy hy=>h y (List.mem_cons_of_mem _ hy);exact ⟨r::G,rfl,λq hq=>by
   rcases List.mem_cons.mp hq with rfl | h
   ·exact pr
   ·exact pG q h⟩
abbrev a8x(r:List Nat):D:=.tup (r.map bu)
abbrev ahy(s n:Nat)(r:List Nat):Prop:=r.length=s/\∀ x∈r,x<n
structure Table where
 tg:List Nat
 go:List (List Nat)
 ks:List Int
def Table.d(T:Table):D:=.tup [.str (S T.tg), .tup (T.go.map a8x), .tup (T.ks.map D.int)]
structure Table.Ok (T:Table):Prop where
 tong:Tongue T.tg
 n1:1<=T.go.length
 n32:T.go.length<=32
 row:∀ r∈T.go,ahy T.tg.length T.go.length r
 kl:T.ks.length=T.go.length
 k0:T.ks[0]? = some (-1)
 kk:∀ k∈T.ks,KOk k
theorem Table.clo{T:Table}:clo 0 T.d:=ur (iu (jq _) (iu (ur (jd λx _=>ur (kh _))) (iu (ur (jd λx _=>jw x)) uq)))
end HND
namespace MI
open PySem PySem.Spec L2
end MI
namespace PAP
open PySem PySem.Spec L2 MI AT HND
theorem amy(l:List Nat)(h:Hd):aj5 (.str (S l)) h = .ok ⟨l.map λc=>.str (S [c]),λ_=>True⟩ h:=by
 show R.ok (⟨yo (S l),λ_=>True⟩:Itm) _=_;unfold yo;rw [zb]
theorem av7{f:SE}{τ:Sd}{h h':Hd}{xs:List D}(hl:h'.length=h.length)(e:f τ h = .ok (.ref h'.length) (h'++[.lst xs]))(cx:clos h.length xs)(c:∀ o∈h',a1o h.length o):sZ f τ h = .ok (.rol xs) h':=by
 unfold sZ;rw [e,a0n (by omega) (by simp) cx (by rw [<-hl];simpa [hl] using c)]
 rw [<-hl];simp
end PAP
namespace SRC
open PySem PySem.Spec L2 MI AT HND EVX
theorem ayw{x y:Int}{h:Hd}(c:x<=y):gLe (.int x) (.int y) h = .ok (.bl true) h:=by
 show R.ok (D.bl (decide (x<=y))) h=_;rw [decide_eq_true c]
theorem ayx{x y:Int}{h:Hd}(c:¬ x<=y):gLe (.int x) (.int y) h = .ok (.bl false) h:=by
 show R.ok (D.bl (decide (x<=y))) h=_;rw [decide_eq_false c]
theorem axw{c:ST}{f g:SE}{τ:Sd}{h h1:Hd}{r:R D}(e1:c τ h = .ok true h1)(e2:f τ h1=r):afd c f g τ h=r:=by unfold afd;rw [e1,d7,if_pos rfl];exact e2
theorem aw8{c:ST}{f g:SE}{τ:Sd}{h h1:Hd}{r:R D}(e1:c τ h = .ok false h1)(e2:g τ h1=r):afd c f g τ h=r:=by unfold afd;rw [e1,d7,if_neg (by simp)];exact e2
noncomputable def iw:SF:=oh (a0o aa) 8
abbrev a6z(r:List Nat):D:=.rol (r.map bu)
theorem af0{o:O}{N:Nat}{ks:List Int}{t n:D}{x y:Option D}(P:Src o N)(hN:N<=999999000)(l:ks.length<=100) :
  ∃ (u:O) (k:Int),vo aa [some (.ref 0),some t,some n,some (.ref 1),x,y,none,none] [o, .lst (ks.map D.int)] = .nx [some (.ref 0),some t,some n,some (.ref 1),x,y,none,none] [u, .lst ((ks++[k]).map D.int)]/\Src u (N+2)/\KOk k:=by
 obtain ⟨a,o1,e1,a0,a1,P1⟩:=qp (m:=5) P (by omega) (by omega) (by omega)
 obtain ⟨b,o2,e2,b0,b1,P2⟩:=qp (m:=6) P1 (by omega) (by omega) (by omega)
 have c1:jz false 2 aa [.ref 0, .int 5] [o, .lst (ks.map D.int)] = .ok (.int a) [o1, .lst (ks.map D.int)]:=e1 0 _ rfl;have c2:jz false 2 aa [.ref 0, .int 6] [o1, .lst (ks.map D.int)] = .ok (.int b) [o2, .lst (ks.map D.int)]:=e2 0 _ rfl;unfold vo
 by_cases ha:a<2
 ·refine ⟨o2,b,?_,P2,by omega⟩
  rw [List.map_append];exact a4g (au rfl) rfl (arg1 (axw (tof (dm (yt (au rfl) (ig _ _ _) c1) (ig _ _ _) (aqa ha))) (yt (au rfl) (ig _ _ _) c2))) (a4h (xs:=ks.map D.int) rfl (by rw [List.length_map];exact a1l (by omega)))
 ·refine ⟨o1, -1,?_,P1.up (by omega),by decide⟩
  rw [List.map_append];exact a4g (au rfl) rfl (arg1 (aw8 (tof (dm (yt (au rfl) (ig _ _ _) c1) (ig _ _ _) (ard ha))) (al7 (ig _ _ _) (a8s _)))) (a4h (xs:=ks.map D.int) rfl (by rw [List.length_map];exact a1l (by omega)))
abbrev HR(u:O)(ks:List Int)(rows:List (List Nat)):Hd:=[u, .lst (ks.map D.int), .lst (rows.map a6z)]
abbrev τR(tg:List Nat)(n:Nat)(i m:Option D)(r:Option D):Sd:=[some (.ref 0),some (.str (S tg)),some (bu n),some (.ref 1),i,m,some (.ref 2),r]
theorem amz{u:O}{N:Nat}{ks:List Int}{rows:List (List Nat)}(P:Src u N)(k:Nat):∀ o∈HR u ks rows,a1o k o:=by
 intro o ho
 simp only [List.mem_cons,List.not_mem_nil,or_false] at ho
 rcases ho with rfl | rfl | rfl
 ·exact p8 (Nat.zero_le _) P.clo
 ·exact p8 (Nat.zero_le _) (jd λx _=>jw x)
 ·exact p8 (Nat.zero_le _) (jd λx _=>ut (kh _))
theorem ahz{u:O}{N n:Nat}{tg:List Nat}{ks:List Int}{rows:List (List Nat)}{i m r:Option D}(P:Src u N)(hN:N<=999999000)(t6:tg.length<=6)(n1:1<=n)(n32:n<=32) :
  ∃ (u':O) (row:List Nat),ahy tg.length n row/\Src u' (N+6)/\sZ (m9 (sIt (sV 1)) t1 (vp aa) [0,2]) (τR tg n i m r) (HR u ks rows) = .ok (a6z row) (HR u' ks rows):=by
 have mp:=a8j (f:=a6v t1 (vp aa) (frs' [0,2] (τR tg n i m r))) (λc:Nat=>D.str (S [c]))
  (λpre ys h=>∃ (u':O) (row:List Nat),h=HR u' ks rows/\Src u' (N+pre.length)/\ys=row.map bu/\row.length=pre.length/\∀ x∈row,x<n)
  tg [] [] (HR u ks rows) ?_ ⟨u,[],rfl,P,rfl,rfl,by simp⟩
 ·obtain ⟨zs,h',em,u',row,rfl,P',ez,rl,rx⟩:=mp;rw [List.nil_append] at ez rl P';subst ez;refine ⟨u',row,⟨rl,rx⟩,P'.up (by omega),?_⟩
  refine PAP.av7 rfl ?_ (kh _) (amz P' _);unfold m9;rw [a5q (au rfl) (PAP.amy tg _),d7];dsimp only;rw [if_pos (by rw [List.length_map];exact gq (by omega)),em]
  rfl
 ·rintro pre c post ys h all ⟨u',row,rfl,P',rfl,rl,rx⟩
  rw [List.nil_append] at all;have pl:pre.length<tg.length:=by rw [all];simp
  obtain ⟨x,u2,e,x0,x1,P2⟩:=qp (m:=(n:Nat)) P' (by omega) (by omega) (by omega)
  obtain ⟨j,rfl⟩:=Int.eq_ofNat_of_zero_le x0;have c1:jz false 2 aa [.ref 0,bu n] (HR u' ks rows) = .ok (bu j) (HR u2 ks rows):=e 0 _ rfl;refine ⟨bu j,HR u2 ks rows,?_,u2,row++[j],rfl,P2.up (by rw [List.length_append,List.length_singleton];omega),by rw [List.map_append];rfl,by rw [List.length_append,List.length_append,List.length_singleton,List.length_singleton,rl],λy hy=>?_⟩
  ·rw [vg];unfold vp;exact yt (au rfl) (au rfl) c1
  ·rcases List.mem_append.mp hy with z | z
   ·exact rx y z
   ·rw [List.mem_singleton] at z;subst z;omega
theorem ai0{u:O}{N n:Nat}{tg:List Nat}{ks:List Int}{rows:List (List Nat)}{i m:Option D}{row:List Nat}{fe:SE}{ix:List Nat}{f:Nat->Nat}(P:Src u N)(rl:row.length<=100)(fx:∀ x,x∈row->fe (some (bu x)::frs' ix (τR tg n i m (some (a6z row)))) (HR u ks rows) = .ok (bu (f x)) (HR u ks rows)) :
  sZ (m9 (sIt (sV 7)) t1 fe ix) (τR tg n i m (some (a6z row))) (HR u ks rows) = .ok (a6z (row.map f)) (HR u ks rows):=by
 unfold a6z;rw [List.map_map];refine yz (uw bu (bu ∘ f) row (a5q (au rfl) rfl) (gq (by omega)) λx hx=>?_) (jd λy _=>jw _) (amz P _)
 rw [vg];exact fx x hx
theorem af1{u:O}{N n i:Nat}{tg:List Nat}{ks:List Int}{rows:List (List Nat)}{m:Int}{r:Option D}(P:Src u N)(hN:N<=999999000)(t6:tg.length<=6)(n1:1<=n)(n32:n<=32)(lk:ks.length=n)(hi:i<n)(lr:rows.length<=100) :
  ∃ (u':O) (row:List Nat) (r':Option D),ahy tg.length n row/\Src u' (N+6)/\vq aa (τR tg n (some (bu i)) (some (.int m)) r) (HR u ks rows) = .nx (τR tg n (some (bu i)) (some (.int m)) r') (HR u' ks (rows++[row])):=by
 obtain ⟨u',row,⟨l1,x1⟩,P',e1⟩:=ahz (i:=some (bu i)) (m:=some (.int m)) (r:=r) (ks:=ks) (rows:=rows) P hN t6 n1 n32;have fin:∀ row:List Nat,a0f (sML a7c (sV 6) (ak (sV 7) di)) (τR tg n (some (bu i)) (some (.int m)) (some (a6z row))) (HR u' ks rows) = .nx (τR tg n (some (bu i)) (some (.int m)) (some (a6z row))) (HR u' ks (rows++[row])):=λrow=>by
  unfold HR;rw [List.map_append];exact a4g (au rfl) rfl (arg1 (au rfl)) (a4h (xs:=rows.map a6z) rfl (by rw [List.length_map];exact a1l (by omega)))
 have third:∀ row:List Nat,ahy tg.length n row->∃ row',ahy tg.length n row'/\j7 (sIf (a6a (sT (s2 hEq (sV 5) (sC (.int 1)))) (sT (s2 hEq (sV 4) (s2 ab5 (sV 2) (sC (.int 1))))))
   (m7 7 (sZ (m9 (sIt (sV 7)) t1 (zx aa) [4]))) sNx) (a0f (sML a7c (sV 6) (ak (sV 7) di))) (τR tg n (some (bu i)) (some (.int m)) (some (a6z row))) (HR u' ks rows) = .nx (τR tg n (some (bu i)) (some (.int m)) (some (a6z row'))) (HR u' ks (rows++[row'])):=λrow ⟨l2,x2⟩=>by
  by_cases h1:m=1
  ·by_cases h2:(i:Int)=(n:Int) - 1
   ·refine ⟨row.map λ_=>i,⟨by rw [List.length_map,l2],λx hx=>by obtain ⟨_,_,rfl⟩:=List.mem_map.mp hx;exact hi⟩,?_⟩
    refine Eq.trans (ux (Eq.trans (ifT (al6 (tof (dm (au rfl) (ig _ _ _) (aam h1))) (tof (dm (au rfl) (dm (au rfl) (ig _ _ _) (adg _ _)) (aam h2))))) (aq9 (ai0 (f:=λ_=>i) P' (by omega) λx _=>by unfold zx;exact au rfl)))) ?_
    exact fin _
   ·refine ⟨row,⟨l2,x2⟩,?_⟩;refine Eq.trans (ifN (al6 (tof (dm (au rfl) (ig _ _ _) (aam h1))) (tof (dm (au rfl) (dm (au rfl) (ig _ _ _) (adg _ _)) (aey h2))))) ?_;exact fin _
  ·refine ⟨row,⟨l2,x2⟩,?_⟩;refine Eq.trans (ifN (aue (tof (dm (au rfl) (ig _ _ _) (aey h1))))) ?_;exact fin _
 unfold vq
 by_cases h0:0<m
 ·let g:Nat->Nat:=λx=>if (ks[x]?).getD 0<0/\x<=i then n - 1 else x
  have gl:ahy tg.length n (row.map g):=⟨by rw [List.length_map,l1],λx hx=>by
   obtain ⟨y,hy,rfl⟩:=List.mem_map.mp hx;have:=x1 y hy;show (if _ then n - 1 else y)<n
   split
   ·exact Nat.sub_lt (by omega) (by decide)
   ·exact this⟩
  obtain ⟨row',q,e3⟩:=third _ gl;refine ⟨u',row',some (a6z row'),q,P',?_⟩;refine Eq.trans (jy e1) ?_;refine Eq.trans (ux (Eq.trans (ifT (tof (dm (au rfl) (ig _ _ _) (ayk h0)))) (aq9 (ai0 (f:=g) P' (by omega) λx hx=>?_)))) ?_
  ·unfold a3a;have hx':=x1 x hx;have kx:ks[x]? = some ((ks[x]?).getD 0):=by rw [List.getElem?_eq_getElem (by omega)];rfl
   have ki:∀ h:Hd,h[1]? = some (.lst (ks.map D.int))->gIx (.ref 1) (bu x) h = .ok (.int ((ks[x]?).getD 0)) h:=λh hh=>yu hh (by rw [List.getElem?_map,kx];rfl)
   have sb:s2 ab5 (sV 1) (sC (.int 1)) (some (bu x)::frs' [2,3,4] (τR tg n (some (bu i)) (some (.int m)) (some (a6z row)))) (HR u' ks rows) = .ok (bu (n - 1)) (HR u' ks rows) :=
    (dm (au rfl) (ig _ _ _) (adg _ _)).trans (by show R.ok (D.int ((n:Int) - 1)) _=R.ok (D.int ((n - 1:Nat):Int)) _;congr 2;omega)
   by_cases hk:(ks[x]?).getD 0<0
   ·by_cases hx:x<=i
    ·show _=R.ok (bu (if _ then n - 1 else x)) _
     rw [if_pos ⟨hk,hx⟩];exact axw (al6 (tof (dm (dm (au rfl) (au rfl) (ki _ rfl)) (ig _ _ _) (aqa hk))) (tof (dm (au rfl) (au rfl) (ayw (by omega))))) sb
    ·show _=R.ok (bu (if _ then n - 1 else x)) _
     rw [if_neg λz=>hx z.2];exact aw8 (al6 (tof (dm (dm (au rfl) (au rfl) (ki _ rfl)) (ig _ _ _) (aqa hk))) (tof (dm (au rfl) (au rfl) (ayx (by omega))))) (au rfl)
   ·show _=R.ok (bu (if _ then n - 1 else x)) _
    rw [if_neg λz=>hk z.1];exact aw8 (aue (tof (dm (dm (au rfl) (au rfl) (ki _ rfl)) (ig _ _ _) (ard hk)))) (au rfl)
  ·exact e3
 ·obtain ⟨row',q,e3⟩:=third _ ⟨l1,x1⟩;refine ⟨u',row',some (a6z row'),q,P',?_⟩;refine Eq.trans (jy e1) ?_;refine Eq.trans (ifN (tof (dm (au rfl) (ig _ _ _) (ayl h0)))) ?_;exact e3
theorem ai1{u:O}{ks:List Int}{rows:List (List Nat)}:a4l 1 (HR u ks rows) FU (.tup [.ref 2, .ref 1])=some (.tup [.rol (rows.map a6z), .rol (ks.map D.int)]):=by
 have oc:∀ {k:Nat} {d d':D} {ds ds':List D},a4l 1 (HR u ks rows) k d=some d'->a0i (a4l 1 (HR u ks rows) k) ds=some ds'->a0i (a4l 1 (HR u ks rows) k) (d::ds)=some (d'::ds'):=λe1 e2=>by unfold a0i;rw [e1,e2]
 refine akm (k:=19) (oc (a8i (k:=17) (by omega) rfl (jd λx _=>ut (kh _))) (oc (a8i (k:=17) (by omega) rfl (jd λx _=>jw x)) rfl)) ?_
 intro z
 have:=a0l.mp z (.ref 2) List.mem_cons_self
 simp only [MI.clo] at this;omega
theorem ald{o:O}{N n:Nat}{tg:List Nat}(P:Src o N)(hN:N<=999990000)(t6:tg.length<=6)(n1:1<=n)(n32:n<=32) :
  ∃ (ks:List Int) (rows:List (List Nat)) (o':O),ks.length=n/\ks[0]? = some (-1)/\(∀ k∈ks,KOk k)/\rows.length=n/\(∀ r∈rows,ahy tg.length n r) /\
   Dr iw 3 [.str (S tg),bu n] o (.tup [.rol (rows.map a6z), .rol (ks.map D.int)]) o'/\Src o' (N+300):=by
 have lo:=mz (g:=kN 4) (b:=vo aa) (λi:Nat=>D.int ((1+i:Nat)))
  (λpre τ h=>∃ (u:O) (ks:List Int) (t4:Option D),τ=[some (.ref 0),some (.str (S tg)),some (bu n),some (.ref 1),t4,none,none,none]/\h=[u, .lst (ks.map D.int)]/\Src u (N+2*pre.length)/\ks.length=1+pre.length/\ks[0]? = some (-1)/\∀ k∈ks,KOk k)
  (List.range (n - 1)) [some (.ref 0),some (.str (S tg)),some (bu n),some (.ref 1),none,none,none,none] [o, .lst ([-1].map D.int)] ?_
  ⟨o,[-1],none,rfl,rfl,P,rfl,rfl,by intro k hk;rw [List.mem_singleton] at hk;subst hk;decide⟩
 ·obtain ⟨τ',h',e1,u,ks,t4,rfl,rfl,P1,l1,k0,kk⟩:=lo;rw [List.length_range] at P1 l1;obtain ⟨m,u1,e2,m0,m1,P2⟩:=qp (m:=3) P1 (by omega) (by omega) (by omega)
  have c2:jz false 2 aa [.ref 0, .int 3] [u, .lst (ks.map D.int)] = .ok (.int m) [u1, .lst (ks.map D.int)]:=e2 0 _ rfl;have lp:=mz (g:=kN 4) (b:=vq aa) (λi:Nat=>D.int (i:Nat))
   (λpre τ h=>∃ (u':O) (rows:List (List Nat)) (i r:Option D),τ=τR tg n i (some (.int m)) r/\h=HR u' ks rows/\Src u' (N+100+6*pre.length)/\rows.length=pre.length/\∀ r∈rows,ahy tg.length n r)
   (List.range n) (τR tg n t4 (some (.int m)) none) (HR u1 ks []) ?_ ⟨u1,[],_,_,rfl,rfl,P2.up (by omega),rfl,by simp⟩
  ·obtain ⟨τ',h',e3,u',rows,i,r,rfl,rfl,P3,lr,rr⟩:=lp;rw [List.length_range] at P3 lr;have ca:MI.clo 0 (.tup [.rol (rows.map a6z), .rol (ks.map D.int)]):=ur (iu (ut (jd λx _=>ut (kh _))) (iu (ut (jd λy _=>jw y)) uq));refine ⟨ks,rows,u',by omega,k0,kk,lr,rr,Dr.of rfl ?_ P.clo (r:=.ok (.tup [.ref 2, .ref 1]) (HR u' ks rows)) ?_ (a6j ai1 (by intro x hx;rw [show List.take 1 (HR u' ks rows)=[u'] from rfl,List.mem_singleton] at hx;subst hx;exact p8 (by omega) P3.clo)) ca P3.clo,P3.up (by omega)⟩
   ·intro x hx
    simp only [List.mem_cons,List.not_mem_nil,or_false] at hx
    rcases hx with rfl | rfl
    ·exact jq _
    ·exact jw _
   ·unfold iw;rw [j9];show toR (a0o aa [some (.ref 0),some (.str (S tg)),some (bu n),none,none,none,none,none] [o])=_;unfold a0o;refine Eq.trans (congrArg toR (jy (d:=.ref 1) (h1:=[o, .lst ([-1].map D.int)]) rfl)) ?_;refine Eq.trans (congrArg toR (a09 (abu (a:=1) (n:=n) (ig _ _ _) (au rfl) (gq (by omega)) (gq (by omega))))) ?_
    refine Eq.trans (congrArg (λz=>toR (MI.thn z _)) e1) ?_;rw [a1x];refine Eq.trans (congrArg toR (jy (yt (au rfl) (ig _ _ _) c2))) ?_;refine Eq.trans (congrArg toR (jy (d:=.ref 2) (h1:=HR u1 ks []) rfl)) ?_;refine Eq.trans (congrArg toR (a09 (a3n (n:=n) (au rfl) (gq (by omega))))) ?_
    refine Eq.trans (congrArg (λz=>toR (MI.thn z _)) e3) ?_;rw [a1x];exact congrArg toR (n6 (yt (au rfl) (au rfl) arf))
  ·rintro pre i post τ h all ⟨u',rows,i',r,rfl,rfl,P3,lr,rr⟩
   obtain ⟨hi,hk⟩:=uy all;obtain ⟨u2,row,r',q,P4,e4⟩:=af1 (i:=i) (m:=m) (r:=r) (ks:=ks) (rows:=rows) P3 (by omega) t6 n1 n32 (by omega) hk (by omega)
   refine ⟨_,_,rfl,_,_,e4,u2,rows++[row],_,_,rfl,rfl,P4.up (by rw [List.length_append,List.length_singleton];omega),by rw [List.length_append,List.length_append,List.length_singleton,List.length_singleton,lr],λx hx=>?_⟩
   rcases List.mem_append.mp hx with z | z
   ·exact rr x z
   ·rw [List.mem_singleton] at z;subst z;exact q
 ·rintro pre i post τ h all ⟨u,ks,t4,rfl,rfl,P2,l1,k0,kk⟩
  obtain ⟨hi,hk⟩:=uy all;obtain ⟨u',k,e3,P3,hk3⟩:=af0 (ks:=ks) (t:=.str (S tg)) (n:=bu n) (x:=some (.int ((1+i:Nat):Int))) (y:=none) P2 (by omega) (by omega)
  refine ⟨_,_,rfl,_,_,e3,u',ks++[k],_,rfl,rfl,P3.up (by rw [List.length_append,List.length_singleton];omega),by rw [List.length_append,List.length_append,List.length_singleton,List.length_singleton];omega,?_,λq hq=>?_⟩
  ·rw [List.getElem?_append_left (by omega)];exact k0
  ·rcases List.mem_append.mp hq with h | h
   ·exact kk q h
   ·rw [List.mem_singleton] at h;subst h;exact hk3
end SRC
namespace BF
def num(s:Nat):List Nat->Nat
 | []=>0
 | c::p=>num s p*s+c+1
def walk(step:Nat->Nat->Nat)(r:Nat):List Nat->Nat
 | []=>r
 | c::p=>step (walk step r p) c
def Ok(s:Nat)(w:List Nat):Prop:=∀ c∈w,c<s
theorem Ok.nil{s:Nat}:Ok s []:=λ_ h=>by simp at h
theorem Ok.cons{s c:Nat}{p:List Nat}(hc:c<s)(h:Ok s p):Ok s (c::p):=λd hd=>by
 rcases List.mem_cons.mp hd with rfl | hd
 ·exact hc
 ·exact h d hd
theorem Ok.head{s c:Nat}{p:List Nat}(h:Ok s (c::p)):c<s:=h c List.mem_cons_self
theorem Ok.tail{s c:Nat}{p:List Nat}(h:Ok s (c::p)):Ok s p:=λd hd=>h d (List.mem_cons_of_mem _ hd)
theorem an0{s a b:Nat}(h:a<b):a*s+s<=b*s:=by
 have:(a+1)*s<=b*s:=Nat.mul_le_mul_right s h
 rw [Nat.add_mul,Nat.one_mul] at this;exact this
theorem aap{s a b c d:Nat}(h:a<b)(hc:c<s):a*s+c+1<b*s+d+1:=by
 have:=an0 (s:=s) h
 omega
theorem a8y{s:Nat}:∀ {u v:List Nat},Ok s u->Ok s v->num s u=num s v->u=v
 | [],[],_,_,_=>rfl
 | [],_::_,_,_,e=>by simp [num] at e
 | _::_,[],_,_,e=>by simp [num] at e
 | c::p,d::q,hu,hv,e=>by
  simp only [num] at e;have h1:=hu.head;have h2:=hv.head
  rcases Nat.lt_trichotomy (num s p) (num s q) with h | h | h
  ·have:=aap (d:=d) h h1;omega
  ·have:=a8y hu.tail hv.tail h
   subst this;have:c=d:=by omega
   rw [this]
  ·have:=aap (d:=c) h h2;omega
section
variable{s:Nat}{step:Nat->Nat->Nat}{r0:Nat}{hit:List Nat->Prop}
structure St (s:Nat) (step:Nat->Nat->Nat) (r0:Nat) (hit:List Nat->Prop) (found:List (List Nat)) (F:Nat):Prop where
 ok:∀ w∈found,Ok s w
 inc:found.Pairwise λu v=>num s u<num s v
 dis:found.Pairwise λu v=>walk step r0 u≠walk step r0 v
 com:∀ w,Ok s w->num s w<F->¬ hit w/\∃ v∈found,walk step r0 v=walk step r0 w/\num s v<=num s w
 low:∀ w∈found,num s w<F
 len:∀ (j:Nat) w,found[j]? = some w->w.length<=j
theorem St.start(h0:¬ hit []):St s step r0 hit [[]] 1:=by
 refine ⟨by simp [Ok.nil],by simp,by simp,λw hw hn=>?_,by simp [num],λj w e=>?_⟩
 rotate_left
 ·cases j with
  | zero=>simp at e;subst e;exact Nat.le_refl _
  | succ j=>simp at e
 cases w with
 | nil=>exact ⟨h0,[],by simp,rfl,Nat.le_refl _⟩
 | cons c p=>simp only [num] at hn;omega
theorem St.seen{found:List (List Nat)}{F:Nat}{w:List Nat}(S:St s step r0 hit found F)(hw:Ok s w)(e:num s w=F)(nh:¬ hit w)(h:∃ v∈found,walk step r0 v=walk step r0 w):St s step r0 hit found (F+1):=by
 refine ⟨S.ok,S.inc,S.dis,λu hu hn=>?_,λu hu=>Nat.lt_succ_of_lt (S.low u hu),S.len⟩
 rcases Nat.lt_or_ge (num s u) F with h1 | h1
 ·exact S.com u hu h1
 ·have:u=w:=a8y hu hw (by omega)
  subst this;obtain ⟨v,hv,e2⟩:=h;exact ⟨nh,v,hv,e2,Nat.le_of_lt (by rw [e];exact S.low v hv)⟩
theorem St.add{found:List (List Nat)}{F:Nat}{w:List Nat}(S:St s step r0 hit found F)(hw:Ok s w)(e:num s w=F)(nh:¬ hit w)(h:∀ v∈found,walk step r0 v≠walk step r0 w)(hlen:w.length<=found.length):St s step r0 hit (found++[w]) (F+1):=by
 refine ⟨λu hu=>?_,?_,?_,λu hu hn=>?_,λu hu=>?_,λj u e=>?_⟩
 ·rcases List.mem_append.mp hu with hu | hu
  ·exact S.ok u hu
  ·rw [List.mem_singleton.mp hu];exact hw
 ·refine List.pairwise_append.mpr ⟨S.inc,by simp,λu hu v hv=>?_⟩
  rw [List.mem_singleton.mp hv,e];exact S.low u hu
 ·refine List.pairwise_append.mpr ⟨S.dis,by simp,λu hu v hv=>?_⟩
  rw [List.mem_singleton.mp hv];exact h u hu
 ·rcases Nat.lt_or_ge (num s u) F with h1 | h1
  ·obtain ⟨a,v,hv,b⟩:=S.com u hu h1;exact ⟨a,v,List.mem_append_left _ hv,b⟩
  ·have:u=w:=a8y hu hw (by omega)
   subst this;exact ⟨nh,u,by simp,rfl,Nat.le_refl _⟩
 ·rcases List.mem_append.mp hu with hu | hu
  ·exact Nat.lt_succ_of_lt (S.low u hu)
  ·rw [List.mem_singleton.mp hu];omega
 ·by_cases hj:j<found.length
  ·rw [List.getElem?_append_left hj] at e;exact S.len j u e
  ·rw [List.getElem?_append_right (by omega)] at e
   have:j - found.length=0:=by
    have:=(List.getElem?_eq_some_iff.mp e).1
    simp at this;omega
   rw [this] at e;simp at e;subst e;omega
theorem St.least{found:List (List Nat)}{F:Nat}(S:St s step r0 hit found F){v:List Nat}(hv:Ok s v)(hh:hit v):F<=num s v :=
 Nat.le_of_not_lt λz=>(S.com v hv z).1 hh
theorem St.next{found:List (List Nat)}{l:Nat}{w w':List Nat}(hs:0<s)(hl:found[l]? = some w)(hl':found[l+1]? = some w')(S:St s step r0 hit found (num s w*s+s+1))(a1c:∀ c p q,walk step r0 p=walk step r0 q->(hit (c::p)↔hit (c::q))):St s step r0 hit found (num s w'*s+1):=by
 obtain ⟨h1,e1⟩:=List.getElem?_eq_some_iff.mp hl;obtain ⟨h2,e2⟩:=List.getElem?_eq_some_iff.mp hl';have lt:num s w<num s w':=by rw [<-e1,<-e2];exact List.pairwise_iff_getElem.mp S.inc l (l+1) h1 h2 (by omega)
 have up:=an0 (s:=s) lt;refine ⟨S.ok,S.inc,S.dis,λu hu hn=>?_,λu hu=>Nat.lt_of_lt_of_le (S.low u hu) (by omega),S.len⟩
 rcases Nat.lt_or_ge (num s u) (num s w*s+s+1) with h3 | h3
 ·exact S.com u hu h3
 ·cases u with
  | nil=>simp only [num] at h3;omega
  | cons c p =>
   simp only [num] at hn h3 ⊢;have hc:=hu.head;have p1:num s p<num s w':=by
    refine Nat.lt_of_not_le λz=>?_;have:=Nat.mul_le_mul_right s z;omega
   have p0:num s w<num s p:=by
    refine Nat.lt_of_not_le λz=>?_;have:=Nat.mul_le_mul_right s z;omega
   have pw:num s p<num s w*s+s+1:=by
    have:=S.low w' (by rw [<-e2];exact List.getElem_mem h2)
    omega
   obtain ⟨_,v,hv,ev,lv⟩:=S.com p hu.tail pw;obtain ⟨j,hj⟩:=List.getElem?_of_mem hv;obtain ⟨h4,e4⟩:=List.getElem?_eq_some_iff.mp hj;have jl:j<=l:=by
    refine Nat.le_of_not_lt λz=>?_;have:num s w'<=num s v:=by
     rcases Nat.lt_or_eq_of_le (show l+1<=j from z) with q | q
     ·rw [<-e2,<-e4];exact Nat.le_of_lt (List.pairwise_iff_getElem.mp S.inc (l+1) j h2 h4 q)
     ·subst q;rw [<-e2,<-e4];exact Nat.le_refl _
    omega
   have vw:num s v<=num s w:=by
    rcases Nat.lt_or_eq_of_le jl with q | q
    ·rw [<-e1,<-e4];exact Nat.le_of_lt (List.pairwise_iff_getElem.mp S.inc j l h4 h1 q)
    ·subst q;rw [<-e1,<-e4];exact Nat.le_refl _
   have cv:num s (c::v)<num s w*s+s+1:=by
    simp only [num];have:=Nat.mul_le_mul_right s vw;omega
   obtain ⟨nh,v',hv',ev',lv'⟩:=S.com (c::v) (Ok.cons hc (S.ok v hv)) cv;refine ⟨λz=>nh ((a1c c v p ev).mpr z),v',hv',?_,?_⟩
   ·rw [ev'];simp only [walk,ev]
   ·simp only [num] at lv';have:=Nat.mul_le_mul_right s lv;omega
theorem St.all{found:List (List Nat)}{l:Nat}{w:List Nat}(hl:found[l]? = some w)(hn:found.length=l+1)(S:St s step r0 hit found (num s w*s+s+1))(h0:¬ hit [])(hz:[]∈found)(a1c:∀ c p q,walk step r0 p=walk step r0 q->(hit (c::p)↔hit (c::q))) :
  ∀ u,Ok s u->¬ hit u/\∃ v∈found,walk step r0 v=walk step r0 u/\num s v<=num s u
 | [],_=>⟨h0,[],hz,rfl,Nat.le_refl _⟩
 | c::p,hu=>by
  obtain ⟨_,v,hv,ev,lv⟩:=St.all hl hn S h0 hz a1c p hu.tail;have hc:=hu.head;obtain ⟨h1,e1⟩:=List.getElem?_eq_some_iff.mp hl;obtain ⟨j,hj⟩:=List.getElem?_of_mem hv;obtain ⟨h4,e4⟩:=List.getElem?_eq_some_iff.mp hj;have vw:num s v<=num s w:=by
   rcases Nat.lt_or_eq_of_le (show j<=l by omega) with q | q
   ·rw [<-e1,<-e4];exact Nat.le_of_lt (List.pairwise_iff_getElem.mp S.inc j l h4 h1 q)
   ·subst q;rw [<-e1,<-e4];exact Nat.le_refl _
  have cv:num s (c::v)<num s w*s+s+1:=by
   simp only [num];have:=Nat.mul_le_mul_right s vw;omega
  obtain ⟨nh,v',hv',ev',lv'⟩:=S.com (c::v) (Ok.cons hc (S.ok v hv)) cv;refine ⟨λz=>nh ((a1c c v p ev).mpr z),v',hv',?_,?_⟩
  ·rw [ev'];simp only [walk,ev]
  ·simp only [num] at lv' ⊢;have:=Nat.mul_le_mul_right s lv;omega
end
theorem a8z(s c:Nat):∀ x:List Nat,num s (x++[c])=(c+1)*s ^ x.length+num s x
 | []=>by simp [num]
 | a::x=>by
  show num s (x++[c])*s+a+1=_;rw [a8z s c x,List.length_cons,Nat.pow_succ,<-Nat.mul_assoc,num,Nat.add_mul];omega
theorem adl{s:Nat}:∀ {x y:List Nat},x.length=y.length->Ok s x->Ok s y->num s x<num s y+s ^ x.length
 | [],[],_,_,_=>by simp [num]
 | a::x,b::y,l,hx,hy=>by
  have ih:=adl (x:=x) (y:=y) (by simpa using l) hx.tail hy.tail
  have ha:=hx.head;simp only [num,List.length_cons,Nat.pow_succ];have:=Nat.mul_le_mul_right s (show num s x+1<=num s y+s ^ x.length from ih)
  rw [Nat.add_mul,Nat.add_mul,Nat.one_mul] at this;omega
theorem a7j{s:Nat}(hs:0<s):∀ {x y:List Nat},x.length<y.length->Ok s x->num s x<num s y
 | [],b::y,_,_=>by simp [num]
 | a::x,b::y,l,hx=>by
  have:=a7j hs (x:=x) (y:=y) (by simpa using l) hx.tail
  exact aap this hx.head
theorem a4i(step:Nat->Nat->Nat)(r c:Nat):∀ x:List Nat,walk step r (x++[c])=walk step (step r c) x
 | []=>rfl
 | a::x=>by show step (walk step r (x++[c])) a=_;rw [a4i step r c x];rfl
section
variable(s:Nat)(step:Nat->Nat->Nat)(K:Nat->Bool)
def fl:Nat->Nat->Bool
 | 0,r=>K r
 | k+1,r=>(List.range s).any λc=>fl k (step r c)
def fst(k r:Nat):Nat:=((List.range s).find? λc=>fl s step K k (step r c)).getD 0
def gre:Nat->Nat->List Nat
 | 0,_=>[]
 | k+1,r=>fst s step K k r::gre k (step r (fst s step K k r))
variable{s step K}
theorem ana{k r:Nat}(h:fl s step K (k+1) r=true):fst s step K k r<s/\fl s step K k (step r (fst s step K k r))=true/\∀ d,d<fst s step K k r->fl s step K k (step r d)=false:=by
 unfold fst
 cases e:(List.range s).find? λc=>fl s step K k (step r c) with
 | none =>
  rw [List.find?_eq_none] at e;simp only [fl,List.any_eq_true] at h;obtain ⟨c,hc,h⟩:=h;exact absurd h (e c hc)
 | some c =>
  simp only [Option.getD_some];have h1:=List.find?_some e;have h2:=List.mem_of_find?_eq_some e;refine ⟨List.mem_range.mp h2,h1,λd hd=>?_⟩;rw [List.find?_range_eq_some] at e;simpa using e.2.2 d hd
theorem aaq:∀ {k r:Nat},fl s step K k r=true->(gre s step K k r).length=k/\Ok s (gre s step K k r).reverse/\K (walk step r (gre s step K k r).reverse)=true
 | 0,r,h=>⟨rfl,Ok.nil,h⟩
 | k+1,r,h=>by
  obtain ⟨h1,h2,_⟩:=ana h;obtain ⟨l,o,w⟩:=aaq h2;refine ⟨by simp [gre,l],λc hc=>?_,?_⟩
  ·simp only [gre,List.reverse_cons,List.mem_append,List.mem_singleton] at hc
   rcases hc with hc | rfl
   ·exact o c hc
   ·exact h1
  ·rw [gre,List.reverse_cons,a4i];exact w
theorem ale:∀ {u:List Nat} {r:Nat},Ok s u.reverse->K (walk step r u.reverse)=true->fl s step K u.length r=true
 | [],r,_,h=>h
 | c::u,r,o,h=>by
  rw [List.reverse_cons] at o h;rw [a4i] at h;simp only [List.length_cons,fl,List.any_eq_true];exact ⟨c,List.mem_range.mpr (o c (by simp)),ale (λd hd=>o d (by simp [List.mem_reverse.mp hd])) h⟩
theorem aar:∀ {u:List Nat} {r:Nat},Ok s u.reverse->K (walk step r u.reverse)=true->num s (gre s step K u.length r).reverse<=num s u.reverse
 | [],r,_,_=>Nat.le_refl _
 | c::u,r,o,h=>by
  have hf:=ale o h;obtain ⟨h1,h2,h3⟩:=ana (show fl s step K (u.length+1) r=true from hf)
  rw [List.reverse_cons] at o h;rw [a4i] at h;have ou:Ok s u.reverse:=λd hd=>o d (by simp [List.mem_reverse.mp hd])
  have hc:fl s step K u.length (step r c)=true:=ale ou h;rw [List.length_cons,gre,List.reverse_cons,List.reverse_cons,a8z,a8z];obtain ⟨gl,go,_⟩:=aaq h2
  rcases Nat.lt_trichotomy c (fst s step K u.length r) with q | q | q
  ·rw [h3 c q] at hc;cases hc
  ·rw [<-q] at gl ⊢;have:=aar ou h;simp only [List.length_reverse,gl] at this ⊢;omega
  ·have n:=adl (s:=s) (x:=(gre s step K u.length (step r (fst s step K u.length r))).reverse) (y:=u.reverse) (by simp [gl]) go ou
   simp only [List.length_reverse,gl] at n ⊢;have:=Nat.mul_le_mul_right (s ^ u.length) (show fst s step K u.length r+1+1<=c+1 by omega)
   rw [Nat.add_mul _ 1,Nat.one_mul] at this;omega
end
theorem a1b:∀ (n:Nat) (l:List Nat),l.Nodup->(∀ x∈l,x<n)->l.length<=n
 | 0,l,_,h=>by
  cases l with
  | nil=>exact Nat.le_refl _
  | cons x l=>exact absurd (h x List.mem_cons_self) (by omega)
 | n+1,l,nd,h=>by
  have:=a1b n (l.erase n) (nd.erase n) λx hx=>by
   have h1:=h x (List.mem_of_mem_erase hx);have h2:x≠n:=λz=>by subst z;exact (List.Nodup.not_mem_erase nd) hx
   omega
  have:=List.length_erase (a:=n) (l:=l)
  split at this<;>omega
end BF
namespace SRC
open PySem PySem.Spec L2 MI AT HND EVX
theorem ayy{ck:Hd->Prop}{f:D->Hd->R D}{α:Type}(g F:α->D){h:Hd}(c:ck h):∀ {xs:List α},(∀ x∈xs,f (g x) h = .ok (F x) h)->mapR ck f (xs.map g) h = .ok (xs.map F) h
 | [],_=>by rw [List.map_nil,mapR,if_pos c];rfl
 | x::xs,st=>by
  rw [List.map_cons,mapR,if_pos c,st x List.mem_cons_self];show (mapR _ f (xs.map g) h).bind _=_;rw [ayy g F c λy hy=>st y (List.mem_cons_of_mem _ hy)];rfl
theorem aqh{fi:SI}{t:D->Option Sd}{fe:SE}{ix:List Nat}{τ:Sd}{h:Hd}{α:Type}{ck:Hd->Prop}(g F:α->D)(xs:List α)(c:ck h)(e:fi τ h = .ok ⟨xs.map g,ck⟩ h)(z:xs.length<=LINE)
  (st:∀ x∈xs,a6v t fe (frs' ix τ) (g x) h = .ok (F x) h):m9 fi t fe ix τ h = .ok (.ref h.length) (h++[.lst (xs.map F)]):=by
 unfold m9;rw [e,d7];dsimp only;rw [if_pos (by rw [List.length_map];exact z),ayy g F c st]
 rfl
theorem aqi{x:Nat}{l:List Nat}:inD (bu x) (l.map bu)=decide (x∈l):=by
 unfold inD;rw [List.any_map]
 by_cases h:x∈l
 ·rw [decide_eq_true h,List.any_eq_true];exact ⟨x,h,by show ((x:Int) == (x:Int))=true;simp⟩
 ·rw [decide_eq_false h,List.any_eq_false]
  intro y hy
  have:x≠y:=λe=>h (e ▸ hy)
  show ¬ ((y:Int) == (x:Int))=true;rw [beq_iff_eq];omega
theorem a5t{x i:Nat}{l:List Nat}{h:Hd}(e:h[i]? = some (.lst (l.map bu))):gIn true (bu x) (.ref i) h = .ok (.bl (!decide (x∈l))) h:=by
 have fl:a3i (bu x)=true/\(l.map bu).all a3i=true:=⟨rfl,by
  rw [List.all_eq_true]
  intro y hy
  obtain ⟨n,_,rfl⟩:=List.mem_map.mp hy
  rfl⟩
 unfold gIn a0b;simp only [e,if_pos fl,if_true,aqi]
abbrev cst(l:List Nat):List Int:=l.map λx:Nat=>(x:Int)
theorem ai2(l:List Nat):l.map bu=(cst l).map D.int:=by unfold cst;rw [List.map_map];rfl
theorem a7k{i:Nat}{l:List Nat}{h:Hd}(e:h[i]? = some (.lst (l.map bu))):a7d (.ref i) h=some (cst l):=by
 unfold a7d;simp only [e];rw [ai2,ints_map]
theorem af2(l:List Nat):∃ m:List Nat,PySem.W.sortI (cst l)=cst m/\m.Perm l/\m.Pairwise (·<=·):=by
 have p:=PySem.W.sortI_perm (cst l);have s:=PySem.W.sortI_rises (cst l);refine ⟨(PySem.W.sortI (cst l)).map Int.toNat,?_,?_,?_⟩
 ·unfold cst;rw [List.map_map];have:∀ x∈PySem.W.sortI (l.map λx:Nat=>(x:Int)),((λx:Nat=>(x:Int)) ∘ Int.toNat) x=x:=λx hx=>by
   have:=p.mem_iff.mp hx
   obtain ⟨y,_,rfl⟩:=List.mem_map.mp this;simp
  rw [List.map_congr_left this];simp
 ·have:=p.map Int.toNat
  have e:(cst l).map Int.toNat=l:=by
   unfold cst;rw [List.map_map];exact (List.map_congr_left λx _=>by simp).trans (List.map_id l)
  rwa [e] at this
 ·rw [List.pairwise_map];exact s.imp λh=>by omega
def pos(m:List Nat)(x:Nat):Nat:=(ixI (x:Int) (cst m)).getD 0
theorem ai3{m:List Nat}{x:Nat}(h:x∈m):ixI (x:Int) (cst m)=some (pos m x)/\pos m x<m.length:=by
 obtain ⟨j,hj⟩:=ad9 (n:=(x:Int)) (l:=cst m) (List.mem_map.mpr ⟨x,h,rfl⟩);unfold pos;rw [hj];refine ⟨rfl,?_⟩;have:=(List.getElem?_eq_some_iff.mp (ad8 hj).1).1;simpa using this
noncomputable def gj:SF:=oh (a0p aa iw gk) 10
abbrev τT(most:Nat)(tg:List Nat)(many:Int)(rows:List (List Nat))(ks:List Int)(m:D)(i:Nat)(t8 t9:Option D):Sd:=[some (.ref 0),some (bu most),some (.str (S tg)),some (.int many),some (.rol (rows.map a6z)),some (.rol (ks.map D.int)),some m,some (bu i),t8,t9]
structure Met (n:Nat) (met:List Nat):Prop where
 nd:met.Nodup
 lt:∀ x∈met,x<n
 z:0∈met
theorem Met.len{n:Nat}{met:List Nat}(M:Met n met):met.length<=n:=BF.a1b n met M.nd M.lt
theorem Met.add{n x:Nat}{met:List Nat}(M:Met n met)(hx:x<n)(h:x ∉ met):Met n (met++[x]):=by
 refine ⟨?_,λy hy=>?_,List.mem_append_left _ M.z⟩
 ·rw [List.nodup_append];refine ⟨M.nd,by simp,λa ha b hb=>?_⟩
  rw [List.mem_singleton] at hb;subst hb;exact λe=>h (e ▸ ha)
 ·rcases List.mem_append.mp hy with z | z
  ·exact M.lt y z
  ·rw [List.mem_singleton] at z;subst z;exact hx
section
variable{A B C:SF}{most n:Nat}{tg:List Nat}{many:Int}{rows:List (List Nat)}{ks:List Int}
def Done(rows:List (List Nat))(met:List Nat)(i:Nat):Prop:=∀ j,j<i->∀ r,met[j]? = some r->∀ x∈(rows[r]?).getD [],x∈met
end
theorem ai4{i:Nat}{l m:List Nat}{h:Hd}(e:h[i]? = some (.lst (l.map bu)))(z:l.length<64)(em:PySem.W.sortI (cst l)=cst m):a3k [.ref i] h = .ok (.ref h.length) (h++[.lst (m.map bu)]):=by
 have q:=a7k e;unfold a3k;simp only [q];rw [if_pos (by unfold cst;rw [List.length_map];exact z),em,<-ai2]
theorem ai5{i x:Nat}{m:List Nat}{h:Hd}(e:h[i]? = some (.lst (m.map bu)))(hx:x∈m):a6h (.ref i) [bu x] h = .ok (bu (pos m x)) h:=by
 have q:=a7k e;unfold a6h;simp only [q,(ai3 hx).1]
section
variable{A B C:SF}{most n:Nat}{tg:List Nat}{many:Int}{rows:List (List Nat)}{ks:List Int}
abbrev a90(rows:List (List Nat))(m:List Nat):List (List Nat):=m.map λr=>((rows[r]?).getD []).map (pos m)
abbrev a7l(ks:List Int)(m:List Nat):List Int:=m.map λr=>(ks[r]?).getD 0
theorem ai6{u:O}{N i:Nat}{t8:Option D}{met:List Nat}(P:Src u N)(n32:n<=32)(lr:rows.length=n)(lk:ks.length=n)(t6:tg.length<=6)(rr:∀ r∈rows,ahy tg.length n r)(M:Met n met)(cl:∀ r∈met,∀ x∈(rows[r]?).getD [],x∈met) :
  ∃ m:List Nat,m.Perm met/\m.Pairwise (·<=·)/\∃ h:Hd,h.take 1=[u]/\toR (j7 (m7 6 (sA a3k (ak (sV 6) di)))
   (j7 (m7 9 (sA v4 (ak (sZ (m9 (sIt (sV 6)) t1 (w6 A B C) [4,6])) di)))
   (qj (sA a4k (ak (sV 2) (ak (sV 9) (ak (sA v4 (ak (sZ (m9 (sIt (sV 6)) t1 (wg A B C) [5])) di)) di)))))) (τT most tg many rows ks (.ref 1) i t8 none) [u, .lst (met.map bu)]) = .ok (.tup [.str (S tg), .tup ((a90 rows m).map a8x), .tup ((a7l ks m).map D.int)]) h:=by
 obtain ⟨m,em,pm,sm⟩:=af2 met;have ln:=M.len;have lm:m.length=met.length:=pm.length_eq
 let H:Hd:=[u, .lst (met.map bu), .lst (m.map bu)]
 have hc:∀ o∈H,a1o H.length o:=by
  intro o ho
  simp only [H,List.mem_cons,List.not_mem_nil,or_false] at ho
  rcases ho with rfl | rfl | rfl
  ·exact p8 (Nat.zero_le _) P.clo
  ·exact p8 (Nat.zero_le _) (kh _)
  ·exact p8 (Nat.zero_le _) (kh _)
 have so:a3k [.ref 1] [u, .lst (met.map bu)] = .ok (.ref 2) H:=by
  exact ai4 (l:=met) rfl (by omega) em
 have rw':∀ r∈m,rows[r]? = some ((rows[r]?).getD [])/\ahy tg.length n ((rows[r]?).getD [])/\∀ x∈(rows[r]?).getD [],x∈m:=λr hr=>by
  have h1:=M.lt r (pm.mem_iff.mp hr);have e:rows[r]? = some ((rows[r]?).getD []):=by rw [List.getElem?_eq_getElem (by omega)];rfl
  exact ⟨e,rr _ (List.mem_of_getElem? e),λx hx=>pm.mem_iff.mpr (cl r (pm.mem_iff.mp hr) x hx)⟩
 have z1:sZ (m9 (sIt (sV 6)) t1 (w6 A B C) [4,6]) (τT most tg many rows ks (.ref 2) i t8 none) H = .ok (.rol ((a90 rows m).map a8x)) H:=by
  rw [List.map_map];refine yz (aqh (ck:=λh=>h[2]? = some (.lst (m.map bu))) bu (a8x ∘ λr=>((rows[r]?).getD []).map (pos m)) m rfl (a5q (au rfl) rfl) (gq (by omega)) λr hr=>?_) (jd λx _=>ur (kh _)) hc
  obtain ⟨e1,⟨e2,_⟩,e3⟩:=rw' r hr;rw [vg];unfold w6;have z2:sZ (m9 (sIt (s2 gIx (sV 1) (sV 0))) t1 (a00 A B C) [2]) (some (bu r)::frs' [4,6] (τT most tg many rows ks (.ref 2) i t8 none)) H = .ok (.rol ((((rows[r]?).getD []).map (pos m)).map bu)) H:=by
   rw [List.map_map];refine yz (uw bu (bu ∘ pos m) ((rows[r]?).getD []) (a5q (dm (au rfl) (au rfl) (afe (y:=a6z ((rows[r]?).getD [])) (by rw [List.getElem?_map,e1];rfl))) rfl) (gq (by omega)) λx hx=>?_) (jd λx _=>jw _) hc
   rw [vg];unfold a00;exact axq (au rfl) rfl (arg1 (au rfl)) (ai5 rfl (e3 x hx))
  exact yg z2 rfl
 have z3:∀ t9:Option D,sZ (m9 (sIt (sV 6)) t1 (wg A B C) [5]) (τT most tg many rows ks (.ref 2) i t8 t9) H = .ok (.rol ((a7l ks m).map D.int)) H:=λt9=>by
  rw [List.map_map];refine yz (aqh (ck:=λh=>h[2]? = some (.lst (m.map bu))) bu (D.int ∘ λr=>(ks[r]?).getD 0) m rfl (a5q (au rfl) rfl) (gq (by omega)) λr hr=>?_) (jd λx _=>jw _) hc
  have h1:=M.lt r (pm.mem_iff.mp hr);have e:ks[r]? = some ((ks[r]?).getD 0):=by rw [List.getElem?_eq_getElem (by omega)];rfl
  rw [vg];unfold wg;exact dm (au rfl) (au rfl) (afe (by rw [List.getElem?_map,e];rfl))
 refine ⟨m,pm,sm,H,rfl,?_⟩;refine Eq.trans (congrArg toR (jy (yg (au rfl) so))) ?_;refine Eq.trans (congrArg toR (jy (yg z1 (show v4 [.rol ((a90 rows m).map a8x)] H = .ok (.tup ((a90 rows m).map a8x)) H from rfl)))) ?_
 exact congrArg toR (n6 (aal (au rfl) (au rfl) (yg (z3 _) (show v4 [.rol ((a7l ks m).map D.int)] H = .ok (.tup ((a7l ks m).map D.int)) H from rfl)) axr))
end
end SRC
namespace K21
open PySem PySem.Spec L2 MI
noncomputable def wu:SE :=
 (s2 (gIn false) (sV 0) (sV 1))
noncomputable def sr:SS :=
 (qj (a2t (sA a6k (ak (sV 1) (ak (sC (.ty "str")) di))) (sA aj8 (ak (sZ (m9 (sIt (sV 1)) t1 wu [0])) di))))
end K21
namespace K23
open PySem PySem.Spec L2 MI
noncomputable def wu:SE :=
 (s2 (gIn false) (sV 0) (sV 1))
noncomputable def sr:SS :=
 (qj (a2t (sA a6k (ak (sV 1) (ak (sC (.ty "str")) di))) (sA aj8 (ak (sZ (m9 (sIt (sV 1)) t1 wu [0])) di))))
noncomputable def vf(dw:SF):SS :=
 (qj (s2 gIx (sA (jz false 3 dw) (ak (sV 0) (ak (sV 1) (ak (sV 2) di)))) (s1 a6t (sC (.int 1)))))
noncomputable def qb:SS :=
 (a0f (sML a7c (sV 6) (ak (s2 gIx (s2 gIx (sV 4) (s2 gIx (sV 6) (s1 a6t (sC (.int 1))))) (sMS aa4 (sV 3) (ak (sV 7) di))) di)))
noncomputable def qu:SS :=
 (j7 (a6u (sV 0) (a2x 3 (jn (kN 3) (jn (kN 4) (jn (kN 5) a2w)))))
 (j7 (m7 6 (sA a5c (ak (sV 1) di)))
 (j7 (a2g (sIt (sV 2)) (kN 7) qb)
 (qj (sV 6)))))
end K23
namespace K22
open PySem PySem.Spec L2 MI
noncomputable def uv(d9:SF):SE :=
 (sA (jz false 2 d9) (ak (sV 1) (ak (sV 0) di)))
noncomputable def ue(d9:SF):SS :=
 (qj (sA v4 (ak (sZ (m9 (sRg yx (ak (sA vh (ak (s2 gIx (sV 0) (sC (.int 1))) di)) di)) t1 (uv d9) [0])) di)))
noncomputable def ju:SS :=
 (j7 (sIf (sT (s2 hNe (s2 gIx (sV 4) (sV 11)) (s1 a6t (sC (.int 1)))))
 (qj (s2 j6 (sV 9) (sV 10)))
 sNx)
 (sIf (sT (s2 (aep true) (sV 11) (sV 6)))
 (j7 (a6i (sC (.bl true)) (sV 6) (sV 11))
 (a0f (sML a7c (sV 5) (ak (sA a4k (ak (sV 11) (ak (s2 j6 (sV 9) (sV 10)) di))) di))))
 sNx))
noncomputable def qz:ST :=
 (sT (s2 gLt (sV 7) (sA vh (ak (sV 5) di))))
noncomputable def nj:SS :=
 (j7 (a6u (s2 gIx (sV 5) (sV 7)) (a2x 2 (jn (kN 8) (jn (kN 9) a2w))))
 (j7 (a2g (ah1 (sV 2) (s2 gIx (sV 3) (sV 8))) (a2x 2 (jn (kN 10) (jn (kN 11) a2w))) ju)
 (aeg 7 a1m (sC (.int 1)))))
noncomputable def v9:SS :=
 (j7 (a6u (sV 0) (a2x 3 (jn (kN 2) (jn (kN 3) (jn (kN 4) a2w)))))
 (j7 (m7 5 (sA a5c (ak (sA a4k (ak (sV 1) (ak (sC (.str "")) di))) di)))
 (j7 (m7 6 (s2 gD1 (sV 1) (sC (.bl true))))
 (j7 (m7 7 (sC (.int 0)))
 (j7 (sWh qz nj 100000)
 (qj (sC .non)))))))
end K22
namespace K22
open PySem PySem.Spec L2 MI AT HND
section
variable(T:Table)
def stp(r c:Nat):Nat:=(((T.go[r]?).getD [])[c]?).getD 0
def knd(r:Nat):Bool:=decide ((T.ks[r]?).getD (-1) ≠ -1)
def tgA(c:Nat):Nat:=(T.tg[c]?).getD 0
def sgn(w:List Nat):List Nat:=(w.reverse).map (tgA T)
def hit(r0:Nat)(w:List Nat):Prop:=w≠[]/\knd T (BF.walk (stp T) r0 w)=true
end
theorem adm(T:Table)(c:Nat)(w:List Nat):sgn T (c::w)=sgn T w++[tgA T c]:=by simp [sgn]
theorem a91(T:Table)(w:List Nat):(sgn T w).length=w.length:=by simp [sgn]
section
variable{T:Table}(h:T.Ok)
theorem a7m(h:T.Ok)(r c:Nat):stp T r c<T.go.length:=by
 have h1:=h.n1;unfold stp
 cases e:T.go[r]? with
 | none=>simp;omega
 | some row =>
  simp only [Option.getD_some]
  cases e2:row[c]? with
  | none=>simp;omega
  | some x=>simp only [Option.getD_some];exact (h.row row (List.mem_of_getElem? e)).2 x (List.mem_of_getElem? e2)
theorem a92(h:T.Ok){r:Nat}(hr:r<T.go.length):∀ w:List Nat,BF.walk (stp T) r w<T.go.length
 | []=>hr
 | c::w=>a7m h _ c
theorem ai7(h:T.Ok){r:Nat}(hr:r<T.go.length):∃ row:List Nat,T.go[r]? = some row/\row.length=T.tg.length/\(∀ x∈row,x<T.go.length)/\∀ c,c<T.tg.length->row[c]? = some (stp T r c):=by
 refine ⟨T.go[r],List.getElem?_eq_getElem hr,(h.row _ (List.getElem_mem hr)).1,(h.row _ (List.getElem_mem hr)).2,λc hc=>?_⟩;have l:=(h.row _ (List.getElem_mem hr)).1;unfold stp;rw [List.getElem?_eq_getElem hr,Option.getD_some,List.getElem?_eq_getElem (by omega),Option.getD_some]
theorem alf(h:T.Ok){r:Nat}(hr:r<T.go.length):∃ k:Int,T.ks[r]? = some k /\ -1<=k/\knd T r=decide (k ≠ -1):=by
 have l:r<T.ks.length:=by rw [h.kl];exact hr
 refine ⟨T.ks[r],List.getElem?_eq_getElem l,(h.kk _ (List.getElem_mem l)).1,?_⟩;unfold knd;rw [List.getElem?_eq_getElem l,Option.getD_some]
theorem af3{c:Nat}(hc:c<T.tg.length):T.tg[c]? = some (tgA T c):=by
 unfold tgA;rw [List.getElem?_eq_getElem hc,Option.getD_some]
theorem a1c(r0 c:Nat)(p q:List Nat)(e:BF.walk (stp T) r0 p=BF.walk (stp T) r0 q):hit T r0 (c::p)↔hit T r0 (c::q):=by
 unfold hit;simp only [BF.walk,e,ne_eq,List.cons_ne_nil,not_false_eq_true,true_and]
theorem ai8(r0:Nat):¬ hit T r0 []:=λz=>z.1 rfl
end
def fnd(T:Table)(r0:Nat)(ws:List (List Nat)):List D:=ws.map λw=>.tup [bu (BF.walk (stp T) r0 w), .str (S (sgn T w))]
def snn(T:Table)(r0:Nat)(ws:List (List Nat)):List (Key × D):=ws.map λw=>(.inl ((BF.walk (stp T) r0 w:Nat):Int), .bl true)
theorem aqj{T:Table}{r0 to:Nat}{ws:List (List Nat)}(h:∃ v∈ws,BF.walk (stp T) r0 v=to):∃ d,a3l (snn T r0 ws) (.inl (to:Int))=some d:=by
 obtain ⟨v,hv,e⟩:=h;unfold a3l
 cases e2:(snn T r0 ws).find? λkv=>decide (kv.1=(.inl (to:Int):Key)) with
 | some kv=>exact ⟨kv.2,rfl⟩
 | none =>
  rw [List.find?_eq_none] at e2;exact absurd (by rw [decide_eq_true_iff,e]) (e2 _ (List.mem_map.mpr ⟨v,hv,rfl⟩))
theorem av8{T:Table}{r0 to:Nat}{ws:List (List Nat)}(h:∀ v∈ws,BF.walk (stp T) r0 v≠to):a3l (snn T r0 ws) (.inl (to:Int))=none/\putD (snn T r0 ws) (.inl (to:Int)) (.bl true)=snn T r0 ws++[(.inl (to:Int), .bl true)]:=by
 have no:∀ kv∈snn T r0 ws,¬ decide (kv.1=(.inl (to:Int):Key))=true:=λkv hkv=>by
  obtain ⟨v,hv,rfl⟩:=List.mem_map.mp hkv;rw [decide_eq_true_iff]
  intro z
  have:=Sum.inl.inj z
  exact h v hv (by omega)
 constructor
 ·unfold a3l;rw [List.find?_eq_none.mpr no];rfl
 ·unfold putD;rw [if_neg]
  intro z
  obtain ⟨kv,hkv,e⟩:=List.any_eq_true.mp z;exact no kv hkv e
abbrev tau(T:Table)(r0 l:Nat)(t8 t9 t10 t11:Option D):Sd:=[some T.d,some (bu r0),some (.str (S T.tg)),some (.tup (T.go.map a8x)),some (.tup (T.ks.map D.int)),some (.ref 0),some (.ref 1),some (bu l),t8,t9,t10,t11]
abbrev hp(T:Table)(r0:Nat)(ws:List (List Nat)):Hd:=[.lst (fnd T r0 ws), .dK (snn T r0 ws)]
theorem few(T:Table)(h:T.Ok){r0 F:Nat}{ws:List (List Nat)}(hr:r0<T.go.length)(St:BF.St T.tg.length (stp T) r0 (hit T r0) ws F):ws.length<=T.go.length:=by
 have:=BF.a1b T.go.length (ws.map λw=>BF.walk (stp T) r0 w) (List.pairwise_map.mpr St.dis) λx hx=>by
  obtain ⟨w,_,rfl⟩:=List.mem_map.mp hx;exact a92 h hr w
 simpa using this
def Won(T:Table)(r0:Nat)(d:D):Prop:=∃ w,BF.Ok T.tg.length w/\hit T r0 w/\(∀ v,BF.Ok T.tg.length v->hit T r0 v->BF.num T.tg.length w<=BF.num T.tg.length v)/\w.length<=T.go.length/\d = .str (S (sgn T w))
theorem ai9{T:Table}(h:T.Ok){r0 l c:Nat}{ws:List (List Nat)}{w:List Nat}(hr:r0<T.go.length)(hl:ws[l]? = some w)(hc:c<T.tg.length)(St:BF.St T.tg.length (stp T) r0 (hit T r0) ws (BF.num T.tg.length w*T.tg.length+c+1))(τ:Sd)
  (hτ:τ=tau T r0 l (some (bu (BF.walk (stp T) r0 w))) (some (.str (S (sgn T w)))) (some (.str (S [tgA T c]))) (some (bu (stp T (BF.walk (stp T) r0 w) c)))) :
  (∃ ws',ju τ (hp T r0 ws) = .nx τ (hp T r0 ws')/\(∀ v∈ws,v∈ws')/\ws'[l]? = some w/\BF.St T.tg.length (stp T) r0 (hit T r0) ws' (BF.num T.tg.length w*T.tg.length+(c+1)+1)) \/
  ∃ d h',ju τ (hp T r0 ws) = .rt d h'/\Won T r0 d:=by
 have n32:=h.n32;have fw:=few T h hr St;have ll:=(List.getElem?_eq_some_iff.mp hl).1;have wl:=St.len l w hl;have rl:=a92 h hr w;have wo:BF.Ok T.tg.length (c::w):=BF.Ok.cons hc (St.ok w (List.mem_of_getElem? hl));have sl:=a7m h (BF.walk (stp T) r0 w) c;obtain ⟨k,hk,k1,kd⟩:=alf h sl;have add:∀ hh,j6 (.str (S (sgn T w))) (.str (S [tgA T c])) hh = .ok (.str (S (sgn T (c::w)))) hh:=λhh=>by
  rw [adm];exact a04 (gq (by rw [a91];simp;omega))
 have ki:∀ hh,gIx (.tup (T.ks.map D.int)) (bu (stp T (BF.walk (stp T) r0 w) c)) hh = .ok (.int k) hh:=λhh=>a6y (by rw [List.getElem?_map,hk];rfl)
 by_cases hz:k = -1
 ·have nh:¬ hit T r0 (c::w):=λz=>by
   have:=z.2
   rw [BF.walk,kd,hz] at this;simp at this
  have s1:∀ g:SS,j7 (sIf (sT (s2 hNe (s2 gIx (sV 4) (sV 11)) (s1 a6t (sC (.int 1))))) (qj (s2 j6 (sV 9) (sV 10))) sNx) g τ (hp T r0 ws)=g τ (hp T r0 ws):=λg=>by
   subst hτ;exact ifN (tof (dm (dm (au rfl) (au rfl) (ki _)) (al7 (ig _ _ _) (a8s _)) (aqb hz)))
  refine .inl ?_
  by_cases sn:∃ v∈ws,BF.walk (stp T) r0 v=stp T (BF.walk (stp T) r0 w) c
  ·obtain ⟨d,hd⟩:=aqj sn;refine ⟨ws,?_,λv hv=>hv,hl,St.seen wo rfl nh sn⟩;unfold ju;rw [s1];have q:aep true (bu (stp T (BF.walk (stp T) r0 w) c)) (.ref 1) (hp T r0 ws) = .ok (.bl false) (hp T r0 ws):=by
    show (match (some (a3l (snn T r0 ws) (.inl ((stp T (BF.walk (stp T) r0 w) c:Nat):Int))):Option (Option D)) with | some r=>R.ok (D.bl (if true then !r.isSome else r.isSome)) (hp T r0 ws) | none=>.no)=_
    rw [hd];rfl
   subst hτ;exact ifF (tof (dm (au rfl) (au rfl) q))
  ·have sn':∀ v∈ws,BF.walk (stp T) r0 v≠stp T (BF.walk (stp T) r0 w) c:=λv hv z=>sn ⟨v,hv,z⟩;obtain ⟨d1,d2⟩:=av8 sn';refine ⟨ws++[c::w],?_,λv hv=>List.mem_append_left _ hv,by rw [List.getElem?_append_left ll];exact hl,St.add wo rfl nh sn' (by rw [List.length_cons];omega)⟩
   unfold ju;rw [s1];have q:aep true (bu (stp T (BF.walk (stp T) r0 w) c)) (.ref 1) (hp T r0 ws) = .ok (.bl true) (hp T r0 ws):=by
    show (match (some (a3l (snn T r0 ws) (.inl ((stp T (BF.walk (stp T) r0 w) c:Nat):Int))):Option (Option D)) with | some r=>R.ok (D.bl (if true then !r.isSome else r.isSome)) (hp T r0 ws) | none=>.no)=_
    rw [d1];rfl
   have p:amu (.ref 1) (bu (stp T (BF.walk (stp T) r0 w) c)) (.bl true) (hp T r0 ws)=some [.lst (fnd T r0 ws), .dK (snn T r0 (ws++[c::w]))]:=by
    have lt:(snn T r0 ws).length<LINE:=a1l (by unfold snn;rw [List.length_map];omega)
    show (if (snn T r0 ws).length<LINE then some [O.lst (fnd T r0 ws),O.dK (putD (snn T r0 ws) (.inl ((stp T (BF.walk (stp T) r0 w) c:Nat):Int)) (.bl true))] else none)=_
    rw [if_pos lt,d2];unfold snn;rw [List.map_append];rfl
   subst hτ;refine Eq.trans (ifT (tof (dm (au rfl) (au rfl) q))) ?_;refine Eq.trans (ux (ahs (ig _ _ _) (au rfl) (au rfl) p)) ?_;refine Eq.trans (a4g (au rfl) rfl (arg1 (yt (au rfl) (dm (au rfl) (au rfl) (add _)) arf)) (a4h (xs:=fnd T r0 ws) rfl (a1l (by unfold fnd;rw [List.length_map];omega)))) ?_
   unfold hp fnd;rw [List.map_append];rfl
 ·refine .inr ⟨_,hp T r0 ws,?_,c::w,wo,⟨by simp,by rw [BF.walk,kd];simpa using hz⟩,λv ov hv=>?_,by rw [List.length_cons];omega,rfl⟩
  ·subst hτ;unfold ju;exact a4y (Eq.trans (ifT (tof (dm (dm (au rfl) (au rfl) (ki _)) (al7 (ig _ _ _) (a8s _)) (auh hz)))) (n6 (dm (au rfl) (au rfl) (add _))))
  ·exact St.least ov hv
theorem aia{T:Table}{r:Nat}{row:List Nat}(l:row.length=T.tg.length)(at':∀ c,c<T.tg.length->row[c]? = some (stp T r c)) :
  ((yo (S T.tg)).zip (row.map bu)).map (λp=>D.tup [p.1,p.2])=(List.range T.tg.length).map λc=>.tup [.str (S [tgA T c]),bu (stp T r c)]:=by
 refine List.ext_getElem? λi=>?_;unfold yo;rw [zb]
 by_cases hi:i<T.tg.length
 ·have hx:=at' i hi;have ht:=af3 (T:=T) hi;rw [List.getElem?_map,List.getElem?_map,List.getElem?_range hi,List.getElem?_zip_eq_some (z:=(D.str (S [tgA T i]),bu (stp T r i))).mpr ⟨by rw [List.getElem?_map,ht];rfl,by rw [List.getElem?_map,hx];rfl⟩]
  rfl
 ·rw [List.getElem?_eq_none (by simp;omega),List.getElem?_eq_none (by simp;omega)]
noncomputable def d9:SF:=oh v9 12
theorem a1d{T:Table}(h:T.Ok){r0:Nat}(hr:r0<T.go.length):∃ d h',d9 [T.d,bu r0] [] = .ok d h'/\(Won T r0 d\/(d = .non/\∀ v,BF.Ok T.tg.length v->¬ hit T r0 v)):=by
 have n32:=h.n32;have s1:=h.tong.lo;have s6:=h.tong.hi;have wh:=apx (c:=qz) (f:=nj)
  (λm τ hh=>∃ (ws:List (List Nat)) (l:Nat) (t8 t9 t10 t11:Option D),τ=tau T r0 l t8 t9 t10 t11/\hh=hp T r0 ws/\[]∈ws/\m=T.go.length - l/\ws.length<=T.go.length/\((∃ w,ws[l]? = some w/\BF.St T.tg.length (stp T) r0 (hit T r0) ws (BF.num T.tg.length w*T.tg.length+1))\/(l=ws.length/\∀ v,BF.Ok T.tg.length v->¬ hit T r0 v)))
  (λ_ _=>∀ v,BF.Ok T.tg.length v->¬ hit T r0 v) (λd _=>Won T r0 d) ?_ T.go.length 100000 (tau T r0 0 none none none none) (hp T r0 [[]]) (by omega)
  ⟨[[]],0,none,none,none,none,rfl,rfl,by simp,by simp,by simpa using h.n1, .inl ⟨[],rfl,by simpa [BF.num] using BF.St.start (ai8 r0)⟩⟩
 ·have e0:d9 [T.d,bu r0] []=toR (j7 (sWh qz nj 100000) (qj (sC .non)) (tau T r0 0 none none none none) (hp T r0 [[]])):=by
   unfold d9;rw [j9];show toR (v9 [some T.d,some (bu r0),none,none,none,none,none,none,none,none,none,none] [])=_;unfold v9;refine congrArg toR ?_;refine Eq.trans (ux (a6x (au rfl) rfl)) ?_;refine Eq.trans (jy (yg (yt (au rfl) (ig _ _ _) arf) rfl)) ?_;refine Eq.trans (jy (dm (au rfl) (ig _ _ _) rfl)) ?_;exact Eq.trans (jy (ig _ _ _)) rfl
  rcases wh with ⟨τ',h',e,no⟩ | ⟨d,h',e,won⟩
  ·exact ⟨.non,h',by rw [e0,ux e];rfl, .inr ⟨rfl,no⟩⟩
  ·exact ⟨d,h',by rw [e0,a4y e];rfl, .inl won⟩
 ·rintro m τ hh ⟨ws,l,t8,t9,t10,t11,rfl,rfl,em,rfl,wn,q⟩
  have ln:vh [.ref 0] (hp T r0 ws) = .ok (.int (ws.length:Nat)) (hp T r0 ws):=by
   have:=a8r (h:=hp T r0 ws) (i:=0) (xs:=fnd T r0 ws) rfl
   rwa [show (fnd T r0 ws).length=ws.length from by simp [fnd]] at this
  rcases q with ⟨w,hw,St⟩ | ⟨rfl,no⟩
  ·have ll:=(List.getElem?_eq_some_iff.mp hw).1;refine .inr ⟨_,tof (dm (au rfl) (yg (au rfl) ln) (aqa (by omega))),?_⟩
   obtain ⟨row,er,lr,lx,at'⟩:=ai7 h (a92 h hr w);have lo:=zg (g:=a2x 2 (jn (kN 10) (jn (kN 11) a2w))) (b:=ju) (λc:Nat=>D.tup [.str (S [tgA T c]),bu (stp T (BF.walk (stp T) r0 w) c)])
    (λpre τ hh=>∃ (ws:List (List Nat)) (t10 t11:Option D),τ=tau T r0 l (some (bu (BF.walk (stp T) r0 w))) (some (.str (S (sgn T w)))) t10 t11/\hh=hp T r0 ws/\[]∈ws/\ws[l]? = some w/\BF.St T.tg.length (stp T) r0 (hit T r0) ws (BF.num T.tg.length w*T.tg.length+pre.length+1))
    (λd _=>Won T r0 d) (List.range T.tg.length) [] (tau T r0 l (some (bu (BF.walk (stp T) r0 w))) (some (.str (S (sgn T w)))) t10 t11) (hp T r0 ws) ?_ ⟨ws,t10,t11,rfl,rfl,em,hw,St⟩
   ·have fx:gIx (.ref 0) (bu l) (hp T r0 ws) = .ok (.tup [bu (BF.walk (stp T) r0 w), .str (S (sgn T w))]) (hp T r0 ws):=yu (xs:=fnd T r0 ws) rfl (by unfold fnd;rw [List.getElem?_map,hw];rfl)
    have zi:ah1 (sV 2) (s2 gIx (sV 3) (sV 8)) (tau T r0 l (some (bu (BF.walk (stp T) r0 w))) (some (.str (S (sgn T w)))) t10 t11) (hp T r0 ws) = .ok ⟨(List.range T.tg.length).map λc=>.tup [.str (S [tgA T c]),bu (stp T (BF.walk (stp T) r0 w) c)],λ_=>True⟩ (hp T r0 ws):=by
     unfold ah1;rw [au rfl,d7,dm (au rfl) (au rfl) (a6y (by rw [List.getElem?_map,er];rfl)),d7,<-aia lr at']
     unfold ar7;simp only [srcOf,and_self]
    have e1:∀ g:SS,j7 (a6u (s2 gIx (sV 5) (sV 7)) (a2x 2 (jn (kN 8) (jn (kN 9) a2w)))) (j7 (a2g (ah1 (sV 2) (s2 gIx (sV 3) (sV 8))) (a2x 2 (jn (kN 10) (jn (kN 11) a2w))) ju) g) (tau T r0 l t8 t9 t10 t11) (hp T r0 ws)=thn (forL (λ_=>True) (a2x 2 (jn (kN 10) (jn (kN 11) a2w))) ju ((List.range T.tg.length).map λc=>.tup [.str (S [tgA T c]),bu (stp T (BF.walk (stp T) r0 w) c)]) (tau T r0 l (some (bu (BF.walk (stp T) r0 w))) (some (.str (S (sgn T w)))) t10 t11) (hp T r0 ws)) g:=λg=>by
     refine Eq.trans (ux (a6x (dm (au rfl) (au rfl) fx) rfl)) ?_;exact a09 zi
    rcases lo with ⟨τ',h',e2,ws',t10',t11',rfl,rfl,em',hw',St'⟩ | ⟨d,h',e2,won⟩
    ·rw [List.nil_append,List.length_range] at St';have wn':=few T h hr St';have ll':=(List.getElem?_eq_some_iff.mp hw').1;refine .inl ⟨tau T r0 (l+1) (some (bu (BF.walk (stp T) r0 w))) (some (.str (S (sgn T w)))) t10' t11',hp T r0 ws',T.go.length - (l+1),?_,by omega,ws',l+1,_,_,_,_,rfl,rfl,em',rfl,wn',?_⟩
     ·unfold nj;rw [e1,e2,a1x];exact al8 rfl (ig _ _ _) a0z
     ·by_cases more:l+1<ws'.length
      ·exact .inl ⟨ws'[l+1],List.getElem?_eq_getElem more,St'.next (by omega) hw' (List.getElem?_eq_getElem more) (a1c r0)⟩
      ·exact .inr ⟨by omega,λv ov=>(St'.all hw' (by omega) (ai8 r0) em' (a1c r0) v ov).1⟩
    ·refine .inr ⟨d,h',?_,won⟩;unfold nj;rw [e1,e2,aae]
   ·rintro pre c post τ hh all ⟨ws,t10,t11,rfl,rfl,em,hw,St⟩
    rw [List.nil_append] at all;obtain ⟨hi,hc⟩:=uy all;rw [<-hi] at St;refine ⟨_,_,rfl,?_⟩
    rcases ai9 h hr hw hc St _ rfl with ⟨ws',e3,sb,hw',St'⟩ | ⟨d,h',e3,won⟩
    ·refine .inl ⟨_,_,e3,ws',_,_,rfl,rfl,sb _ em,hw',by rw [List.length_append,List.length_singleton,<-hi];exact St'⟩
    ·exact .inr ⟨d,h',e3,won⟩
  ·refine .inl ⟨_,tof (dm (au rfl) (yg (au rfl) ln) (ard (by omega))),no⟩
section
variable{T:Table}
abbrev FL(T:Table)(k r:Nat):Bool:=BF.fl T.tg.length (stp T) (knd T) k r
theorem av9(h:T.Ok){r:Nat}(hr:r<T.go.length):T.go[r]? = some ((List.range T.tg.length).map (stp T r)):=by
 obtain ⟨row,e,l,_,at'⟩:=ai7 h hr;rw [e]
 congr 1
 refine List.ext_getElem? λi=>?_
 by_cases hi:i<T.tg.length
 ·rw [at' i hi,List.getElem?_map,List.getElem?_range hi];rfl
 ·rw [List.getElem?_eq_none (by omega),List.getElem?_eq_none (by simp;omega)]
def kI(T:Table)(r:Nat):Int:=(T.ks[r]?).getD (-1)
abbrev ayz(T:Table)(r:Nat):D:=a8x ((List.range T.tg.length).map (stp T r))
theorem aib{α:Type}(l:List α)(x:α):atI (l++[x]) (-1)=some x:=by
 have:ixN (l++[x]).length (-1)=some l.length:=by
  unfold ixN;rw [if_neg (by decide),List.length_append,List.length_singleton]
  rw [if_pos (by omega)]
  congr 1
  omega
 unfold atI;rw [this];simp
end
section
variable{T:Table}
def alg(T:Table)(r:Nat):Option Nat:=(List.range T.go.length).find? λi=>FL T (1+i) r
def gtx(T:Table)(k r:Nat):List Nat:=(BF.gre T.tg.length (stp T) (knd T) k r).map (tgA T)
def A(T:Table)(r:Nat):D:=match alg T r with | none=>.non | some i=>.str (S (gtx T (1+i) r))
theorem aic(h:T.Ok){r:Nat}{d:D}(w:Won T r d\/(d = .non/\∀ v,BF.Ok T.tg.length v->¬ hit T r v)):d=A T r:=by
 have s1:=h.tong.lo;unfold A
 rcases w with ⟨w,wo,wh,wl,wn,rfl⟩ | ⟨rfl,no⟩
 ·have w1:w.length≠0:=λz=>wh.1 (List.length_eq_zero_iff.mp z);have fw:FL T w.length r=true:=by
   have:=BF.ale (s:=T.tg.length) (step:=stp T) (K:=knd T) (u:=w.reverse) (r:=r) (by rw [List.reverse_reverse];exact wo) (by rw [List.reverse_reverse];exact wh.2)
   rwa [List.length_reverse] at this
  cases e:alg T r with
  | none =>
   unfold alg at e;rw [List.find?_eq_none] at e;have:=e (w.length - 1) (by rw [List.mem_range];omega)
   rw [show 1+(w.length - 1)=w.length by omega] at this
   exact absurd fw this
  | some i =>
   unfold alg at e;obtain ⟨fi,hi,lo⟩:=List.find?_range_eq_some.mp e;obtain ⟨gl,go,gh⟩:=BF.aaq fi;have ghit:hit T r (BF.gre T.tg.length (stp T) (knd T) (1+i) r).reverse:=⟨λz=>by
    have:=congrArg List.length z
    simp [gl] at this,gh⟩
   have le:1+i<=w.length:=by
    refine Nat.le_of_not_lt λz=>?_;have:=lo (w.length - 1) (by omega)
    rw [show 1+(w.length - 1)=w.length by omega,fw] at this
    simp at this
   have n1:=wl _ go ghit;have eq:w.length=1+i:=by
    refine Nat.le_antisymm (Nat.le_of_not_lt λz=>?_) le;have:=BF.a7j (s:=T.tg.length) (by omega) (x:=(BF.gre T.tg.length (stp T) (knd T) (1+i) r).reverse) (y:=w) (by rw [List.length_reverse,gl];exact z) go
    omega
   have n2:=BF.aar (s:=T.tg.length) (step:=stp T) (K:=knd T) (u:=w.reverse) (r:=r) (by rw [List.reverse_reverse];exact wo) (by rw [List.reverse_reverse];exact wh.2)
   rw [List.length_reverse,List.reverse_reverse,eq] at n2;have:=BF.a8y wo go (by omega)
   dsimp only;unfold gtx sgn
   conv=>lhs;rw [this,List.reverse_reverse]
 ·cases e:alg T r with
  | none=>rfl
  | some i =>
   unfold alg at e;obtain ⟨fi,hi,lo⟩:=List.find?_range_eq_some.mp e;obtain ⟨gl,go,gh⟩:=BF.aaq fi;exact (no _ go ⟨λz=>by
    have:=congrArg List.length z
    simp [gl] at this,gh⟩).elim
theorem aqk(n r:Nat):clo n (A T r):=by
 unfold A
 cases alg T r with
 | none=>exact abp
 | some i=>exact jq _
theorem ava{n:Nat}(d:D)(hd:clo 0 d):∀ x∈[T.d,d],clo 0 x:=by
 intro x hx
 simp only [List.mem_cons,List.not_mem_nil,or_false] at hx
 rcases hx with rfl | rfl
 ·exact Table.clo
 ·exact hd
theorem aas(h:T.Ok){r:Nat}(hr:r<T.go.length):Pu d9 2 [T.d,bu r] (A T r):=by
 obtain ⟨d,h',e,q⟩:=a1d h hr;have:=aic h q;subst this;exact Pu.of rfl (ava (n:=0) _ (jw _)) e (jx (aqk _ _) (by simp)) (aqk _ _)
theorem aid(h:T.Ok){r:Nat}(hr:r<T.go.length)(hh:Hd):gIx (.tup (T.go.map a8x)) (bu r) hh = .ok (ayz T r) hh:=a6y (by rw [List.getElem?_map,av9 h hr];rfl)
end
end K22
namespace K23
open PySem PySem.Spec L2 MI AT HND K22
section
variable{T:Table}
def Pln:D->Prop
 | .non=>True | .bl _=>True | .int _=>True | .str x=>x.cps.toList.length<=1000 | .tup xs=>clos 0 xs | .rol xs=>clos 0 xs | .rod _ xs=>clos 0 xs | _=>False
theorem Pln.clo{d:D}(p:Pln d):clo 0 d:=by
 cases d<;>first | (simp only [Pln] at p;done) | (simp only [Pln] at p;simpa [MI.clo] using p) | simp [MI.clo]
def isStr:D->Bool | .str _=>true | _=>false
def isTup:D->Bool | .tup _=>true | _=>false
theorem alh{d:D}{h:Hd}(p:Pln d):a6k [d, .ty "str"] h = .ok (.bl (isStr d)) h:=by
 cases d<;>first | (simp only [Pln] at p;done) | simp [a6k,ato,tyD,apa,isStr]
theorem axx{d:D}{h:Hd}(p:Pln d):a6k [d, .ty "tuple"] h = .ok (.bl (isTup d)) h:=by
 cases d<;>first | (simp only [Pln] at p;done) | simp [a6k,ato,tyD,apa,isTup]
def psn(T:Table)(c:Nat):Nat:=(a3s (S T.tg) c).toNat
def ldw(T:Table)(r:Nat):List Nat->Nat
 | []=>r
 | c::l=>ldw T (stp T r (psn T c)) l
theorem a7n{c:Nat}(hc:c∈T.tg):a3s (S T.tg) c=(psn T c:Nat)/\psn T c<T.tg.length:=by
 obtain ⟨i,e1,e2,_⟩:=a7z (T:=S T.tg) (c:=c) (by rw [zb];exact hc)
 rw [zb] at e2;unfold psn;rw [e1];exact ⟨by simp,by simpa using (List.getElem?_eq_some_iff.mp e2).1⟩
theorem yw(h:T.Ok):∀ (l:List Nat) {r:Nat},r<T.go.length->ldw T r l<T.go.length
 | [],_,hr=>hr
 | c::l,r,_=>yw h l (a7m h r _)
theorem a1e(c:Nat):∀ (l:List Nat) (r:Nat),ldw T r (l++[c])=stp T (ldw T r l) (psn T c)
 | [],_=>rfl
 | d::l,r=>a1e c l _
theorem amy(l:List Nat)(h:Hd):aj5 (.str (S l)) h = .ok ⟨l.map λc=>.str (S [c]),λ_=>True⟩ h:=by
 show R.ok (⟨yo (S l),λ_=>True⟩:Itm) _=_;unfold yo;rw [zb]
theorem anb{c:Nat}(hc:c∈T.tg)(h:Hd):aei (.str (S T.tg)) [.str (S [c])] h = .ok (bu (psn T c)) h:=by
 show R.ok (D.int (a3s (S T.tg) c)) h=_;rw [(a7n hc).1]
theorem aql{c:Nat}(hc:c∈T.tg)(h:Hd):aa4 (.str (S T.tg)) [.str (S [c])] h = .ok (bu (psn T c)) h:=by
 show (if c∈(S T.tg).cps.toList then R.ok (D.int (a3s (S T.tg) c)) h else .no)=_
 rw [if_pos (by rw [zb];exact hc),(a7n hc).1]
theorem aw9{g:D->List D->Hd->R D}{f:SE}{k:SA}{τ:Sd}{h h1 h2 h3:Hd}{z:Str}{ds:List D}{v:D}(e1:f τ h = .ok (.str z) h1)(e2:k τ h1 = .ok ds h2)(e3:g (.str z) ds h2 = .ok v h3):sMS g f k τ h = .ok v h3:=by
 unfold sMS;rw [e1,d7];dsimp only;rw [e2,d7,e3]
theorem aqm(h:T.Ok){r c:Nat}(hc:c<T.tg.length)(hh:Hd):gIx (ayz T r) (bu c) hh = .ok (bu (stp T r c)) hh:=a6y (by rw [List.getElem?_map,List.getElem?_map,List.getElem?_range hc];rfl)
theorem aqn{d e:D}(hd:clo 0 d)(he:clo 0 e):∀ x∈[T.d,d,e],clo 0 x:=by
 intro x hx
 simp only [List.mem_cons,List.not_mem_nil,or_false] at hx
 rcases hx with rfl | rfl | rfl
 ·exact Table.clo
 ·exact hd
 ·exact he
noncomputable def dw:SF:=oh qu 8
noncomputable def iy:SF:=oh (vf dw) 3
def rms(T:Table)(r:Nat)(l:List Nat):List Nat:=(List.range (l.length+1)).map λi=>ldw T r (l.take i)
theorem ali(r c:Nat)(l:List Nat):rms T r (l++[c])=rms T r l++[ldw T r (l++[c])]:=by
 unfold rms;rw [List.length_append,List.length_singleton,List.range_succ (n:=l.length+1),List.map_append,List.map_singleton]
 congr 1
 ·refine List.map_congr_left λi hi=>?_;rw [List.mem_range] at hi;rw [List.take_append_of_le_length (by omega)]
 ·rw [List.take_of_length_le (by simp)]
theorem adn(r:Nat)(l:List Nat):∃ p,rms T r l=p++[ldw T r l]:=by
 unfold rms;rw [List.range_succ,List.map_append,List.map_singleton];exact ⟨_,by rw [List.take_of_length_le (Nat.le_refl _)]⟩
theorem ado(h:T.Ok){r:Nat}{l:List Nat}(hr:r<T.go.length)(hl:∀ c∈l,c∈T.tg)(ll:l.length<=1000):Pu dw 3 [T.d,bu r, .str (S l)] (.rol ((rms T r l).map bu)):=by
 refine Pu.of rfl (aqn (jw _) (jq _)) (r:=.ok (.ref 0) [.lst ((rms T r l).map bu)]) ?_ (a0n (Nat.le_refl _) rfl (kh _) (by simp)) (ut (kh _))
 unfold dw;rw [j9];show toR (qu [some T.d,some (bu r),some (.str (S l)),none,none,none,none,none] [])=_;unfold qu;refine Eq.trans (congrArg toR (ux (a6x (au rfl) rfl))) ?_;refine Eq.trans (congrArg toR (jy (d:=.ref 0) (h1:=[.lst ((rms T r []).map bu)]) rfl)) ?_;refine Eq.trans (congrArg toR (a09 (a5q (au rfl) (amy l _)))) ?_;have lp:=mz (g:=kN 7) (b:=qb) (λc:Nat=>D.str (S [c]))
  (λpre τ hh=>∃ t7:Option D,τ=[some T.d,some (bu r),some (.str (S l)),some (.str (S T.tg)),some (.tup (T.go.map a8x)),some (.tup (T.ks.map D.int)),some (.ref 0),t7]/\hh=[.lst ((rms T r pre).map bu)]) l
  [some T.d,some (bu r),some (.str (S l)),some (.str (S T.tg)),some (.tup (T.go.map a8x)),some (.tup (T.ks.map D.int)),some (.ref 0),none] [.lst ((rms T r []).map bu)] ?_ ⟨none,rfl,rfl⟩
 ·obtain ⟨τ',h',e,t7,rfl,rfl⟩:=lp;refine Eq.trans (congrArg (λz=>toR (thn z _)) e) ?_;rfl
 ·rintro pre c post τ hh all ⟨t7,rfl,rfl⟩
  have hc:=hl c (by rw [all];simp)
  have pl:pre.length<=l.length:=by rw [all];simp
  refine ⟨_,_,rfl,[some T.d,some (bu r),some (.str (S l)),some (.str (S T.tg)),some (.tup (T.go.map a8x)),some (.tup (T.ks.map D.int)),some (.ref 0),some (.str (S [c]))],[.lst ((rms T r (pre++[c])).map bu)],?_,_,rfl,rfl⟩;unfold qb;obtain ⟨p,ep⟩:=adn (T:=T) r pre;have last:∀ hh:Hd,hh[0]? = some (.lst ((rms T r pre).map bu))->gIx (.ref 0) (.int (-1)) hh = .ok (bu (ldw T r pre)) hh:=λhh e0=>by
   rw [a7h];unfold a0b;simp only [e0];rw [ep,List.map_append,List.map_singleton,aib]
  refine Eq.trans (a4g (v:=.non) (au rfl) rfl (arg1 (dm (dm (au rfl) (dm (au rfl) (al7 (ig _ _ _) (a8s _)) (last _ rfl)) (aid h (yw h pre hr) _)) (aw9 (au rfl) (arg1 (au rfl)) (aql hc _)) (aqm h (a7n hc).2 _))) (a4h (xs:=(rms T r pre).map bu) rfl (a1l (by simp [rms];omega)))) ?_
  rw [ali,List.map_append,a1e];rfl
theorem aqo(h:T.Ok){r:Nat}{l:List Nat}(hr:r<T.go.length)(hl:∀ c∈l,c∈T.tg)(ll:l.length<=1000):Pu iy 3 [T.d,bu r, .str (S l)] (bu (ldw T r l)):=by
 refine Pu.of rfl (aqn (jw _) (jq _)) (r:=.ok (bu (ldw T r l)) []) ?_ (jx (jw _) (by simp)) (jw _)
 unfold iy;rw [j9];show toR (vf dw [some T.d,some (bu r),some (.str (S l))] [])=_;unfold vf;obtain ⟨p,ep⟩:=adn (T:=T) r l;refine congrArg toR (n6 (dm (aal (au rfl) (au rfl) (au rfl) (ado h hr hl ll _)) (al7 (ig _ _ _) (a8s _)) ?_));rw [a7g,ep,List.map_append,List.map_singleton,aib]
noncomputable def lq:SF:=oh sr 2
def inT(T:Table)(l:List Nat):Bool:=l.all λc=>decide (c∈T.tg)
theorem anc(bs:List Bool)(h:Hd):aj8 [.rol (bs.map D.bl)] h = .ok (.bl (bs.all id)) h:=by
 unfold aj8;simp only [ak5]
theorem alj{l:List Nat}(ll:l.length<=1000){ce:SE}(hce:∀ c:Nat,ce [some (.str (S [c])),some (.str (S T.tg))] [] = .ok (.bl (decide (c∈T.tg))) []){τ:Sd}(h1:τ[1]? = some (some (.str (S l))))(h0:τ[0]? = some (some (.str (S T.tg)))) :
  sA aj8 (ak (sZ (m9 (sIt (sV 1)) t1 ce [0])) di) τ [] = .ok (.bl (inT T l)) []:=by
 have cz:sZ (m9 (sIt (sV 1)) t1 ce [0]) τ [] = .ok (.rol ((l.map λc=>decide (c∈T.tg)).map D.bl)) []:=by
  rw [List.map_map];refine yz (uw (λc:Nat=>D.str (S [c])) (λc=>.bl (decide (c∈T.tg))) l (a5q (au h1) (amy l _)) (gq (by omega)) λc _=>?_) (jd λc _=>mj _) (by simp)
  rw [vg,a2s,a6m,h0];exact hce c
 refine yg cz ?_;rw [anc]
 congr 2
 unfold inT;rw [List.all_map];rfl
theorem aqp(c:Nat)(h:Hd):gIn false (.str (S [c])) (.str (S T.tg)) h = .ok (.bl (decide (c∈T.tg))) h:=by
 show R.ok (D.bl (decide (c∈(S T.tg).cps.toList))) h=_;rw [zb]
theorem aie{l:List Nat}(ll:l.length<=1000):Pu lq 2 [.str (S T.tg), .str (S l)] (.bl (inT T l)):=by
 refine Pu.of rfl (by intro x hx;simp only [List.mem_cons,List.not_mem_nil,or_false] at hx;rcases hx with rfl | rfl<;>exact jq _) (r:=.ok (.bl (inT T l)) []) ?_ (jx (mj _) (by simp)) (mj _)
 unfold lq;rw [j9];show toR (sr [some (.str (S T.tg)),some (.str (S l))] [])=_;unfold sr;exact congrArg toR (n6 (auf (yt (au rfl) (ig _ _ _) (alh (d:=.str (S l)) (by simp only [Pln,zb];exact ll))) (alj ll (λc=>dm (au rfl) (au rfl) (aqp c _)) rfl rfl)))
theorem axy{f k:SE}{τ:Sd}{h h1:Hd}(e:f τ h = .ok (.bl false) h1):a2t f k τ h = .ok (.bl false) h1:=by unfold a2t;rw [e,d7]
theorem aif{d:D}(p:Pln d)(ns:isStr d=false):Pu lq 2 [.str (S T.tg),d] (.bl false):=by
 refine Pu.of rfl (by intro x hx;simp only [List.mem_cons,List.not_mem_nil,or_false] at hx;rcases hx with rfl | rfl;exact jq _;exact p.clo) (r:=.ok (.bl false) []) ?_ (jx (mj _) (by simp)) (mj _)
 unfold lq;rw [j9];show toR (sr [some (.str (S T.tg)),some d] [])=_;unfold sr;exact congrArg toR (n6 (axy (yt (au rfl) (ig _ _ _) (by rw [alh p,ns]))))
end
end K23
namespace K21
open PySem PySem.Spec L2 MI AT HND K22 K23 EVX
section
variable{T:Table}
noncomputable def lq:SF:=oh sr 2
def txt(T:Table):D->Bool
 | .str x=>inT T x.cps.toList
 | _=>false
theorem aig(l:List Nat):txt T (.str (S l))=inT T l:=by simp only [txt,zb]
theorem af4{d:D}(p:Pln d):Pu lq 2 [.str (S T.tg),d] (.bl (txt T d)):=by
 by_cases sd:isStr d=true
 ·obtain ⟨x,rfl⟩:∃ x,d = .str x:=by cases d<;>first | exact ⟨_,rfl⟩ | (simp [isStr] at sd)
  have ll:x.cps.toList.length<=1000:=p;rw [<-aet x] at ll ⊢;rw [zb] at ll;rw [aig];exact K23.aie ll
 ·have sd':isStr d=false:=by simpa using sd
  have:txt T d=false:=by cases d<;>first | rfl | (simp [isStr] at sd)
  rw [this];exact K23.aif p sd'
theorem a6w{a b:D}(ha:MI.clo 0 a)(hb:MI.clo 0 b):∀ x∈[a,b],MI.clo 0 x:=by
 intro x hx
 simp only [List.mem_cons,List.not_mem_nil,or_false] at hx
 rcases hx with rfl | rfl
 ·exact ha
 ·exact hb
theorem aih{a b c:D}(ha:MI.clo 0 a)(hb:MI.clo 0 b)(hc:MI.clo 0 c):∀ x∈[a,b,c],MI.clo 0 x:=by
 intro x hx
 simp only [List.mem_cons,List.not_mem_nil,or_false] at hx
 rcases hx with rfl | rfl | rfl
 ·exact ha
 ·exact hb
 ·exact hc
theorem a93(h:Hd):gIx T.d (.int 2) h = .ok (.tup (T.ks.map D.int)) h:=a6y (j:=2) rfl
theorem af5{l:List Nat}(ll:l.length<=1000):Pln (.str (S l)):=by simp only [Pln,zb];exact ll
theorem a4j(h:T.Ok){r:Nat}(hr:r<T.go.length)(hh:Hd):gIx (.tup (T.ks.map D.int)) (bu r) hh = .ok (.int (kI T r)) hh:=by
 obtain ⟨k,e,_⟩:=alf h hr;exact a6y (by rw [List.getElem?_map,e];simp [kI,e])
end
section
variable{T:Table}
abbrev ones(t:List Nat):List D:=t.map λc=>.str (S [c])
theorem join_ones:∀ t:List Nat,Txt.join (S []) (t.map λc=>S [c])=S t:=by
 have e:∀ zs:List Str,Txt.join (S []) zs=Str.join (S []) zs:=PySem.StrLaws.glued_eq_join (S []);have st:∀ (x y:Str) (r:List Str),Str.join (S []) (x::y::r)=x++S []++Str.join (S []) (y::r):=λ_ _ _=>rfl
 intro t
 rw [e]
 induction t with
 | nil=>rfl
 | cons a t ih =>
  cases t with
  | nil=>rfl
  | cons b t =>
   rw [List.map_cons,List.map_cons,st,show S [b]::t.map (λc=>S [c])=(b::t).map (λc=>S [c]) from rfl,ih,aq6,aq6]
   rfl
theorem aat:∀ t:List Nat,abk (ones t)=some (t.map λc=>S [c])
 | []=>rfl
 | a::t=>by
  show (abk (ones t)).map _=_;rw [aat t];rfl
theorem alk(t:List Nat):((t.map λc=>S [c]).map (·.length)).sum=t.length:=by
 induction t with
 | nil=>rfl
 | cons a t ih=>rw [List.map_cons,List.map_cons,List.sum_cons,ih,aak,List.length_cons];simp;omega
theorem aii{t:List Nat}{h:Hd}(z:t.length<=1000000):aej (.str (S [])) [.rol (ones t)] h = .ok (.str (S t)) h:=by
 unfold aej;simp only [aat,alk,aak,List.length_nil,Nat.mul_zero,Nat.add_zero,join_ones];rw [if_pos (by omega)]
theorem b0h{f:SE}{τ:Sd}{h h':Hd}{xs:List D}(hl:h'.length=h.length)(e:f τ h = .ok (.ref h'.length) (h'++[.lst xs]))(cx:clos h.length xs)(c:∀ o∈h',a1o h.length o):sZ f τ h = .ok (.rol xs) h':=by
 unfold sZ;rw [e,a0n (by omega) (by simp) cx (by rw [<-hl];simpa [hl] using c)]
 rw [<-hl];simp
theorem alm{f:SE}{τ:Sd}{h h1:Hd}{i:Int}(e:f τ h = .ok (.int i) h1):oS f τ h = .ok (some i) h1:=by unfold oS;rw [e];rfl
theorem aln{f:SE}{lo hi:SO}{τ:Sd}{h h1 h2 h3 h4:Hd}{d v:D}{a b:Option Int}(e:f τ h = .ok d h1)(e1:lo τ h1 = .ok a h2)(e2:hi τ h2 = .ok b h3)(e3:aj9 d a b h3 = .ok v h4):a4w f lo hi τ h = .ok v h4:=by
 unfold a4w;rw [e,d7,e1,d7,e2,d7,e3]
theorem a5u(n:Nat)(l:List Nat):clos n (ones l):=jd λc _=>jq _
theorem a94(tg:List Nat):∀ l:List Nat,(l.filterMap λc=>if (!decide (c∈tg))=true then some (D.str (S [c])) else none)=ones (l.filter λc => !decide (c∈tg))
 | []=>rfl
 | c::l=>by
  have ih:=a94 tg l
  by_cases h:c∈tg
  ·rw [List.filterMap_cons_none (by rw [decide_eq_true h];rfl),List.filter_cons_of_neg (by simp [h]),ih]
  ·rw [List.filterMap_cons_some (b:=D.str (S [c])) (by rw [decide_eq_false h];rfl),List.filter_cons_of_pos (by simp [h]),ih]
   rfl
theorem ane(c:Nat)(t:List Nat)(h:Hd):gIn true (.str (S [c])) (.str (S t)) h = .ok (.bl (!decide (c∈t))) h:=by
 show R.ok (D.bl (!decide (c∈(S t).cps.toList))) h=_;rw [zb]
end
end K21
namespace SRC
open PySem PySem.Spec L2 MI AT HND EVX K22 K23 K21
section
variable{T:Table}
theorem kI0(h:T.Ok):kI T 0 = -1:=by unfold kI;rw [h.k0];rfl
end
end SRC
namespace K40
open PySem PySem.Spec L2 MI AT HND EVX K22 K23 K21
section
variable{τ:Sd}{h h1 h2:Hd}{c1 c2:ST}{f g k:SE}{p q:SS}
theorem awa{a b:Bool}(e1:c1 τ h = .ok a h)(e2:a=true->c2 τ h = .ok b h):a6a c1 c2 τ h = .ok (a && b) h:=by
 cases a with
 | true=>rw [al6 e1 (e2 rfl)];rfl
 | false=>rw [aue e1];rfl
theorem orB{a b:Bool}(e1:c1 τ h = .ok a h)(e2:a=false->c2 τ h = .ok b h):sOr c1 c2 τ h = .ok (a || b) h:=by
 cases a with
 | true=>rw [orT e1];rfl
 | false=>rw [orF e1 (e2 rfl)];rfl
theorem avb{a b:Bool}(e1:f τ h = .ok (.bl a) h)(e2:a=true->k τ h = .ok (.bl b) h):a2t f k τ h = .ok (.bl (a && b)) h:=by
 cases a with
 | true=>rw [auf e1 (e2 rfl)];rfl
 | false=>unfold a2t;rw [e1,d7];rfl
theorem awb(x y:Int):gGe (.int x) (.int y) h = .ok (.bl (decide (y<=x))) h:=rfl
theorem az0(x y:Int):gLt (.int x) (.int y) h = .ok (.bl (decide (x<y))) h:=rfl
theorem avc(x y:Int):hEq (.int x) (.int y) h = .ok (.bl (decide (x=y))) h:=by
 by_cases c:x=y
 ·rw [aam c,decide_eq_true c]
 ·rw [aey c,decide_eq_false c]
theorem az1(x y:Int):hNe (.int x) (.int y) h = .ok (.bl (decide (x≠y))) h:=by
 by_cases c:x=y
 ·rw [aqb c,decide_eq_false (by simpa using c)]
 ·rw [auh c,decide_eq_true c]
end
section
variable{T:Table}
def rw'(T:Table)(r:Nat):List Nat:=(T.go[r]?).getD []
theorem aau(h:T.Ok){r:Nat}(hr:r<T.go.length):T.go[r]? = some (rw' T r)/\(rw' T r).length<=6/\∀ x∈rw' T r,x<T.go.length:=by
 have e:T.go[r]? = some (rw' T r):=by unfold rw';rw [List.getElem?_eq_getElem hr];rfl
 obtain ⟨a,b⟩:=h.row _ (List.mem_of_getElem? e);exact ⟨e,by have:=h.tong.hi;omega,b⟩
theorem axz(h:T.Ok){r:Nat}(hr:r<T.go.length)(hh:Hd):gIx (.tup (T.go.map a8x)) (bu r) hh = .ok (a8x (rw' T r)) hh:=a6y (by rw [List.getElem?_map,(aau h hr).1];rfl)
theorem go1(h:Hd):gIx T.d (.int 1) h = .ok (.tup (T.go.map a8x)) h:=a6y (j:=1) rfl
theorem a7o(h:T.Ok){r:Nat}(hr:r<T.go.length) : -1<=kI T r:=by
 obtain ⟨k,e,k1,_⟩:=alf h hr;unfold kI;rw [e];exact k1
end
section
variable{T:Table}
theorem alo{a:D}(ha:MI.clo 0 a):∀ x∈[a],MI.clo 0 x:=by intro x hx;rw [List.mem_singleton] at hx;subst hx;exact ha
end
theorem avd{fi:SI}{G:SG}{b:SS}{xs:List D}{ck:Hd->Prop}{τ:Sd}{h h1:Hd}(e:fi τ h = .ok ⟨xs,ck⟩ h1):a2g fi G b τ h=forL ck G b xs τ h1:=by
 unfold a2g;rw [e];rfl
section
variable{T:Table}
def bg(bs:List Bool)(i:Nat):Bool:=(bs[i]?).getD false
theorem ave{bs:List Bool}{i:Nat}(hi:i<bs.length):(bs.map D.bl)[i]? = some (.bl (bg bs i)):=by unfold bg;rw [List.getElem?_map,List.getElem?_eq_getElem hi];rfl
abbrev HB(bs:List Bool):Hd:=[.lst (bs.map D.bl)]
theorem avf(bs:List Bool)(i:Nat):(bs.map D.bl).set i (.bl true)=(bs.set i true).map D.bl:=by rw [List.map_set]
theorem kge(h:T.Ok){τ:Sd}{j t:Nat}(hp:Hd)(h0:τ[0]? = some (some T.d))(hj:τ[j]? = some (some (bu t)))(ht:t<T.go.length):s2 gIx (s2 gIx (sV 0) (sC (.int 2))) (sV j) τ hp = .ok (.int (kI T t)) hp:=dm (dm (au h0) (ig _ _ _) (a93 _)) (au hj) (a4j h ht _)
theorem anf(h:T.Ok){τ:Sd}{j r:Nat}(hp:Hd)(h0:τ[0]? = some (some T.d))(hj:τ[j]? = some (some (bu r)))(hr:r<T.go.length):sIt (s2 gIx (s2 gIx (sV 0) (sC (.int 1))) (sV j)) τ hp = .ok ⟨(rw' T r).map bu,λ_=>True⟩ hp:=a5q (dm (dm (au h0) (ig _ _ _) (go1 _)) (au hj) (axz h hr _)) rfl
end
section
variable{T:Table}
theorem zu(p:Nat->Bool):∀ l:List Nat,(l.filterMap λi=>if p i=true then some (bu i) else none)=(l.filter p).map bu
 | []=>rfl
 | i::l=>by
  cases h:p i with
  | true=>rw [List.filterMap_cons_some (b:=bu i) (by rw [h];rfl),List.filter_cons_of_pos h,zu p l];rfl
  | false=>rw [List.filterMap_cons_none (by rw [h];rfl),List.filter_cons_of_neg (by rw [h];simp),zu p l]
end
end K40
namespace K22
open PySem PySem.Spec L2 MI AT HND
section
variable{T:Table}
noncomputable def dg:SF:=oh (ue d9) 1
abbrev adp(T:Table):List D:=(List.range T.go.length).map (A T)
theorem a6n(n:Nat):clos n (adp T):=jd λr _=>aqk _ _
theorem ay0:∀ x∈[T.d],clo 0 x:=by
 intro x hx
 rw [List.mem_singleton] at hx;subst hx;exact Table.clo
theorem T1(hh:Hd):gIx T.d (.int 1) hh = .ok (.tup (T.go.map a8x)) hh:=a6y (j:=1) rfl
theorem b0i(hh:Hd):vh [.tup (T.go.map a8x)] hh = .ok (.int (T.go.length:Nat)) hh:=by rw [a2a,List.length_map]
theorem a95(h:T.Ok):Pu dg 1 [T.d] (.tup (adp T)):=by
 have n32:=h.n32;refine Pu.of rfl ay0 (r:=.ok (.tup (adp T)) []) ?_ (jx (ur (a6n _)) (by simp)) (ur (a6n _))
 unfold dg;rw [j9];show toR (ue d9 [some T.d] [])=_;unfold ue;have cz:sZ (m9 (sRg yx (ak (sA vh (ak (s2 gIx (sV 0) (sC (.int 1))) di)) di)) t1 (uv d9) [0]) [some T.d] [] = .ok (.rol (adp T)) []:=by
  refine yz (uw (λr:Nat=>D.int (r:Nat)) (A T) (List.range T.go.length) (a3n (yg (dm (au rfl) (ig _ _ _) (T1 _)) (b0i _)) (gq (by omega))) (gq (by rw [List.length_range];omega)) λr hr=>?_) (a6n _) (by simp)
  rw [vg];exact yt (au rfl) (au rfl) (aas h (List.mem_range.mp hr) _)
 exact congrArg toR (n6 (yg cz rfl))
end
end K22
namespace MI
open PySem PySem.Spec L2 SRC HND
structure Fw (n:Nat) (l:List Nat):Prop where
 nd:l.Nodup
 lt:∀ x∈l,x<n
theorem Fw.nil{n:Nat}:Fw n []:=⟨List.nodup_nil,by simp⟩
theorem Fw.len{n:Nat}{l:List Nat}(h:Fw n l):l.length<=n:=BF.a1b n l h.nd h.lt
theorem Fw.step{n x:Nat}{l:List Nat}(M:Fw n l)(hx:x<n):Fw n (stepK l x):=by
 unfold L2.stepK
 by_cases h:x∈l
 ·rw [if_pos h];exact M
 rw [if_neg h];refine ⟨?_,λy hy=>?_⟩
 ·rw [List.nodup_append];refine ⟨M.nd,by simp,λa ha b hb=>?_⟩
  rw [List.mem_singleton] at hb;subst hb;exact λe=>h (e ▸ ha)
 ·rcases List.mem_append.mp hy with z | z
  ·exact M.lt y z
  ·rw [List.mem_singleton] at z;subst z;exact hx
end MI
namespace RCH
open PySem PySem.Spec L2 MI AT HND EVX K22 K23 K21 K40
def cnt(n:Nat)(p:Nat->Bool):Nat:=((List.range n).filter p).length
theorem aav{p q:Nat->Bool}:∀ {l:List Nat},(∀ x∈l,p x=true->q x=true)->(∃ x∈l,q x=true/\p x=false)->(l.filter p).length<(l.filter q).length
 | [],_,⟨_,h,_⟩=>by simp at h
 | x::l,h,⟨y,hy,q1,p1⟩=>by
  have le:(l.filter p).length<=(l.filter q).length:=by
   clear hy q1 p1 y
   induction l with
   | nil=>simp
   | cons z l ih =>
    have ih:=ih λy hy=>h y (by simp only [List.mem_cons] at hy ⊢;rcases hy with e | e<;>simp [e])
    have hz:=h z (by simp)
    rw [List.filter_cons,List.filter_cons]
    cases e1:p z with
    | true=>rw [hz e1];simp only [if_true,List.length_cons];omega
    | false=>cases q z<;>simp<;>omega
  rw [List.filter_cons,List.filter_cons]
  rcases List.mem_cons.mp hy with rfl | hy
  ·rw [q1,p1];simp only [if_true,Bool.false_eq_true,if_false,List.length_cons];omega
  ·have lt:=aav (l:=l) (λz hz=>h z (List.mem_cons_of_mem _ hz)) ⟨y,hy,q1,p1⟩
   cases e1:p x with
   | true=>rw [h x List.mem_cons_self e1];simp only [if_true,List.length_cons];omega
   | false=>cases q x<;>simp<;>omega
theorem rest{n:Nat}{P:Nat->Nat->Bool}(anti:∀ k x,x<n->P (k+1) x=true->P k x=true)(det:∀ k,(∀ x,x<n->P k x=P (k+1) x)->∀ x,x<n->P (k+1) x=P (k+2) x):∀ k x,x<n->P n x=true->P (n+k) x=true:=by
 have key:∀ k,cnt n (P k)<=n - k\/∃ j,j<=k/\∀ x,x<n->P j x=P (j+1) x:=by
  intro k
  induction k with
  | zero=>exact .inl (by unfold cnt;exact Nat.le_trans (List.length_filter_le _ _) (by simp))
  | succ k ih =>
   rcases ih with ih | ⟨j,hj,e⟩
   ·by_cases c:∃ x∈List.range n,P k x=true/\P (k+1) x=false
    ·have:=aav (p:=P (k+1)) (q:=P k) (l:=List.range n) (λx hx=>anti k x (List.mem_range.mp hx)) c
     exact .inl (by unfold cnt at ih ⊢;omega)
    ·refine .inr ⟨k,Nat.le_succ _,λx hx=>?_⟩
     cases e1:P k x with
     | true =>
      cases e2:P (k+1) x with
      | true=>rfl
      | false=>exact (c ⟨x,List.mem_range.mpr hx,e1,e2⟩).elim
     | false =>
      cases e2:P (k+1) x with
      | true=>rw [anti k x hx e2] at e1;cases e1
      | false=>rfl
   ·exact .inr ⟨j,Nat.le_succ_of_le hj,e⟩
 have stay:∀ j,(∀ x,x<n->P j x=P (j+1) x)->∀ k x,x<n->P (j+k) x=P j x:=by
  intro j e k
  have step:∀ k x,x<n->P (j+k) x=P (j+k+1) x:=by
   intro k
   induction k with
   | zero=>exact e
   | succ k ih=>exact det _ ih
  induction k with
  | zero=>intro x _;rfl
  | succ k ih=>intro x hx;rw [<-ih x hx];exact (step k x hx).symm
 intro k x hx h
 rcases key n with z | ⟨j,hj,e⟩
 ·have:x∈(List.range n).filter (P n):=List.mem_filter.mpr ⟨List.mem_range.mpr hx,h⟩
  have:=List.length_pos_of_mem this
  unfold cnt at z;omega
 ·have e1:=stay j e (n - j) x hx;have e2:=stay j e (n - j+k) x hx;rw [show j+(n - j)=n by omega] at e1
  rw [show j+(n - j+k)=n+k by omega] at e2
  rw [e2,<-e1];exact h
section
variable{T:Table}
def hp(T:Table)(x:Nat):Bool := !a4p (A T x)
theorem avh(h:T.Ok){r:Nat}(hr:r<T.go.length):rw' T r=(List.range T.tg.length).map (stp T r):=by unfold rw';rw [av9 h hr];rfl
theorem a96(h:T.Ok){r x:Nat}(hr:r<T.go.length):x∈rw' T r↔∃ c,c<T.tg.length/\stp T r c=x:=by
 rw [avh h hr,List.mem_map];exact ⟨λ⟨c,hc,e⟩=>⟨c,List.mem_range.mp hc,e⟩,λ⟨c,hc,e⟩=>⟨c,List.mem_range.mpr hc,e⟩⟩
theorem a6o(h:T.Ok){r k:Nat}(hr:r<T.go.length):FL T (k+1) r=true↔∃ x∈rw' T r,FL T k x=true:=by
 show ((List.range T.tg.length).any λc=>FL T k (stp T r c))=true↔_;rw [List.any_eq_true]
 constructor
 ·rintro ⟨c,hc,e⟩;exact ⟨_,(a96 h hr).mpr ⟨c,List.mem_range.mp hc,rfl⟩,e⟩
 ·rintro ⟨x,hx,e⟩
  obtain ⟨c,hc,rfl⟩:=(a96 h hr).mp hx;exact ⟨c,List.mem_range.mpr hc,e⟩
theorem a97{r:Nat}(e:hp T r=true):∃ k,k<T.go.length/\FL T (k+1) r=true:=by
 unfold hp A at e
 cases q:alg T r with
 | none=>rw [q] at e;simp [a4p] at e
 | some i =>
  unfold alg at q;obtain ⟨fi,hi,_⟩:=List.find?_range_eq_some.mp q;exact ⟨i,by simpa using hi,by rw [Nat.add_comm];exact fi⟩
theorem alp(h:T.Ok){r k:Nat}(hr:r<T.go.length)(f:FL T (k+1) r=true):hp T r=true:=by
 obtain ⟨d,_,_,q⟩:=a1d h hr;have e:=aic h q
 rcases q with ⟨w,_,_,_,_,ew⟩ | ⟨_,no⟩
 ·unfold hp;rw [<-e,ew];rfl
 ·obtain ⟨gl,go,gh⟩:=BF.aaq f;exact (no _ go ⟨λz=>by
   have:=congrArg List.length z
   simp [gl] at this,gh⟩).elim
theorem a6p(h:T.Ok){r:Nat}(hr:r<T.go.length):FL T 0 r=true↔kI T r ≠ -1:=by
 show knd T r=true↔_;obtain ⟨k,e,_,kd⟩:=alf h hr;unfold kI;rw [kd,e];simp
theorem aij(h:T.Ok){r:Nat}(hr:r<T.go.length):hp T r=true↔∃ x∈rw' T r,kI T x ≠ -1\/hp T x=true:=by
 obtain ⟨_,_,rx⟩:=aau h hr
 constructor
 ·intro e
  obtain ⟨k,_,f⟩:=a97 e;obtain ⟨x,hx,fx⟩:=(a6o h hr).mp f
  cases k with
  | zero=>exact ⟨x,hx, .inl ((a6p h (rx x hx)).mp fx)⟩
  | succ k=>exact ⟨x,hx, .inr (alp h (rx x hx) fx)⟩
 ·rintro ⟨x,hx,e | e⟩
  ·exact alp (k:=0) h hr ((a6o h hr).mpr ⟨x,hx,(a6p h (rx x hx)).mpr e⟩)
  ·obtain ⟨k,_,f⟩:=a97 e;exact alp (k:=k+1) h hr ((a6o h hr).mpr ⟨x,hx,f⟩)
def gd(T:Table)(x:Nat):Bool:=decide (kI T x = -1) && hp T x
def Lam(T:Table)(st:List Nat):Nat->Nat->Prop
 | 0,x=>x∈st
 | k+1,x=>(∃ r,Lam T st k r/\x∈rw' T r)/\gd T x=true
def Led(T:Table)(st:List Nat)(k x:Nat):Prop:=∃ r,Lam T st k r/\x∈rw' T r
def Kn(T:Table)(st:List Nat)(k:Nat):Prop:=∃ x,Led T st k x/\kI T x ≠ -1
open Classical in
noncomputable def Mx(T:Table)(st:List Nat):Nat->Nat
 | 0=>0
 | k+1=>if Kn T st k then k+1 else Mx T st k
theorem aik(h:T.Ok){st:List Nat}(hs:∀ x∈st,x<T.go.length):∀ {k x:Nat},Lam T st k x->x<T.go.length
 | 0,x,q=>hs x q
 | k+1,x,⟨⟨r,q,hx⟩,_⟩=>(aau h (aik h hs q)).2.2 x hx
theorem aqq{st:List Nat}:∀ k,Mx T st k<=k
 | 0=>Nat.le_refl _
 | k+1=>by
  have:=aqq (st:=st) k
  unfold Mx
  split<;>omega
def Dp(T:Table):Nat->Nat->Bool
 | 0,_=>true
 | k+1,x=>(rw' T x).any λy=>gd T y && Dp T k y
theorem a98:∀ k x,Dp T (k+1) x=true->Dp T k x=true
 | 0,_,_=>rfl
 | k+1,x,e=>by
  simp only [Dp,List.any_eq_true,Bool.and_eq_true] at e ⊢;obtain ⟨y,hy,g,y2,hy2,g2,d⟩:=e;refine ⟨y,hy,g,a98 k y ?_⟩;simp only [Dp,List.any_eq_true,Bool.and_eq_true];exact ⟨y2,hy2,g2,d⟩
theorem avi(h:T.Ok)(k:Nat)(e:∀ x,x<T.go.length->Dp T k x=Dp T (k+1) x)(x:Nat)(hx:x<T.go.length):Dp T (k+1) x=Dp T (k+2) x:=by
 show (rw' T x).any _=(rw' T x).any _;obtain ⟨_,_,rx⟩:=aau h hx;rw [Bool.eq_iff_iff,List.any_eq_true,List.any_eq_true]
 constructor
 ·rintro ⟨y,hy,q⟩;exact ⟨y,hy,by rw [<-e y (rx y hy)];exact q⟩
 ·rintro ⟨y,hy,q⟩;exact ⟨y,hy,by rw [e y (rx y hy)];exact q⟩
theorem ang(h:T.Ok){x:Nat}(hx:x<T.go.length)(d:Dp T T.go.length x=true)(k:Nat):Dp T (T.go.length+k) x=true:=rest (P:=Dp T) (λk x _=>a98 k x) (avi h) k x hx d
theorem aaw{st:List Nat}:∀ {k j:Nat},(∃ x,Lam T st (j+k) x)↔∃ r,Lam T st j r/\Dp T k r=true
 | 0,j=>⟨λ⟨x,q⟩=>⟨x,q,rfl⟩,λ⟨r,q,_⟩=>⟨r,q⟩⟩
 | k+1,j=>by
  rw [show j+(k+1)=(j+1)+k by omega,aaw (k:=k) (j:=j+1)]
  constructor
  ·rintro ⟨y,⟨⟨r,q,hy⟩,g⟩,d⟩
   refine ⟨r,q,?_⟩;simp only [Dp,List.any_eq_true,Bool.and_eq_true];exact ⟨y,hy,g,d⟩
  ·rintro ⟨r,q,d⟩
   simp only [Dp,List.any_eq_true,Bool.and_eq_true] at d;obtain ⟨y,hy,g,d⟩:=d;exact ⟨y,⟨⟨r,q,hy⟩,g⟩,d⟩
theorem avj(h:T.Ok){st:List Nat}(hs:∀ x∈st,x<T.go.length)(e:∃ x,Lam T st T.go.length x)(k:Nat):∃ x,Lam T st k x:=by
 obtain ⟨r,q,d⟩:=(aaw (T:=T) (k:=T.go.length) (j:=0)).mp (by rw [Nat.zero_add];exact e)
 have d':Dp T k r=true:=by
  have:=ang h (hs r q) d k
  clear d
  revert this
  generalize T.go.length=n
  intro this
  induction n with
  | zero=>rwa [Nat.zero_add] at this
  | succ n ih=>exact ih (a98 _ _ (by rw [show n+k+1=n+1+k by omega];exact this))
 have:=(aaw (T:=T) (k:=k) (j:=0)).mpr ⟨r,q,d'⟩
 rwa [Nat.zero_add] at this
theorem a99{st:List Nat}{k:Nat}(e:¬ ∃ x,Lam T st k x):∀ j,¬ ∃ x,Lam T st (k+j) x
 | 0=>e
 | j+1=>λ⟨x,⟨r,q,_⟩,_⟩=>a99 e j ⟨r,q⟩
theorem abw{st:List Nat}{k:Nat}(e:¬ ∃ x,Lam T st k x):∀ j,Mx T st (k+j)=Mx T st k
 | 0=>rfl
 | j+1=>by
  show Mx T st (k+j+1)=_;rw [Mx,if_neg,abw e j]
  rintro ⟨x,⟨r,q,_⟩,_⟩
  exact a99 e j ⟨r,q⟩
theorem abx{st:List Nat}{k:Nat}:∀ {j:Nat},Mx T st k<=Mx T st (k+j)
 | 0=>Nat.le_refl _
 | j+1=>by
  have:=abx (st:=st) (k:=k) (j:=j)
  have l:=aqq (T:=T) (st:=st) (k+j);show _<=Mx T st (k+j+1);rw [Mx]
  split<;>omega
theorem aqr{st:List Nat}{k:Nat}(e:Kn T st k):Mx T st (k+1)=k+1:=by unfold Mx;rw [if_pos e]
theorem avk(h:T.Ok){st:List Nat}(hs:∀ x∈st,x<T.go.length):∀ {k m x:Nat},Lam T st m x->FL T (k+1) x=true->∃ j,m<=j/\j<=m+k/\Kn T st j
 | k,m,x,q,f=>by
  have hx:=aik h hs q;obtain ⟨_,_,rx⟩:=aau h hx;obtain ⟨y,hy,fy⟩:=(a6o h hx).mp f
  by_cases c:kI T y = -1
  ·cases k with
   | zero=>exact absurd c ((a6p h (rx y hy)).mp fy)
   | succ k =>
    have g:gd T y=true:=by unfold gd;rw [decide_eq_true c,alp h (rx y hy) fy];rfl
    obtain ⟨j,a,b,e⟩:=avk h hs (m:=m+1) ⟨⟨x,q,hy⟩,g⟩ fy;exact ⟨j,by omega,by omega,e⟩
  ·exact ⟨m,Nat.le_refl _,by omega,y,⟨x,q,hy⟩,c⟩
noncomputable def RA(T:Table)(st:List Nat):D:=if Mx T st (2*T.go.length+1)<=T.go.length then bu (Mx T st (2*T.go.length+1)) else .non
theorem anh{st:List Nat}:MI.clo 0 (RA T st):=by unfold RA;split;exact jw _;exact abp
theorem ani(h:T.Ok){st:List Nat}(hs:∀ x∈st,x<T.go.length){k:Nat}(hk:k<=T.go.length+1)(e:¬ ∃ x,Lam T st k x):RA T st=bu (Mx T st k):=by
 have e2:¬ ∃ x,Lam T st T.go.length x:=λz=>e (avj h hs z k);have m1:=abw e (2*T.go.length+1 - k);have m2:=abw e2 (T.go.length+1);rw [show T.go.length+(T.go.length+1)=2*T.go.length+1 by omega] at m2
 have h1:=h.n1;rw [show k+(2*T.go.length+1 - k)=2*T.go.length+1 by omega] at m1
 unfold RA;rw [if_pos (by rw [m2];exact aqq _),m1]
theorem avl(h:T.Ok){st:List Nat}(hs:∀ x∈st,x<T.go.length)(e:∃ x,Lam T st (T.go.length+1) x):RA T st = .non:=by
 have h1:=h.n1;have e0:∃ x,Lam T st T.go.length x:=by obtain ⟨x,⟨r,q,_⟩,_⟩:=e;exact ⟨r,q⟩
 obtain ⟨x,q⟩:=e0;have g:gd T x=true:=by
  cases hn:T.go.length with
  | zero=>omega
  | succ n=>rw [hn] at q;exact q.2
 have hx:hp T x=true:=by unfold gd at g;rw [Bool.and_eq_true] at g;exact g.2
 obtain ⟨k,hk,f⟩:=a97 hx;obtain ⟨j,a,b,kn⟩:=avk h hs q f;have m1:=aqr kn;have m2:=abx (T:=T) (st:=st) (k:=j+1) (j:=2*T.go.length+1 - (j+1));rw [show j+1+(2*T.go.length+1 - (j+1))=2*T.go.length+1 by omega] at m2
 unfold RA;rw [if_neg (by omega)]
end
section
variable{T:Table}
theorem adq{bs:List Bool}{r x:Nat}(hr:r<bs.length):bg (bs.set r true) x=(decide (x=r) || bg bs x):=by
 unfold bg
 by_cases e:r=x
 ·subst e;rw [List.getElem?_set_self hr];simp
 ·rw [List.getElem?_set_ne e,decide_eq_false (λz=>e z.symm)];simp
structure Mk (T:Table) (j:Nat) (bs:List Bool):Prop where
 len:bs.length=T.go.length
 snd:∀ r,r<T.go.length->bg bs r=true->hp T r=true
 all:∀ r,r<T.go.length->∀ k,k<j->FL T (k+1) r=true->bg bs r=true
theorem Mk.set{j r:Nat}{bs:List Bool}(M:Mk T j bs)(hr:r<T.go.length)(e:hp T r=true):Mk T j (bs.set r true):=by
 have l:=M.len;refine ⟨by rw [List.length_set];exact l,λx hx q=>?_,λx hx k hk f=>?_⟩
 ·rw [adq (by omega),Bool.or_eq_true] at q
  rcases q with q | q
  ·rw [of_decide_eq_true q];exact e
  ·exact M.snd x hx q
 ·rw [adq (by omega),M.all x hx k hk f,Bool.or_true]
theorem lit{T:Table}(h:T.Ok){r x:Nat}(hr:r<T.go.length)(hx:x∈rw' T r)(e:kI T x ≠ -1\/hp T x=true):hp T r=true:=(aij h hr).mpr ⟨x,hx,e⟩
noncomputable def fj:SF:=oh a2m 5
abbrev hpD(T:Table):List D:=(List.range T.go.length).map λr=>D.bl (hp T r)
theorem ail(n:Nat):clos n (hpD T):=jd λ_ _=>mj _
theorem anj{r:Nat}(hr:r<T.go.length):(hpD T)[r]? = some (.bl (hp T r)):=by rw [List.getElem?_map,List.getElem?_range hr];rfl
theorem aby(h:T.Ok):Pu fj 1 [T.d] (.rol (hpD T)):=by
 have n32:=h.n32;have ln:∀ (τ:Sd) (bs:List Bool),τ[1]? = some (some (.ref 0))->bs.length=T.go.length->sRg yx (ak (sA vh (ak (sV 1) di)) di) τ (HB bs) = .ok ⟨(List.range T.go.length).map bu,λ_=>True⟩ (HB bs):=λτ bs h1 bl =>
  a3n (n:=T.go.length) (yg (au h1) ((a8r (xs:=bs.map D.bl) rfl).trans (by rw [List.length_map,bl]))) (gq (by omega))
 have L2:∀ (j:Nat) (bs:List Bool) (t2 t4:Option D) (r:Nat),Mk T j bs->r<T.go.length->∃ (bs':List Bool) (t4':Option D),xu [some T.d,some (.ref 0),t2,some (bu r),t4] (HB bs) = .nx [some T.d,some (.ref 0),t2,some (bu r),t4'] (HB bs')/\Mk T j bs'/\(∀ x,bg bs x=true->bg bs' x=true)/\(∀ k,k<j+1->FL T (k+1) r=true->bg bs' r=true):=λj bs t2 t4 r M hr=>by
  obtain ⟨_,_,rx⟩:=aau h hr;have lp:=mz (g:=kN 4) (b:=a0r) bu (λpre τ hp'=>∃ (bs':List Bool) (t4:Option D),τ=[some T.d,some (.ref 0),t2,some (bu r),t4]/\hp'=HB bs'/\Mk T j bs'/\(∀ x,bg bs x=true->bg bs' x=true)/\((∃ t∈pre,kI T t ≠ -1\/∃ k,k<j/\FL T (k+1) t=true)->bg bs' r=true)) (rw' T r) [some T.d,some (.ref 0),t2,some (bu r),t4] (HB bs) ?_ ⟨bs,t4,rfl,rfl,M,λ_ z=>z,λ⟨_,z,_⟩=>by simp at z⟩
  ·obtain ⟨τ',h',e,bs',t4',rfl,rfl,M',up,all⟩:=lp;refine ⟨bs',t4',?_,M',up,λk hk f=>?_⟩
   ·unfold xu;exact (avd (anf h _ rfl rfl hr)).trans e
   ·obtain ⟨x,hx,fx⟩:=(a6o h hr).mp f;refine all ⟨x,hx,?_⟩
    cases k with
    | zero=>exact .inl ((a6p h (rx x hx)).mp fx)
    | succ k=>exact .inr ⟨k,by omega,fx⟩
  ·rintro pre t post τ hp' al ⟨bs',t4,rfl,rfl,M',up,all⟩
   have tin:t∈rw' T r:=by rw [al];simp
   have tl:=rx t tin;have l':=M'.len;have tst:sOr (sT (s2 gGe (s2 gIx (s2 gIx (sV 0) (sC (.int 2))) (sV 4)) (sC (.int 0)))) (a3u (s2 gIx (sV 1) (sV 4))) [some T.d,some (.ref 0),t2,some (bu r),some (bu t)] (HB bs') = .ok (decide (0<=kI T t) || bg bs' t) (HB bs') :=
    orB (tof (dm (kge h _ rfl rfl tl) (ig _ _ _) (awb _ _))) λ_=>a2c (dm (au rfl) (au rfl) (yu (xs:=bs'.map D.bl) rfl (ave (by omega)))) (u5 _)
   have kk:=a7o h tl;unfold a0r
   cases v:(decide (0<=kI T t) || bg bs' t) with
   | true =>
    rw [v] at tst;have lt':hp T r=true:=lit h hr tin (by
     rw [Bool.or_eq_true] at v
     rcases v with v | v
     ·exact .inl (by have:=of_decide_eq_true v;omega)
     ·exact .inr (M'.snd t tl v))
    refine ⟨_,_,rfl,_,HB (bs'.set r true),?_,bs'.set r true,some (bu t),rfl,rfl,M'.set hr lt',λx q=>?_,λ_=>?_⟩
    ·refine Eq.trans (ifT tst) (aex (ig _ _ _) (au rfl) (au rfl) ((al9 (xs:=bs'.map D.bl) rfl (by rw [List.length_map];omega)).trans ?_))
     rw [avf];rfl
    ·rw [adq (by omega),up x q,Bool.or_true]
    ·rw [adq (by omega),decide_eq_true rfl];rfl
   | false =>
    rw [v] at tst;rw [Bool.or_eq_false_iff] at v;refine ⟨_,_,rfl,_,_,Eq.trans (ifF tst) rfl,bs',_,rfl,rfl,M',up,?_⟩
    rintro ⟨x,hx,q⟩
    rcases List.mem_append.mp hx with z | z
    ·exact all ⟨x,z,q⟩
    ·rw [List.mem_singleton] at z;subst z
     rcases q with q | ⟨k,hk,f⟩
     ·have:=of_decide_eq_false v.1;omega
     ·rw [M'.all _ tl k hk f] at v;cases v.2
 have L3:∀ (j:Nat) (bs:List Bool) (t2 t3 t4:Option D),Mk T j bs->∃ (bs':List Bool) (t3' t4':Option D),xx [some T.d,some (.ref 0),t2,t3,t4] (HB bs) = .nx [some T.d,some (.ref 0),t2,t3',t4'] (HB bs')/\Mk T (j+1) bs':=λj bs t2 t3 t4 M=>by
  have lp:=mz (g:=kN 3) (b:=xu) bu (λpre τ hp'=>∃ (bs':List Bool) (t3 t4:Option D),τ=[some T.d,some (.ref 0),t2,t3,t4]/\hp'=HB bs'/\Mk T j bs'/\∀ r∈pre,∀ k,k<j+1->FL T (k+1) r=true->bg bs' r=true) (List.range T.go.length) [some T.d,some (.ref 0),t2,t3,t4] (HB bs) ?_ ⟨bs,t3,t4,rfl,rfl,M,by simp⟩
  ·obtain ⟨τ',h',e,bs',t3',t4',rfl,rfl,M',all⟩:=lp;refine ⟨bs',t3',t4',?_,M'.len,M'.snd,λr hr=>all r (List.mem_range.mpr hr)⟩;unfold xx;exact (avd (ln _ bs rfl M.len)).trans e
  ·rintro pre r post τ hp' al ⟨bs',t3,t4,rfl,rfl,M',all⟩
   obtain ⟨bs2,t4',e,M2,up,al2⟩:=L2 j bs' t2 t4 r M' (List.mem_range.mp (by rw [al];simp))
   refine ⟨_,_,rfl,_,_,e,bs2,_,t4',rfl,rfl,M2,λx hx k hk f=>?_⟩
   rcases List.mem_append.mp hx with z | z
   ·exact up x (all x z k hk f)
   ·rw [List.mem_singleton] at z;subst z;exact al2 k hk f
 let b0:List Bool:=T.go.map λ_=>false
 have b0l:b0.length=T.go.length:=List.length_map _;have M0:Mk T 0 b0:=by
  refine ⟨b0l,λr _ q=>?_,λ_ _ k hk=>by omega⟩
  unfold bg at q;rw [List.getElem?_map] at q
  cases z:T.go[r]? with
  | none=>rw [z] at q;exact absurd q (by simp)
  | some y=>rw [z] at q;exact absurd q (by simp)
 have lp:=mz (g:=kN 2) (b:=xx) bu (λpre τ hp'=>∃ (bs':List Bool) (t2 t3 t4:Option D),τ=[some T.d,some (.ref 0),t2,t3,t4]/\hp'=HB bs'/\Mk T pre.length bs') (List.range T.go.length) [some T.d,some (.ref 0),none,none,none] (HB b0) ?_ ⟨b0,none,none,none,rfl,rfl,M0⟩
 ·obtain ⟨τ',h',e,bs,t2,t3,t4,rfl,rfl,M⟩:=lp;rw [List.length_range] at M;have eq:bs.map D.bl=hpD T:=by
   refine List.ext_getElem? λi=>?_
   by_cases hi:i<T.go.length
   ·rw [ave (by rw [M.len];exact hi),anj hi]
    congr 2
    rw [Bool.eq_iff_iff];refine ⟨M.snd i hi,λq=>?_⟩;obtain ⟨k,hk,f⟩:=a97 q;exact M.all i hi k hk f
   ·have:=M.len
    rw [List.getElem?_eq_none (by rw [List.length_map];omega),List.getElem?_eq_none (by rw [List.length_map,List.length_range];omega)]
  refine Pu.of rfl (alo Table.clo) (r:=.ok (.ref 0) (HB bs)) ?_ (a0n (Nat.le_refl _) (congrArg (λz=>some (O.lst z)) eq) (ail _) (by simp)) (ut (ail _))
  unfold fj;rw [j9];show toR (a2m [some T.d,none,none,none,none] [])=_;unfold a2m;have cm:m9 (sIt (s2 gIx (sV 0) (sC (.int 1)))) t1 a0q [] [some T.d,none,none,none,none] [] = .ok (.ref 0) (HB b0):=by
   have:=uw (fi:=sIt (s2 gIx (sV 0) (sC (.int 1)))) (t:=t1) (fe:=a0q) (ix:=[]) (τ:=[some T.d,none,none,none,none]) (h:=[]) a8x (λ_=>D.bl false) T.go (a5q (dm (au rfl) (ig _ _ _) (go1 _)) rfl) (gq (by omega)) λx _=>rfl
   rw [this];show R.ok (D.ref 0) [O.lst _]=R.ok (D.ref 0) [O.lst ((T.go.map λ_=>false).map D.bl)];rw [List.map_map];rfl
  refine Eq.trans (congrArg toR (jy cm)) ?_;refine Eq.trans (congrArg toR (a09 (ln _ b0 rfl b0l))) ?_;refine Eq.trans (congrArg (λz=>toR (MI.thn z _)) e) ?_;rfl
 ·rintro pre k post τ hp' al ⟨bs,t2,t3,t4,rfl,rfl,M⟩
  obtain ⟨bs',t3',t4',e,M'⟩:=L3 pre.length bs (some (bu k)) t3 t4 M;exact ⟨_,_,rfl,_,_,e,bs',_,t3',t4',rfl,rfl,by rw [List.length_append];exact M'⟩
noncomputable def fu:SF:=oh a2n 5
theorem abz(h:T.Ok){rs:List Nat}(rn:∀ r∈rs,r<T.go.length):∃ ts:List Nat,Fw T.go.length ts/\(∀ x,x∈ts↔∃ r∈rs,x∈rw' T r)/\Pu fu 2 [T.d, .rol (rs.map bu)] (.rol (ts.map bu)):=by
 have n32:=h.n32;have lp:=mz (g:=kN 3) (b:=a0t) bu (λpre τ hp'=>∃ (ts:List Nat) (t3 t4:Option D),τ=[some T.d,some (.rol (rs.map bu)),some (.ref 0),t3,t4]/\hp'=[.lst (ts.map bu)]/\Fw T.go.length ts/\∀ x,x∈ts↔∃ r∈pre,x∈rw' T r) rs [some T.d,some (.rol (rs.map bu)),some (.ref 0),none,none] [.lst []] ?_ ⟨[],none,none,rfl,rfl, .nil,by simp⟩
 ·obtain ⟨τ',h',e,ts,t3,t4,rfl,rfl,M,mem⟩:=lp;refine ⟨ts,M,mem,Pu.of rfl (a6w Table.clo (ut (kh _))) (r:=.ok (.ref 0) [.lst (ts.map bu)]) ?_ (a0n (Nat.le_refl _) rfl (kh _) (by simp)) (ut (kh _))⟩
  unfold fu;rw [j9];show toR (a2n [some T.d,some (.rol (rs.map bu)),none,none,none] [])=_;unfold a2n;refine Eq.trans (congrArg toR (jy (d:=.ref 0) (h1:=[.lst []]) rfl)) ?_;refine Eq.trans (congrArg toR (a09 (a5q (au rfl) rfl))) ?_;refine Eq.trans (congrArg (λz=>toR (MI.thn z _)) e) ?_;rfl
 ·rintro pre r post τ hp' al ⟨ts,t3,t4,rfl,rfl,M,mem⟩
  have hr:=rn r (by rw [al];simp)
  obtain ⟨_,_,rx⟩:=aau h hr;have l2:=mz (g:=kN 4) (b:=a0s) bu (λpre τ hp'=>∃ (ts':List Nat) (t4:Option D),τ=[some T.d,some (.rol (rs.map bu)),some (.ref 0),some (bu r),t4]/\hp'=[.lst (ts'.map bu)]/\Fw T.go.length ts'/\∀ x,x∈ts'↔x∈ts\/x∈pre) (rw' T r) [some T.d,some (.rol (rs.map bu)),some (.ref 0),some (bu r),t4] [.lst (ts.map bu)] ?_ ⟨ts,t4,rfl,rfl,M,by simp⟩
  ·obtain ⟨τ',h',e,ts',t4',rfl,rfl,M',mem'⟩:=l2;refine ⟨_,_,rfl,_,_,?_,ts',some (bu r),t4',rfl,rfl,M',λx=>?_⟩
   ·unfold a0t;exact (avd (anf h _ rfl rfl hr)).trans e
   ·rw [mem',mem]
    constructor
    ·rintro (⟨y,hy,q⟩ | q)
     ·exact ⟨y,List.mem_append_left _ hy,q⟩
     ·exact ⟨r,by simp,q⟩
    ·rintro ⟨y,hy,q⟩
     rcases List.mem_append.mp hy with z | z
     ·exact .inl ⟨y,z,q⟩
     ·rw [List.mem_singleton] at z;subst z;exact .inr q
  ·rintro pre' t post' τ hp' al' ⟨ts',t4',rfl,rfl,M',mem'⟩
   have tl:=rx t (by rw [al'];simp)
   have ll:=M'.len;unfold a0s
   by_cases c:t∈ts'
   ·refine ⟨_,_,rfl,_,_,Eq.trans (ifF (tof (dm (au rfl) (au rfl) ((SRC.a5t (l:=ts') rfl).trans (by rw [decide_eq_true c];rfl))))) rfl,ts',_,rfl,rfl,M',λx=>?_⟩
    rw [mem',List.mem_append,List.mem_singleton]
    constructor
    ·rintro (q | q)
     ·exact .inl q
     ·exact .inr (.inl q)
    ·rintro (q | q | q)
     ·exact .inl q
     ·exact .inr q
     ·rw [<-mem',q];exact c
   ·have st:stepK ts' t=ts'++[t]:=if_neg c;refine ⟨_,_,rfl,_,_,Eq.trans (ifT (tof (dm (au rfl) (au rfl) ((SRC.a5t (l:=ts') rfl).trans (by rw [decide_eq_false c];rfl))))) ?_,ts'++[t],some (bu t),rfl,rfl,by rw [<-st];exact M'.step tl,λx=>?_⟩
    ·rw [List.map_append];exact a4g (au rfl) rfl (arg1 (au rfl)) (a4h (xs:=ts'.map bu) rfl (by rw [List.length_map];exact a1l (by omega)))
    ·rw [List.mem_append,List.mem_append,mem',or_assoc]
end
section
variable{T:Table}
noncomputable def ie:SF:=oh (a0u fj fu) 5
theorem aqs(l:List Nat)(h:Hd):arb true (.rol (l.map bu)) (.rol []) h = .ok (.bl (!l.isEmpty)) h:=by
 unfold arb v8;dsimp only;rw [if_pos ⟨by rw [List.all_eq_true];intro x hx;obtain ⟨y,_,rfl⟩:=List.mem_map.mp hx;rfl,rfl⟩]
 cases l<;>rfl
theorem aqt{l:List Nat}{x:Nat}(h:x∈l):l.isEmpty=false:=by cases l with | nil=>simp at h | cons=>rfl
theorem avm{st rs ts:List Nat}{k:Nat}(er:∀ x,x∈rs↔Lam T st k x)(et:∀ x,x∈ts↔∃ r∈rs,x∈rw' T r)(x:Nat):x∈ts↔Led T st k x:=by
 rw [et];exact ⟨λ⟨r,hr,q⟩=>⟨r,(er r).mp hr,q⟩,λ⟨r,hr,q⟩=>⟨r,(er r).mpr hr,q⟩⟩
theorem ank{st ts:List Nat}{k:Nat}(el:∀ x,x∈ts↔Led T st k x){p:Nat->Bool}(hp':∀ x∈ts,p x=gd T x)(x:Nat):x∈ts.filter p↔Lam T st (k+1) x:=by
 rw [List.mem_filter]
 constructor
 ·rintro ⟨a,b⟩;exact ⟨(el x).mp a,by rw [<-hp' x a];exact b⟩
 ·rintro ⟨a,b⟩
  have:=(el x).mpr a
  exact ⟨this,by rw [hp' x this];exact b⟩
theorem af6{st ts:List Nat}{k:Nat}(el:∀ x,x∈ts↔Led T st k x){p:Nat->Bool}(hp':∀ x∈ts,(p x=true↔kI T x ≠ -1)):(∃ x∈ts,p x=true)↔Kn T st k:=by
 constructor
 ·rintro ⟨x,a,b⟩;exact ⟨x,(el x).mp a,(hp' x a).mp b⟩
 ·rintro ⟨x,a,b⟩
  have:=(el x).mpr a
  exact ⟨x,this,(hp' x this).mpr b⟩
theorem aax(h:T.Ok){rs:List Nat}(rn:∀ r∈rs,r<T.go.length):Pu ie 2 [T.d, .rol (rs.map bu)] (RA T rs):=by
 have n32:=h.n32;have eh:=aby h;have lp:=mz (g:=kN 4) (b:=a03 fj fu) (λi:Nat=>D.int ((1+i:Nat))) (λpre τ hp'=>∃ (ls:List Nat) (t4:Option D),τ=[some T.d,some (.rol (ls.map bu)),some (.rol (hpD T)),some (bu (Mx T rs pre.length)),t4]/\hp'=[]/\∀ x,x∈ls↔Lam T rs pre.length x) (List.range (2*T.go.length+2 - 1)) [some T.d,some (.rol (rs.map bu)),some (.rol (hpD T)),some (.int 0),none] [] ?_ ⟨rs,none,rfl,rfl,λx=>Iff.rfl⟩
 ·obtain ⟨τ',h',e,ls,t4,rfl,rfl,_⟩:=lp;rw [List.length_range,show 2*T.go.length+2 - 1=2*T.go.length+1 by omega] at e
  have lnh:∀ hp':Hd,vh [.rol (hpD T)] hp' = .ok (bu T.go.length) hp':=λhp'=>by rw [a2b,List.length_map,List.length_range]
  refine Pu.of rfl (a6w Table.clo (ut (kh _))) (r:=.ok (RA T rs) []) ?_ (jx anh (by simp)) anh
  unfold ie;rw [j9];show toR (a0u fj fu [some T.d,some (.rol (rs.map bu)),none,none,none] [])=_;unfold a0u;refine Eq.trans (congrArg toR (jy (yg (au rfl) (eh _)))) ?_;refine Eq.trans (congrArg toR (jy (ig _ _ _))) ?_;have em:s2 j6 (s2 xr (sC (.int 2)) (sA vh (ak (sV 2) di))) (sC (.int 2)) [some T.d,some (.rol (rs.map bu)),some (.rol (hpD T)),some (.int 0),none] [] = .ok (bu (2*T.go.length+2)) [] :=
   (dm (dm (ig _ _ _) (yg (au rfl) (lnh _)) (a4d.trans (if_pos (.inl ⟨by decide,by decide⟩)))) (ig _ _ _) v5).trans (by congr 2)
  refine Eq.trans (congrArg toR (a09 (abu (a:=1) (n:=2*T.go.length+2) (ig _ _ _) em (gq (by omega)) (gq (by omega))))) ?_
  rw [show 2*T.go.length+2 - 1=2*T.go.length+1 by omega]
  refine Eq.trans (congrArg (λz=>toR (MI.thn z _)) e) ?_;rw [a1x];unfold RA
  by_cases c:Mx T rs (2*T.go.length+1)<=T.go.length
  ·rw [if_pos c];exact congrArg toR (n6 (SRC.axw (tof (dm (au rfl) (yg (au rfl) (lnh _)) (SRC.ayw (by omega)))) (au rfl)))
  ·rw [if_neg c];exact congrArg toR (n6 (SRC.aw8 (tof (dm (au rfl) (yg (au rfl) (lnh _)) (SRC.ayx (by omega)))) (ig _ _ _)))
 ·rintro pre i post τ hp' al ⟨ls,t4,rfl,rfl,el⟩
  obtain ⟨ei,_⟩:=uy al;subst ei;have ln:∀ r∈ls,r<T.go.length:=λr hr=>aik h rn ((el r).mp hr);obtain ⟨ts,M,mt,et⟩:=abz h ln;have tl:=M.len;have eL:=avm el mt
  let p1:Nat->Bool:=λt=>decide (0<=kI T t)
  let p2:Nat->Bool:=λt=>decide (kI T t<0) && hp T t
  have cf1:∀ τ:Sd,τ[0]? = some (some T.d)->τ[1]? = some (some (.rol (ts.map bu)))->sZ (xn (sIt (sV 1)) t1 (rm fj fu) (a01 fj fu) [0]) τ [] = .ok (.rol ((ts.filter p1).map bu)) []:=λτ h0 h1=>by
   rw [<-zu];refine yz (a4f bu (λt=>if p1 t=true then some (bu t) else none) ts (a5q (au h1) rfl) (gq (by omega)) λt ht=>?_) (by rw [zu];exact kh _) (by simp)
   rw [a8q,a2s,a6m,h0];have q:rm fj fu [some (bu t),some T.d] [] = .ok (p1 t) []:=tof (dm (dm (dm (au rfl) (ig _ _ _) (a93 _)) (au rfl) (a4j h (M.lt t ht) _)) (ig _ _ _) (awb _ _));show (rm fj fu [some (bu t),some T.d] []).bind _=_;rw [q,d7]
   cases p1 t<;>rfl
  have cf2:∀ τ:Sd,τ[0]? = some (some T.d)->τ[1]? = some (some (.rol (ts.map bu)))->τ[2]? = some (some (.rol (hpD T)))->sZ (xn (sIt (sV 1)) t1 (rz fj fu) (a02 fj fu) [0,2]) τ [] = .ok (.rol ((ts.filter p2).map bu)) []:=λτ h0 h1 h2=>by
   rw [<-zu];refine yz (a4f bu (λt=>if p2 t=true then some (bu t) else none) ts (a5q (au h1) rfl) (gq (by omega)) λt ht=>?_) (by rw [zu];exact kh _) (by simp)
   rw [a8q,a2s,a2s,a6m,h0,h2];have q:rz fj fu [some (bu t),some T.d,some (.rol (hpD T))] [] = .ok (p2 t) []:=awa (tof (dm (dm (dm (au rfl) (ig _ _ _) (a93 _)) (au rfl) (a4j h (M.lt t ht) _)) (ig _ _ _) (az0 _ _))) λ_=>a2c (dm (au rfl) (au rfl) (afe (anj (M.lt t ht)))) (u5 _);show (rz fj fu [some (bu t),some T.d,some (.rol (hpD T))] []).bind _=_;rw [q,d7]
   cases p2 t<;>rfl
  have zl:∀ τ:Sd,sZ (sA a5c di) τ [] = .ok (.rol []) []:=λτ=>yz (xs:=[]) rfl uq (by simp)
  have fin:∀ due':D,m7 1 (sZ (xn (sIt (sV 1)) t1 (rz fj fu) (a02 fj fu) [0,2])) [some T.d,some (.rol (ts.map bu)),some (.rol (hpD T)),some due',some (.int ((1+pre.length:Nat)))] [] = .nx [some T.d,some (.rol ((ts.filter p2).map bu)),some (.rol (hpD T)),some due',some (.int ((1+pre.length:Nat)))] []:=λdue'=>aq9 (cf2 _ rfl rfl rfl);have q2:∀ x∈ts,p2 x=gd T x:=λx hx=>by
   have:=a7o h (M.lt x hx)
   show (decide (kI T x<0) && hp T x)=(decide (kI T x = -1) && hp T x)
   by_cases c:kI T x = -1
   ·rw [decide_eq_true c,decide_eq_true (by omega)]
   ·rw [decide_eq_false c,decide_eq_false (by omega)]
  have q1:∀ x∈ts,(p1 x=true↔kI T x ≠ -1):=λx hx=>by
   have:=a7o h (M.lt x hx)
   show decide (0<=kI T x)=true↔_;rw [decide_eq_true_iff];omega
  have k1:=af6 eL q1;have pl:(pre++[pre.length]).length=pre.length+1:=by simp
  have tst:∀ τ:Sd,τ[0]? = some (some T.d)->τ[1]? = some (some (.rol (ts.map bu)))->sT (s2 (arb true) (sZ (xn (sIt (sV 1)) t1 (rm fj fu) (a01 fj fu) [0])) (sZ (sA a5c di))) τ [] = .ok (!(ts.filter p1).isEmpty) []:=λτ h0 h1=>tof (dm (cf1 τ h0 h1) (zl τ) (aqs _ _));refine ⟨_,_,rfl,?_⟩;unfold a03;rw [pl]
  by_cases c:Kn T rs pre.length
  ·obtain ⟨x,hx,px⟩:=k1.mpr c;rw [aqt (List.mem_filter.mpr ⟨hx,px⟩)] at tst;refine ⟨_,_,Eq.trans (jy (yt (au rfl) (au rfl) (et _))) (Eq.trans (ux (Eq.trans (ifT (tst _ rfl rfl)) (aq9 (au rfl)))) (fin _)),ts.filter p2,some (.int ((1+pre.length:Nat))),?_,rfl,ank eL q2⟩;rw [aqr c,Nat.add_comm pre.length 1]
  ·have em:(ts.filter p1).isEmpty=true:=by
    rw [List.isEmpty_iff,List.filter_eq_nil_iff];exact λx hx px=>c (k1.mp ⟨x,hx,px⟩)
   rw [em] at tst;refine ⟨_,_,Eq.trans (jy (yt (au rfl) (au rfl) (et _))) (Eq.trans (ifN (tst _ rfl rfl)) (fin _)),ts.filter p2,some (.int ((1+pre.length:Nat))),?_,rfl,ank eL q2⟩;rw [Mx,if_neg c]
end
section
variable{T:Table}
noncomputable def d9:SF:=oh v9 12
noncomputable def dg:SF:=oh (ue d9) 1
def kds(T:Table):List Nat:=(List.range T.go.length).filter λr=>decide (kI T r ≠ -1)
theorem aay:∀ r∈kds T,r<T.go.length:=λr hr=>List.mem_range.mp (List.mem_filter.mp hr).1
theorem aqu{u:O}{M:Nat}(P:SRC.Src u M):∀ x∈[u],a1o 1 x:=λx hx=>by rw [List.mem_singleton] at hx;subst hx;exact p8 (by omega) P.clo
end
end RCH
namespace L2
open PySem PySem.Spec PyProof.Rows
end L2
namespace MI
open PySem PySem.Spec L2
end MI
namespace PN
open PySem PySem.Spec L2 MI
end PN
namespace PN
open PySem PySem.Spec L2 MI AT HND EVX
local macro_rules | `(tactic| walk_at "ev") => `(tactic| simp only [vm,a1x,aae,aaf,adc,m7,aeg,a2u,sIf,qj,a0f,a9z,put,a6i,a6u,a2x,jn,a2w,kN,sV,sC,s2,s1,sA,ak,di,sNx,sT,asB,a3u,u5,a8m,a8n,a8o,a8p,a6a,sOr,a5i,a2t,avz,ajy,sCh,afd,d7,a08,MI.a5y,MI.a7g,MI.a7h,aja,a0b,gLt,gGt,gGe,gLe,aev,aew,al3,al4,adf,a4e,al5,a5p,aw2,aw3,aw4,aw5,v5,MI.ab5,a5d,ab2,a4d,AT.aho,AT.p18,a2a,a2b,a6l,ap8,a0z,a6t,aa3,ak1,MI.a4k,MI.a5c,sML,isL,a7c,oN,oS,a4w,v8,sIt,aj5,sRg,List.length_map,List.length_cons,List.length_nil,List.length_append,List.getElem?_cons_zero,List.getElem?_cons_succ,List.set_cons_zero,List.set_cons_succ,List.nil_append,List.cons_append,AT.ako,AT.akp,AT.akq,AT.akr,AT.aks,AT.akt,AT.aku,AT.akv,AT.x10,AT.x20,AT.x21,AT.x30,AT.x31,AT.x32,AT.x40,AT.x41,AT.x42,AT.x43,AT.x50,AT.x51,AT.x52,AT.x53,AT.x54,AT.x60,AT.x61,AT.x62,AT.x63,AT.x64,AT.x65,AT.x70,AT.x71,AT.x72,AT.x73,AT.x74,AT.x75,AT.x76,decide_true,decide_false,reduceIte,Bool.true_and,Bool.and_self,Bool.not_true,Bool.not_false,and_self,true_and,and_true,beq_self_eq_true,Nat.reduceAdd,Nat.reduceLeDiff,Nat.reduceLT,Nat.reducePow,Int.reduceLT,Int.reduceLE,Int.reduceNeg,Int.reduceEq,Int.reduceBEq,Bool.false_eq_true,Bool.true_eq_false,ite_true,ite_false,if_true,if_false, *])
end PN
namespace PN
open PySem PySem.Spec L2 MI AT HND EVX K22 K23 K21
local macro_rules | `(tactic| walk_at "ev") => `(tactic| simp only [vm,a1x,aae,aaf,adc,m7,aeg,a2u,sIf,qj,a0f,a9z,put,a6i,a6u,a2x,jn,a2w,kN,sV,sC,s2,s1,sA,ak,di,sNx,sT,asB,a3u,u5,a8m,a8n,a8o,a8p,a6a,sOr,a5i,a2t,avz,ajy,sCh,afd,d7,a08,MI.a5y,MI.a7g,MI.a7h,aja,a0b,gLt,gGt,gGe,gLe,aev,aew,al3,al4,adf,a4e,al5,a5p,aw2,aw3,aw4,aw5,v5,MI.ab5,a5d,ab2,a4d,AT.aho,AT.p18,a2a,a2b,a6l,ap8,a0z,a6t,aa3,ak1,MI.a4k,MI.a5c,sML,isL,a7c,oN,oS,a4w,v8,sIt,aj5,sRg,a2g,yx,a5j,au3,a8f,ahk,ah1,ar7,srcOf,  List.length_map,List.length_cons,List.length_nil,List.length_append,List.getElem?_cons_zero,List.getElem?_cons_succ,List.set_cons_zero,List.set_cons_succ,List.nil_append,List.cons_append,AT.ako,AT.akp,AT.akq,AT.akr,AT.aks,AT.akt,AT.aku,AT.akv,AT.x10,AT.x20,AT.x21,AT.x30,AT.x31,AT.x32,AT.x40,AT.x41,AT.x42,AT.x43,AT.x50,AT.x51,AT.x52,AT.x53,AT.x54,AT.x60,AT.x61,AT.x62,AT.x63,AT.x64,AT.x65,AT.x70,AT.x71,AT.x72,AT.x73,AT.x74,AT.x75,AT.x76,decide_true,decide_false,reduceIte,Bool.true_and,Bool.and_self,Bool.not_true,Bool.not_false,and_self,true_and,and_true,beq_self_eq_true,Nat.reduceAdd,Nat.reduceLeDiff,Nat.reduceLT,Nat.reducePow,Int.reduceLT,Int.reduceLE,Int.reduceNeg,Int.reduceEq,Int.reduceBEq,Bool.false_eq_true,Bool.true_eq_false,ite_true,ite_false,if_true,if_false, *])
end PN
namespace PN
open PySem PySem.Spec L2 MI AT HND EVX K22 K23 K21
section
variable{g:Hd}{n tu:Nat}{tg:List Nat}{rows:List (List Nat)}{ks:List Int}
def Rch(rows:List (List Nat))(r:Nat):Prop:=∀ Q:Nat->Prop,Q 0->(∀ r,Q r->∀ x∈(rows[r]?).getD [],Q x)->Q r
theorem Rch.zero(rows:List (List Nat)):Rch rows 0:=λ_ q _=>q
theorem Rch.step{rows:List (List Nat)}{r x:Nat}(h:Rch rows r)(hx:x∈(rows[r]?).getD []):Rch rows x:=λQ q0 qs=>qs r (h Q q0 qs) x hx
theorem anl{m:List Nat}{x:Nat}(h:x∈m):m[SRC.pos m x]? = some x:=by
 have e:=(ad8 (SRC.ai3 h).1).1;unfold SRC.cst at e;rw [List.getElem?_map] at e
 cases q:m[SRC.pos m x]? with
 | none=>rw [q] at e;cases e
 | some y =>
  rw [q] at e;have e:(y:Int)=(x:Int):=by simpa using e
  congr 1
  omega
theorem anm{m:List Nat}{x i:Nat}(nd:m.Nodup)(h:m[i]? = some x):SRC.pos m x=i:=by
 have h1:=anl (List.mem_of_getElem? h);obtain ⟨a,ea⟩:=List.getElem?_eq_some_iff.mp h;obtain ⟨b,eb⟩:=List.getElem?_eq_some_iff.mp h1;have pw:=List.pairwise_iff_getElem.mp nd
 rcases Nat.lt_trichotomy (SRC.pos m x) i with z | z | z
 ·exact absurd (eb.trans ea.symm) (pw _ _ b a z)
 ·exact z
 ·exact absurd (ea.trans eb.symm) (pw _ _ a b z)
theorem aqv{rows:List (List Nat)}{m:List Nat}(nd:m.Nodup)(m0:m[0]? = some 0)(cl:∀ r∈m,∀ x∈(rows[r]?).getD [],x∈m)(rc:∀ r∈m,Rch rows r):∀ r,r<(SRC.a90 rows m).length->Rch (SRC.a90 rows m) r:=by
 intro r hr Q q0 qs
 have hr':r<m.length:=by simpa using hr
 have er:m[r]? = some m[r]:=List.getElem?_eq_getElem hr';have key:=(rc m[r] (List.getElem_mem hr') (λx=>x∈m/\Q (SRC.pos m x)) ⟨List.mem_of_getElem? m0,by rw [anm nd m0];exact q0⟩ λa ⟨ha,qa⟩ x hx=>⟨cl a ha x hx,qs _ qa _ (by
  rw [List.getElem?_map,anl ha];exact List.mem_map.mpr ⟨x,hx,rfl⟩)⟩).2
 rwa [anm nd er] at key
end
end PN
namespace SRC
open PySem PySem.Spec L2 MI AT HND EVX
structure MetQ (rows:List (List Nat)) (n:Nat) (met:List Nat):Prop extends Met n met where
 q:∀ x∈met,PN.Rch rows x
theorem MetQ.len{rows:List (List Nat)}{n:Nat}{met:List Nat}(M:MetQ rows n met):met.length<=n:=M.toMet.len
theorem MetQ.add{rows:List (List Nat)}{n x:Nat}{met:List Nat}(M:MetQ rows n met)(hx:x<n)(hq:PN.Rch rows x)(h:x ∉ met):MetQ rows n (met++[x]) :=
 ⟨M.toMet.add hx h,λy hy=>(List.mem_append.mp hy).elim (M.q y) λz=>by rw [List.mem_singleton] at z;subst z;exact hq⟩
section
variable{A B C:SF}{most n:Nat}{tg:List Nat}{many:Int}{rows:List (List Nat)}{ks:List Int}
theorem aim{u:O}{i:Nat}{t8:Option D}{met row:List Nat}(n32:n<=32)(M:MetQ rows n met)(rx:∀ x∈row,x<n)(rq:∀ x∈row,PN.Rch rows x) :
  ∃ (met':List Nat) (t8':Option D),forL (λ_=>True) (kN 8) (vy A B C) (row.map bu) (τT most tg many rows ks (.ref 1) i t8 none) [u, .lst (met.map bu)] = .nx (τT most tg many rows ks (.ref 1) i t8' none) [u, .lst (met'.map bu)]/\MetQ rows n met'/\(∃ add,met'=met++add)/\∀ x∈row,x∈met':=by
 have lp:=mz (g:=kN 8) (b:=vy A B C) bu
  (λpre τ h=>∃ (met':List Nat) (t8:Option D),τ=τT most tg many rows ks (.ref 1) i t8 none/\h=[u, .lst (met'.map bu)]/\MetQ rows n met'/\(∃ add,met'=met++add)/\∀ x∈pre,x∈met')
  row (τT most tg many rows ks (.ref 1) i t8 none) [u, .lst (met.map bu)] ?_ ⟨met,t8,rfl,rfl,M,⟨[],by simp⟩,by simp⟩
 ·obtain ⟨τ',h',e,met',t8',rfl,rfl,M',ad,al⟩:=lp;exact ⟨met',t8',e,M',ad,al⟩
 ·rintro pre x post τ h all ⟨met',t8,rfl,rfl,M',⟨add,rfl⟩,al⟩
  have hx:x<n:=rx x (by rw [all];simp)
  have hq:PN.Rch rows x:=rq x (by rw [all];simp)
  unfold vy
  by_cases h:x∈met++add
  ·refine ⟨_,_,rfl,τT most tg many rows ks (.ref 1) i (some (bu x)) none,[u, .lst ((met++add).map bu)],?_,met++add,_,rfl,rfl,M',⟨add,rfl⟩,λy hy=>?_⟩
   ·refine Eq.trans (ifF (tof (dm (au rfl) (au rfl) ((a5t (l:=met++add) rfl).trans (by rw [decide_eq_true h];rfl))))) rfl
   ·rcases List.mem_append.mp hy with z | z
    ·exact al y z
    ·rw [List.mem_singleton] at z;subst z;exact h
  ·refine ⟨_,_,rfl,τT most tg many rows ks (.ref 1) i (some (bu x)) none,[u, .lst ((met++add++[x]).map bu)],?_,met++add++[x],_,rfl,rfl,M'.add hx hq h,⟨add++[x],by simp⟩,λy hy=>?_⟩
   ·have ln:=M'.len;refine Eq.trans (ifT (tof (dm (au rfl) (au rfl) ((a5t (l:=met++add) rfl).trans (by rw [decide_eq_false h];rfl))))) ?_
    rw [List.map_append (l₁:=met++add)];exact a4g (au rfl) rfl (arg1 (au rfl)) (a4h (xs:=(met++add).map bu) rfl (by rw [List.length_map];exact a1l (by omega)))
   ·rcases List.mem_append.mp hy with z | z
    ·exact List.mem_append_left _ (al y z)
    ·rw [List.mem_singleton] at z;subst z;simp
theorem alq{u:O}{s:Nat}(n1:1<=n)(n32:n<=32)(lr:rows.length=n)(rr:∀ r∈rows,ahy s n r) :
  ∃ (met:List Nat) (i:Nat) (t8:Option D),sWh (zy A B C) (vz A B C) 100000 (τT most tg many rows ks (.ref 1) 0 none none) [u, .lst ([0].map bu)] = .nx (τT most tg many rows ks (.ref 1) i t8 none) [u, .lst (met.map bu)]/\MetQ rows n met/\∀ r∈met,∀ x∈(rows[r]?).getD [],x∈met:=by
 have w:=apx (c:=zy A B C) (f:=vz A B C)
  (λm τ h=>∃ (met:List Nat) (i:Nat) (t8:Option D),τ=τT most tg many rows ks (.ref 1) i t8 none/\h=[u, .lst (met.map bu)]/\m=32 - i/\i<=met.length/\MetQ rows n met/\Done rows met i)
  (λτ h=>∃ (met:List Nat) (i:Nat) (t8:Option D),τ=τT most tg many rows ks (.ref 1) i t8 none/\h=[u, .lst (met.map bu)]/\MetQ rows n met/\Done rows met met.length)
  (λ_ _=>False) ?_ 32 100000 (τT most tg many rows ks (.ref 1) 0 none none) [u, .lst ([0].map bu)] (by omega)
  ⟨[0],0,none,rfl,rfl,rfl,by simp,⟨⟨by simp,by simp;omega,by simp⟩,λx hx=>by rw [List.mem_singleton] at hx;subst hx;exact PN.Rch.zero rows⟩,λj hj=>absurd hj (Nat.not_lt_zero j)⟩
 ·rcases w with ⟨τ',h',e,met,i,t8,rfl,rfl,M,D⟩ | ⟨_,_,_,z⟩
  ·refine ⟨met,i,t8,e,M,λr hr x hx=>?_⟩;obtain ⟨j,hj,rfl⟩:=List.getElem_of_mem hr;exact D j hj _ (List.getElem?_eq_getElem hj) x hx
  ·exact z.elim
 ·rintro m τ h ⟨met,i,t8,rfl,rfl,rfl,il,M,D⟩
  have ln:=M.len;have lm:∀ h:Hd,h[1]? = some (.lst (met.map bu))->vh [.ref 1] h = .ok (bu met.length) h:=λh e=>by rw [a8r e,List.length_map]
  by_cases lt:i<met.length
  ·refine .inr ⟨_,tof (dm (au rfl) (yg (au rfl) (lm _ rfl)) (aqa (by omega))), .inl ?_⟩
   have rl:met[i]<n:=M.lt _ (List.getElem_mem lt);have gm:met[i]? = some met[i]:=List.getElem?_eq_getElem lt
   generalize met[i]=r at rl gm
   have gr:rows[r]? = some ((rows[r]?).getD []):=by rw [List.getElem?_eq_getElem (by omega)];rfl
   have rn:=rr _ (List.mem_of_getElem? gr);obtain ⟨met',t8',e,M',⟨add,ea⟩,al⟩  :=aim (A:=A) (B:=B) (C:=C) (u:=u) (i:=i) (t8:=t8) (most:=most) (tg:=tg) (many:=many) (rows:=rows) (ks:=ks) n32 M rn.2 (λx hx=>(M.q r (List.mem_of_getElem? gm)).step hx);refine ⟨τT most tg many rows ks (.ref 1) (i+1) t8' none,[u, .lst (met'.map bu)],32 - (i+1),?_,by omega,met',i+1,t8',rfl,rfl,rfl,by rw [ea,List.length_append];omega,M',λj hj q hq x hx=>?_⟩
   ·unfold vz;refine Eq.trans (a09 (a5q (dm (au rfl) (dm (au rfl) (au rfl) (yu (xs:=met.map bu) rfl (y:=bu r) (by rw [List.getElem?_map,gm];rfl))) (afe (y:=a6z ((rows[r]?).getD [])) (by rw [List.getElem?_map,gr];rfl))) rfl)) ?_
    refine Eq.trans (congrArg (λz=>MI.thn z _) e) ?_;rw [a1x];exact al8 rfl (ig _ _ _) a0z
   ·by_cases je:j=i
    ·subst je;rw [ea,List.getElem?_append_left lt,gm] at hq;cases hq
     exact al x hx
    ·have jl:j<met.length:=by omega
     rw [ea,List.getElem?_append_left jl] at hq;rw [ea];exact List.mem_append_left _ (D j (by omega) q hq x hx)
  ·refine .inl ⟨_,tof (dm (au rfl) (yg (au rfl) (lm _ rfl)) (ard (by omega))),met,i,t8,rfl,rfl,M,?_⟩
   rw [show met.length=i by omega];exact D
end
theorem ain{o:O}{N most:Nat}(P:Src o N)(hN:N<=999980000)(m1:1<=most)(m32:most<=32):∃ (T:Table) (o':O),T.Ok/\(∀ r,r<T.go.length->PN.Rch T.go r)/\Dr gj 2 [bu most] o T.d o'/\Src o' (N+400):=by
 obtain ⟨tg,o1,T1,e1,P1⟩:=ahx P (by omega)
 obtain ⟨x,o2,e2,x0,x1,P2⟩:=qp (m:=7) P1 (by omega) (by omega) (by omega)
 obtain ⟨y,o3,e3,y0,y1,P3⟩:=qp (m:=6) P2 (by omega) (by omega) (by omega)
 obtain ⟨z,o4,e4,z0,z1,P4⟩:=qp (m:=(most:Nat)) P3 (by omega) (by omega) (by omega)
 have c1:jz false 1 gk [.ref 0] [o] = .ok (.str (S tg)) [o1]:=e1 0 _ rfl;have c2:jz false 2 aa [.ref 0, .int 7] [o1] = .ok (.int x) [o2]:=e2 0 _ rfl;have c3:jz false 2 aa [.ref 0, .int 6] [o2] = .ok (.int y) [o3]:=e3 0 _ rfl;have c4:jz false 2 aa [.ref 0,bu most] [o3] = .ok (.int z) [o4]:=e4 0 _ rfl;obtain ⟨many,u,n1,Pu,eu⟩:∃ (many:Int) (u:O),1<=many/\Src u (N+10)/\∀ g:SS,j7 (m7 3 (s2 j6 (sC (.int 2)) (sA (jz false 2 aa) (ak (sV 0) (ak (sC (.int 7)) di)))))
   (j7 (sIf (sT (s2 hEq (sA (jz false 2 aa) (ak (sV 0) (ak (sC (.int 6)) di))) (sC (.int 0))))
    (m7 3 (s2 j6 (sC (.int 1)) (sA (jz false 2 aa) (ak (sV 0) (ak (sV 1) di)))))
    sNx) g) [some (.ref 0),some (bu most),some (.str (S tg)),none,none,none,none,none,none,none] [o1]=g [some (.ref 0),some (bu most),some (.str (S tg)),some (.int many),none,none,none,none,none,none] [u]:=by
  by_cases hy:y=0
  ·refine ⟨1+z,o4,by omega,P4,λg=>?_⟩
   refine Eq.trans (jy (dm (ig _ _ _) (yt (au rfl) (ig _ _ _) c2) v5)) ?_;exact ux (Eq.trans (ifT (tof (dm (yt (au rfl) (ig _ _ _) c3) (ig _ _ _) (aam hy)))) (aq9 (dm (ig _ _ _) (yt (au rfl) (au rfl) c4) v5)))
  ·refine ⟨2+x,o3,by omega,P3.up (by omega),λg=>?_⟩
   refine Eq.trans (jy (dm (ig _ _ _) (yt (au rfl) (ig _ _ _) c2) v5)) ?_;exact ifN (tof (dm (yt (au rfl) (ig _ _ _) c3) (ig _ _ _) (aey hy)))
 obtain ⟨n,hn1,hn2,mn⟩:∃ n:Nat,1<=n/\n<=32/\(if (most:Int)<many then (most:Int) else many)=(n:Nat):=by
  by_cases h:(most:Int)<many
  ·exact ⟨most,m1,m32,if_pos h⟩
  ·exact ⟨many.toNat,by omega,by omega,by rw [if_neg h];omega⟩
 obtain ⟨ks,rows,u2,lk,k0,kk,lr,rr,e5,P5⟩:=ald (tg:=tg) (n:=n) Pu (by omega) T1.hi hn1 hn2
 have c5:jz false 3 iw [.ref 0, .str (S tg),bu n] [u] = .ok (.tup [.rol (rows.map a6z), .rol (ks.map D.int)]) [u2]:=e5 0 _ rfl;obtain ⟨met,i,t8,ew,M,cl⟩  :=alq (A:=aa) (B:=iw) (C:=gk) (u:=u2) (most:=most) (tg:=tg) (many:=many) (ks:=ks) hn1 hn2 lr rr;obtain ⟨m,pm,sm,H,hH,ee⟩:=ai6 (A:=aa) (B:=iw) (C:=gk) (most:=most) (many:=many) (i:=i) (t8:=t8) P5 hn2 lr lk T1.hi rr M.toMet cl;have lm:m.length=met.length:=pm.length_eq;have ln:=M.len;have zm:0∈m:=pm.mem_iff.mpr M.z;have m0:m[0]? = some 0:=by
  cases m with
  | nil=>cases zm
  | cons a l =>
   rcases List.mem_cons.mp zm with q | q
   ·rw [<-q];rfl
   ·have:=(List.pairwise_cons.mp sm).1 0 q
    rw [show a=0 by omega];rfl
 let T:Table:=⟨tg,a90 rows m,a7l ks m⟩
 have ml:1<=m.length:=by cases m with | nil=>cases zm | cons _ _=>simp
 have ok:T.Ok:=by
  refine ⟨T1,by simpa [T] using ml,by show (a90 rows m).length<=32;rw [List.length_map];omega,λr hr=>?_,by simp [T],?_,λk hk=>?_⟩
  ·obtain ⟨q,hq,rfl⟩:=List.mem_map.mp hr;have h1:=M.lt q (pm.mem_iff.mp hq);have e:rows[q]? = some ((rows[q]?).getD []):=by rw [List.getElem?_eq_getElem (by omega)];rfl
   obtain ⟨a,b⟩:=rr _ (List.mem_of_getElem? e);refine ⟨by rw [List.length_map];exact a,λx hx=>?_⟩
   obtain ⟨v,hv,rfl⟩:=List.mem_map.mp hx;show pos m v<(a90 rows m).length;rw [List.length_map];exact (ai3 (pm.mem_iff.mpr (cl q (pm.mem_iff.mp hq) v hv))).2
  ·show (a7l ks m)[0]? = _;rw [List.getElem?_map,m0];show some ((ks[0]?).getD 0)=_;rw [k0];rfl
  ·obtain ⟨q,hq,rfl⟩:=List.mem_map.mp hk;have h1:=M.lt q (pm.mem_iff.mp hq);have e:ks[q]? = some ((ks[q]?).getD 0):=by rw [List.getElem?_eq_getElem (by omega)];rfl
   exact kk _ (List.mem_of_getElem? e)
 refine ⟨T,u2,ok,PN.aqv (pm.nodup_iff.mpr M.nd) m0 (λr hr x hx=>pm.mem_iff.mpr (cl r (pm.mem_iff.mp hr) x hx)) (λr hr=>M.q r (pm.mem_iff.mp hr)),Dr.of rfl (by intro x hx;rw [List.mem_singleton] at hx;subst hx;exact jw _) P.clo (r:=.ok T.d H) ?_ ((jx (aag (Nat.zero_le 1) Table.clo) (by rw [hH];intro x hx;rw [List.mem_singleton] at hx;subst hx;exact p8 (by omega) P5.clo)).trans (by rw [hH])) Table.clo P5.clo,P5.up (by omega)⟩
 unfold gj;rw [j9];show toR (a0p aa iw gk [some (.ref 0),some (bu most),none,none,none,none,none,none,none,none] [o])=_;unfold a0p;refine Eq.trans (congrArg toR (jy (yg (au rfl) c1))) ?_;refine Eq.trans (congrArg toR (eu _)) ?_;refine Eq.trans (congrArg toR (ux (a6x (aal (au rfl) (au rfl) (yt (au rfl) (au rfl) (show aa3 [.int many, .int (most:Int)] [u] = .ok (bu n) [u] by show R.ok (D.int (if (most:Int)<many then (most:Int) else many)) [u]=_;rw [mn])) c5) rfl))) ?_
 refine Eq.trans (congrArg toR (jy (d:=.ref 1) (h1:=[u2, .lst ([0].map bu)]) rfl)) ?_;refine Eq.trans (congrArg toR (jy (ig _ _ _))) ?_;refine Eq.trans (congrArg toR (ux ew)) ?_;exact ee
end SRC
namespace STP
open PySem PySem.Spec L2 MI AT HND EVX K23 K21 RCH
open K22 hiding hp d9 dg
open K40
section
variable{T:Table}
noncomputable def lq:SF:=oh sr 2
noncomputable def dw:SF:=oh qu 8
noncomputable def iy:SF:=oh (vf STP.dw) 3
theorem alr{d:D}(p:Pln d):Pu STP.lq 2 [.str (S T.tg),d] (.bl (txt T d)):=K21.af4 p
theorem aio(h:T.Ok){r:Nat}{l:List Nat}(hr:r<T.go.length)(hl:∀ c∈l,c∈T.tg)(ll:l.length<=1000):Pu STP.dw 3 [T.d,bu r, .str (S l)] (.rol ((rms T r l).map bu)):=K23.ado h hr hl ll
theorem a9a(h:T.Ok){r:Nat}{l:List Nat}(hr:r<T.go.length)(hl:∀ c∈l,c∈T.tg)(ll:l.length<=1000):Pu STP.iy 3 [T.d,bu r, .str (S l)] (bu (ldw T r l)):=K23.aqo h hr hl ll
theorem ano(h:T.Ok){c:Nat}(hc:c<T.tg.length):psn T (tgA T c)=c:=by
 have hm:tgA T c∈T.tg:=List.mem_of_getElem? (af3 hc);obtain ⟨i,e1,e2,_⟩:=a7z (T:=S T.tg) (c:=tgA T c) (by rw [zb];exact hm)
 rw [zb] at e2;have e3:psn T (tgA T c)=i:=by unfold psn;rw [e1];simp
 rw [e3];obtain ⟨a,ea⟩:=List.getElem?_eq_some_iff.mp e2;obtain ⟨b,eb⟩:=List.getElem?_eq_some_iff.mp (af3 hc);have pw:=List.pairwise_iff_getElem.mp h.tong.nd
 rcases Nat.lt_trichotomy i c with z | z | z
 ·exact absurd (ea.trans eb.symm) (pw _ _ a b z)
 ·exact z
 ·exact absurd (eb.trans ea.symm) (pw _ _ b a z)
abbrev Ent:=Nat × List Nat
def wtD(e:Ent):D:=.tup [bu e.1, .str (S e.2)]
def kvD(e:Ent):Key × D:=(.inl (e.1:Int), .str (S e.2))
structure Way (T:Table) (ps:Nat->Bool) (s:Nat) (e:Ent):Prop where
 to:ldw T s e.2=e.1
 sg:∀ c∈e.2,c∈T.tg
 ps:∀ i,i<e.2.length->ps (ldw T s (e.2.take (i+1)))=true
structure WSt (T:Table) (ps:Nat->Bool) (s:Nat) (es:List Ent):Prop where
 way:∀ e∈(s,[])::es,Way T ps s e
 ne:∀ e∈es,e.2≠[]
 nd:(es.map (·.1)).Nodup
 len:∀ (j:Nat) (e:Ent),((s,[])::es)[j]? = some e->e.2.length<=j
variable{ps:Nat->Bool}{s:Nat}{es:List Ent}
theorem WSt.start:WSt T ps s []:=by
 refine ⟨λe he=>?_,by simp,by simp,λj e he=>?_⟩
 ·rw [List.mem_singleton] at he;subst he;exact ⟨rfl,by simp,λi hi=>absurd hi (Nat.not_lt_zero i)⟩
 ·cases j with
  | zero=>simp at he;subst he;exact Nat.le_refl _
  | succ j=>simp at he
theorem WSt.lt(h:T.Ok)(hs:s<T.go.length)(W:WSt T ps s es){e:Ent}(he:e∈(s,[])::es):e.1<T.go.length:=by rw [<-(W.way e he).to];exact yw h _ hs
theorem WSt.few(h:T.Ok)(hs:s<T.go.length)(W:WSt T ps s es):es.length<=T.go.length:=by
 have:=BF.a1b T.go.length (es.map (·.1)) W.nd λx hx=>by
  obtain ⟨e,he,rfl⟩:=List.mem_map.mp hx;exact W.lt h hs (List.mem_cons_of_mem _ he)
 simpa using this
theorem WSt.add(W:WSt T ps s es){e:Ent}(we:Way T ps s e)(ne:e.2≠[])(nw:e.1 ∉ es.map (·.1))(le:e.2.length<=es.length+1):WSt T ps s (es++[e]):=by
 refine ⟨λx hx=>?_,λx hx=>?_,?_,λj x hx=>?_⟩
 ·rcases List.mem_append.mp (show x∈((s,[])::es)++[e] from hx) with z | z
  ·exact W.way x z
  ·rw [List.mem_singleton] at z;subst z;exact we
 ·rcases List.mem_append.mp hx with z | z
  ·exact W.ne x z
  ·rw [List.mem_singleton] at z;subst z;exact ne
 ·rw [List.map_append,List.nodup_append];refine ⟨W.nd,by simp,λa ha b hb=>?_⟩
  rw [List.map_singleton,List.mem_singleton] at hb;subst hb;exact λz=>nw (z ▸ ha)
 ·rw [show (s,[])::(es++[e])=((s,[])::es)++[e] from rfl] at hx
  by_cases hj:j<((s,([]:List Nat))::es).length
  ·rw [List.getElem?_append_left hj] at hx;exact W.len j x hx
  ·rw [List.getElem?_append_right (by omega)] at hx
   rw [List.length_cons] at hx hj;have:j - (es.length+1)=0:=by
    have:=(List.getElem?_eq_some_iff.mp hx).1
    simp at this;omega
   rw [this] at hx;simp at hx;subst hx;omega
theorem anp{x:Nat}(h:x ∉ es.map (·.1)):a3l (es.map kvD) (.inl (x:Int))=none/\∀ d,putD (es.map kvD) (.inl (x:Int)) d=es.map kvD++[(.inl (x:Int),d)]:=by
 have no:∀ kv∈es.map kvD,¬ decide (kv.1=(.inl (x:Int):Key))=true:=λkv hkv=>by
  obtain ⟨e,he,rfl⟩:=List.mem_map.mp hkv;rw [decide_eq_true_iff]
  intro z
  have:(e.1:Int)=(x:Int):=Sum.inl.inj z
  exact h (List.mem_map.mpr ⟨e,he,by omega⟩)
 constructor
 ·unfold a3l;rw [List.find?_eq_none.mpr no];rfl
 ·intro d
  unfold putD;rw [if_neg]
  intro z
  obtain ⟨kv,hkv,e⟩:=List.any_eq_true.mp z;exact no kv hkv e
theorem a9b:∀ {es:List Ent} {e:Ent},e∈es->(es.map (·.1)).Nodup->a3l (es.map kvD) (.inl (e.1:Int))=some (.str (S e.2))
 | a::es,e,he,nd=>by
  unfold a3l;rw [List.map_cons,List.find?_cons]
  by_cases q:a=e
  ·subst q;rw [show decide ((kvD a).1=(.inl (a.1:Int):Key))=true from decide_eq_true rfl]
   rfl
  ·have he':e∈es:=(List.mem_cons.mp he).resolve_left λz=>q z.symm;have na:a.1≠e.1:=λz=>(List.nodup_cons.mp nd).1 (List.mem_map.mpr ⟨e,he',z.symm⟩);rw [show decide ((kvD a).1=(.inl (e.1:Int):Key))=false from decide_eq_false λz=>na (by have:(a.1:Int)=(e.1:Int):=Sum.inl.inj z;omega)]
   exact a9b he' (List.nodup_cons.mp nd).2
theorem aip(es:List Ent):((es.map kvD).map (·.1)).zip ((es.map kvD).map (·.2))=es.map kvD:=by
 rw [List.map_map,List.map_map]
 induction es with
 | nil=>rfl
 | cons a l ih=>rw [List.map_cons,List.map_cons,List.zip_cons_cons,ih];rfl
theorem aiq{n k i:Nat}{h:Hd}{kvs:List (Key × D)}(hi:n<=i)(e:h[i]? = some (.dK kvs))(c:clos n (kvs.map (·.2))):a4l n h (k+2) (.ref i)=some (.rod (kvs.map (·.1)) (kvs.map (·.2))):=by
 unfold a4l;rw [if_neg (by simp only [MI.clo];omega)]
 simp only [e];rw [a8g λx hx=>a8h (a0l.mp c x hx)];rfl
abbrev wrD(es:List Ent):D:=.rod ((es.map kvD).map (·.1)) ((es.map kvD).map (·.2))
theorem anq(n:Nat)(es:List Ent):clos n ((es.map kvD).map (·.2)):=by rw [List.map_map];exact jd λe _=>jq _
theorem aqw(n:Nat):MI.clo n (wrD es):=by
 have:=anq n es
 simpa [MI.clo] using this
theorem aqx{e:Ent}(he:e∈es)(nd:(es.map (·.1)).Nodup)(hh:Hd):aac (wrD es) (bu e.1) hh = .ok (.str (S e.2)) hh:=by
 have q:amt (wrD es) (bu e.1) hh=some (some (.str (S e.2))):=by
  show some (a3l (((es.map kvD).map (·.1)).zip ((es.map kvD).map (·.2))) (.inl (e.1:Int)))=_;rw [aip,a9b he nd]
 unfold aac;rw [q]
abbrev hW(s:Nat)(es:List Ent):Hd:=[.dK (es.map kvD), .lst (((s,[])::es).map wtD)]
abbrev τW(T:Table)(s:Nat)(P:D)(l:Nat)(t9 t10 t11 t12:Option D):Sd:=[some T.d,some (bu s),some P,some (.str (S T.tg)),some (.tup (T.go.map a8x)),some (.tup (T.ks.map D.int)),some (.ref 0),some (.ref 1),some (bu l),t9,t10,t11,t12]
theorem af7(h:T.Ok)(hs:s<T.go.length){P:D}(hP:∀ x,x<T.go.length->∀ hh,gIx P (bu x) hh = .ok (.bl (ps x)) hh)(W:WSt T ps s es){l c:Nat}{e:Ent}(he:((s,[])::es)[l]? = some e)(hc:c<T.tg.length)(τ:Sd)
  (hτ:τ=τW T s P l (some (bu e.1)) (some (.str (S e.2))) (some (.str (S [tgA T c]))) (some (bu (stp T e.1 c)))) :
  ∃ add,yc τ (hW s es) = .nx τ (hW s (es++add))/\WSt T ps s (es++add)/\(ps (stp T e.1 c)=true->stp T e.1 c∈(es++add).map (·.1)):=by
 have n32:=h.n32;have fw:=W.few h hs;have sl:=a7m h e.1 c;have em:=List.mem_of_getElem? he;have ll:=(List.getElem?_eq_some_iff.mp he).1;rw [List.length_cons] at ll;have we:=W.len l e he;have eW:=W.way e em;subst hτ;have t1:a3u (s2 gIx (sV 2) (sV 12)) (τW T s P l (some (bu e.1)) (some (.str (S e.2))) (some (.str (S [tgA T c]))) (some (bu (stp T e.1 c)))) (hW s es) = .ok (ps (stp T e.1 c)) (hW s es):=a2c (dm (au rfl) (au rfl) (hP _ sl _)) (u5 _);have din:aep true (bu (stp T e.1 c)) (.ref 0) (hW s es) = .ok (.bl (!(a3l (es.map kvD) (.inl ((stp T e.1 c:Nat):Int))).isSome)) (hW s es):=rfl
 unfold yc
 cases hp:ps (stp T e.1 c) with
 | false =>
  rw [hp] at t1;exact ⟨[],by rw [List.append_nil];exact ifF (aue t1),by rw [List.append_nil];exact W,λz=>by cases z⟩
 | true =>
  rw [hp] at t1
  by_cases sn:stp T e.1 c∈es.map (·.1)
  ·obtain ⟨e2,he2,q⟩:=List.mem_map.mp sn;refine ⟨[],?_,by rw [List.append_nil];exact W,λ_=>by rw [List.append_nil];exact sn⟩
   rw [List.append_nil];refine ifF (al6 t1 (tof (dm (au rfl) (au rfl) (din.trans ?_))));rw [<-q,a9b he2 W.nd];rfl
  ·have wo:Way T ps s (stp T e.1 c,e.2++[tgA T c]):=by
    have lw:ldw T s (e.2++[tgA T c])=stp T e.1 c:=by rw [a1e,ano h hc,eW.to]
    refine ⟨lw,λd hd=>?_,λi hi=>?_⟩
    ·rcases List.mem_append.mp hd with z | z
     ·exact eW.sg d z
     ·rw [List.mem_singleton] at z;subst z;exact List.mem_of_getElem? (af3 hc)
    ·rw [List.length_append,List.length_singleton] at hi
     by_cases q:i<e.2.length
     ·show ps (ldw T s ((e.2++[tgA T c]).take (i+1)))=true;rw [List.take_append_of_le_length (by omega)];exact eW.ps i q
     ·show ps (ldw T s ((e.2++[tgA T c]).take (i+1)))=true;rw [List.take_of_length_le (by rw [List.length_append,List.length_singleton];omega),lw];exact hp
   obtain ⟨v1,v2⟩:=anp sn;have add:∀ hh,j6 (.str (S e.2)) (.str (S [tgA T c])) hh = .ok (.str (S (e.2++[tgA T c]))) hh:=λhh=>a04 (gq (by rw [List.length_singleton];omega))
   have p:amu (.ref 0) (bu (stp T e.1 c)) (.str (S (e.2++[tgA T c]))) (hW s es)=some [.dK ((es++[(stp T e.1 c,e.2++[tgA T c])]).map kvD), .lst (((s,[])::es).map wtD)]:=by
    have lt:(es.map kvD).length<LINE:=a1l (by rw [List.length_map];omega)
    show (if (es.map kvD).length<LINE then some [O.dK (putD (es.map kvD) (.inl ((stp T e.1 c:Nat):Int)) (.str (S (e.2++[tgA T c])))),O.lst (((s,[])::es).map wtD)] else none)=_
    rw [if_pos lt,v2,List.map_append];rfl
   refine ⟨[(stp T e.1 c,e.2++[tgA T c])],?_,W.add wo (by simp) sn (by rw [List.length_append,List.length_singleton];omega),λ_=>by rw [List.map_append];exact List.mem_append_right _ (by simp)⟩
   refine Eq.trans (ifT (al6 t1 (tof (dm (au rfl) (au rfl) (din.trans (by rw [v1];rfl)))))) ?_
   refine Eq.trans (ux (ahs (dm (au rfl) (au rfl) (add _)) (au rfl) (au rfl) p)) ?_;refine Eq.trans (a4g (au rfl) rfl (arg1 (yt (au rfl) (dm (au rfl) (au rfl) (add _)) arf)) (a4h (xs:=((s,[])::es).map wtD) rfl (a1l (by rw [List.length_map,List.length_cons];omega)))) ?_
   unfold hW;rw [show (s,[])::(es++[(stp T e.1 c,e.2++[tgA T c])])=((s,[])::es)++[(stp T e.1 c,e.2++[tgA T c])] from rfl,List.map_append (l₁:=(s,[])::es)]
   rfl
def ay1(T:Table)(ps:Nat->Bool)(s:Nat)(es:List Ent):Prop:=∀ e∈(s,[])::es,∀ x∈rw' T e.1,ps x=true->x∈es.map (·.1)
noncomputable def dh:SF:=oh a2o 13
theorem a9c(h:T.Ok)(hs:s<T.go.length){P:D}(cP:MI.clo 0 P)(hP:∀ x,x<T.go.length->∀ hh,gIx P (bu x) hh = .ok (.bl (ps x)) hh):∃ es,WSt T ps s es/\ay1 T ps s es/\Pu dh 3 [T.d,bu s,P] (wrD es):=by
 have n32:=h.n32;have s6:=h.tong.hi;have w:=apx (c:=a4a) (f:=a0v)
  (λm τ hh=>∃ (es:List Ent) (l:Nat) (t9 t10 t11 t12:Option D),τ=τW T s P l t9 t10 t11 t12/\hh=hW s es/\m=T.go.length+1 - l/\l<=es.length+1/\WSt T ps s es/\∀ j,j<l->∀ e,((s,[])::es)[j]? = some e->∀ x∈rw' T e.1,ps x=true->x∈es.map (·.1))
  (λτ hh=>∃ (es:List Ent) (l:Nat) (t9 t10 t11 t12:Option D),τ=τW T s P l t9 t10 t11 t12/\hh=hW s es/\WSt T ps s es/\ay1 T ps s es)
  (λ_ _=>False) ?_ (T.go.length+1) 100000 (τW T s P 0 none none none none) (hW s []) (by omega)
  ⟨[],0,none,none,none,none,rfl,rfl,rfl,by simp,WSt.start,λj hj=>absurd hj (Nat.not_lt_zero j)⟩
 ·rcases w with ⟨τ',h',e,es,l,t9,t10,t11,t12,rfl,rfl,W,C⟩ | ⟨_,_,_,z⟩
  ·refine ⟨es,W,C,Pu.of rfl (aqn (jw _) cP) (r:=.ok (.ref 0) (hW s es)) ?_ (a6j (aiq (Nat.le_refl _) rfl (anq _ _)) (by simp)) (aqw _)⟩
   unfold dh;rw [j9];show toR (a2o [some T.d,some (bu s),some P,none,none,none,none,none,none,none,none,none,none] [])=_;unfold a2o;refine Eq.trans (congrArg toR (ux (a6x (au rfl) rfl))) ?_;refine Eq.trans (congrArg toR (jy (d:=.ref 0) (h1:=[.dK []]) rfl)) ?_;refine Eq.trans (congrArg toR (jy (yg (yt (au rfl) (ig _ _ _) arf) rfl))) ?_;refine Eq.trans (congrArg toR (jy (ig _ _ _))) ?_;refine Eq.trans (congrArg toR (ux e)) ?_;exact congrArg toR (n6 (au rfl))
  ·exact z.elim
 ·rintro m τ hh ⟨es,l,t9,t10,t11,t12,rfl,rfl,rfl,le,W,Dn⟩
  have fw:=W.few h hs;have ln:vh [.ref 1] (hW s es) = .ok (bu (es.length+1)) (hW s es):=by
   have:=a8r (h:=hW s es) (i:=1) (xs:=((s,[])::es).map wtD) rfl
   rwa [List.length_map,List.length_cons] at this
  by_cases lt:l<es.length+1
  ·refine .inr ⟨_,tof (dm (au rfl) (yg (au rfl) ln) (aqa (by omega))), .inl ?_⟩
   have he:((s,[])::es)[l]? = some ((s,[])::es)[l]:=List.getElem?_eq_getElem (by simpa using lt)
   generalize ((s,[])::es)[l]=e at he
   have el:=W.lt h hs (List.mem_of_getElem? he);obtain ⟨row,er,lr,lx,at'⟩:=ai7 h el;have lo:=mz (g:=a2x 2 (jn (kN 11) (jn (kN 12) a2w))) (b:=yc) (λc:Nat=>D.tup [.str (S [tgA T c]),bu (stp T e.1 c)])
    (λpre τ hh=>∃ (es':List Ent) (t11 t12:Option D),τ=τW T s P l (some (bu e.1)) (some (.str (S e.2))) t11 t12/\hh=hW s es'/\WSt T ps s es'/\(∃ add,es'=es++add)/\∀ c∈pre,ps (stp T e.1 c)=true->stp T e.1 c∈es'.map (·.1))
    (List.range T.tg.length) (τW T s P l (some (bu e.1)) (some (.str (S e.2))) t11 t12) (hW s es) ?_ ⟨es,t11,t12,rfl,rfl,W,⟨[],by simp⟩,by simp⟩
   ·obtain ⟨τ',h',e2,es',t11',t12',rfl,rfl,W',⟨add,rfl⟩,al⟩:=lo;have fx:gIx (.ref 1) (bu l) (hW s es) = .ok (wtD e) (hW s es):=yu (xs:=((s,[])::es).map wtD) rfl (by rw [List.getElem?_map,he];rfl)
    have zi:ah1 (sV 3) (s2 gIx (sV 4) (sV 9)) (τW T s P l (some (bu e.1)) (some (.str (S e.2))) t11 t12) (hW s es) = .ok ⟨(List.range T.tg.length).map λc=>.tup [.str (S [tgA T c]),bu (stp T e.1 c)],λ_=>True⟩ (hW s es):=by
     unfold ah1;rw [au rfl,d7,dm (au rfl) (au rfl) (a6y (by rw [List.getElem?_map,er];rfl)),d7,<-aia lr at']
     unfold ar7;simp only [srcOf,and_self]
    refine ⟨τW T s P (l+1) (some (bu e.1)) (some (.str (S e.2))) t11' t12',hW s (es++add),T.go.length+1 - (l+1),?_,by omega,es++add,l+1,_,_,_,_,rfl,rfl,rfl,by rw [List.length_append];omega,W',λj hj q hq x hx px=>?_⟩
    ·unfold a0v;refine Eq.trans (ux (a6x (dm (au rfl) (au rfl) fx) rfl)) ?_;refine Eq.trans (a09 zi) ?_;refine Eq.trans (congrArg (λz=>MI.thn z _) e2) ?_;rw [a1x];exact al8 rfl (ig _ _ _) a0z
    ·rw [show (s,[])::(es++add)=((s,[])::es)++add from rfl] at hq
     by_cases je:j=l
     ·subst je;rw [List.getElem?_append_left (by simpa using lt),he] at hq
      cases hq
      obtain ⟨c,hc,rfl⟩:=(a96 h el).mp hx;exact al c (List.mem_range.mpr hc) px
     ·rw [List.getElem?_append_left (by rw [List.length_cons];omega)] at hq
      rw [List.map_append];exact List.mem_append_left _ (Dn j (by omega) q hq x hx px)
   ·rintro pre c post τ hh all ⟨es',t11,t12,rfl,rfl,W',⟨add,rfl⟩,al⟩
    obtain ⟨hi,hc⟩:=uy all;have he':((s,[])::(es++add))[l]? = some e:=by
     rw [show (s,[])::(es++add)=((s,[])::es)++add from rfl,List.getElem?_append_left (by simpa using lt)];exact he
    obtain ⟨ad2,e3,W2,in2⟩:=af7 h hs hP W' he' hc _ rfl;refine ⟨_,_,rfl,_,_,e3,es++add++ad2,_,_,rfl,rfl,W2,⟨add++ad2,by simp⟩,λd hd pd=>?_⟩
    rcases List.mem_append.mp hd with z | z
    ·rw [List.map_append];exact List.mem_append_left _ (al d z pd)
    ·rw [List.mem_singleton] at z;subst z;exact in2 pd
  ·refine .inl ⟨_,tof (dm (au rfl) (yg (au rfl) ln) (ard (by omega))),es,l,t9,t10,t11,t12,rfl,rfl,W,λe he=>?_⟩
   obtain ⟨j,hj,rfl⟩:=List.getElem_of_mem he;exact Dn j (by rw [List.length_cons] at hj;omega) _ (List.getElem?_eq_getElem hj)
end
end STP
namespace HGT
open PySem PySem.Spec L2 MI AT HND EVX K23 K21 RCH
open K22 hiding hp
open K40
section
variable{T:Table}
def Ph(T:Table):Nat->Nat->Bool
 | 0,x=>decide (x<T.go.length) && decide (kI T x ≠ -1)
 | k+1,x=>Ph T k x || (hp T x && (List.range T.go.length).any λr=>Ph T k r && decide (x∈rw' T r))
def bh(T:Table)(x:Nat):Bool:=Ph T T.go.length x
theorem anr(h:T.Ok){st:List Nat}(hs:∀ x∈st,x<T.go.length):RA T st = .non↔∃ r∈st,∀ k,Dp T k r=true:=by
 constructor
 ·intro e
  have:∃ x,Lam T st T.go.length x:=by
   refine Classical.byContradiction λz=>?_;rw [ani h hs (Nat.le_succ _) z] at e;cases e
  obtain ⟨r,q,d⟩:=(aaw (T:=T) (k:=T.go.length) (j:=0)).mp (by rw [Nat.zero_add];exact this)
  refine ⟨r,q,λk=>?_⟩;have:=ang h (hs r q) d k
  clear d
  revert this
  generalize T.go.length=n
  intro this
  induction n with
  | zero=>rwa [Nat.zero_add] at this
  | succ n ih=>exact ih (a98 _ _ (by rw [show n+k+1=n+1+k by omega];exact this))
 ·rintro ⟨r,q,d⟩
  refine avl h hs ?_;have:=(aaw (T:=T) (k:=T.go.length+1) (j:=0)).mpr ⟨r,q,d _⟩
  rwa [Nat.zero_add] at this
end
end HGT
namespace HGT
open PySem PySem.Spec L2 MI AT HND EVX K23 K21 RCH
open K22 hiding hp d9 dg
open K40
section
variable{T:Table}
noncomputable def ht(T:Table)(r:Nat):D:=if bh T r=true then RA T [r] else if hp T r=true then .int (-2) else .int (-1)
noncomputable abbrev htD(T:Table):List D:=(List.range T.go.length).map (ht T)
noncomputable def HT(T:Table):D:=if a4p (RA T (kds T))=true then .non else .tup (htD T)
end
end HGT
namespace STP
open PySem PySem.Spec L2 MI AT HND EVX K23 K21 RCH HGT
open K22 hiding hp d9 dg
open K40
section
variable{T:Table}
noncomputable def m5:SF:=oh (a4b dh) 3
def wdO(es:List Ent)(r:Nat):List Nat:=((es.find? λe=>decide (e.1=r)).map (·.2)).getD []
theorem ant{es:List Ent}{r:Nat}(hr:r∈es.map (·.1)):(r,wdO es r)∈es:=by
 obtain ⟨e,he,rfl⟩:=List.mem_map.mp hr;unfold wdO
 cases q:es.find? λx=>decide (x.1=e.1) with
 | none=>exact absurd (decide_eq_true rfl) (List.find?_eq_none.mp q e he)
 | some x =>
  have h1:=List.find?_some q;have h2:=List.mem_of_find?_eq_some q;have h3:x.1=e.1:=of_decide_eq_true h1;show (e.1,x.2)∈es;rw [<-h3];exact h2
theorem als{n:Nat}{h:Hd}(z:n<=LINE):xr (.rol [.bl true]) (.int (n:Nat)) h = .ok (.ref h.length) (h++[.lst (List.replicate n (.bl true))]):=by
 unfold xr;have z':n<=16777216:=z;simp only [v8,List.length_cons,List.length_nil,Int.toNat_natCast];rw [if_pos ⟨⟨by omega,by omega⟩,by show _<=16777216;omega⟩]
 congr 3
 simp
structure Wys (T:Table) (wy:Nat->List Nat) (r:Nat):Prop where
 to:ldw T 0 (wy r)=r
 sg:∀ c∈wy r,c∈T.tg
 len:(wy r).length<=33
 ne:r≠0->wy r≠[]
theorem aqy(h:T.Ok)(rc:∀ r,r<T.go.length->PN.Rch T.go r):∃ wy:Nat->List Nat,(∀ r,r<T.go.length->Wys T wy r)/\Pu m5 1 [T.d] (.tup ((List.range T.go.length).map λr=>.str (S (wy r)))):=by
 have n32:=h.n32;have n1:=h.n1;have cl:clos 0 (List.replicate T.go.length (D.bl true)):=a0l.mpr λx hx=>by rw [(List.mem_replicate.mp hx).2];exact mj _
 obtain ⟨es,W,C,e⟩:=a9c (s:=0) (ps:=λ_=>true) (P:=.rol (List.replicate T.go.length (.bl true))) h n1 (ut cl) λx hx hh=>afe (by rw [List.getElem?_replicate,if_pos hx])
 have all:∀ r,r<T.go.length->r=0\/r∈es.map (·.1):=λr hr=>by
  refine rc r hr (λr=>r=0\/r∈es.map (·.1)) (.inl rfl) λa ha x hx=>.inr ?_
  rcases ha with rfl | ha
  ·exact C (0,[]) List.mem_cons_self x hx rfl
  ·obtain ⟨q,hq,rfl⟩:=List.mem_map.mp ha;exact C q (List.mem_cons_of_mem _ hq) x hx rfl
 let wy:Nat->List Nat:=λr=>if r=0 then [] else wdO es r
 refine ⟨wy,λr hr=>?_,?_⟩
 ·by_cases z:r=0
  ·subst z;exact ⟨rfl,λc hc=>by simp [wy] at hc,by simp [wy],λz=>absurd rfl z⟩
  ·have hm:=ant ((all r hr).resolve_left z);have w:=W.way _ (List.mem_cons_of_mem _ hm);have ew:wy r=wdO es r:=if_neg z;refine ⟨by rw [ew];exact w.to,λc hc=>w.sg c (by rw [ew] at hc;exact hc),?_,λ_=>by rw [ew];exact W.ne _ hm⟩
   rw [ew];obtain ⟨j,hj⟩:=List.getElem?_of_mem (List.mem_cons_of_mem (0,([]:List Nat)) hm);have l1:=W.len j _ hj;have l2:=(List.getElem?_eq_some_iff.mp hj).1;have l3:=W.few h n1;rw [List.length_cons] at l2;exact Nat.le_trans l1 (by omega)
 ·have cw:clos 0 ((List.range T.go.length).map λr=>D.str (S (wy r))):=jd λr _=>jq _;refine Pu.of rfl (alo Table.clo) (r:=.ok (.tup ((List.range T.go.length).map λr=>.str (S (wy r)))) []) ?_ (jx (ur cw) (by simp)) (ur cw)
  unfold m5;rw [j9];show toR (a4b dh [some T.d,none,none] [])=_;unfold a4b;refine Eq.trans (congrArg toR (jy (yg (dm (au rfl) (ig _ _ _) (a6y (j:=1) rfl)) (a2a.trans (by rw [List.length_map]))))) ?_
  have z1:∀ τ:Sd,sZ (sA a5c (ak (sC (.bl true)) di)) τ [] = .ok (.rol [.bl true]) []:=λτ=>yz (xs:=[D.bl true]) (yg (ig _ _ _) rfl) (iu (mj _) uq) (by simp)
  have z2:sZ (s2 xr (sZ (sA a5c (ak (sC (.bl true)) di))) (sV 1)) [some T.d,some (bu T.go.length),none] [] = .ok (.rol (List.replicate T.go.length (.bl true))) []:=yz (dm (z1 _) (au rfl) (als (gq (by omega)))) cl (by simp)
  refine Eq.trans (congrArg toR (jy (aal (au rfl) (ig _ _ _) z2 (e _)))) ?_;have z3:∀ τ:Sd,sZ (sA a5c (ak (sC (.str "")) di)) τ [] = .ok (.rol [.str (S [])]) []:=λτ=>yz (xs:=[D.str ""]) (yg (ig _ _ _) rfl) (iu (jq _) uq) (by simp)
  have z4:sZ (m9 (sRg a5j (ak (sC (.int 1)) (ak (sV 1) di))) t1 (zq dh) [2]) [some T.d,some (bu T.go.length),some (wrD es)] [] = .ok (.rol ((List.range (T.go.length - 1)).map λi=>.str (S (wy (1+i))))) []:=by
   refine yz (uw (λi:Nat=>bu (1+i)) (λi=>.str (S (wy (1+i)))) (List.range (T.go.length - 1)) (abu (a:=1) (ig _ _ _) (au rfl) (gq (by omega)) (gq (by omega))) (gq (by rw [List.length_range];omega)) λi hi=>?_) (jd λi _=>jq _) (by simp)
   have hi:=List.mem_range.mp hi;rw [vg];unfold zq;have hm:=ant ((all (1+i) (by omega)).resolve_left (by omega))
   have ew:wy (1+i)=wdO es (1+i):=if_neg (by omega)
   rw [ew];exact dm (au rfl) (au rfl) (aqx (e:=(1+i,wdO es (1+i))) hm W.nd _)
  have el:(List.range T.go.length).map (λr=>D.str (S (wy r)))=[.str (S [])]++(List.range (T.go.length - 1)).map λi=>.str (S (wy (1+i))):=by
   obtain ⟨m,hm⟩:∃ m,T.go.length=m+1:=⟨T.go.length - 1,by omega⟩
   rw [hm,List.range_succ_eq_map,List.map_cons,List.map_map,Nat.add_sub_cancel];rw [show wy 0=[] from if_pos rfl]
   refine congrArg (List.cons _) ?_;refine List.map_congr_left λi _=>?_;show D.str (S (wy (i+1)))=_;rw [Nat.add_comm]
  have z5:sZ (s2 j6 (sZ (sA a5c (ak (sC (.str "")) di))) (sZ (m9 (sRg a5j (ak (sC (.int 1)) (ak (sV 1) di))) t1 (zq dh) [2]))) [some T.d,some (bu T.go.length),some (wrD es)] [] = .ok (.rol ((List.range T.go.length).map λr=>.str (S (wy r)))) []:=by
   refine yz (dm (z3 _) z4 ?_) cw (by simp)
   rw [el];exact (aha (xs:=[.str (S [])]) (ys:=(List.range (T.go.length - 1)).map λi=>.str (S (wy (1+i)))) rfl rfl).trans (if_pos (gq (by simp only [List.length_map,List.length_range,List.length_singleton];omega)))
  exact congrArg toR (n6 (yg z5 rfl))
theorem air{st:List Nat}:∀ k,(Mx T st k=0\/Kn T st (Mx T st k - 1))/\∀ j,Mx T st k<=j->j<k->¬ Kn T st j
 | 0=>⟨.inl rfl,λj _ hj=>absurd hj (Nat.not_lt_zero j)⟩
 | k+1=>by
  by_cases c:Kn T st k
  ·rw [aqr c];exact ⟨.inr c,λj a b=>by omega⟩
  ·have e:Mx T st (k+1)=Mx T st k:=by rw [Mx,if_neg c]
   rw [e];obtain ⟨a,b⟩:=air (st:=st) k;refine ⟨a,λj h1 h2=>?_⟩
   by_cases q:j=k
   ·subst q;exact c
   ·exact b j h1 (by omega)
def Val(T:Table)(st:List Nat)(N:Nat):Prop:=(N=0\/Kn T st (N - 1))/\∀ j,N<=j->¬ Kn T st j
theorem avn(h:T.Ok){st:List Nat}(hs:∀ x∈st,x<T.go.length)(nn:RA T st≠.non):∃ N,N<=T.go.length/\RA T st=bu N/\Val T st N:=by
 have ne:¬ ∃ x,Lam T st (T.go.length+1) x:=λz=>nn (avl h hs z);have e:=ani h hs (Nat.le_refl _) ne;have le:Mx T st (T.go.length+1)<=T.go.length:=by
  unfold RA at nn e
  by_cases c:Mx T st (2*T.go.length+1)<=T.go.length
  ·exact Nat.le_trans (by have:=abx (T:=T) (st:=st) (k:=T.go.length+1) (j:=T.go.length);rwa [show T.go.length+1+T.go.length=2*T.go.length+1 by omega] at this) c
  ·rw [if_neg c] at nn;exact absurd rfl nn
 obtain ⟨a,b⟩:=air (T:=T) (st:=st) (T.go.length+1);refine ⟨_,le,e,a,λj hj kn=>?_⟩
 by_cases c:j<T.go.length+1
 ·exact b j hj c kn
 ·obtain ⟨x,⟨r,q,_⟩,_⟩:=kn;have:=a99 ne (j - (T.go.length+1));rw [show T.go.length+1+(j - (T.go.length+1))=j by omega] at this
  exact this ⟨r,q⟩
end
section
variable{T:Table}
structure Stp (T:Table) (s N:Nat) (z:List Nat):Prop where
 len:z.length=N
 sg:∀ c∈z,c∈T.tg
 at':∀ j,j<N->(kI T (ldw T s (z.take (j+1))) ≠ -1↔j+1=N)
end
end STP
namespace K34
open PySem PySem.Spec L2 MI
end K34
namespace K34
open PySem PySem.Spec L2 MI AT HND EVX K22 K23 K21
section
variable{T:Table}
theorem sub_len:∀ {l t:List Nat},l.Nodup->(∀ x∈l,x∈t)->l.length<=t.length
 | [],_,_,_=>Nat.zero_le _
 | a::l,t,nd,h=>by
  obtain ⟨na,nl⟩:=List.nodup_cons.mp nd;have ha:=h a List.mem_cons_self;have:=sub_len (t:=t.erase a) nl λx hx=>(List.mem_erase_of_ne (λe:x=a=>na (e ▸ hx))).mpr (h x (List.mem_cons_of_mem _ hx));rw [List.length_erase_of_mem ha] at this;have:=List.length_pos_of_mem ha;rw [List.length_cons];omega
abbrev others(tg:List Nat):List Nat:=sig.filter λc => !decide (c∈tg)
theorem af8{tg:List Nat}(t6:tg.length<=6):0<(others tg).length:=by
 rcases Nat.eq_zero_or_pos (others tg).length with z | z
 ·have e:=List.length_eq_zero_iff.mp z;have:=sub_len (l:=sig) (t:=tg) amx λc hc=>by
   have n:¬ c∈others tg:=by rw [e];simp
   rw [List.mem_filter] at n;simpa [hc] using n
  rw [a8w] at this;omega
 ·exact z
end
end K34
namespace STP
open PySem PySem.Spec L2 MI AT HND EVX K23 K21
open K22 hiding hp d9 dg
open K40
section
variable{T:Table}
def a1f(T:Table)(u z:List Nat):Bool := !z.isEmpty && (decide (kI T (ldw T 0 u) ≠ -1) && (List.range z.length).all λj=>decide (kI T (ldw T (ldw T 0 u) (z.take (j+1))) ≠ -1) == decide (j+1=z.length))
theorem aqz{u z:List Nat}{N:Nat}(ku:kI T (ldw T 0 u) ≠ -1)(st:Stp T (ldw T 0 u) N z)(N1:1<=N):a1f T u z=true:=by
 unfold a1f;have ne:z.isEmpty=false:=by cases z with | nil=>have:=st.len;simp at this;omega | cons _ _=>rfl
 rw [ne,decide_eq_true ku,Bool.not_false,Bool.true_and,Bool.true_and,List.all_eq_true]
 intro j hj
 have hj:=List.mem_range.mp hj;rw [st.len] at hj ⊢;rw [beq_iff_eq];exact decide_eq_decide.mpr (st.at' j hj)
noncomputable def qt:SF:=oh (a4c STP.iy STP.dw) 7
theorem avo{u z:List Nat}:∀ x∈[T.d, .str (S u), .str (S z)],MI.clo 0 x:=aih Table.clo (jq _) (jq _)
theorem alu{s m:Nat}{z:List Nat}(hz:z.length=m+1):(rms T s z).drop 1=((List.range m).map λi=>ldw T s (z.take (i+1)))++[ldw T s z]:=by
 unfold rms;rw [hz,List.range_succ_eq_map,List.map_cons,List.drop_succ_cons,List.drop_zero,List.map_map,List.range_succ,List.map_append,List.map_singleton];show _++[ldw T s (z.take (m+1))]=_;rw [List.take_of_length_le (by omega)]
 rfl
theorem af9(h:T.Ok){u z:List Nat}(hu:∀ c∈u,c∈T.tg)(hz:∀ c∈z,c∈T.tg)(lu:u.length<=1000)(lz:z.length<=1000):Pu STP.qt 3 [T.d, .str (S u), .str (S z)] (.bl (a1f T u z)):=by
 have sl:=yw h u h.n1
 suffices hs:∃ hh,STP.qt [T.d, .str (S u), .str (S z)] [] = .ok (.bl (a1f T u z)) hh by
  obtain ⟨hh,e⟩:=hs;exact Pu.of rfl avo e (jx (mj _) (by simp)) (mj _)
 unfold STP.qt;rw [j9];show ∃ hh,toR (a4c STP.iy STP.dw [some T.d,some (.str (S u)),some (.str (S z)),none,none,none,none] []) = .ok _ hh;unfold a4c;have e1:∀ h,hEq (.str (S z)) (.str "") h = .ok (.bl z.isEmpty) h:=λh=>by
  show hEq (.str (S z)) (.str (S [])) h=_;rw [aq8,aq7]
  cases z<;>simp
 have go:∀ g:SS,toR (j7 (m7 3 (s2 gIx (sV 0) (sC (.int 2)))) (j7 (m7 4 (sA (jz false 3 STP.iy) (ak (sV 0) (ak (sC (.int 0)) (ak (sV 1) di))))) g) [some T.d,some (.str (S u)),some (.str (S z)),none,none,none,none] [])=toR (g [some T.d,some (.str (S u)),some (.str (S z)),some (.tup (T.ks.map D.int)),some (bu (ldw T 0 u)),none,none] []):=λg=>by
  refine Eq.trans (congrArg toR (jy (dm (au rfl) (ig _ _ _) (a93 _)))) ?_;exact congrArg toR (jy (aal (au rfl) (ig _ _ _) (au rfl) (a9a (r:=0) h h.n1 hu lu _)))
 rw [go];have tst:sOr (sT (s2 hEq (sV 2) (sC (.str "")))) (sT (s2 hEq (s2 gIx (sV 3) (sV 4)) (s1 a6t (sC (.int 1))))) [some T.d,some (.str (S u)),some (.str (S z)),some (.tup (T.ks.map D.int)),some (bu (ldw T 0 u)),none,none] [] = .ok (z.isEmpty || decide (kI T (ldw T 0 u) = -1)) [] :=
  orB (tof (dm (au rfl) (ig _ _ _) (e1 _))) λ_=>tof (dm (dm (au rfl) (au rfl) (a4j h sl _)) (al7 (ig _ _ _) (a8s _)) (avc _ _))
 cases q:(z.isEmpty || decide (kI T (ldw T 0 u) = -1)) with
 | true =>
  rw [q] at tst;have:a1f T u z=false:=by
   unfold a1f
   cases ze:z.isEmpty with
   | true=>rfl
   | false =>
    rw [ze,Bool.false_or] at q;have:decide (kI T (ldw T 0 u) ≠ -1)=false:=decide_eq_false λw=>w (of_decide_eq_true q);rw [this];rfl
  rw [this];exact ⟨[],congrArg toR (a4y (Eq.trans (ifT tst) (n6 (ig _ _ _))))⟩
 | false =>
  rw [q] at tst;rw [Bool.or_eq_false_iff] at q;have ku:kI T (ldw T 0 u) ≠ -1:=of_decide_eq_false q.2;obtain ⟨m,hm⟩:∃ m,z.length=m+1:=by cases z with | nil=>cases q.1 | cons a l=>exact ⟨l.length,rfl⟩
  generalize es:ldw T 0 u=s at sl tst ku
  obtain ⟨ys,ey⟩:∃ ys:List Nat,ys=(List.range m).map λi=>ldw T s (z.take (i+1)):=⟨_,rfl⟩;have zsl:∀ τ:Sd,τ[0]? = some (some T.d)->τ[4]? = some (some (bu s))->τ[2]? = some (some (.str (S z)))->sZ (a4w (sA (jz false 3 STP.dw) (ak (sV 0) (ak (sV 4) (ak (sV 2) di)))) (oS (sC (.int 1))) oN) τ [] = .ok (.rol ((ys++[ldw T s z]).map bu)) []:=λτ h0 h4 h2=>by
   refine yz ((aln (aal (au h0) (au h4) (au h2) (aio h sl hz lz _)) (alm (ig _ _ _)) rfl rfl).trans ?_) (kh _) (by simp)
   show R.ok (D.ref 0) ([]++[O.lst (a76 ((rms T s z).map bu) (some ((1:Nat):Int)) none)])=_;rw [a9w,<-List.map_drop,alu hm,ey];rfl
  have yl:∀ y∈ys,y<T.go.length:=λy hy=>by
   rw [ey] at hy;obtain ⟨i,_,rfl⟩:=List.mem_map.mp hy;exact yw h _ sl
  have lastl:ldw T s z<T.go.length:=yw h _ sl;refine ⟨[.lst (ys.map bu)],?_⟩;refine Eq.trans (congrArg toR (ifN tst)) ?_;refine Eq.trans (congrArg toR (ux (a6x (zsl _ rfl rfl rfl) (aq2 (ys:=ys.map bu) (y:=bu (ldw T s z)) rfl (by rw [List.map_append];rfl))))) ?_
  have ac:sA aj8 (ak (sZ (m9 (sIt (sV 5)) t1 (a1z STP.iy STP.dw) [3])) di) [some T.d,some (.str (S u)),some (.str (S z)),some (.tup (T.ks.map D.int)),some (bu s),some (.ref 0),some (bu (ldw T s z))] [.lst (ys.map bu)] = .ok (.bl (ys.all λy=>decide (kI T y = -1))) [.lst (ys.map bu)]:=by
   have cz:sZ (m9 (sIt (sV 5)) t1 (a1z STP.iy STP.dw) [3]) [some T.d,some (.str (S u)),some (.str (S z)),some (.tup (T.ks.map D.int)),some (bu s),some (.ref 0),some (bu (ldw T s z))] [.lst (ys.map bu)] = .ok (.rol ((ys.map λy=>decide (kI T y = -1)).map D.bl)) [.lst (ys.map bu)]:=by
    rw [List.map_map];refine yz (SRC.aqh (ck:=λh=>h[0]? = some (.lst (ys.map bu))) bu (λy=>.bl (decide (kI T y = -1))) ys rfl (a5q (au rfl) rfl) (gq (by rw [ey,List.length_map,List.length_range];omega)) λy hy=>?_) (jd λc _=>mj _) (by intro o ho;rw [List.mem_singleton] at ho;subst ho;exact p8 (Nat.zero_le _) (kh _))
    rw [vg];exact dm (dm (au rfl) (au rfl) (a4j h (yl y hy) _)) (al7 (ig _ _ _) (a8s _)) (avc _ _)
   refine yg cz ?_;rw [anc,List.all_map];rfl
  refine Eq.trans (congrArg toR (n6 (avb (dm (dm (au rfl) (au rfl) (a4j h lastl _)) (al7 (ig _ _ _) (a8s _)) (az1 _ _)) λ_=>ac))) ?_;show R.ok _ _=R.ok _ _
  congr 2
  unfold a1f;rw [q.1,es,decide_eq_true ku,Bool.not_false,Bool.true_and,Bool.true_and,hm,List.range_succ,List.all_append,List.all_cons,List.all_nil,Bool.and_true,Bool.and_comm];have last:(decide (kI T (ldw T s (z.take (m+1))) ≠ -1) == decide (m+1=m+1))=decide (kI T (ldw T s z) ≠ -1):=by
   rw [List.take_of_length_le (by omega),decide_eq_true rfl]
   cases decide (kI T (ldw T s z) ≠ -1)<;>rfl
  rw [last]
  congr 1
  rw [ey,List.all_map]
  apply Bool.eq_iff_iff.mpr
  rw [List.all_eq_true,List.all_eq_true];refine forall_congr' λj=>forall_congr' λhj=>?_;have hj:=List.mem_range.mp hj;show decide (kI T (ldw T s (z.take (j+1))) = -1)=true↔_;rw [show decide (j+1=m+1)=false from decide_eq_false (by omega),beq_iff_eq,decide_eq_true_iff,decide_eq_false_iff_not]
  simp
noncomputable def jk:SF:=oh a2q 4
theorem a9d(h:T.Ok){l:List Nat}(hl:∀ c∈l,c∈T.tg):Pu STP.jk 2 [T.d, .str (S l)] (bu (ldw T 0 l)):=by
 refine Pu.of rfl (a6w Table.clo (jq _)) (r:=.ok (bu (ldw T 0 l)) []) ?_ (jx (jw _) (by simp)) (jw _)
 unfold STP.jk;rw [j9];show toR (a2q [some T.d,some (.str (S l)),none,none] [])=_;unfold a2q;refine Eq.trans (congrArg toR (jy (ig _ _ _))) ?_;refine Eq.trans (congrArg toR (a09 (a5q (au rfl) (amy l _)))) ?_;have lp:=mz (g:=kN 3) (b:=a0w) (λc:Nat=>D.str (S [c]))
  (λpre τ hh=>∃ t3:Option D,τ=[some T.d,some (.str (S l)),some (bu (ldw T 0 pre)),t3]/\hh=[]) l [some T.d,some (.str (S l)),some (.int 0),none] [] ?_ ⟨none,rfl,rfl⟩
 ·obtain ⟨τ',h',e,t3,rfl,rfl⟩:=lp;refine Eq.trans (congrArg (λz=>toR (MI.thn z _)) e) ?_;rfl
 ·rintro pre c post τ hh all ⟨t3,rfl,rfl⟩
  have hc:=hl c (by rw [all];simp)
  refine ⟨_,_,rfl,[some T.d,some (.str (S l)),some (bu (ldw T 0 (pre++[c]))),some (.str (S [c]))],[],?_,_,rfl,rfl⟩;rw [a1e];unfold a0w;exact aq9 (dm (dm (dm (au rfl) (ig _ _ _) (a6y (j:=1) rfl)) (au rfl) (aid h (yw h pre h.n1) _)) (aw9 (dm (au rfl) (ig _ _ _) (a6y (j:=0) rfl)) (arg1 (au rfl)) (anb hc _)) (aqm h (a7n hc).2 _))
noncomputable def dz:SF:=oh ye 3
theorem a9e{d:D}(p:Pln d):Pu STP.dz 2 [T.d,d] (.bl (txt T d)):=by
 refine Pu.of rfl (a6w Table.clo p.clo) (r:=.ok (.bl (txt T d)) []) ?_ (jx (mj _) (by simp)) (mj _)
 unfold STP.dz;rw [j9];show toR (ye [some T.d,some d,none] [])=_;unfold ye
 by_cases sd:isStr d=true
 ·obtain ⟨x,rfl⟩:∃ x,d = .str x:=by cases d<;>first | exact ⟨_,rfl⟩ | (simp [isStr] at sd)
  rw [<-aet x] at p ⊢
  generalize x.cps.toList=l at p
  rw [aig];refine Eq.trans (congrArg toR (ifN (arc (a2c (yt (au rfl) (ig _ _ _) (alh p)) (u5 _))))) ?_;refine Eq.trans (congrArg toR (a09 (a5q (au rfl) (amy l _)))) ?_;have lp:=zg (g:=kN 2) (b:=a1k) (λc:Nat=>D.str (S [c]))
   (λpre τ hh=>∃ t2:Option D,τ=[some T.d,some (.str (S l)),t2]/\hh=[]/\∀ c∈pre,c∈T.tg) (λd hh=>d = .bl false/\hh=[]/\inT T l=false) l [] [some T.d,some (.str (S l)),none] [] ?_ ⟨none,rfl,rfl,by simp⟩
  ·rcases lp with ⟨τ',h',e,t2,rfl,rfl,al⟩ | ⟨d,h',e,rfl,rfl,q⟩
   ·refine Eq.trans (congrArg (λz=>toR (MI.thn z _)) e) ?_;rw [show inT T l=true from List.all_eq_true.mpr λc hc=>decide_eq_true (al c (by simpa using hc))]
    rfl
   ·refine Eq.trans (congrArg (λz=>toR (MI.thn z _)) e) ?_;rw [q];rfl
  ·rintro pre c post τ hh all ⟨t2,rfl,rfl,al⟩
   rw [List.nil_append] at all;refine ⟨_,_,rfl,?_⟩;have q:∀ hh:Hd,gIn true (.str (S [c])) (.str (S T.tg)) hh = .ok (.bl (!decide (c∈T.tg))) hh:=λhh=>K21.ane c T.tg hh
   by_cases hc:c∈T.tg
   ·refine .inl ⟨_,_,Eq.trans (ifF (tof (dm (au rfl) (dm (au rfl) (ig _ _ _) (a6y (j:=0) rfl)) ((q _).trans (by rw [decide_eq_true hc];rfl))))) rfl,_,rfl,rfl,λx hx=>?_⟩
    rcases List.mem_append.mp hx with z | z
    ·exact al x z
    ·rw [List.mem_singleton] at z;subst z;exact hc
   ·refine .inr ⟨_,_,Eq.trans (ifT (tof (dm (au rfl) (dm (au rfl) (ig _ _ _) (a6y (j:=0) rfl)) ((q _).trans (by rw [decide_eq_false hc];rfl))))) (n6 (ig _ _ _)),rfl,rfl,?_⟩
    cases i:inT T l with
    | false=>rfl
    | true=>exact absurd (of_decide_eq_true (List.all_eq_true.mp i c (by rw [all];simp))) hc
 ·have sd':isStr d=false:=by simpa using sd
  have:txt T d=false:=by cases d<;>first | rfl | (simp [isStr] at sd)
  rw [this];exact congrArg toR (a4y (Eq.trans (ifT (azu (a2c (yt (au rfl) (ig _ _ _) ((alh p).trans (by rw [sd']))) (u5 _)))) (n6 (ig _ _ _))))
def cds:D->List Nat | .str x=>x.cps.toList | _=>[]
def anu(T:Table)(a b:D):Bool:=txt T a && (txt T b && a1f T (cds a) (cds b))
theorem adt{d:D}(p:Pln d)(t:txt T d=true):d = .str (S (cds d))/\(∀ c∈cds d,c∈T.tg)/\(cds d).length<=1000:=by
 cases d<;>first | (cases t;done) | skip
 exact ⟨by simp only [cds,aet],λc hc=>of_decide_eq_true (List.all_eq_true.mp t c hc),p⟩
theorem ais{u z:List Nat}(hu:∀ c∈u,c∈T.tg)(hz:∀ c∈z,c∈T.tg):anu T (.str (S u)) (.str (S z))=a1f T u z:=by
 unfold anu;rw [aig,aig,show inT T u=true from List.all_eq_true.mpr λc hc=>decide_eq_true (hu c hc),show inT T z=true from List.all_eq_true.mpr λc hc=>decide_eq_true (hz c hc)]
 simp only [cds,zb,Bool.true_and]
noncomputable def bx:SF:=oh (yf STP.dz STP.jk) 5
theorem a6q(h:T.Ok){a b:D}(pa:Pln a)(pb:Pln b):Pu STP.bx 3 [T.d,a,b] (.bl (anu T a b)):=by
 refine Pu.of rfl (aih Table.clo pa.clo pb.clo) (r:=.ok (.bl (anu T a b)) []) ?_ (jx (mj _) (by simp)) (mj _)
 unfold STP.bx;rw [j9];show toR (yf STP.dz STP.jk [some T.d,some a,some b,none,none] [])=_;unfold yf;have t1:a5i (a3u (sA (jz false 2 STP.dz) (ak (sV 0) (ak (sV 1) di)))) [some T.d,some a,some b,none,none] [] = .ok (!txt T a) []:=abv (a2c (yt (au rfl) (au rfl) (a9e pa _)) (u5 _));have t2:a5i (a3u (sA (jz false 2 STP.dz) (ak (sV 0) (ak (sV 2) di)))) [some T.d,some a,some b,none,none] [] = .ok (!txt T b) []:=abv (a2c (yt (au rfl) (au rfl) (a9e pb _)) (u5 _))
 cases ta:txt T a with
 | false =>
  rw [ta] at t1;rw [show anu T a b=false by unfold anu;rw [ta];rfl]
  exact congrArg toR (a4y (Eq.trans (ifT (orT t1)) (n6 (ig _ _ _))))
 | true =>
  rw [ta] at t1
  cases tb:txt T b with
  | false =>
   rw [tb] at t2;rw [show anu T a b=false by unfold anu;rw [ta,tb];rfl]
   exact congrArg toR (a4y (Eq.trans (ifT (orF t1 (orT t2))) (n6 (ig _ _ _))))
  | true =>
   rw [tb] at t2;obtain ⟨ea,hu,lu⟩:=adt pa ta;obtain ⟨eb,hz,lz⟩:=adt pb tb
   revert t1 t2
   rw [ea,eb]
   generalize cds a=u at hu lu
   generalize cds b=z at hz lz
   intro t1 t2
   rw [ais hu hz];have e1:∀ h,hEq (.str (S z)) (.str "") h = .ok (.bl z.isEmpty) h:=λh=>by
    show hEq (.str (S z)) (.str (S [])) h=_;rw [aq8,aq7]
    cases z<;>simp
   have sl:=yw h u h.n1
   cases ze:z.isEmpty with
   | true =>
    rw [show a1f T u z=false by unfold a1f;rw [ze];rfl]
    exact congrArg toR (a4y (Eq.trans (ifT (orF t1 (orF t2 (tof (dm (au rfl) (ig _ _ _) ((e1 _).trans (by rw [ze]))))))) (n6 (ig _ _ _))))
   | false =>
    refine Eq.trans (congrArg toR (ifN (orF t1 (orF t2 (tof (dm (au rfl) (ig _ _ _) ((e1 _).trans (by rw [ze])))))))) ?_
    refine Eq.trans (congrArg toR (jy (yt (au rfl) (au rfl) (a9d h hu _)))) ?_;have kk:=a7o h sl;have tk:sT (s2 gLt (s2 gIx (s2 gIx (sV 0) (sC (.int 2))) (sV 3)) (sC (.int 0))) [some T.d,some (.str (S u)),some (.str (S z)),some (bu (ldw T 0 u)),none] [] = .ok (decide (kI T (ldw T 0 u) = -1)) []:=by
     rw [show decide (kI T (ldw T 0 u) = -1)=decide (kI T (ldw T 0 u)<0) from decide_eq_decide.mpr (by omega)]
     exact tof (dm (dm (dm (au rfl) (ig _ _ _) (a93 _)) (au rfl) (a4j h sl _)) (ig _ _ _) (az0 _ _))
    by_cases ku:kI T (ldw T 0 u) = -1
    ·rw [decide_eq_true ku] at tk;rw [show a1f T u z=false by unfold a1f;rw [ze,show decide (kI T (ldw T 0 u) ≠ -1)=false from decide_eq_false λw=>w ku];rfl]
     exact congrArg toR (a4y (Eq.trans (ifT tk) (n6 (ig _ _ _))))
    ·rw [decide_eq_false ku] at tk;refine Eq.trans (congrArg toR (ifN tk)) ?_;refine Eq.trans (congrArg toR (a09 (a3n (n:=z.length) (yg (au rfl) (aeu (gq (by omega)))) (gq (by omega))))) ?_
     have eB:a1f T u z=(List.range z.length).all λj=>decide (kI T (ldw T (ldw T 0 u) (z.take (j+1))) ≠ -1) == decide (j+1=z.length):=by
      unfold a1f;rw [ze,decide_eq_true ku];rfl
     generalize ldw T 0 u=s at sl eB
     have lp:=zg (g:=kN 4) (b:=xg STP.dz STP.jk) bu
      (λpre τ hh=>∃ t4:Option D,τ=[some T.d,some (.str (S u)),some (.str (S z)),some (bu (ldw T s (z.take pre.length))),t4]/\hh=[]/\∀ j,j<pre.length->(decide (kI T (ldw T s (z.take (j+1))) ≠ -1) == decide (j+1=z.length))=true)
      (λd hh=>d = .bl false/\hh=[]/\a1f T u z=false) (List.range z.length) [] [some T.d,some (.str (S u)),some (.str (S z)),some (bu s),none] [] ?_ ⟨none,rfl,rfl,λj hj=>absurd hj (Nat.not_lt_zero j)⟩
     ·rcases lp with ⟨τ',h',e,t4,rfl,rfl,al⟩ | ⟨d,h',e,rfl,rfl,q⟩
      ·refine Eq.trans (congrArg (λz=>toR (MI.thn z _)) e) ?_;rw [List.nil_append,List.length_range] at al;rw [eB,List.all_eq_true.mpr λj hj=>al j (List.mem_range.mp hj)];rfl
      ·refine Eq.trans (congrArg (λz=>toR (MI.thn z _)) e) ?_;rw [q];rfl
     ·rintro pre i post τ hh all ⟨t4,rfl,rfl,al⟩
      rw [List.nil_append] at all;obtain ⟨ei,hi⟩:=uy all;rw [<-ei] at al ⊢;refine ⟨_,_,rfl,?_⟩;have hc:z[i]? = some z[i]:=List.getElem?_eq_getElem hi
      generalize z[i]=c at hc
      have hct:=hz c (List.mem_of_getElem? hc);have tk':z.take (i+1)=z.take i++[c]:=by rw [List.take_succ,hc];rfl
      have lw:ldw T s (z.take (i+1))=stp T (ldw T s (z.take i)) (psn T c):=by rw [tk',a1e]
      have rl:=yw h (z.take i) sl;have rl':=yw h (z.take (i+1)) sl;have kk':=a7o h rl';have turn:∀ g:SS,j7 (m7 3 (s2 gIx (s2 gIx (s2 gIx (sV 0) (sC (.int 1))) (sV 3)) (sMS aei (s2 gIx (sV 0) (sC (.int 0))) (ak (s2 gIx (sV 2) (sV 4)) di)))) g [some T.d,some (.str (S u)),some (.str (S z)),some (bu (ldw T s (z.take i))),some (bu i)] []=g [some T.d,some (.str (S u)),some (.str (S z)),some (bu (ldw T s (z.take (i+1)))),some (bu i)] []:=λg=>by
       rw [lw];exact jy (dm (dm (dm (au rfl) (ig _ _ _) (a6y (j:=1) rfl)) (au rfl) (aid h rl _)) (aw9 (dm (au rfl) (ig _ _ _) (a6y (j:=0) rfl)) (arg1 (dm (au rfl) (au rfl) (aw1 (gq (by omega)) hc))) (anb hct _)) (aqm h (a7n hct).2 _))
      have ts:sT (s2 hNe (s2 gGe (s2 gIx (s2 gIx (sV 0) (sC (.int 2))) (sV 3)) (sC (.int 0))) (s2 hEq (sV 4) (s2 ab5 (sA vh (ak (sV 2) di)) (sC (.int 1))))) [some T.d,some (.str (S u)),some (.str (S z)),some (bu (ldw T s (z.take (i+1)))),some (bu i)] [] = .ok (!(decide (kI T (ldw T s (z.take (i+1))) ≠ -1) == decide (i+1=z.length))) []:=by
       refine tof (dm (dm (dm (dm (au rfl) (ig _ _ _) (a93 _)) (au rfl) (a4j h rl' _)) (ig _ _ _) (awb _ _)) (dm (au rfl) (dm (yg (au rfl) (aeu (gq (by omega)))) (ig _ _ _) (adg _ _)) (avc _ _)) ?_)
       rw [show decide (kI T (ldw T s (z.take (i+1))) ≠ -1)=decide (0<=kI T (ldw T s (z.take (i+1)))) from decide_eq_decide.mpr (by omega),show decide (i+1=z.length)=decide (((i:Nat):Int)=(z.length:Int) - 1) from decide_eq_decide.mpr (by omega)]
       cases decide (0<=kI T (ldw T s (z.take (i+1))))<;>cases decide (((i:Nat):Int)=(z.length:Int) - 1)<;>rfl
      unfold xg
      cases q:(decide (kI T (ldw T s (z.take (i+1))) ≠ -1) == decide (i+1=z.length)) with
      | true =>
       rw [q] at ts;refine .inl ⟨_,_,(turn _).trans (Eq.trans (ifF ts) rfl),some (bu i),?_,rfl,λj hj=>?_⟩
       ·rw [List.length_append,List.length_singleton,<-ei]
       ·rw [List.length_append,List.length_singleton,<-ei] at hj
        by_cases ji:j<i
        ·exact al j ji
        ·have:j=i:=by omega
         subst this;exact q
      | false =>
       rw [q] at ts;refine .inr ⟨_,_,(turn _).trans (Eq.trans (ifT ts) (n6 (ig _ _ _))),rfl,rfl,?_⟩;rw [eB]
       cases w:(List.range z.length).all λj=>decide (kI T (ldw T s (z.take (j+1))) ≠ -1) == decide (j+1=z.length) with
       | false=>rfl
       | true =>
        have:=List.all_eq_true.mp w i (List.mem_range.mpr hi)
        rw [q] at this;cases this
noncomputable def my:SF:=oh a2p 2
theorem alv(b:Bool):Pu STP.my 2 [.bl b, .bl b] (.bl true):=by
 refine Pu.of rfl (a6w (mj _) (mj _)) (r:=.ok (.bl true) []) ?_ (jx (mj _) (by simp)) (mj _)
 unfold STP.my;rw [j9];show toR (a2p [some (.bl b),some (.bl b)] [])=_;unfold a2p
 cases b with
 | true=>exact congrArg toR (a4y (Eq.trans (ifT (a2c (au rfl) (u5 _))) (n6 (dm (au rfl) (ig _ _ _) rfl))))
 | false=>exact Eq.trans (congrArg toR (ifN (a2c (au rfl) (u5 _)))) (congrArg toR (n6 (dm (au rfl) (ig _ _ _) rfl)))
end
section
variable{T:Table}
noncomputable def dq:SF:=oh (jb SRC.aa SRC.d8) 7
end
end STP
namespace STP
open PySem PySem.Spec L2 MI AT HND EVX K23 K21 RCH HGT
open K22 hiding hp d9 dg
open K40
section
variable{T:Table}
theorem ait(h:T.Ok){r:Nat}:∀ {w:List Nat},BF.Ok T.tg.length w->ldw T r (sgn T w)=BF.walk (stp T) r w
 | [],_=>rfl
 | c::w,ok=>by rw [adm,a1e,ano h ok.head,ait h ok.tail];rfl
theorem alw(T:Table)(w:List Nat){k:Nat}(hk:k<=w.length):(sgn T w).take k=sgn T (w.drop (w.length - k)):=by
 unfold sgn;rw [<-List.map_take,List.take_reverse]
theorem adu{s:Nat}(hs:1<=s):∀ {w:List Nat} {m:Nat},BF.num s (w.drop m)<=BF.num s w
 | [],m=>by simp
 | c::w,0=>Nat.le_refl _
 | c::w,m+1=>by
  have:=adu hs (w:=w) (m:=m)
  rw [List.drop_succ_cons];have h2:BF.num s w<=BF.num s w*s:=Nat.le_mul_of_pos_right _ hs;simp only [BF.num];omega
theorem aap{s:Nat}(hs:1<=s){w:List Nat}{m:Nat}(m0:0<m)(ml:m<=w.length):BF.num s (w.drop m)<BF.num s w:=by
 cases w with
 | nil=>simp at ml;omega
 | cons c w =>
  obtain ⟨k,rfl⟩:∃ k,m=k+1:=⟨m - 1,by omega⟩
  rw [List.drop_succ_cons];have:=adu hs (w:=w) (m:=k);have h2:BF.num s w<=BF.num s w*s:=Nat.le_mul_of_pos_right _ hs;simp only [BF.num];omega
theorem aiu(h:T.Ok){r:Nat}(hr:r<T.go.length)(e:hp T r=true):∃ x,A T r = .str (S x)/\1<=x.length/\x.length<=32/\Stp T r x.length x:=by
 have n32:=h.n32;obtain ⟨d,_,_,q⟩:=a1d h hr;have ed:=aic h q
 rcases q with ⟨w,ok,hi,least,wl,ew⟩ | ⟨rfl,_⟩
 ·have wn:w.length≠0:=λz=>hi.1 (List.length_eq_zero_iff.mp z);refine ⟨sgn T w,by rw [<-ed,ew],by rw [a91];omega,by rw [a91];omega,rfl,λc hc=>?_,λj hj=>?_⟩
  ·unfold sgn at hc;obtain ⟨i,hi',rfl⟩:=List.mem_map.mp hc;exact List.mem_of_getElem? (af3 (ok i (List.mem_reverse.mp hi')))
  ·rw [a91] at hj ⊢;rw [alw T w (by omega)]
   have okd:BF.Ok T.tg.length (w.drop (w.length - (j+1))):=λc hc=>ok c (List.mem_of_mem_drop hc);rw [ait h okd];have lt:=a92 h hr (w.drop (w.length - (j+1)));rw [<-a6p h lt]
   constructor
   ·intro k
    have hv:hit T r (w.drop (w.length - (j+1))):=⟨λz=>by
     have:=congrArg List.length z
     rw [List.length_drop] at this;simp at this;omega,k⟩
    have:=least _ okd hv
    refine Classical.byContradiction λz=>?_;have:=aap (w:=w) h.tong.lo (m:=w.length - (j+1)) (by omega) (by omega)
    omega
   ·intro z
    rw [show w.length - (j+1)=0 by omega]
    exact hi.2
 ·rw [show hp T r=false by unfold hp;rw [<-ed];rfl] at e
  cases e
inductive BR (T:Table) (s:Nat):Nat->Prop
 | one {x:Nat}:x∈rw' T s->kI T x = -1->BR T s x
 | more {y x:Nat}:BR T s y->x∈rw' T y->kI T x = -1->BR T s x
theorem BR.cons{s y x:Nat}(hy:y∈rw' T s)(ky:kI T y = -1)(b:BR T y x):BR T s x:=by
 induction b with
 | one hx kx=>exact .more (.one hy ky) hx kx
 | more _ hx kx ih=>exact .more ih hx kx
abbrev a3o(T:Table)(x:Nat):Bool:=decide (kI T x = -1)
theorem BR.met{s x:Nat}{es:List Ent}(C:ay1 T (a3o T) s es)(b:BR T s x):x∈es.map (·.1):=by
 induction b with
 | one hx kx=>exact C _ List.mem_cons_self _ hx (decide_eq_true kx)
 | more _ hx kx ih =>
  obtain ⟨e,he,rfl⟩:=List.mem_map.mp ih;exact C e (List.mem_cons_of_mem _ he) _ hx (decide_eq_true kx)
def Chn(T:Table):Nat->List Nat->Prop
 | _,[]=>True
 | r,x::l=>x∈rw' T r/\gd T x=true/\Chn T x l
theorem ar0{x:Nat}(g:gd T x=true):kI T x = -1/\hp T x=true:=by
 unfold gd at g;rw [Bool.and_eq_true] at g;exact ⟨of_decide_eq_true g.1,g.2⟩
theorem anv:∀ {k r:Nat},Dp T k r=true->∃ l:List Nat,l.length=k/\Chn T r l
 | 0,_,_=>⟨[],rfl,trivial⟩
 | k+1,r,d=>by
  simp only [Dp,List.any_eq_true,Bool.and_eq_true] at d;obtain ⟨x,hx,g,dx⟩:=d;obtain ⟨l,ll,c⟩:=anv dx;exact ⟨x::l,by rw [List.length_cons,ll],hx,g,c⟩
theorem adv:∀ {l:List Nat} {r:Nat},Chn T r l->∀ x∈l,BR T r x/\hp T x=true
 | y::l,r,⟨hy,g,c⟩,x,hx=>by
  obtain ⟨ky,py⟩:=ar0 g
  rcases List.mem_cons.mp hx with rfl | hx
  ·exact ⟨.one hy ky,py⟩
  ·obtain ⟨b,p⟩:=adv c x hx;exact ⟨.cons hy ky b,p⟩
theorem aiv:∀ {l:List Nat} {r:Nat},Chn T r l->¬ l.Nodup->∃ x∈l,BR T x x
 | [],_,_,n=>(n List.nodup_nil).elim
 | y::l,r,⟨hy,g,c⟩,n=>by
  by_cases q:y∈l
  ·exact ⟨y,List.mem_cons_self,(adv c y q).1⟩
  ·obtain ⟨x,hx,b⟩:=aiv c λz=>n (List.nodup_cons.mpr ⟨q,z⟩);exact ⟨x,List.mem_cons_of_mem _ hx,b⟩
theorem anw(h:T.Ok):∀ {l:List Nat} {r:Nat},r<T.go.length->Chn T r l->∀ x∈l,x<T.go.length
 | y::l,r,hr,⟨hy,g,c⟩,x,hx=>by
  have hy':=(aau h hr).2.2 y hy
  rcases List.mem_cons.mp hx with rfl | hx
  ·exact hy'
  ·exact anw h hy' c x hx
theorem ac0(h:T.Ok)(e:RA T (kds T) = .non):∃ s x,s<T.go.length/\kI T s ≠ -1/\x<T.go.length/\BR T s x/\BR T x x/\hp T x=true:=by
 obtain ⟨s,hs,d⟩:=(anr h aay).mp e;have sl:=aay s hs;obtain ⟨l,ll,c⟩:=anv (d (T.go.length+1));have lt:=anw h sl c;obtain ⟨x,hx,b⟩:=aiv c λnd=>by
  have:=BF.a1b T.go.length l nd lt
  omega
 exact ⟨s,x,sl,of_decide_eq_true (List.mem_filter.mp hs).2,lt x hx,(adv c x hx).1,b,(adv c x hx).2⟩
theorem ac1(h:T.Ok){r c:Nat}(hr:r<T.go.length)(hc:c∈T.tg):stp T r (psn T c)∈rw' T r:=(a96 h hr).mpr ⟨_,(a7n hc).2,rfl⟩
theorem ac2(h:T.Ok):∀ {w:List Nat} {a:Nat},a<T.go.length->(∀ c∈w,c∈T.tg)->hp T (ldw T a w)=true->hp T a=true
 | [],_,_,_,e=>e
 | c::w,a,ha,hw,e=>(aij h ha).mpr ⟨_,ac1 h ha (hw c List.mem_cons_self), .inr (ac2 h (a7m h _ _) (λd hd=>hw d (List.mem_cons_of_mem _ hd)) e)⟩
theorem aiw(h:T.Ok):∀ {w:List Nat} {a:Nat},a<T.go.length->(∀ c∈w,c∈T.tg)->(∀ i,i<w.length->kI T (ldw T a (w.take (i+1))) = -1)->hp T (ldw T a w)=true->(∀ k,Dp T k (ldw T a w)=true)->∀ k,Dp T k a=true
 | [],_,_,_,_,_,d=>d
 | c::w,a,ha,hw,hb,e,d=>λk=>by
  cases k with
  | zero=>rfl
  | succ k =>
   have al:=a7m h a (psn T c);have hw':∀ d∈w,d∈T.tg:=λd hd=>hw d (List.mem_cons_of_mem _ hd);have p:=ac2 h al hw' e;have b0:kI T (stp T a (psn T c)) = -1:=hb 0 (by simp)
   simp only [Dp,List.any_eq_true,Bool.and_eq_true];exact ⟨_,ac1 h ha (hw c List.mem_cons_self),by unfold gd;rw [decide_eq_true b0,p];rfl,aiw h al hw' (λi hi=>hb (i+1) (by simpa using hi)) e d k⟩
theorem a6r(T:Table):∀ (u v:List Nat) (r:Nat),ldw T r (u++v)=ldw T (ldw T r u) v
 | [],_,_=>rfl
 | c::u,v,r=>a6r T u v _
theorem ac3(h:T.Ok){x:Nat}{c:List Nat}(hx:x<T.go.length)(hc:∀ d∈c,d∈T.tg)(ne:c≠[])(hb:∀ i,i<c.length->kI T (ldw T x (c.take (i+1))) = -1)(back:ldw T x c=x)(p:hp T x=true):∀ k i,i<c.length->Dp T k (ldw T x (c.take i))=true
 | 0,_,_=>rfl
 | k+1,i,hi=>by
  have cl:0<c.length:=List.length_pos_iff.mpr ne;have ei:c[i]? = some c[i]:=List.getElem?_eq_getElem hi;have nx:ldw T x (c.take (i+1))=stp T (ldw T x (c.take i)) (psn T c[i]):=by rw [List.take_succ,ei];exact a1e _ _ _
  have al:=yw h (c.take i) hx;have hin:=ac1 h al (hc c[i] (List.getElem_mem hi));rw [<-nx] at hin;have b0:=hb i hi;have pn:hp T (ldw T x (c.take (i+1)))=true:=by
   refine ac2 h (w:=c.drop (i+1)) (yw h _ hx) (λd hd=>hc d (List.mem_of_mem_drop hd)) ?_;rw [<-a6r,List.take_append_drop,back];exact p
  simp only [Dp,List.any_eq_true,Bool.and_eq_true];refine ⟨_,hin,by unfold gd;rw [decide_eq_true b0,pn];rfl,?_⟩
  by_cases q:i+1<c.length
  ·exact ac3 h hx hc ne hb back p k (i+1) q
  ·have e2:c.take (i+1)=c:=List.take_of_length_le (by omega)
   rw [e2,back];exact ac3 h hx hc ne hb back p k 0 cl
theorem alx(h:T.Ok){s x:Nat}{y c:List Nat}(hs:s<T.go.length)(ks:kI T s ≠ -1)(wy:Way T (a3o T) s (x,y))(wc:Way T (a3o T) x (x,c))(ne:c≠[])(p:hp T x=true):RA T (kds T) = .non:=by
 have hx:x<T.go.length:=by rw [<-show ldw T s y=x from wy.to];exact yw h _ hs
 have d:=ac3 h hx wc.sg ne (λi hi=>of_decide_eq_true (wc.ps i hi)) wc.to p;refine (anr h aay).mpr ⟨s,List.mem_filter.mpr ⟨List.mem_range.mpr hs,decide_eq_true ks⟩,aiw h hs wy.sg (λi hi=>of_decide_eq_true (wy.ps i hi)) ?_ ?_⟩
 ·rw [show ldw T s y=x from wy.to];exact p
 ·rw [show ldw T s y=x from wy.to]
  exact λk=>d k 0 (List.length_pos_iff.mpr ne)
end
end STP
namespace RND
open PySem PySem.Spec L2 MI AT HND EVX K23 K21 RCH HGT STP
open K22 hiding hp d9 dg
open K40
section
variable{T:Table}
theorem adw{n:Nat}(f:Nat->D)(hh:Hd):ahk (.tup ((List.range n).map f)) hh = .ok ⟨(List.range n).map λr=>.tup [bu r,f r],λ_=>True⟩ hh:=by
 show R.ok (⟨((List.range ((List.range n).map f).length).zip ((List.range n).map f)).map λp=>.tup [.int (p.1:Nat),p.2],λ_=>True⟩:Itm) hh=_
 congr 2
 refine List.ext_getElem? λi=>?_
 by_cases hi:i<n
 ·rw [List.getElem?_map,List.getElem?_map,List.getElem?_range hi,List.getElem?_zip_eq_some (z:=(i,f i)).mpr ⟨by rw [List.getElem?_range (by simpa using hi)],by rw [List.getElem?_map,List.getElem?_range hi];rfl⟩]
  rfl
 ·rw [List.getElem?_eq_none (by simp;omega),List.getElem?_eq_none (by simp;omega)]
abbrev brD(T:Table):D:=.rol (T.ks.map λk=>.bl (decide (k = -1)))
theorem anx(n:Nat):MI.clo n (brD T):=ut (jd λk _=>mj _)
theorem ar3(h:T.Ok){x:Nat}(hx:x<T.go.length)(hh:Hd):gIx (brD T) (bu x) hh = .ok (.bl (a3o T x)) hh:=by
 have kl:=h.kl;refine afe ?_;unfold a3o kI;rw [List.getElem?_map,List.getElem?_eq_getElem (by omega)]
 rfl
theorem anz(h:T.Ok){τ:Sd}{fe:SE}(h0:τ[0]? = some (some T.d))(ef:fe=s2 hEq (sV 0) (s1 a6t (sC (.int 1)))):sZ (m9 (sIt (s2 gIx (sV 0) (sC (.int 2)))) t1 fe []) τ [] = .ok (brD T) []:=by
 have n32:=h.n32;have kl:=h.kl;subst ef;refine yz (uw D.int (λk=>.bl (decide (k = -1))) T.ks (a5q (dm (au h0) (ig _ _ _) (a93 _)) rfl) (gq (by omega)) λk _=>?_) (jd λk _=>mj _) (by simp)
 rw [vg];exact dm (au rfl) (al7 (ig _ _ _) (a8s _)) (avc _ _)
abbrev ajc:=Nat × D
def kvG(e:ajc):Key × D:=(.inl (e.1:Int),e.2)
variable{ls:List ajc}
theorem aix{x:Nat}(h:x ∉ ls.map (·.1)):a3l (ls.map kvG) (.inl (x:Int))=none/\∀ d,putD (ls.map kvG) (.inl (x:Int)) d=ls.map kvG++[(.inl (x:Int),d)]:=by
 have no:∀ kv∈ls.map kvG,¬ decide (kv.1=(.inl (x:Int):Key))=true:=λkv hkv=>by
  obtain ⟨e,he,rfl⟩:=List.mem_map.mp hkv;rw [decide_eq_true_iff]
  intro z
  have:(e.1:Int)=(x:Int):=Sum.inl.inj z
  exact h (List.mem_map.mpr ⟨e,he,by omega⟩)
 constructor
 ·unfold a3l;rw [List.find?_eq_none.mpr no];rfl
 ·intro d
  unfold putD;rw [if_neg]
  intro z
  obtain ⟨kv,hkv,e⟩:=List.any_eq_true.mp z;exact no kv hkv e
theorem a9f:∀ {ls:List ajc} {e:ajc},e∈ls->(ls.map (·.1)).Nodup->a3l (ls.map kvG) (.inl (e.1:Int))=some e.2
 | a::es,e,he,nd=>by
  unfold a3l;rw [List.map_cons,List.find?_cons]
  by_cases q:a=e
  ·subst q;rw [show decide ((kvG a).1=(.inl (a.1:Int):Key))=true from decide_eq_true rfl]
   rfl
  ·have he':e∈es:=(List.mem_cons.mp he).resolve_left λz=>q z.symm;have na:a.1≠e.1:=λz=>(List.nodup_cons.mp nd).1 (List.mem_map.mpr ⟨e,he',z.symm⟩);rw [show decide ((kvG a).1=(.inl (e.1:Int):Key))=false from decide_eq_false λz=>na (by have:(a.1:Int)=(e.1:Int):=Sum.inl.inj z;omega)]
   exact a9f he' (List.nodup_cons.mp nd).2
theorem ay2(ls:List ajc):((ls.map kvG).map (·.1)).zip ((ls.map kvG).map (·.2))=ls.map kvG:=by
 rw [List.map_map,List.map_map]
 induction ls with
 | nil=>rfl
 | cons a l ih=>rw [List.map_cons,List.map_cons,List.zip_cons_cons,ih];rfl
abbrev grD(ls:List ajc):D:=.rod ((ls.map kvG).map (·.1)) ((ls.map kvG).map (·.2))
theorem ao0{x:Nat}{hh:Hd}:amt (grD ls) (bu x) hh=some (a3l (ls.map kvG) (.inl (x:Int))):=by
 show some (a3l (((ls.map kvG).map (·.1)).zip ((ls.map kvG).map (·.2))) (.inl (x:Int)))=_;rw [ay2]
theorem aly{s:Nat}{es:List Ent}{hh:Hd}(W:WSt T (a3o T) s es):(s ∉ es.map (·.1)/\abq (wrD es) (bu s) hh = .ok .non hh)\/∃ c,(s,c)∈es/\abq (wrD es) (bu s) hh = .ok (.str (S c)) hh:=by
 have q:amt (wrD es) (bu s) hh=some (a3l (es.map kvD) (.inl (s:Int))):=by
  show some (a3l (((es.map kvD).map (·.1)).zip ((es.map kvD).map (·.2))) (.inl (s:Int)))=_;rw [aip]
 by_cases h:s∈es.map (·.1)
 ·obtain ⟨e,he,rfl⟩:=List.mem_map.mp h;refine .inr ⟨e.2,he,?_⟩;unfold abq;rw [q,a9b he W.nd];rfl
 ·refine .inl ⟨h,?_⟩;unfold abq;rw [q,(anp h).1];rfl
structure Loop (T:Table) (r:Nat) (c x:List Nat):Prop where
 lt:r<T.go.length
 hp:RCH.hp T r=true
 way:Way T (a3o T) r (r,c)
 ne:c≠[]
 len:c.length<=33
 x1:1<=x.length
 x32:x.length<=32
 stp:Stp T r x.length x
structure Lps (T:Table) (n:Nat) (ls:List ajc):Prop where
 nd:(ls.map (·.1)).Nodup
 lt:∀ e∈ls,e.1<n
 good:∀ e∈ls,∃ c x,e.2 = .tup [.str (S c), .str (S x)]/\Loop T e.1 c x
 all:∀ r,r<n->BR T r r->hp T r=true->r∈ls.map (·.1)
theorem Lps.clo{n:Nat}(L:Lps T n ls)(k:Nat):clos k ((ls.map kvG).map (·.2)):=by
 rw [List.map_map];refine jd λe he=>?_;obtain ⟨c,x,q,_⟩:=L.good e he;show MI.clo k e.2;rw [q];exact ur (iu (jq _) (iu (jq _) uq))
noncomputable def kj:SF:=oh (a2r K22.dg STP.dh) 6
theorem alz(h:T.Ok):∃ ls,Lps T T.go.length ls/\Pu kj 1 [T.d] (grD ls):=by
 have n32:=h.n32;have lp:=mz (g:=a2x 2 (jn (kN 3) (jn (kN 4) a2w))) (b:=a0y K22.dg STP.dh) (λr:Nat=>D.tup [bu r,A T r])
  (λpre τ hh=>∃ (ls:List ajc) (t3 t4 t5:Option D),τ=[some T.d,some (brD T),some (.ref 0),t3,t4,t5]/\hh=[.dK (ls.map kvG)]/\Lps T pre.length ls) (List.range T.go.length) [some T.d,some (brD T),some (.ref 0),none,none,none] [.dK []] ?_
  ⟨[],none,none,none,rfl,rfl,by simp,by simp,by simp,λr hr=>absurd hr (Nat.not_lt_zero r)⟩
 ·obtain ⟨τ',h',e,ls,t3,t4,t5,rfl,rfl,L⟩:=lp;rw [List.length_range] at L;refine ⟨ls,L,Pu.of rfl (alo Table.clo) (r:=.ok (.ref 0) [.dK (ls.map kvG)]) ?_ (a6j (aiq (Nat.le_refl _) rfl (L.clo _)) (by simp)) (by simpa [MI.clo] using L.clo 0)⟩
  unfold kj;rw [j9];show toR (a2r K22.dg STP.dh [some T.d,none,none,none,none,none] [])=_;unfold a2r;refine Eq.trans (congrArg toR (jy (anz h rfl rfl))) ?_;refine Eq.trans (congrArg toR (jy (d:=.ref 0) (h1:=[.dK []]) rfl)) ?_;have it:a8f (sA (jz false 1 K22.dg) (ak (sV 0) di)) [some T.d,some (brD T),some (.ref 0),none,none,none] [.dK []] = .ok ⟨(List.range T.go.length).map λr=>.tup [bu r,A T r],λ_=>True⟩ [.dK []]:=by
   unfold a8f;rw [yg (au rfl) (K22.a95 h _),d7];exact adw _ _
  refine Eq.trans (congrArg toR (a09 it)) ?_;refine Eq.trans (congrArg (λz=>toR (MI.thn z _)) e) ?_;exact congrArg toR (n6 (au rfl))
 ·rintro pre r post τ hh all ⟨ls,t3,t4,t5,rfl,rfl,L⟩
  obtain ⟨ei,hr⟩:=uy all;rw [<-ei] at L;rw [List.length_append,List.length_singleton,<-ei];obtain ⟨es,W,C,ew⟩:=a9c (s:=r) (ps:=a3o T) (P:=brD T) h hr (anx _) λx hx hh=>ar3 h hx hh;have few:=W.few h hr;refine ⟨_,_,rfl,?_⟩;have nw:r ∉ ls.map (·.1):=λz=>by
   obtain ⟨e,he,q⟩:=List.mem_map.mp z;have:=L.lt e he;omega
  have up:∀ ls':List ajc,(∀ e∈ls,e∈ls')->(∀ r',r'<r->BR T r' r'->hp T r'=true->r'∈ls'.map (·.1)):=λls' s r' h1 h2 h3=>by
   obtain ⟨e,he,q⟩:=List.mem_map.mp (L.all r' h1 h2 h3);exact List.mem_map.mpr ⟨e,s e he,q⟩
  have skip:(BR T r r->hp T r=true->False)->Lps T (r+1) ls:=λno=>⟨L.nd,λe he=>Nat.lt_succ_of_lt (L.lt e he),L.good,λr' h1 h2 h3=>by
   by_cases q:r'=r
   ·subst q;exact (no h2 h3).elim
   ·exact L.all r' (by omega) h2 h3⟩
  have an:a06 (A T r) .non [.dK (ls.map kvG)] = .ok (.bl (hp T r)) [.dK (ls.map kvG)]:=by unfold hp;cases A T r<;>rfl
  unfold a0y;have set5:∀ {d:D} {g:SS},abq (wrD es) (bu r) [.dK (ls.map kvG)] = .ok d [.dK (ls.map kvG)]->j7 (m7 5 (al0 (sA (jz false 3 STP.dh) (ak (sV 0) (ak (sV 3) (ak (sV 1) di)))) (sV 3))) g [some T.d,some (brD T),some (.ref 0),some (bu r),some (A T r),t5] [.dK (ls.map kvG)]=g [some T.d,some (brD T),some (.ref 0),some (bu r),some (A T r),some d] [.dK (ls.map kvG)]:=λ{d g} e=>by
   refine jy ?_;unfold al0;rw [aal (au rfl) (au rfl) (au rfl) (ew _),d7];show (sV 3 _ _).bind _=_;rw [au rfl,d7];exact e
  rcases aly (hh:=[.dK (ls.map kvG)]) W with ⟨ni,eg⟩ | ⟨c,ci,eg⟩
  ·refine ⟨[some T.d,some (brD T),some (.ref 0),some (bu r),some (A T r),some .non],[.dK (ls.map kvG)],(set5 eg).trans ?_,ls,_,_,_,rfl,rfl,skip λb _=>ni (b.met C)⟩;have t2:a6a (sT (s2 a06 (sV 4) (sC .non))) (sT (s2 a06 (sV 5) (sC .non))) [some T.d,some (brD T),some (.ref 0),some (bu r),some (A T r),some .non] [.dK (ls.map kvG)] = .ok (hp T r && false) [.dK (ls.map kvG)]:=awa (tof (dm (au rfl) (ig _ _ _) an)) λ_=>tof (dm (au rfl) (ig _ _ _) rfl);rw [Bool.and_false] at t2;exact Eq.trans (ifF t2) rfl
  ·have t2:a6a (sT (s2 a06 (sV 4) (sC .non))) (sT (s2 a06 (sV 5) (sC .non))) [some T.d,some (brD T),some (.ref 0),some (bu r),some (A T r),some (.str (S c))] [.dK (ls.map kvG)] = .ok (hp T r && true) [.dK (ls.map kvG)]:=awa (tof (dm (au rfl) (ig _ _ _) an)) λ_=>tof (dm (au rfl) (ig _ _ _) rfl);rw [Bool.and_true] at t2
   cases hq:hp T r with
   | false =>
    rw [hq] at t2;refine ⟨[some T.d,some (brD T),some (.ref 0),some (bu r),some (A T r),some (.str (S c))],[.dK (ls.map kvG)],(set5 eg).trans (Eq.trans (ifF t2) rfl),ls,_,_,_,rfl,rfl,skip λ_ z=>by rw [hq] at z;cases z⟩
   | true =>
    rw [hq] at t2;obtain ⟨x,ex,x1,x32,sx⟩:=aiu h hr hq;have p:amu (.ref 0) (bu r) (.tup [.str (S c),A T r]) [.dK (ls.map kvG)]=some [.dK ((ls++[(r,D.tup [.str (S c),A T r])]).map kvG)]:=by
     have ll:ls.length<=T.go.length:=by
      have:=BF.a1b T.go.length (ls.map (·.1)) L.nd λy hy=>by
       obtain ⟨e,he,rfl⟩:=List.mem_map.mp hy;exact Nat.lt_trans (L.lt e he) hr
      simpa using this
     have lt:(ls.map kvG).length<LINE:=a1l (by rw [List.length_map];omega)
     show (if (ls.map kvG).length<LINE then some [O.dK (putD (ls.map kvG) (.inl ((r:Nat):Int)) (.tup [.str (S c),A T r]))] else none)=_
     rw [if_pos lt,(aix nw).2,List.map_append];rfl
    refine ⟨[some T.d,some (brD T),some (.ref 0),some (bu r),some (A T r),some (.str (S c))],[.dK ((ls++[(r,D.tup [.str (S c),A T r])]).map kvG)],(set5 eg).trans (Eq.trans (ifT t2) (ahs (yt (au rfl) (au rfl) arf) (au rfl) (au rfl) p)),ls++[(r,D.tup [.str (S c),A T r])],_,_,_,rfl,rfl,?_⟩;have wl:c.length<=33:=by
     obtain ⟨j,hj⟩:=List.getElem?_of_mem (List.mem_cons_of_mem (r,([]:List Nat)) ci);have l1:=W.len j _ hj;have l2:=(List.getElem?_eq_some_iff.mp hj).1;rw [List.length_cons] at l2;exact Nat.le_trans l1 (by omega)
    refine ⟨?_,λe he=>?_,λe he=>?_,λr' h1 h2 h3=>?_⟩
    ·rw [List.map_append,List.nodup_append];refine ⟨L.nd,by simp,λa ha b hb=>?_⟩
     rw [List.map_singleton,List.mem_singleton] at hb;subst hb;exact λz=>nw (z ▸ ha)
    ·rcases List.mem_append.mp he with z | z
     ·exact Nat.lt_succ_of_lt (L.lt e z)
     ·rw [List.mem_singleton] at z;subst z;exact Nat.lt_succ_self _
    ·rcases List.mem_append.mp he with z | z
     ·exact L.good e z
     ·rw [List.mem_singleton] at z;subst z;exact ⟨c,x,by show D.tup [.str (S c),A T r]=_;rw [ex],hr,hq,W.way _ (List.mem_cons_of_mem _ ci),W.ne _ ci,wl,x1,x32,sx⟩
    ·by_cases q:r'=r
     ·subst q;rw [List.map_append];exact List.mem_append_right _ (by simp)
     ·exact up _ (λe he=>List.mem_append_left _ he) r' (by omega) h2 h3
end
section
variable{T:Table}
structure Rnd (T:Table) (u y c x:List Nat):Prop where
 lu:u.length<=33
 su:∀ d∈u,d∈T.tg
 nu:u≠[]
 ku:kI T (ldw T 0 u) ≠ -1
 wy:Way T (a3o T) (ldw T 0 u) (ldw T (ldw T 0 u) y,y)
 ny:y≠[]
 ly:y.length<=33
 lp:Loop T (ldw T (ldw T 0 u) y) c x
theorem az2{a b c d:D}{h:Hd}:MI.a4k [a,b,c,d] h = .ok (.tup [a,b,c,d]) h:=by unfold MI.a4k;rw [if_pos (gq (by simp))]
theorem am0(es:List Ent)(hh:Hd):amv (wrD es) hh = .ok ⟨es.map wtD,λ_=>True⟩ hh:=by
 show R.ok (⟨(((es.map kvD).map (·.1)).zip ((es.map kvD).map (·.2))).map λp=>.tup [kD p.1,p.2],λ_=>True⟩:Itm) hh=_;rw [aip,List.map_map];rfl
noncomputable def jt:SF:=oh (a5n kj STP.m5 STP.dh) 9
abbrev τR(T:Table)(ls:List ajc)(t3 t4 t5 t6 t7 t8:Option D):Sd:=[some T.d,some (brD T),some (grD ls),t3,t4,t5,t6,t7,t8]
theorem aiy(h:T.Ok)(rc:∀ r,r<T.go.length->PN.Rch T.go r):(RA T (kds T)≠.non/\Pu jt 1 [T.d] .non)\/(RA T (kds T) = .non/\∃ u y c x,Rnd T u y c x/\Pu jt 1 [T.d] (.tup [.str (S u), .str (S y), .str (S c), .str (S x)])):=by
 have n32:=h.n32;obtain ⟨wy,wys,ewy⟩:=aqy h rc;obtain ⟨ls,L,els⟩:=alz h;have lp:=zg (g:=a2x 2 (jn (kN 3) (jn (kN 4) a2w))) (b:=a0x kj STP.m5 STP.dh) (λr:Nat=>D.tup [bu r, .str (S (wy r))])
  (λpre τ hh=>∃ t3 t4 t5 t6 t7 t8:Option D,τ=τR T ls t3 t4 t5 t6 t7 t8/\hh=[]/\∀ s,s<pre.length->kI T s ≠ -1->∀ x,BR T s x->x ∉ ls.map (·.1))
  (λd hh=>hh=[]/\∃ u y c x,Rnd T u y c x/\d = .tup [.str (S u), .str (S y), .str (S c), .str (S x)]) (List.range T.go.length) [] (τR T ls none none none none none none) [] ?_
  ⟨none,none,none,none,none,none,rfl,rfl,λs hs=>absurd hs (Nat.not_lt_zero s)⟩
 ·have e0:∀ {d:D} {r:Fl},forL (λ_=>True) (a2x 2 (jn (kN 3) (jn (kN 4) a2w))) (a0x kj STP.m5 STP.dh) ((List.range T.go.length).map λr:Nat=>D.tup [bu r, .str (S (wy r))]) (τR T ls none none none none none none) []=r->toR (MI.thn r (qj (sC .non))) = .ok d []->MI.clo 0 d->Pu jt 1 [T.d] d:=λ{d r} e q c=>by
   refine Pu.of rfl (alo Table.clo) (r:=.ok d []) ?_ (jx c (by simp)) c
   unfold jt;rw [j9];show toR (a5n kj STP.m5 STP.dh [some T.d,none,none,none,none,none,none,none,none] [])=_;unfold a5n;refine Eq.trans (congrArg toR (jy (anz h rfl rfl))) ?_;refine Eq.trans (congrArg toR (jy (yg (au rfl) (els _)))) ?_;have it:a8f (sA (jz false 1 STP.m5) (ak (sV 0) di)) (τR T ls none none none none none none) [] = .ok ⟨(List.range T.go.length).map λr=>.tup [bu r, .str (S (wy r))],λ_=>True⟩ []:=by
    unfold a8f;rw [yg (au rfl) (ewy _),d7];exact adw _ _
   refine Eq.trans (congrArg toR (a09 it)) ?_;refine Eq.trans (congrArg (λz=>toR (MI.thn z _)) e) q
  rcases lp with ⟨τ',h',e,t3,t4,t5,t6,t7,t8,rfl,rfl,no⟩ | ⟨d,h',e,rfl,u,y,c,x,R,rfl⟩
  ·rw [List.nil_append,List.length_range] at no;refine .inl ⟨λz=>?_,e0 e (congrArg toR (n6 (ig _ _ _))) abp⟩;obtain ⟨s,x,sl,ks,xl,b1,b2,px⟩:=ac0 h z;exact no s sl ks x b1 (L.all x xl b2 px)
  ·refine .inr ⟨?_,u,y,c,x,R,e0 e rfl (ur (iu (jq _) (iu (jq _) (iu (jq _) (iu (jq _) uq)))))⟩;exact alx h (yw h _ h.n1) R.ku R.wy R.lp.way R.lp.ne R.lp.hp
 ·rintro pre s post τ hh all ⟨t3,t4,t5,t6,t7,t8,rfl,rfl,no⟩
  rw [List.nil_append] at all;obtain ⟨ei,hs⟩:=uy all;rw [<-ei] at no;obtain ⟨es,W,C,ew⟩:=a9c (s:=s) (ps:=a3o T) (P:=brD T) h hs (anx _) λx hx hh=>ar3 h hx hh;have few:=W.few h hs;refine ⟨_,_,rfl,?_⟩;unfold a0x;have it:ade (sA (jz false 3 STP.dh) (ak (sV 0) (ak (sV 3) (ak (sV 1) di)))) (τR T ls (some (bu s)) (some (.str (S (wy s)))) t5 t6 t7 t8) [] = .ok ⟨es.map wtD,λ_=>True⟩ []:=by
   unfold ade;rw [aal (au rfl) (au rfl) (au rfl) (ew _),d7];exact am0 _ _
  have l2:=zg (g:=a2x 2 (jn (kN 5) (jn (kN 6) a2w))) (b:=a3m kj STP.m5 STP.dh) wtD
   (λpre τ hh=>∃ t5 t6 t7 t8:Option D,τ=τR T ls (some (bu s)) (some (.str (S (wy s)))) t5 t6 t7 t8/\hh=[]/\(kI T s ≠ -1->∀ e∈pre,e.1 ∉ ls.map (·.1)))
   (λd hh=>hh=[]/\∃ u y c x,Rnd T u y c x/\d = .tup [.str (S u), .str (S y), .str (S c), .str (S x)]) es [] (τR T ls (some (bu s)) (some (.str (S (wy s)))) t5 t6 t7 t8) [] ?_ ⟨t5,t6,t7,t8,rfl,rfl,λ_ e he=>by cases he⟩
  ·rcases l2 with ⟨τ',h',e,t5',t6',t7',t8',rfl,rfl,n2⟩ | ⟨d,h',e,q⟩
   ·rw [List.nil_append] at n2;refine .inl ⟨_,_,(avd it).trans e,_,_,t5',t6',t7',t8',rfl,rfl,λs' hs' ks x b=>?_⟩;rw [List.length_append,List.length_singleton,<-ei] at hs'
    by_cases q:s'<s
    ·exact no s' q ks x b
    ·have:s'=s:=by omega
     subst this;obtain ⟨e,he,rfl⟩:=List.mem_map.mp (b.met C);exact n2 ks e he
   ·exact .inr ⟨d,h',(avd it).trans e,q⟩
  ·rintro pre2 e post2 τ hh all2 ⟨t5,t6,t7,t8,rfl,rfl,n2⟩
   rw [List.nil_append] at all2;have he:e∈es:=by rw [all2];simp
   refine ⟨_,_,rfl,?_⟩;unfold a3m;have tb:a5i (a3u (s2 gIx (sV 1) (sV 3))) (τR T ls (some (bu s)) (some (.str (S (wy s)))) (some (bu e.1)) (some (.str (S e.2))) t7 t8) [] = .ok (!a3o T s) []:=abv (a2c (dm (au rfl) (au rfl) (ar3 h hs _)) (u5 _));have tl:sT (s2 (aep false) (sV 5) (sV 2)) (τR T ls (some (bu s)) (some (.str (S (wy s)))) (some (bu e.1)) (some (.str (S e.2))) t7 t8) [] = .ok (decide (e.1∈ls.map (·.1))) []:=by
    refine tof (dm (au rfl) (au rfl) ?_);unfold aep;rw [ao0]
    by_cases q:e.1∈ls.map (·.1)
    ·obtain ⟨l,hl,ql⟩:=List.mem_map.mp q;rw [decide_eq_true q,<-ql,a9f hl L.nd];rfl
    ·rw [decide_eq_false q,(aix q).1];rfl
   have tt:=awa tb (λ_=>tl)
   by_cases q:kI T s ≠ -1/\e.1∈ls.map (·.1)
   ·rw [show a3o T s=false from decide_eq_false q.1,decide_eq_true q.2] at tt
    obtain ⟨l,hl,ql⟩:=List.mem_map.mp q.2;obtain ⟨c,x,elx,lo⟩:=L.good l hl;rw [ql] at lo;have gl:aac (grD ls) (bu e.1) [] = .ok (.tup [.str (S c), .str (S x)]) []:=by
     unfold aac;rw [ao0,<-ql,a9f hl L.nd,elx]
    refine .inr ⟨_,_,Eq.trans (ifT tt) (Eq.trans (ux (a6x (dm (au rfl) (au rfl) gl) rfl)) (n6 (axv (au rfl) (au rfl) (au rfl) (au rfl) az2))),rfl,wy s,e.2,c,x,?_,rfl⟩;have w:=wys s hs;have we:=W.way e (List.mem_cons_of_mem _ he);have wl:e.2.length<=33:=by
     obtain ⟨j,hj⟩:=List.getElem?_of_mem (List.mem_cons_of_mem (s,([]:List Nat)) he);have l1:=W.len j _ hj;have l2:=(List.getElem?_eq_some_iff.mp hj).1;rw [List.length_cons] at l2;exact Nat.le_trans l1 (by omega)
    have s0:s≠0:=λz=>q.1 (by rw [z];exact SRC.kI0 h)
    refine ⟨w.len,w.sg,w.ne s0,by rw [w.to];exact q.1,by rw [w.to,we.to];exact we,W.ne e he,wl,by rw [w.to,we.to];exact lo⟩
   ·have:(!a3o T s && decide (e.1∈ls.map (·.1)))=false:=by
     by_cases ks:kI T s = -1
     ·rw [show a3o T s=true from decide_eq_true ks];rfl
     ·rw [show decide (e.1∈ls.map (·.1))=false from decide_eq_false λz=>q ⟨ks,z⟩,Bool.and_false]
    rw [this] at tt;refine .inl ⟨_,_,Eq.trans (ifF tt) rfl,some (bu e.1),some (.str (S e.2)),t7,t8,rfl,rfl,λks e' he'=>?_⟩
    rcases List.mem_append.mp he' with z | z
    ·exact n2 ks e' z
    ·rw [List.mem_singleton] at z;subst z;exact λw=>q ⟨ks,w⟩
theorem aiz(h:T.Ok){a b N:Nat}{w x:List Nat}(W:Way T (a3o T) a (b,w))(N1:1<=N)(X:Stp T b N x):Stp T a (w.length+N) (w++x):=by
 have xl:=X.len;refine ⟨by rw [List.length_append,xl],λc hc=>?_,λj hj=>?_⟩
 ·rcases List.mem_append.mp hc with z | z
  ·exact W.sg c z
  ·exact X.sg c z
 ·by_cases q:j<w.length
  ·rw [List.take_append_of_le_length (by omega)]
   exact ⟨λk=>absurd (of_decide_eq_true (W.ps j q)) k,λk=>by omega⟩
  ·obtain ⟨i,rfl⟩:∃ i,j=w.length+i:=⟨j - w.length,by omega⟩
   rw [Nat.add_assoc,List.take_length_add_append,a6r,show ldw T a w=b from W.to,X.at' i (by omega)]
   omega
theorem aj0(h:T.Ok){r:Nat}{c x:List Nat}(L:Loop T r c x):∀ k,Stp T r (k*c.length+x.length) ((List.replicate k c).flatten++x)
 | 0=>by simpa using L.stp
 | k+1=>by
  have:=aiz h L.way (by have:=L.x1;omega) (aj0 h L k)
  rw [List.replicate_succ,List.flatten_cons,List.append_assoc,Nat.succ_mul,show k*c.length+c.length+x.length=c.length+(k*c.length+x.length) by omega]
  exact this
theorem adx(h:T.Ok){u y c x:List Nat}(R:Rnd T u y c x)(k:Nat):a1f T u (y++(List.replicate k c).flatten++x)=true:=by
 have x1:=R.lp.x1;have s:=aiz h R.wy (by omega) (aj0 h R.lp k)
 rw [<-List.append_assoc] at s;exact aqz R.ku s (by omega)
end
end RND
namespace STP
open PySem PySem.Spec L2 MI AT HND EVX K23 K21
open K22 hiding hp d9 dg
open K40
section
variable{T:Table}
def Sm(l:List Nat)(d:D):Prop:=Pln d/\(cds d).length<=l.length+1
theorem avp{l t:List Nat}(ll:l.length<=300)(h:t.length<=l.length+1):Sm l (.str (S t)):=⟨af5 (by omega),by simp only [cds,zb];exact h⟩
theorem afa{o:O}{N k:Nat}(h:T.Ok){l:List Nat}(P:SRC.Src o N)(hN:N<=999990000)(ll:l.length<=300)(hk:k<7):∃ d o',Sm l d/\Dr STP.dq 4 [.str (S T.tg), .str (S l),bu k] o d o'/\SRC.Src o' (N+3):=by
 have t6:=h.tong.hi;have tlo:=h.tong.lo;obtain ⟨a,o1,e1,a0,a1,P1⟩:=SRC.qp (m:=(l.length:Int)+1) P (by omega) (by omega) (by omega)
 obtain ⟨b,o2,e2,b0,b1,P2⟩:=SRC.qp (m:=(T.tg.length:Int)) P1 (by omega) (by omega) (by omega)
 obtain ⟨a,rfl⟩:=Int.eq_ofNat_of_zero_le a0;obtain ⟨b,rfl⟩:=Int.eq_ofNat_of_zero_le b0;have op:=K34.af8 h.tong.hi;have ol:(K34.others T.tg).length<=95:=by have:=List.length_filter_le (λc => !decide (c∈T.tg)) sig;rwa [a8w] at this
 obtain ⟨f,o3,e3,f0,f1,P3⟩:=SRC.qp (m:=((K34.others T.tg).length:Int)) P2 (by omega) (by omega) (by omega)
 obtain ⟨f,rfl⟩:=Int.eq_ofNat_of_zero_le f0;have c1:jz false 2 SRC.aa [.ref 0, .int ((l.length:Int)+1)] [o] = .ok (bu a) [o1]:=e1 0 _ rfl;have c2:jz false 2 SRC.aa [.ref 0,bu T.tg.length] [o1] = .ok (bu b) [o2]:=e2 0 _ rfl;have c3:jz false 2 SRC.aa [.ref 0,bu (K34.others T.tg).length] [o2] = .ok (bu f) [o3]:=e3 0 _ rfl;have gb:T.tg[b]? = some (tgA T b):=af3 (by omega)
 have fl:f<(K34.others T.tg).length:=by omega
 have gf:(K34.others T.tg)[f]? = some (K34.others T.tg)[f]:=List.getElem?_eq_getElem fl
 generalize (K34.others T.tg)[f]=q at gf
 generalize tgA T b=c at gb
 have args:∀ x∈[D.str (S T.tg), .str (S l),bu k],MI.clo 0 x:=aih (jq _) (jq _) (jw _);have one:∀ {u:O} {M:Nat},SRC.Src u M->∀ x∈[u],a1o 1 x:=λPu x hx=>by rw [List.mem_singleton] at hx;subst hx;exact p8 (by omega) Pu.clo
 let τ1:Sd:=[some (.ref 0),some (.str (S T.tg)),some (.str (S l)),some (bu k),some (bu a),some (.str (S [c])),some (.rol (ones (K34.others T.tg)))]
 have pre:∀ g:SS,toR (j7 (m7 4 (sA (jz false 2 SRC.aa) (ak (sV 0) (ak (s2 j6 (sA vh (ak (sV 2) di)) (sC (.int 1))) di)))) (j7 (m7 5 (s2 gIx (sV 1) (sA (jz false 2 SRC.aa) (ak (sV 0) (ak (sA vh (ak (sV 1) di)) di))))) (j7 (m7 6 (sZ (xn (sIt (sA (jz false 0 SRC.d8) di)) t1 (m8 SRC.aa SRC.d8) (qw SRC.aa SRC.d8) [1]))) g)) [some (.ref 0),some (.str (S T.tg)),some (.str (S l)),some (bu k),none,none,none] [o])=toR (g τ1 [o2]):=λg=>by
  refine Eq.trans (congrArg toR (jy (yt (au rfl) (dm (yg (au rfl) (aeu (l:=l) (gq (by omega)))) (ig _ _ _) v5) c1))) ?_
  refine Eq.trans (congrArg toR (jy (dm (au rfl) (yt (au rfl) (yg (au rfl) (aeu (l:=T.tg) (gq (by omega)))) c2) (aw1 (gq (by omega)) gb)))) ?_
  have cf:∀ τ:Sd,τ[1]? = some (some (.str (S T.tg)))->sZ (xn (sIt (sA (jz false 0 SRC.d8) di)) t1 (m8 SRC.aa SRC.d8) (qw SRC.aa SRC.d8) [1]) τ [o2] = .ok (.rol (ones (K34.others T.tg))) [o2]:=λτ h0=>by
   rw [<-a94];refine yz (a4f (λc:Nat=>D.str (S [c])) (λc=>if (!decide (c∈T.tg))=true then some (D.str (S [c])) else none) sig (a5q (ayj (SRC.a5s _)) (amy sig _)) (gq (by rw [a8w];omega)) λc _=>?_) (by rw [a94];exact a5u _ _) (one P2)
   rw [a8q,a2s,a6m,h0];have q:m8 SRC.aa SRC.d8 [some (.str (S [c])),some (.str (S T.tg))] [o2] = .ok (!decide (c∈T.tg)) [o2]:=tof (dm (au rfl) (au rfl) (K21.ane c T.tg _));show (m8 SRC.aa SRC.d8 [some (.str (S [c])),some (.str (S T.tg))] [o2]).bind _=_;rw [q,d7]
   by_cases hc:c∈T.tg
   ·simp [hc]
   ·simp only [hc,decide_false,Bool.not_false,if_true];rfl
  exact congrArg toR (jy (cf _ rfl))
 have fin:∀ d u,SRC.Src u (N+3)->Sm l d->toR (jb SRC.aa SRC.d8 [some (.ref 0),some (.str (S T.tg)),some (.str (S l)),some (bu k),none,none,none] [o]) = .ok d [u]->∃ d o',Sm l d/\Dr STP.dq 4 [.str (S T.tg), .str (S l),bu k] o d o'/\SRC.Src o' (N+3):=λd u Pu p e =>
  ⟨d,u,p,Dr.of rfl args P.clo (r:=.ok d [u]) (by unfold STP.dq;rw [j9];exact e) (jx (aag (Nat.zero_le 1) p.1.clo) (by simpa using one Pu)) p.1.clo Pu.clo,Pu⟩
 have ne:∀ {j:Int} {p:SS} {g:SS},((k:Nat):Int)≠j->toR (j7 (sIf (sT (s2 hEq (sV 3) (sC (.int j)))) p sNx) g τ1 [o2])=toR (g τ1 [o2]):=λhj=>congrArg toR (ifN (tof (dm (au rfl) (ig _ _ _) (aey hj))));have yes:∀ {j:Int} {p:SS} {g:SS} {d:D} {h':Hd},((k:Nat):Int)=j->p τ1 [o2] = .rt d h'->toR (j7 (sIf (sT (s2 hEq (sV 3) (sC (.int j)))) p sNx) g τ1 [o2]) = .ok d h':=λhj e=>congrArg toR (a4y (Eq.trans (ifT (tof (dm (au rfl) (ig _ _ _) (aam hj)))) e));have u2:=P2.up (N:=N+1+1) (M:=N+3) (by omega)
 have sto:∀ {u:O},a4w (sV 2) oN (oS (sV 4)) τ1 [u] = .ok (.str (S (l.take a))) [u]:=λ{u}=>aln (au rfl) rfl (alm (au rfl)) (ayi (l:=l) a (gq (by omega)))
 have sfr:∀ {u:O},a4w (sV 2) (oS (sV 4)) oN τ1 [u] = .ok (.str (S (l.drop a))) [u]:=λ{u}=>aln (au rfl) (alm (au rfl)) rfl (ahr (l:=l) a (gq (by omega)))
 have sf1:∀ {u:O},a4w (sV 2) (oS (s2 j6 (sV 4) (sC (.int 1)))) oN τ1 [u] = .ok (.str (S (l.drop (a+1)))) [u]:=λ{u}=>aln (au rfl) (alm (dm (au rfl) (ig _ _ _) v5)) rfl (ahr (l:=l) (a+1) (gq (by omega)))
 rcases (show k=0\/k=1\/k=2\/k=3\/k=4\/k=5\/k=6 by omega) with hk | hk | hk | hk | hk | hk | hk
 ·refine fin (.str (S (l.take a++[c]++l.drop a))) o2 u2 (avp ll (by simp only [List.length_append,List.length_take,List.length_drop,List.length_singleton];omega)) ?_
  unfold jb;rw [pre];exact yes (by omega) (n6 (dm (dm sto (au rfl) (a04 (gq (by simp only [List.length_take,List.length_singleton];omega)))) sfr (a04 (gq (by simp only [List.length_append,List.length_take,List.length_drop,List.length_singleton];omega)))))
 ·refine fin (.str (S (l.take a++l.drop (a+1)))) o2 u2 (avp ll (by simp only [List.length_append,List.length_take,List.length_drop];omega)) ?_
  unfold jb;rw [pre,ne (by omega)]
  exact yes (by omega) (n6 (dm sto sf1 (a04 (gq (by simp only [List.length_take,List.length_drop];omega)))))
 ·refine fin (.str (S (l.take a++[c]++l.drop (a+1)))) o2 u2 (avp ll (by simp only [List.length_append,List.length_take,List.length_drop,List.length_singleton];omega)) ?_
  unfold jb;rw [pre,ne (by omega),ne (by omega)]
  exact yes (by omega) (n6 (dm (dm sto (au rfl) (a04 (gq (by simp only [List.length_take,List.length_singleton];omega)))) sf1 (a04 (gq (by simp only [List.length_append,List.length_take,List.length_drop,List.length_singleton];omega)))))
 ·refine fin (.str (S (l.take a++[q]++l.drop (a+1)))) o3 P3 (avp ll (by simp only [List.length_append,List.length_take,List.length_drop,List.length_singleton];omega)) ?_
  unfold jb;rw [pre,ne (by omega),ne (by omega),ne (by omega)]
  have lr:∀ hh:Hd,vh [.rol (ones (K34.others T.tg))] hh = .ok (bu (K34.others T.tg).length) hh:=λhh=>by rw [a2b,List.length_map]
  have ix:gIx (.rol (ones (K34.others T.tg))) (bu f) [o3] = .ok (.str (S [q])) [o3]:=afe (by rw [List.getElem?_map,gf];rfl)
  exact yes (by omega) (n6 (dm (dm sto (dm (au rfl) (yt (au rfl) (yg (au rfl) (lr _)) c3) ix) (a04 (gq (by simp only [List.length_take,List.length_singleton];omega)))) sf1 (a04 (gq (by simp only [List.length_append,List.length_take,List.length_drop,List.length_singleton];omega)))))
 ·refine fin .non o2 u2 ⟨trivial,Nat.zero_le _⟩ ?_;unfold jb;rw [pre,ne (by omega),ne (by omega),ne (by omega),ne (by omega)]
  exact yes (by omega) (n6 (ig _ _ _))
 ·have cm:m9 (sIt (sV 2)) t1 (xq SRC.aa SRC.d8) [] τ1 [o2] = .ok (.ref 1) [o2, .lst (ones l)]:=by
   refine uw (λc:Nat=>D.str (S [c])) (λc=>D.str (S [c])) l (a5q (au rfl) (amy l _)) (gq (by omega)) λc _=>?_
   rw [vg];exact au rfl
  have pd:Pln (.rol (ones l)):=a5u 0 l;refine ⟨.rol (ones l),o2,⟨pd,Nat.zero_le _⟩,Dr.of rfl args P.clo (r:=.ok (.ref 1) [o2, .lst (ones l)]) ?_ (a0n (Nat.le_refl _) rfl (a5u _ l) (by simpa using one P2)) pd.clo P2.clo,u2⟩
  unfold STP.dq;rw [j9];show toR (jb SRC.aa SRC.d8 [some (.ref 0),some (.str (S T.tg)),some (.str (S l)),some (bu k),none,none,none] [o])=_;unfold jb;rw [pre,ne (by omega),ne (by omega),ne (by omega),ne (by omega),ne (by omega)]
  exact yes (by omega) (n6 cm)
 ·refine fin (.str (S [])) o2 u2 (avp ll (by simp)) ?_
  unfold jb;rw [pre,ne (by omega),ne (by omega),ne (by omega),ne (by omega),ne (by omega),ne (by omega)]
  exact congrArg toR (n6 (ig _ _ _))
end
end STP
namespace K42
open PySem PySem.Spec L2 MI AT HND EVX K23 K21 RCH HGT STP RND
open K22 hiding hp d9 dg
open K40
section
variable{T:Table}
theorem ady{ck:Hd->Prop}{g:SG}{b:SS}{α:Type}(f:α->D)(I:List α->Sd->Hd->Prop)(Rt:D->Hd->Prop)(c:∀ pre τ h,I pre τ h->ck h):∀ (xs pre:List α) (τ:Sd) (h:Hd),
  (∀ pre' x post τ h,pre++xs=pre'++x::post->I pre' τ h->∃ τ1 h1,g (f x) τ h = .nx τ1 h1/\((∃ τ2 h2,b τ1 h1 = .nx τ2 h2/\I (pre'++[x]) τ2 h2)\/∃ d h2,b τ1 h1 = .rt d h2/\Rt d h2))->I pre τ h->
  (∃ τ' h',forL ck g b (xs.map f) τ h = .nx τ' h'/\I (pre++xs) τ' h')\/∃ d h',forL ck g b (xs.map f) τ h = .rt d h'/\Rt d h'
 | [],pre,τ,h,_,i0=>.inl ⟨τ,h,by rw [List.map_nil,forL,if_pos (c _ _ _ i0)],by simpa using i0⟩
 | x::xs,pre,τ,h,st,i0=>by
  obtain ⟨τ1,h1,e1,q⟩:=st pre x xs τ h rfl i0;rw [List.map_cons,forL,if_pos (c _ _ _ i0),e1];dsimp only
  rcases q with ⟨τ2,h2,e2,i2⟩ | ⟨d,h2,e2,r⟩
  ·rw [e2];have:=ady f I Rt c xs (pre++[x]) τ2 h2 (λpre' y post τ h e=>st pre' y post τ h (by simpa using e)) i2
   simpa using this
  ·rw [e2];exact .inr ⟨d,h2,rfl,r⟩
def aaz(T:Table)(d:D):Bool:=txt T d && !(cds d).isEmpty
def rhB(T:Table)(a b c e:D):Bool:=aaz T a && (aaz T b && (aaz T c && (aaz T e && (decide (ldw T (ldw T 0 (cds a++cds b)) (cds c)=ldw T 0 (cds a++cds b)) && a1f T (cds a) (cds b++cds c++cds e)))))
structure Ppr (d:D):Prop where
 p:Pln d
 l:(cds d).length<=300
theorem a5h{d:D}(p:Ppr d)(w:aaz T d=true):d = .str (S (cds d))/\(∀ c∈cds d,c∈T.tg):=by
 unfold aaz at w;rw [Bool.and_eq_true] at w;obtain ⟨a,b,_⟩:=adt p.p w.1;exact ⟨a,b⟩
theorem adz{d:D}(p:Ppr d){c:ST}{τ:Sd}{H:Hd}{i:Nat}(h1:c τ H = .ok (!txt T d) H)(hi:τ[i]? = some (some d)):sOr c (sT (s2 hEq (sV i) (sC (.str "")))) τ H = .ok (!aaz T d) H:=by
 have:(!aaz T d)=(!txt T d || (cds d).isEmpty):=by unfold aaz;cases txt T d<;>simp
 rw [this];refine orB h1 λz=>?_;have t:txt T d=true:=by simpa using z
 obtain ⟨ed,_,_⟩:=adt p.p t;have e2:∀ l:List Nat,hEq (.str (S l)) (.str "") H = .ok (.bl l.isEmpty) H:=λl=>by
  show hEq (.str (S l)) (.str (S [])) H=_;rw [aq8,aq7]
  cases l<;>simp
 exact tof (dm (au (d:=.str (S (cds d))) (by rw [<-ed];exact hi)) (ig _ _ _) (e2 _))
section
variable{a b c e:D}
theorem ay3{p:D->Prop}(h1:p a)(h2:p b)(h3:p c)(h4:p e):∀ x∈[a,b,c,e],p x:=by
 intro x hx
 simp only [List.mem_cons,List.not_mem_nil,or_false] at hx
 rcases hx with rfl | rfl | rfl | rfl<;>assumption
theorem avq{w:D}(hw:w∈[a,b,c,e])(n:aaz T w=false):rhB T a b c e=false:=by
 simp only [List.mem_cons,List.not_mem_nil,or_false] at hw;unfold rhB
 rcases hw with rfl | rfl | rfl | rfl<;>simp [n]
theorem aj1(h:∀ w∈[a,b,c,e],aaz T w=true):rhB T a b c e=(decide (ldw T (ldw T 0 (cds a++cds b)) (cds c)=ldw T 0 (cds a++cds b)) && a1f T (cds a) (cds b++cds c++cds e)):=by
 unfold rhB;rw [h a (by simp),h b (by simp),h c (by simp),h e (by simp)]
 rfl
noncomputable def bz:SF:=oh (a1a STP.bx STP.dz STP.jk) 7
theorem a9g(h:T.Ok){d:D}{H:Hd}{ck:Hd->Prop}(pa:Ppr a)(pb:Ppr b)(pc:Ppr c)(pe:Ppr e)(it:aj5 d H = .ok ⟨[a,b,c,e],ck⟩ H)(hc:ck H)(tk:∀ k τ,a8t 4 k d τ H=k [a,b,c,e] τ H) :
  toR (a1a STP.bx STP.dz STP.jk [some T.d,some d,none,none,none,none,none] H) = .ok (.bl (rhB T a b c e)) H:=by
 have pp:∀ w∈[a,b,c,e],Ppr w:=ay3 pa pb pc pe;unfold a1a;refine Eq.trans (congrArg toR (a09 (a5q (au rfl) it))) ?_;have lp:=ady (ck:=ck) (g:=kN 2) (b:=a05 STP.bx STP.dz STP.jk) (λx:D=>x)
  (λpre τ hh=>∃ t2:Option D,τ=[some T.d,some d,t2,none,none,none,none]/\hh=H/\∀ w∈pre,aaz T w=true) (λx hh=>x = .bl false/\hh=H/\rhB T a b c e=false)
  (by rintro pre τ hh ⟨_,_,rfl,_⟩;exact hc) [a,b,c,e] [] [some T.d,some d,none,none,none,none,none] H ?_ ⟨none,rfl,rfl,by simp⟩
 ·rw [List.map_id'] at lp
  rcases lp with ⟨τ',h',q,t2,rfl,eh,al⟩ | ⟨x,h',q,rfl,eh,no⟩
  ·rw [eh] at q;refine Eq.trans (congrArg (λz=>toR (MI.thn z _)) q) ?_;rw [List.nil_append] at al;rw [aj1 al];obtain ⟨ea,su⟩:=a5h pa (al a (by simp))
   obtain ⟨eb,sy⟩:=a5h pb (al b (by simp))
   obtain ⟨ec,sc⟩:=a5h pc (al c (by simp))
   obtain ⟨ee,sx⟩:=a5h pe (al e (by simp))
   have lu:=pa.l;have ly:=pb.l;have lc:=pc.l;have lx:=pe.l;refine Eq.trans (congrArg toR (ux (a6x (au rfl) (tk _ _)))) ?_
   clear tk it q al pp pa pb pc pe eh hc
   revert su sy sc sx lu ly lc lx
   generalize cds a=u at ea
   generalize cds b=y at eb
   generalize cds c=v at ec
   generalize cds e=x at ee
   intro su sy sc sx lu ly lc lx
   subst ea eb ec ee;have suy:∀ d∈u++y,d∈T.tg:=λd hd=>(List.mem_append.mp hd).elim (su d) (sy d);have suv:∀ d∈u++y++v,d∈T.tg:=λd hd=>(List.mem_append.mp hd).elim (suy d) (sc d);have syx:∀ d∈y++v++x,d∈T.tg:=λd hd=>(List.mem_append.mp hd).elim (λz=>(List.mem_append.mp z).elim (sy d) (sc d)) (sx d);have t:sT (s2 hNe (sA (jz false 2 STP.jk) (ak (sV 0) (ak (s2 j6 (sV 3) (sV 4)) di))) (sA (jz false 2 STP.jk) (ak (sV 0) (ak (s2 j6 (s2 j6 (sV 3) (sV 4)) (sV 5)) di)))) [some T.d,some d,t2,some (.str (S u)),some (.str (S y)),some (.str (S v)),some (.str (S x))] H = .ok (!decide (ldw T (ldw T 0 (u++y)) v=ldw T 0 (u++y))) H:=by
    have ad1:∀ hh,j6 (.str (S u)) (.str (S y)) hh = .ok (.str (S (u++y))) hh:=λhh=>a04 (gq (by omega))
    have ad2:∀ hh,j6 (.str (S (u++y))) (.str (S v)) hh = .ok (.str (S (u++y++v))) hh:=λhh=>a04 (gq (by rw [List.length_append];omega))
    refine tof (dm (yt (au rfl) (dm (au (i:=3) rfl) (au (i:=4) rfl) (ad1 _)) (a9d h suy _)) (yt (au rfl) (dm (dm (au (i:=3) rfl) (au (i:=4) rfl) (ad1 _)) (au (i:=5) rfl) (ad2 _)) (a9d h suv _)) ((az1 _ _).trans ?_));rw [a6r T (u++y) v 0]
    congr 2
    by_cases z:ldw T (ldw T 0 (u++y)) v=ldw T 0 (u++y)
    ·rw [decide_eq_true z,decide_eq_false (by rw [z];simp)];rfl
    ·rw [decide_eq_false z,decide_eq_true (by omega)];rfl
   by_cases z:ldw T (ldw T 0 (u++y)) v=ldw T 0 (u++y)
   ·rw [decide_eq_true z] at t ⊢;refine Eq.trans (congrArg toR (ifN t)) ?_;have ad3:∀ hh,j6 (.str (S y)) (.str (S v)) hh = .ok (.str (S (y++v))) hh:=λhh=>a04 (gq (by omega))
    have ad4:∀ hh,j6 (.str (S (y++v))) (.str (S x)) hh = .ok (.str (S (y++v++x))) hh:=λhh=>a04 (gq (by rw [List.length_append];omega))
    have st:=a6q h (a:=.str (S u)) (b:=.str (S (y++v++x))) (af5 (by omega)) (af5 (by simp only [List.length_append];omega)) H
    rw [ais su syx] at st;rw [Bool.true_and];exact congrArg toR (n6 (aal (au rfl) (au (i:=3) rfl) (dm (dm (au (i:=4) rfl) (au (i:=5) rfl) (ad3 _)) (au (i:=6) rfl) (ad4 _)) st))
   ·rw [decide_eq_false z] at t ⊢;exact congrArg toR (a4y (Eq.trans (ifT t) (n6 (ig _ _ _))))
  ·rw [eh] at q;refine Eq.trans (congrArg (λz=>toR (MI.thn z _)) q) ?_;rw [no];rfl
 ·rintro pre w post τ hh all ⟨t2,rfl,rfl,al⟩
  rw [List.nil_append] at all;have hw:w∈[a,b,c,e]:=by rw [all];simp
  have pw:=pp w hw;refine ⟨_,_,rfl,?_⟩;unfold a05;have t:=adz (T:=T) pw (τ:=[some T.d,some d,some w,none,none,none,none]) (H:=hh) (i:=2) (c:=a5i (a3u (sA (jz false 2 STP.dz) (ak (sV 0) (ak (sV 2) di))))) (abv (a2c (yt (au rfl) (au rfl) (a9e pw.p _)) (u5 _))) rfl
  cases q:aaz T w with
  | true =>
   rw [q] at t;refine .inl ⟨_,_,Eq.trans (ifF t) rfl,_,rfl,rfl,λx hx=>?_⟩
   rcases List.mem_append.mp hx with z | z
   ·exact al x z
   ·rw [List.mem_singleton] at z;subst z;exact q
  | false =>
   rw [q] at t;exact .inr ⟨_,_,Eq.trans (ifT t) (n6 (ig _ _ _)),rfl,rfl,avq hw q⟩
theorem a6s(h:T.Ok)(pa:Ppr a)(pb:Ppr b)(pc:Ppr c)(pe:Ppr e):Pu bz 2 [T.d, .rol [a,b,c,e]] (.bl (rhB T a b c e))/\Pu bz 2 [T.d, .tup [a,b,c,e]] (.bl (rhB T a b c e)):=by
 have cl:clos 0 [a,b,c,e]:=iu pa.p.clo (iu pb.p.clo (iu pc.p.clo (iu pe.p.clo uq)))
 constructor
 ·refine Pu.of rfl (a6w Table.clo (ut cl)) (r:=.ok (.bl (rhB T a b c e)) []) ?_ (jx (mj _) (by simp)) (mj _)
  unfold bz;rw [j9];exact a9g h pa pb pc pe (d:=.rol [a,b,c,e]) (ck:=λ_=>True) rfl trivial λk τ=>amw rfl rfl
 ·refine Pu.of rfl (a6w Table.clo (ur cl)) (r:=.ok (.bl (rhB T a b c e)) []) ?_ (jx (mj _) (by simp)) (mj _)
  unfold bz;rw [j9];exact a9g h pa pb pc pe (d:=.tup [a,b,c,e]) (ck:=λ_=>True) rfl trivial λk τ=>auk rfl
theorem am1{F:SF}{x d:D}{o:O}(cx:MI.clo 0 x)(co:a1o 0 o)(e:F [x, .ref 0] [o] = .ok d [o])(c:MI.clo 0 d)(p:Nat)(h:Hd)(hp:h[p]? = some o):jz false 2 F [x, .ref p] h = .ok d h:=by
 have nr:refOf x=none:=by cases x<;>first | rfl | (simp only [MI.clo] at cx;omega)
 have e1:a1w [x, .ref p]=[p]:=by
  show [x,D.ref p].filterMap refOf=[p];rw [List.filterMap_cons,nr];rfl
 have e2:a0j 0 [x, .ref p]=[x, .ref 0]:=by cases x<;>first | rfl | (simp only [MI.clo] at cx;omega)
 unfold jz;rw [if_pos (show [x,D.ref p].length=2 from rfl)]
 unfold apk;rw [e1];simp only [a0i,hp,List.length_singleton,Bool.false_eq_true,if_false];have all:∀ y∈[x,D.ref p],MI.clo 0 y\/isRef y:=λy hy=>by
  simp only [List.mem_cons,List.not_mem_nil,or_false] at hy
  rcases hy with rfl | rfl
  ·exact .inl cx
  ·exact .inr ⟨p,rfl⟩
 have z:abm 1 (.ok d [o]) = .ok d [o]:=jx (aag (Nat.zero_le 1) c) (by intro u hu;rw [show ([o]:Hd).take 1=[o] from rfl,List.mem_singleton] at hu;subst hu;exact p8 (by omega) co)
 rw [if_pos ⟨by simp,all,λu hu=>by rw [List.mem_singleton.mp hu];exact co⟩,e2,e,z]
 have es:h.set p o=h:=by
  refine List.ext_getElem? λi=>?_;rw [List.getElem?_set]
  split
  ·rename_i q;subst q;rw [if_pos (List.getElem?_eq_some_iff.mp hp).1,hp]
  ·rfl
 simp [c,co,ud,es]
theorem aj2(h:T.Ok)(pa:Ppr a)(pb:Ppr b)(pc:Ppr c)(pe:Ppr e)(p:Nat)(hh:Hd)(hp:hh[p]? = some (.lst [a,b,c,e])):jz false 2 bz [T.d, .ref p] hh = .ok (.bl (rhB T a b c e)) hh:=by
 have cl:clos 0 [a,b,c,e]:=iu pa.p.clo (iu pb.p.clo (iu pc.p.clo (iu pe.p.clo uq)));refine am1 (o:=.lst [a,b,c,e]) Table.clo (show a1o 0 (.lst [a,b,c,e]) from cl) ?_ (mj _) p hh hp
 unfold bz;rw [j9];exact a9g h pa pb pc pe (d:=.ref 0) (ck:=λh=>h[0]? = some (.lst [a,b,c,e])) rfl rfl λk τ=>amw rfl rfl
noncomputable def jr:SF:=oh (yh STP.qt STP.lq STP.iy) 7
theorem a70(h:T.Ok)(pa:Ppr a)(pb:Ppr b)(pc:Ppr c)(pe:Ppr e):Pu jr 5 [T.d,a,b,c,e] (.bl (rhB T a b c e)):=by
 have pp:∀ w∈[a,b,c,e],Ppr w:=ay3 pa pb pc pe;refine Pu.of rfl (by intro x hx;rw [List.mem_cons] at hx;rcases hx with rfl | hx;exact Table.clo;exact (pp x hx).p.clo) (r:=.ok (.bl (rhB T a b c e)) []) ?_ (jx (mj _) (by simp)) (mj _)
 unfold jr;rw [j9];show toR (yh STP.qt STP.lq STP.iy [some T.d,some a,some b,some c,some e,none,none] [])=_;unfold yh;refine Eq.trans (congrArg toR (a09 (a5q (axv (au (i:=1) rfl) (au (i:=2) rfl) (au (i:=3) rfl) (au (i:=4) rfl) az2) rfl))) ?_;have lp:=zg (g:=kN 5) (b:=xj STP.qt STP.lq STP.iy) (λx:D=>x)
  (λpre τ hh=>∃ t5:Option D,τ=[some T.d,some a,some b,some c,some e,t5,none]/\hh=[]/\∀ w∈pre,aaz T w=true) (λx hh=>x = .bl false/\hh=[]/\rhB T a b c e=false)
  [a,b,c,e] [] [some T.d,some a,some b,some c,some e,none,none] [] ?_ ⟨none,rfl,rfl,by simp⟩
 ·rw [List.map_id'] at lp
  rcases lp with ⟨τ',h',q,t5,rfl,rfl,al⟩ | ⟨x,h',q,rfl,rfl,no⟩
  ·refine Eq.trans (congrArg (λz=>toR (MI.thn z _)) q) ?_;rw [List.nil_append] at al;rw [aj1 al];obtain ⟨ea,su⟩:=a5h pa (al a (by simp))
   obtain ⟨eb,sy⟩:=a5h pb (al b (by simp))
   obtain ⟨ec,sc⟩:=a5h pc (al c (by simp))
   obtain ⟨ee,sx⟩:=a5h pe (al e (by simp))
   have lu:=pa.l;have ly:=pb.l;have lc:=pc.l;have lx:=pe.l
   clear q al pp pa pb pc pe
   revert su sy sc sx lu ly lc lx
   generalize cds a=u at ea
   generalize cds b=y at eb
   generalize cds c=v at ec
   generalize cds e=x at ee
   intro su sy sc sx lu ly lc lx
   subst ea eb ec ee;have suy:∀ d∈u++y,d∈T.tg:=λd hd=>(List.mem_append.mp hd).elim (su d) (sy d);have syx:∀ d∈y++v++x,d∈T.tg:=λd hd=>(List.mem_append.mp hd).elim (λz=>(List.mem_append.mp z).elim (sy d) (sc d)) (sx d);have ad1:∀ hh,j6 (.str (S u)) (.str (S y)) hh = .ok (.str (S (u++y))) hh:=λhh=>a04 (gq (by omega))
   have ad3:∀ hh,j6 (.str (S y)) (.str (S v)) hh = .ok (.str (S (y++v))) hh:=λhh=>a04 (gq (by omega))
   have ad4:∀ hh,j6 (.str (S (y++v))) (.str (S x)) hh = .ok (.str (S (y++v++x))) hh:=λhh=>a04 (gq (by rw [List.length_append];omega))
   refine Eq.trans (congrArg toR (jy (aal (au (i:=0) rfl) (ig _ _ _) (dm (au (i:=1) rfl) (au (i:=2) rfl) (ad1 _)) (a9a (r:=0) h h.n1 suy (by rw [List.length_append];omega) _)))) ?_
   refine Eq.trans (congrArg toR (n6 (avb (dm (aal (au (i:=0) rfl) (au (i:=6) rfl) (au (i:=3) rfl) (a9a h (yw h _ h.n1) sc (by omega) _)) (au (i:=6) rfl) (avc _ _)) λ_=>aal (au (i:=0) rfl) (au (i:=1) rfl) (dm (dm (au (i:=2) rfl) (au (i:=3) rfl) (ad3 _)) (au (i:=4) rfl) (ad4 _)) (af9 h su syx (by omega) (by simp only [List.length_append];omega) _)))) ?_
   show R.ok _ _=R.ok _ _
   congr 3
   exact decide_eq_decide.mpr (by omega)
  ·refine Eq.trans (congrArg (λz=>toR (MI.thn z _)) q) ?_;rw [no];rfl
 ·rintro pre w post τ hh all ⟨t5,rfl,rfl,al⟩
  rw [List.nil_append] at all;have hw:w∈[a,b,c,e]:=by rw [all];simp
  have pw:=pp w hw;refine ⟨_,_,rfl,?_⟩;unfold xj;have t:=adz (T:=T) pw (τ:=[some T.d,some a,some b,some c,some e,some w,none]) (H:=[]) (i:=5) (c:=a5i (a3u (sA (jz false 2 STP.lq) (ak (s2 gIx (sV 0) (sC (.int 0))) (ak (sV 5) di))))) (abv (a2c (yt (dm (au rfl) (ig _ _ _) (a6y (j:=0) rfl)) (au rfl) (alr pw.p _)) (u5 _))) rfl
  cases q:aaz T w with
  | true =>
   rw [q] at t;refine .inl ⟨_,_,Eq.trans (ifF t) rfl,_,rfl,rfl,λx hx=>?_⟩
   rcases List.mem_append.mp hx with z | z
   ·exact al x z
   ·rw [List.mem_singleton] at z;subst z;exact q
  | false =>
   rw [q] at t;exact .inr ⟨_,_,Eq.trans (ifT t) (n6 (ig _ _ _)),rfl,rfl,avq hw q⟩
end
end
section
variable{T:Table}
structure Fou (q:D) (t:Hd) (ws:List D):Prop where
 ix:∀ (k:Nat) (x:D),ws[k]? = some x->∀ (o:O) (m:Hd),gIx q (bu k) (o::(t++m)) = .ok x (o::(t++m))
 ls:∀ (o:O) (m:Hd),a3j [q] (o::(t++m)) = .ok (.ref (o::(t++m)).length) (o::(t++m)++[.lst ws])
 clo:∀ o∈t,a1o 0 o
theorem ar4(ws:List D):Fou (.tup ws) [] ws:=⟨λk x e o m=>a6y e,λo m=>rfl,by simp⟩
theorem ar5{ws:List D}(c:clos 0 ws):Fou (.ref 1) [.lst ws] ws:=⟨λk x e o m=>yu rfl e,λo m=>rfl,λo ho=>by rw [List.mem_singleton] at ho;subst ho;exact c⟩
noncomputable def cu:SF:=oh (zr SRC.aa bz STP.my STP.dq jr) 10
abbrev τK(T:Table)(q:D)(a b w:Nat)(i j:Nat)(t8 t9:Option D):Sd:=[some (.ref 0),some T.d,some q,some (bu a),some (bu b),some (bu w),some (.ref i),some (.ref j),t8,t9]
theorem aj3(h:T.Ok){q sm:D}{a b w i j:Nat}{t8 t9:Option D}{H:Hd}{x0 x1 x2 x3:D}(p0:Ppr x0)(p1:Ppr x1)(p2:Ppr x2)(p3:Ppr x3)
  (eh:jz false 2 bz [T.d,sm] H = .ok (.bl (rhB T x0 x1 x2 x3)) H) (e0:gIx sm (.int 0) H = .ok x0 H) (e1:gIx sm (.int 1) H = .ok x1 H) (e2:gIx sm (.int 2) H = .ok x2 H) (e3:gIx sm (.int 3) H = .ok x3 H) :
  qm SRC.aa bz STP.my STP.dq jr (τK T q a b w i j (some sm) t9) H = .nx (τK T q a b w i j (some sm) (some (.bl (rhB T x0 x1 x2 x3)))) H:=by
 unfold qm;refine Eq.trans (jy (yt (au rfl) (au rfl) eh)) ?_;have hold:sA (jz false 5 jr) (ak (sV 1) (ak (s2 gIx (sV 8) (sC (.int 0))) (ak (s2 gIx (sV 8) (sC (.int 1))) (ak (s2 gIx (sV 8) (sC (.int 2))) (ak (s2 gIx (sV 8) (sC (.int 3))) di))))) (τK T q a b w i j (some sm) (some (.bl (rhB T x0 x1 x2 x3)))) H = .ok (.bl (rhB T x0 x1 x2 x3)) H :=
  b0f (a3b (au rfl) (a3b (dm (au rfl) (ig _ _ _) e0) (a3b (dm (au rfl) (ig _ _ _) e1) (a3b (dm (au rfl) (ig _ _ _) e2) (a3b (dm (au rfl) (ig _ _ _) e3) rfl))))) |>.trans (a70 h p0 p1 p2 p3 _)
 exact Eq.trans (ifF (arc (a2c (yt hold (au rfl) (alv _ _)) (u5 _)))) rfl
theorem ac4{l:List Nat}(h:l.length<=300):Ppr (.str (S l)):=⟨af5 (by omega),by simp only [cds,zb];exact h⟩
theorem ae0(h:T.Ok){q:D}{a b w i j p:Nat}{t8 t9:Option D}{H:Hd}{L:List D}(hl:L.length=4)(pp:∀ x∈L,Ppr x)(e:H[p]? = some (.lst L)) :
  ∃ d,qm SRC.aa bz STP.my STP.dq jr (τK T q a b w i j (some (.ref p)) t9) H = .nx (τK T q a b w i j (some (.ref p)) (some d)) H:=by
 obtain ⟨x0,x1,x2,x3,rfl⟩:∃ x0 x1 x2 x3,L=[x0,x1,x2,x3]:=by
  match L,hl with
  | [a,b,c,d],_=>exact ⟨a,b,c,d,rfl⟩
 exact ⟨_,aj3 h (pp _ (by simp)) (pp _ (by simp)) (pp _ (by simp)) (pp _ (by simp)) (aj2 h (pp _ (by simp)) (pp _ (by simp)) (pp _ (by simp)) (pp _ (by simp)) p H e) (yu (j:=0) e rfl) (yu (j:=1) e rfl) (yu (j:=2) e rfl) (yu (j:=3) e rfl) (t8:=t8)⟩
theorem ac6{L:List D}{k:Nat}{d:D}(pp:∀ x∈L,Ppr x)(pd:Ppr d):∀ x∈L.set k d,Ppr x:=λx hx=>by
 rcases List.mem_or_eq_of_mem_set hx with z | z
 ·exact pp x z
 ·rw [z];exact pd
theorem a9h{L:List D}(pp:∀ x∈L,Ppr x)(n:Nat):clos n L:=a0l.mpr λx hx=>aag (Nat.zero_le n) (pp x hx).p.clo
theorem a7p(h:T.Ok){q:D}{t:Hd}{o:O}{N:Nat}{ws:List (List Nat)}(Q:Fou q t (ws.map λw=>.str (S w)))(w4:ws.length=4)(wl:∀ w∈ws,w.length<=100)(P:SRC.Src o N)(hN:N<=999980000) :
  ∃ o' m,SRC.Src o' (N+6)/\toR (zr SRC.aa bz STP.my STP.dq jr [some (.ref 0),some T.d,some q,none,none,none,none,none,none,none] (o::t)) = .ok (.bl true) (o'::(t++m)):=by
 obtain ⟨a,o1,e1,a0,a1,P1⟩:=SRC.qp (m:=4) P (by omega) (by omega) (by omega)
 obtain ⟨b,o2,e2,b0,b1,P2⟩:=SRC.qp (m:=4) P1 (by omega) (by omega) (by omega)
 obtain ⟨w,o3,e3,w0,w1,P3⟩:=SRC.qp (m:=7) P2 (by omega) (by omega) (by omega)
 obtain ⟨a,rfl⟩:=Int.eq_ofNat_of_zero_le a0;obtain ⟨b,rfl⟩:=Int.eq_ofNat_of_zero_le b0;obtain ⟨w,rfl⟩:=Int.eq_ofNat_of_zero_le w0;have c1:jz false 2 SRC.aa [.ref 0, .int 4] (o::t) = .ok (bu a) (o1::t):=e1 0 _ rfl;have c2:jz false 2 SRC.aa [.ref 0, .int 4] (o1::t) = .ok (bu b) (o2::t):=e2 0 _ rfl;have c3:jz false 2 SRC.aa [.ref 0, .int 7] (o2::t) = .ok (bu w) (o3::t):=e3 0 _ rfl;have ga:ws[a]? = some ws[a]:=List.getElem?_eq_getElem (by omega)
 have gb:ws[b]? = some ws[b]:=List.getElem?_eq_getElem (by omega)
 have la:=wl _ (List.mem_of_getElem? ga);have lb:=wl _ (List.mem_of_getElem? gb)
 generalize ws[a]=wa at ga la
 generalize ws[b]=wb at gb lb
 obtain ⟨d,o4,sd,e4,P4⟩:=afa (k:=w) h (l:=wa) P3 (by omega) (by omega) (by omega)
 let L:List D:=ws.map λw=>.str (S w)
 have Ll:L.length=4:=by rw [List.length_map,w4]
 have pp:∀ x∈L,Ppr x:=λx hx=>by
  obtain ⟨w,hw,rfl⟩:=List.mem_map.mp hx;have:=wl w hw;exact ac4 (by omega)
 have pd:Ppr d:=⟨sd.1,by have:=sd.2;omega⟩
 let L1:=L.set a d
 let L2':=(L.set a (.str (S wb))).set b (.str (S wa))
 have pp1:∀ x∈L1,Ppr x:=ac6 pp pd;have pp2:∀ x∈L2',Ppr x:=ac6 (ac6 pp (ac4 (by omega))) (ac4 (by omega))
 have c4:jz false 4 STP.dq [.ref 0, .str (S T.tg), .str (S wa),bu w] (o3::t++[.lst L]) = .ok d (o4::t++[.lst L]):=e4 0 _ rfl;have xa:L[a]? = some (.str (S wa)):=by rw [List.getElem?_map,ga];rfl
 have xb:L[b]? = some (.str (S wb)):=by rw [List.getElem?_map,gb];rfl
 have at1:∀ (o:O) (x:O) (m:Hd),(o::(t++(x::m)))[t.length+1]? = some x:=λo x m=>by rw [List.getElem?_cons_succ,List.getElem?_append_right (Nat.le_refl _)];simp
 have st1:∀ (o x y:O) (m:Hd),(o::(t++(x::m))).set (t.length+1) y=o::(t++(y::m)):=λo x y m=>by rw [List.set_cons_succ,List.set_append_right _ _ (Nat.le_refl _)];simp
 have at2:∀ (o x y:O),(o::(t++[x,y]))[t.length+2]? = some y:=λo x y=>by rw [List.getElem?_cons_succ,List.getElem?_append_right (by omega)];simp
 have st2:∀ (o x y z:O),(o::(t++[x,y])).set (t.length+2) z=o::(t++[x,z]):=λo x y z=>by rw [List.set_cons_succ,List.set_append_right _ _ (by omega)];simp
 let Hf:Hd:=o4::(t++[.lst L1, .lst L2'])
 have hc:∀ x∈Hf,a1o Hf.length x:=by
  intro x hx
  refine p8 (Nat.zero_le _) ?_
  rcases List.mem_cons.mp hx with rfl | hx
  ·exact P4.clo
  ·rcases List.mem_append.mp hx with z | z
   ·exact Q.clo x z
   ·simp only [List.mem_cons,List.not_mem_nil,or_false] at z
    rcases z with rfl | rfl
    ·exact a9h pp1 0
    ·exact a9h pp2 0
 refine ⟨o4,[.lst L1, .lst L2'],P4.up (by omega),?_⟩
 unfold zr;refine Eq.trans (congrArg toR (jy (yt (au rfl) (ig _ _ _) c1))) ?_;refine Eq.trans (congrArg toR (jy (yt (au rfl) (ig _ _ _) c2))) ?_;refine Eq.trans (congrArg toR (jy (yt (au rfl) (ig _ _ _) c3))) ?_;have l0:a3j [q] (o3::t) = .ok (.ref (t.length+1)) (o3::t++[.lst L]):=by have:=Q.ls o3 [];rw [List.append_nil] at this;exact this
 refine Eq.trans (congrArg toR (jy (yg (au rfl) l0))) ?_;have x1:gIx q (bu a) (o3::t++[.lst L]) = .ok (.str (S wa)) (o3::t++[.lst L]):=Q.ix a _ xa o3 [.lst L];have p1:put (.ref (t.length+1)) (bu a) d (o4::t++[.lst L])=some (o4::(t++[.lst L1])):=(al9 (xs:=L) (j:=a) (at1 o4 (.lst L) []) (by omega)).trans (congrArg some (st1 o4 _ _ []))
 refine Eq.trans (congrArg toR (ux (aex (axv (au rfl) (dm (au rfl) (ig _ _ _) (a6y (j:=0) rfl)) (dm (au rfl) (au rfl) x1) (au rfl) c4) (au rfl) (au rfl) p1))) ?_;have l2:a3j [q] (o4::(t++[.lst L1])) = .ok (.ref (t.length+2)) (o4::(t++[.lst L1, .lst L])):=by
  have ln:(o4::(t++[O.lst L1])).length=t.length+2:=by simp
  have ap:(o4::(t++[O.lst L1])++[.lst L])=o4::(t++[.lst L1, .lst L]):=by simp
  refine (Q.ls o4 [.lst L1]).trans ?_;rw [ln];exact congrArg (R.ok _) ap
 refine Eq.trans (congrArg toR (jy (yg (au rfl) l2))) ?_;have x2:gIx q (bu b) (o4::(t++[.lst L1, .lst L])) = .ok (.str (S wb)) (o4::(t++[.lst L1, .lst L])):=Q.ix b _ xb o4 _;have p2:put (.ref (t.length+2)) (bu a) (.str (S wb)) (o4::(t++[.lst L1, .lst L]))=some (o4::(t++[.lst L1, .lst (L.set a (.str (S wb)))])):=(al9 (xs:=L) (j:=a) (at2 o4 _ _) (by omega)).trans (congrArg some (st2 o4 _ _ _))
 refine Eq.trans (congrArg toR (ux (aex (dm (au rfl) (au rfl) x2) (au rfl) (au rfl) p2))) ?_;have x3:gIx q (bu a) (o4::(t++[.lst L1, .lst (L.set a (.str (S wb)))])) = .ok (.str (S wa)) (o4::(t++[.lst L1, .lst (L.set a (.str (S wb)))])):=Q.ix a _ xa o4 _;have p3:put (.ref (t.length+2)) (bu b) (.str (S wa)) (o4::(t++[.lst L1, .lst (L.set a (.str (S wb)))]))=some Hf:=(al9 (xs:=L.set a (.str (S wb))) (j:=b) (at2 o4 _ _) (by rw [List.length_set];omega)).trans (congrArg some (st2 o4 _ _ _))
 refine Eq.trans (congrArg toR (ux (aex (dm (au rfl) (au rfl) x3) (au rfl) (au rfl) p3))) ?_;have zl:sZ (sA a3j (ak (sV 2) di)) (τK T q a b w (t.length+1) (t.length+2) none none) Hf = .ok (.rol L) Hf:=yz (yg (au rfl) (Q.ls o4 [.lst L1, .lst L2'])) (a9h pp _) hc;have lp:=mz (g:=kN 8) (b:=qm SRC.aa bz STP.my STP.dq jr) (λx:D=>x)
  (λ_ τ hh=>∃ t8 t9:Option D,τ=τK T q a b w (t.length+1) (t.length+2) t8 t9/\hh=Hf) [.rol L, .ref (t.length+1), .ref (t.length+2)] (τK T q a b w (t.length+1) (t.length+2) none none) Hf ?_ ⟨none,none,rfl,rfl⟩
 ·rw [List.map_id'] at lp;obtain ⟨τ',h',e,t8,t9,rfl,rfl⟩:=lp;refine Eq.trans (congrArg toR (a09 (a5q (aal zl (au rfl) (au rfl) axr) rfl))) ?_;refine Eq.trans (congrArg (λz=>toR (MI.thn z _)) e) ?_;exact congrArg toR (n6 (ig _ _ _))
 ·rintro pre x post τ hh all ⟨t8,t9,rfl,rfl⟩
  have hx:x∈[.rol L, .ref (t.length+1), .ref (t.length+2)]:=by rw [all];simp
  simp only [List.mem_cons,List.not_mem_nil,or_false] at hx
  rcases hx with rfl | rfl | rfl
  ·obtain ⟨x0,x1,x2,x3,el⟩:∃ x0 x1 x2 x3,L=[x0,x1,x2,x3]:=by
    revert Ll
    generalize L=M
    intro Ll
    match M,Ll with
    | [a,b,c,d],_=>exact ⟨a,b,c,d,rfl⟩
   rw [el];have q0:=pp x0 (by rw [el];simp)
   have q1:=pp x1 (by rw [el];simp)
   have q2:=pp x2 (by rw [el];simp)
   have q3:=pp x3 (by rw [el];simp)
   exact ⟨_,_,rfl,_,_,aj3 h q0 q1 q2 q3 ((a6s h q0 q1 q2 q3).1 _) (afe (j:=0) rfl) (afe (j:=1) rfl) (afe (j:=2) rfl) (afe (j:=3) rfl) (t8:=t8),_,_,rfl,rfl⟩
  ·obtain ⟨d',e⟩:=ae0 h (q:=q) (a:=a) (b:=b) (w:=w) (i:=t.length+1) (j:=t.length+2) (t8:=t8) (t9:=t9) (L:=L1) (by rw [List.length_set];exact Ll) pp1 (at1 o4 _ _)
   exact ⟨_,_,rfl,_,_,e,_,_,rfl,rfl⟩
  ·obtain ⟨d',e⟩:=ae0 h (q:=q) (a:=a) (b:=b) (w:=w) (i:=t.length+1) (j:=t.length+2) (t8:=t8) (t9:=t9) (L:=L2') (by rw [List.length_set,List.length_set];exact Ll) pp2 (at2 o4 _ _)
   exact ⟨_,_,rfl,_,_,e,_,_,rfl,rfl⟩
theorem afb(h:T.Ok){o:O}{N:Nat}{ws:List (List Nat)}(w4:ws.length=4)(wl:∀ w∈ws,w.length<=100)(P:SRC.Src o N)(hN:N<=999980000):∃ o',SRC.Src o' (N+6)/\Dr cu 3 [T.d, .tup (ws.map λw=>.str (S w))] o (.bl true) o':=by
 obtain ⟨o',m,P',e⟩:=a7p h (ar4 (ws.map λw=>.str (S w))) w4 wl P hN;have cl:clos 0 (ws.map λw=>D.str (S w)):=jd λw _=>jq _;refine ⟨o',P',Dr.of rfl (a6w Table.clo (ur cl)) P.clo (r:=.ok (.bl true) (o'::m)) ?_ ((jx (mj _) (by intro x hx;rw [show (o'::m).take 1=[o'] from rfl,List.mem_singleton] at hx;subst hx;exact p8 (by omega) P'.clo)).trans rfl) (mj _) P'.clo⟩
 unfold cu;rw [j9];exact e
theorem afc(h:T.Ok){o:O}{N:Nat}{ws:List (List Nat)}(w4:ws.length=4)(wl:∀ w∈ws,w.length<=100)(P:SRC.Src o N)(hN:N<=999980000):∃ o',SRC.Src o' (N+6)/\jz false 3 cu [.ref 0,T.d, .ref 1] [o, .lst (ws.map λw=>.str (S w))] = .ok (.bl true) [o', .lst (ws.map λw=>.str (S w))]:=by
 have cl:clos 0 (ws.map λw=>D.str (S w)):=jd λw _=>jq _;obtain ⟨o',m,P',e⟩:=a7p h (ar5 cl) w4 wl P hN;refine ⟨o',P',?_⟩;have e':cu [.ref 0,T.d, .ref 1] [o, .lst (ws.map λw=>.str (S w))] = .ok (.bl true) (o'::([.lst (ws.map λw=>.str (S w))]++m)):=by
  unfold cu;rw [j9];exact e
 unfold jz;rw [if_pos (show [D.ref 0,T.d, .ref 1].length=3 from rfl)]
 unfold apk;rw [show a1w [.ref 0,T.d, .ref 1]=[0,1] from rfl,show a0j 0 [.ref 0,T.d, .ref 1]=[.ref 0,T.d, .ref 1] from rfl]
 simp only [a0i,List.getElem?_cons_zero,List.getElem?_cons_succ,List.length_cons,List.length_nil,Bool.false_eq_true,if_false];have all:∀ y∈[D.ref 0,T.d, .ref 1],MI.clo 0 y\/isRef y:=λy hy=>by
  simp only [List.mem_cons,List.not_mem_nil,or_false] at hy
  rcases hy with rfl | rfl | rfl
  ·exact .inr ⟨0,rfl⟩
  ·exact .inl Table.clo
  ·exact .inr ⟨1,rfl⟩
 have co:∀ u∈[o,O.lst (ws.map λw=>.str (S w))],a1o 0 u:=λu hu=>by
  simp only [List.mem_cons,List.not_mem_nil,or_false] at hu
  rcases hu with rfl | rfl
  ·exact P.clo
  ·exact cl
 have z:abm 2 (.ok (.bl true) (o'::([.lst (ws.map λw=>.str (S w))]++m))) = .ok (.bl true) [o', .lst (ws.map λw=>.str (S w))]:=(jx (mj _) (by
  intro u hu
  rw [show (o'::([O.lst (ws.map λw=>.str (S w))]++m)).take 2=[o', .lst (ws.map λw=>.str (S w))] from rfl] at hu
  simp only [List.mem_cons,List.not_mem_nil,or_false] at hu
  rcases hu with rfl | rfl
  ·exact p8 (by omega) P'.clo
  ·exact p8 (Nat.zero_le 2) (show a1o 0 (.lst _) from cl))).trans rfl
 rw [if_pos ⟨by simp,all,co⟩,e',z]
 have c1:=P'.clo;have c2:a1o 0 (O.lst (ws.map λw=>.str (S w))):=cl;have cb:MI.clo 0 (D.bl true):=mj _;simp [cb,c1,c2,ud]
end
section
variable{T:Table}
theorem ac8(h:T.Ok){fc:SI}{fe:SE}{ix:List Nat}{τ:Sd}{o u:O}{m:Hd}{N n:Nat}(P:SRC.Src u N)(cm:∀ x∈m,a1o 0 x)(hN:N<=999980000)(n10:n<=10)(ei:fc τ (o::m) = .ok ⟨(List.range n).map bu,λ_=>True⟩ (u::m))
  (ef:fe=s2 gIx (s2 gIx (sV 2) (sC (.int 0))) (sA (jz false 2 SRC.aa) (ak (sV 1) (ak (sA vh (ak (s2 gIx (sV 2) (sC (.int 0))) di)) di)))) (fr:frs' ix τ=[some (.ref 0),some T.d]) :
  ∃ (t:List Nat) (u':O),t.length=n/\(∀ c∈t,c∈T.tg)/\SRC.Src u' (N+n)/\sMS aej (sC (.str "")) (ak (sZ (m9 fc t1 fe ix)) di) τ (o::m) = .ok (.str (S t)) (u'::m):=by
 have t6:=h.tong.hi;have tlo:=h.tong.lo;subst ef;have mp:=a8j (f:=a6v t1 (s2 gIx (s2 gIx (sV 2) (sC (.int 0))) (sA (jz false 2 SRC.aa) (ak (sV 1) (ak (sA vh (ak (s2 gIx (sV 2) (sC (.int 0))) di)) di)))) (frs' ix τ)) bu
  (λpre ys h=>∃ (u:O) (t:List Nat),h=u::m/\SRC.Src u (N+pre.length)/\ys=ones t/\t.length=pre.length/\∀ c∈t,c∈T.tg)
  (List.range n) [] [] (u::m) ?_ ⟨u,[],rfl,P,rfl,rfl,by simp⟩
 ·obtain ⟨zs,h',em,u',t,rfl,P5,ez,tl,tt⟩:=mp;rw [List.nil_append] at ez tl P5;rw [List.length_range] at tl P5;subst ez;refine ⟨t,u',tl,tt,P5,?_⟩;refine aw9 (z:=S []) (ig _ _ _) (arg1 (b0h (h:=o::m) (h':=u'::m) rfl ?_ (a5u _ t) (by
   intro x hx
   refine p8 (Nat.zero_le _) ?_
   rcases List.mem_cons.mp hx with rfl | hx
   ·exact P5.clo
   ·exact cm x hx))) (aii (by omega))
  unfold m9;rw [ei,d7];dsimp only;rw [if_pos (by rw [List.length_map,List.length_range];exact gq (by omega)),em]
  rfl
 ·rintro pre i post ys h all ⟨u,t,rfl,Pu,rfl,tl,tt⟩
  rw [List.nil_append] at all;have hi:pre.length<n:=by
   have:=congrArg List.length all
   simp at this
   omega
  obtain ⟨x,u',e5,x0,x1,P5⟩:=SRC.qp (m:=(T.tg.length:Nat)) Pu (by omega) (by omega) (by omega)
  obtain ⟨j,rfl⟩:=Int.eq_ofNat_of_zero_le x0;have hj:j<T.tg.length:=by omega
  have c5:jz false 2 SRC.aa [.ref 0, .int (T.tg.length:Nat)] (u::m) = .ok (.int (j:Nat)) (u'::m):=e5 0 _ rfl;refine ⟨.str (S [T.tg[j]]),u'::m,?_,u',t++[T.tg[j]],rfl,by rw [List.length_append,List.length_singleton];exact P5,by simp [ones],by rw [List.length_append,List.length_append,tl];rfl,λq hq=>?_⟩
  ·rw [vg,fr];have tg0:∀ {hh:Hd},gIx T.d (.int 0) hh = .ok (.str (S T.tg)) hh:=λ{hh}=>a6y (j:=0) rfl;exact dm (dm (au rfl) (ig _ _ _) tg0) (yt (au rfl) (yg (dm (au rfl) (ig _ _ _) tg0) (aeu (gq (by omega)))) c5) (aw1 (gq (by omega)) (List.getElem?_eq_getElem hj))
  ·rcases List.mem_append.mp hq with h | h
   ·exact tt q h
   ·rw [List.mem_singleton] at h;subst h;exact List.getElem_mem hj
theorem qg{a b:R D}{d:D}(e:a=b)(h:∃ h',b = .ok d h'):∃ h',a = .ok d h':=e ▸ h
noncomputable def am2:SF:=oh (alc SRC.aa bz STP.bx cu RCH.ie SRC.dj SRC.gj RND.jt) 12
theorem am3(h:T.Ok){u y c x:List Nat}(R:Rnd T u y c x):rhB T (.str (S u)) (.str (S y)) (.str (S c)) (.str (S x))=true:=by
 have wr:∀ {l:List Nat},(∀ d∈l,d∈T.tg)->l≠[]->aaz T (.str (S l))=true:=λ{l} sl ne=>by
  unfold aaz;rw [aig,show inT T l=true from List.all_eq_true.mpr λc hc=>decide_eq_true (sl c hc)]
  simp only [cds,zb]
  cases l with
  | nil=>exact absurd rfl ne
  | cons _ _=>rfl
 have x1:=R.lp.x1;rw [aj1 (ay3 (wr R.su R.nu) (wr R.wy.sg R.ny) (wr R.lp.way.sg R.lp.ne) (wr R.lp.stp.sg λz=>by rw [z] at x1;simp at x1))]
 simp only [cds,zb];have s1:=adx h R 1;rw [show (List.replicate 1 c).flatten=c by simp] at s1
 have key:ldw T (ldw T 0 (u++y)) c=ldw T 0 (u++y):=by rw [a6r];exact R.lp.way.to
 rw [s1,Bool.and_true];exact decide_eq_true key
theorem avr(ns:List Int):∃ h',K42.am2 [.scr (ns.map D.int)] [] = .ok (.bl true) h':=by
 obtain ⟨o,P,e0⟩:=SRC.ahw ns [];obtain ⟨T,o3,hT,rc,e3,P3⟩:=SRC.ain (most:=32) P (by omega) (by omega) (by omega)
 have n32:=hT.n32;have c3:jz false 2 SRC.gj [.ref 0, .int 32] [o] = .ok T.d [o3]:=e3 0 _ rfl;have zk:∀ τ:Sd,τ[2]? = some (some T.d)->sZ (xn (sRg yx (ak (sA vh (ak (s2 gIx (sV 2) (sC (.int 2))) di)) di)) t1 (a5r SRC.aa bz STP.bx cu RCH.ie SRC.dj SRC.gj RND.jt) (adi SRC.aa bz STP.bx cu RCH.ie SRC.dj SRC.gj RND.jt) [2]) τ [o3] = .ok (.rol ((kds T).map bu)) [o3]:=λτ h3=>by
  unfold kds;rw [<-zu];refine yz (a4f bu (λt=>if decide (kI T t ≠ -1)=true then some (bu t) else none) (List.range T.go.length) (a3n (n:=T.go.length) (yg (dm (au h3) (ig _ _ _) (a93 _)) (a2a.trans (by rw [List.length_map,hT.kl]))) (gq (by omega))) (gq (by rw [List.length_range];omega)) λt ht=>?_) (by rw [zu];exact kh _) (aqu P3)
  have ht:=List.mem_range.mp ht;rw [a8q,a2s,a6m,h3];have kk:=a7o hT ht;have q:a5r SRC.aa bz STP.bx cu RCH.ie SRC.dj SRC.gj RND.jt [some (bu t),some T.d] [o3] = .ok (decide (kI T t ≠ -1)) [o3]:=by
   rw [show decide (kI T t ≠ -1)=decide (0<=kI T t) from decide_eq_decide.mpr (by omega)]
   exact tof (dm (dm (dm (au rfl) (ig _ _ _) (a93 _)) (au rfl) (a4j hT ht _)) (ig _ _ _) (awb _ _))
  show (a5r SRC.aa bz STP.bx cu RCH.ie SRC.dj SRC.gj RND.jt [some (bu t),some T.d] [o3]).bind _=_;rw [q,d7]
  cases decide (kI T t ≠ -1)<;>rfl
 have lp:=mz (g:=kN 5) (b:=a8u SRC.aa bz STP.bx cu RCH.ie SRC.dj SRC.gj RND.jt) bu
  (λpre τ hh=>∃ (u:O) (ws:List (List Nat)) (t5 t6:Option D),τ=[some (.scr (ns.map D.int)),some (.ref 0),some T.d,some (RA T (kds T)),some (.ref 1),t5,t6,none,none,none,none,none]/\hh=[u, .lst (ws.map λw=>.str (S w))]/\SRC.Src u (400+11*pre.length)/\ws.length=pre.length/\∀ w∈ws,w.length<=100) (List.range 4)
  [some (.scr (ns.map D.int)),some (.ref 0),some T.d,some (RA T (kds T)),some (.ref 1),none,none,none,none,none,none,none] [o3, .lst []] ?_ ⟨o3,[],none,none,rfl,rfl,P3.up (by omega),rfl,by simp⟩
 ·obtain ⟨τ',h',e,u,ws,t5,t6,rfl,rfl,Pu,w4,wl⟩:=lp;rw [List.length_range] at w4 Pu;obtain ⟨o5,P5,c5⟩:=afc hT w4 wl Pu (by omega)
  unfold K42.am2;rw [j9];show ∃ h',toR (alc SRC.aa bz STP.bx cu RCH.ie SRC.dj SRC.gj RND.jt [some (.scr (ns.map D.int)),none,none,none,none,none,none,none,none,none,none,none] []) = .ok _ h';unfold alc;refine qg (congrArg toR (jy (yg (au rfl) e0))) ?_;refine qg (congrArg toR (jy (yt (au rfl) (ig _ _ _) c3))) ?_;refine qg (congrArg toR (jy (yt (au rfl) (zk _ rfl) (aax hT aay _)))) ?_;refine qg (congrArg toR (jy (d:=.ref 1) (h1:=[o3, .lst []]) rfl)) ?_;refine qg (congrArg toR (a09 (a3n (n:=4) (ig _ _ _) (gq (by omega))))) ?_
  refine qg (congrArg (λz=>toR (MI.thn z _)) e) ?_;refine qg (congrArg toR (ifN (arc (a2c (aal (au rfl) (au rfl) (au rfl) c5) (u5 _))))) ?_
  rcases aiy hT rc with ⟨nn,ef⟩ | ⟨en,u',y,c,x,R,ef⟩
  ·refine qg (congrArg toR (jy (yg (au rfl) (ef _)))) ?_;have t:sT (s2 a06 (sV 3) (sC .non)) [some (.scr (ns.map D.int)),some (.ref 0),some T.d,some (RA T (kds T)),some (.ref 1),t5,t6,some .non,none,none,none,none] [o5, .lst (ws.map λw=>.str (S w))] = .ok true [o5, .lst (ws.map λw=>.str (S w))]:=by
    obtain ⟨N,_,eN,_⟩:=avn hT aay nn;rw [eN];exact tof (dm (au rfl) (ig _ _ _) rfl)
   exact ⟨_,congrArg toR (a4y (Eq.trans (ifT t) (n6 (dm (au rfl) (ig _ _ _) rfl))))⟩
  ·refine qg (congrArg toR (jy (yg (au rfl) (ef _)))) ?_;rw [en];refine qg (congrArg toR (ifN (tof (dm (au rfl) (ig _ _ _) rfl)))) ?_;have lu:=R.lu;have ly:=R.ly;have lc:=R.lp.len;have lx:=R.lp.x32;have pf:Pln (.tup [.str (S u'), .str (S y), .str (S c), .str (S x)]):=iu (jq _) (iu (jq _) (iu (jq _) (iu (jq _) uq)));have hh:=(a6s hT (ac4 (l:=u') (by omega)) (ac4 (l:=y) (by omega)) (ac4 (l:=c) (by omega)) (ac4 (l:=x) (by omega))).2 [o5, .lst (ws.map λw=>.str (S w))]
   rw [am3 hT R] at hh;refine qg (congrArg toR (ifN (orF (arc (a2c (yt (au rfl) (ig _ _ _) (axx pf)) (u5 _))) (orF (tof (dm (yg (au rfl) a2a) (ig _ _ _) (aqb rfl))) (arc (a2c (yt (au rfl) (au rfl) hh) (u5 _))))))) ?_;refine qg (congrArg toR (ux (a6x (au rfl) rfl))) ?_;have l4:=mz (g:=kN 6) (b:=a8v SRC.aa bz STP.bx cu RCH.ie SRC.dj SRC.gj RND.jt) bu
    (λ_ τ hh=>∃ t6:Option D,τ=[some (.scr (ns.map D.int)),some (.ref 0),some T.d,some .non,some (.ref 1),t5,t6,some (.tup [.str (S u'), .str (S y), .str (S c), .str (S x)]),some (.str (S u')),some (.str (S y)),some (.str (S c)),some (.str (S x))]/\hh=[o5, .lst (ws.map λw=>.str (S w))]) [0,1,3]
    [some (.scr (ns.map D.int)),some (.ref 0),some T.d,some .non,some (.ref 1),t5,t6,some (.tup [.str (S u'), .str (S y), .str (S c), .str (S x)]),some (.str (S u')),some (.str (S y)),some (.str (S c)),some (.str (S x))] [o5, .lst (ws.map λw=>.str (S w))] ?_ ⟨t6,rfl,rfl⟩
   ·obtain ⟨τ2,h2,e2,t6',rfl,rfl⟩:=l4;refine qg (congrArg toR (a09 (xs:=[0,1,3].map bu) (a5q (aal (ig _ _ _) (ig _ _ _) (ig _ _ _) axr) rfl))) ?_;refine qg (congrArg (λz=>toR (MI.thn z _)) e2) ?_;obtain ⟨o6,P6,e6⟩:=afb hT (ws:=[u',y,c,x]) rfl (by
     intro w hw
     simp only [List.mem_cons,List.not_mem_nil,or_false] at hw
     rcases hw with rfl | rfl | rfl | rfl<;>omega) P5 (by omega)
    have c6:jz false 3 cu [.ref 0,T.d, .tup [.str (S u'), .str (S y), .str (S c), .str (S x)]] [o5, .lst (ws.map λw=>.str (S w))] = .ok (.bl true) [o6, .lst (ws.map λw=>.str (S w))]:=e6 0 _ rfl;exact ⟨_,congrArg toR (n6 (aal (au rfl) (au rfl) (au rfl) c6))⟩
   ·rintro pre k post τ hh' all ⟨t6,rfl,rfl⟩
    have hk:k<=3:=by
     have:k∈[0,1,3]:=by rw [all];simp
     simp only [List.mem_cons,List.not_mem_nil,or_false] at this;omega
    refine ⟨_,_,rfl,[some (.scr (ns.map D.int)),some (.ref 0),some T.d,some .non,some (.ref 1),t5,some (bu k),some (.tup [.str (S u'), .str (S y), .str (S c), .str (S x)]),some (.str (S u')),some (.str (S y)),some (.str (S c)),some (.str (S x))],_,?_,some (bu k),rfl,rfl⟩;unfold a8v;have rl:((List.replicate k c).flatten).length<=99:=by
     have:((List.replicate k c).flatten).length=k*c.length:=by simp
     rw [this];exact Nat.le_trans (Nat.mul_le_mul hk lc) (by omega)
    have m1:∀ hh,aan (.str (S c)) (bu k) hh = .ok (.str (S (List.replicate k c).flatten)) hh:=λhh=>auj (by omega) (by omega)
    have a1:∀ hh,j6 (.str (S y)) (.str (S (List.replicate k c).flatten)) hh = .ok (.str (S (y++(List.replicate k c).flatten))) hh:=λhh=>a04 (gq (by omega))
    have a2:∀ hh,j6 (.str (S (y++(List.replicate k c).flatten))) (.str (S x)) hh = .ok (.str (S (y++(List.replicate k c).flatten++x))) hh:=λhh=>a04 (gq (by rw [List.length_append];omega))
    have sg:∀ d∈y++(List.replicate k c).flatten++x,d∈T.tg:=λd hd=>by
     rcases List.mem_append.mp hd with z | z
     ·rcases List.mem_append.mp z with z | z
      ·exact R.wy.sg d z
      ·obtain ⟨l,hl,hdl⟩:=List.mem_flatten.mp z;rw [(List.mem_replicate.mp hl).2] at hdl;exact R.lp.way.sg d hdl
     ·exact R.lp.stp.sg d z
    have st:=a6q hT (a:=.str (S u')) (b:=.str (S (y++(List.replicate k c).flatten++x))) (af5 (by omega)) (af5 (by simp only [List.length_append];omega)) [o5, .lst (ws.map λw=>.str (S w))]
    rw [ais R.su sg,adx hT R k] at st;exact Eq.trans (ifF (arc (a2c (aal (au (i:=2) rfl) (au (i:=8) rfl) (dm (dm (au (i:=9) rfl) (dm (au (i:=10) rfl) (au (i:=6) rfl) (m1 _)) (a1 _)) (au (i:=11) rfl) (a2 _)) st) (u5 _)))) rfl
 ·rintro pre i post τ hh all ⟨u,ws,t5,t6,rfl,rfl,Pu,wn,wl⟩
  obtain ⟨ei,hi⟩:=uy all;obtain ⟨v,o4,e4,v0,v1,P4⟩:=SRC.qp (m:=3) Pu (by omega) (by omega) (by omega)
  obtain ⟨v,rfl⟩:=Int.eq_ofNat_of_zero_le v0;have c4:jz false 2 SRC.aa [.ref 0, .int 3] [u, .lst (ws.map λw=>.str (S w))] = .ok (bu v) [o4, .lst (ws.map λw=>.str (S w))]:=e4 0 _ rfl;have cm:∀ x∈[O.lst (ws.map λw=>D.str (S w))],a1o 0 x:=λx hx=>by
   rw [List.mem_singleton] at hx;subst hx;exact (jd λw _=>jq _:clos 0 (ws.map λw=>D.str (S w)))
  obtain ⟨t,u',tl,tt,P5,e5⟩:=ac8 hT (fc:=sRg yx (ak (sV 6) di)) (fe:=adk SRC.aa bz STP.bx cu RCH.ie SRC.dj SRC.gj RND.jt) (ix:=[1,2]) (τ:=[some (.scr (ns.map D.int)),some (.ref 0),some T.d,some (RA T (kds T)),some (.ref 1),some (bu i),some (bu (1+v)),none,none,none,none,none]) (o:=o4) (m:=[.lst (ws.map λw=>.str (S w))]) (n:=1+v) P4 cm (by omega) (by omega) (a3n (n:=1+v) (au rfl) (gq (by omega))) rfl rfl
  refine ⟨_,_,rfl,[some (.scr (ns.map D.int)),some (.ref 0),some T.d,some (RA T (kds T)),some (.ref 1),some (bu i),some (bu (1+v)),none,none,none,none,none],[u', .lst ((ws++[t]).map λw=>.str (S w))],?_,u',ws++[t],_,_,rfl,rfl,P5.up (by rw [List.length_append,List.length_singleton];omega),by rw [List.length_append,List.length_append,wn];rfl,λw hw=>?_⟩
  ·unfold a8u;have ad:∀ hh,j6 (.int 1) (bu v) hh = .ok (bu (1+v)) hh:=λhh=>v5.trans (by show R.ok (D.int _) hh=R.ok (D.int _) hh;congr 2)
   refine Eq.trans (jy (dm (ig _ _ _) (yt (au rfl) (ig _ _ _) c4) (ad _))) ?_;refine Eq.trans (a4g (au rfl) rfl (arg1 e5) (a4h (xs:=ws.map λw=>.str (S w)) rfl (by rw [List.length_map];exact a1l (by omega)))) ?_
   rw [List.map_append];rfl
  ·rcases List.mem_append.mp hw with z | z
   ·exact wl w z
   ·rw [List.mem_singleton] at z;subst z;omega
end
end K42
namespace L2
open PySem PySem.Spec PySem.W PyProof.Rows
end L2
namespace K42
open PySem PySem.Spec L2 MI
def am4(K:PySem.W.Frag):Sp:=λvs H Q _=>∃ (a:Addr) (ns:List Int),vs=[.ref a]/\SqF K H a (ns.map V.int)/\ns.length<=63/\∀ H',Q (.bl true) H'
theorem ab0{K:PySem.W.Frag}{ι:List Addr}{H:Hp}:∀ ns:List Int,Reps K ι H (ns.map V.int) (ns.map D.int)
 | []=>.nil
 | n::ns=>.cons (.int n) (ab0 ns)
theorem avs{K:PySem.W.Frag}(vs:List V)(H:Hp)(Q:VK)(E:XK)(h:am4 K vs H Q E):qd K 1 K42.am2 vs H Q E:=by
 obtain ⟨a,ns,rfl,hS,hl,q⟩:=h;obtain ⟨h',e⟩:=K42.avr ns;refine ⟨rfl,[],[.scr (ns.map D.int)],[], .cons (.scr hS (ab0 ns)) .nil,⟨List.nodup_nil,rfl,λi a o z=>by simp at z⟩,?_⟩
 rw [e]
 intro ι' H' b g r hr
 cases r
 exact q H'
theorem avt{K:PySem.W.Frag}{H:Hp}{a:Addr}{vs:List V}(hO:Only H)(hS:SqL K H a vs):SqF K H a vs:=by
 rcases hS with r | r
 ·rcases r with r | ⟨o,r⟩
  ·rcases hO a with z | ⟨o,xs,z⟩<;>rw [z] at r<;>cases r
  ·exact .inl ⟨o,r⟩
 ·exact .inr (.inr r)
abbrev fo(x:Str)(t:Stmt)(kV dc pm:Value)(an:Option Addr)(cd ct:Value):=PySem.W.fnOf x x (a4o t) (jh t) (aq t) .none kV dc pm an cd ct
theorem avu{l:PySem.W.OpenLaw}{w:World}{K:PySem.W.Frag}{h:Heap}{mg:Str->Option Value}{fa f1 f2 f3 f4 f5 f6 f7 f8 f9 f10 f11 f12 f13 f14 f15 f16 f17 f18 f19 f20 f21 f22 f23 f24 f25 f26 f27 f28:Addr}(X:K.In h)(G:h.Ns mainGlobals mg)(hfa:mg "law" = some (.ref fa))
  {od1 an1 od2 an2 od3 an3 od4 an4 od5 an5 od6 an6 od7 an7 od8 an8 od9 an9 od10 an10 od11 an11 od12 an12 od13 an13 od14 an14 od15 an15 od16 an16 od17 an17 od18 an18 od19 an19 od20 an20 od21 an21 od22 an22 od23 an23 od24 an24 od25 an25 od26 an26 od27 an27 od28 an28:Option Addr} {sl1 sl2 sl3 sl4 sl5 sl6 sl7 sl8 sl9 sl10 sl11 sl12 sl13 sl14 sl15 sl16 sl17 sl18 sl19 sl20 sl21 sl22 sl23 sl24 sl25 sl26 sl27 sl28:Array (Option Value)} {oc1 kV1 dc1 pm1 cd1 ct1 oc2 kV2 dc2 pm2 cd2 ct2 oc3 kV3 dc3 pm3 cd3 ct3 oc4 kV4 dc4 pm4 cd4 ct4 oc5 kV5 dc5 pm5 cd5 ct5 oc6 kV6 dc6 pm6 cd6 ct6 oc7 kV7 dc7 pm7 cd7 ct7 oc8 kV8 dc8 pm8 cd8 ct8 oc9 kV9 dc9 pm9 cd9 ct9 oc10 kV10 dc10 pm10 cd10 ct10 oc11 kV11 dc11 pm11 cd11 ct11 oc12 kV12 dc12 pm12 cd12 ct12 oc13 kV13 dc13 pm13 cd13 ct13 oc14 kV14 dc14 pm14 cd14 ct14 oc15 kV15 dc15 pm15 cd15 ct15 oc16 kV16 dc16 pm16 cd16 ct16 oc17 kV17 dc17 pm17 cd17 ct17 oc18 kV18 dc18 pm18 cd18 ct18 oc19 kV19 dc19 pm19 cd19 ct19 oc20 kV20 dc20 pm20 cd20 ct20 oc21 kV21 dc21 pm21 cd21 ct21 oc22 kV22 dc22 pm22 cd22 ct22 oc23 kV23 dc23 pm23 cd23 ct23 oc24 kV24 dc24 pm24 cd24 ct24 oc25 kV25 dc25 pm25 cd25 ct25 oc26 kV26 dc26 pm26 cd26 ct26 oc27 kV27 dc27 pm27 cd27 ct27 oc28 kV28 dc28 pm28 cd28 ct28:Value}
  (a1:PySem.W.nsIn K mainGlobals "is_text" = some (some (.ref f1))) (l1:K.lookup f1=some ⟨oc1,od1, .func (fo "is_text" (top 1) kV1 dc1 pm1 an1 cd1 ct1),sl1⟩) (c1:PySem.W.codeIn K cd1 "is_text" = true) (k1:PySem.W.keepIn K (.ref f1)=true)
  (a2:PySem.W.nsIn K mainGlobals "room_from" = some (some (.ref f2))) (l2:K.lookup f2=some ⟨oc2,od2, .func (fo "room_from" (top 3) kV2 dc2 pm2 an2 cd2 ct2),sl2⟩) (c2:PySem.W.codeIn K cd2 "room_from" = true) (k2:PySem.W.keepIn K (.ref f2)=true)
  (a3:PySem.W.nsIn K mainGlobals "rooms_along" = some (some (.ref f3))) (l3:K.lookup f3=some ⟨oc3,od3, .func (fo "rooms_along" (top 4) kV3 dc3 pm3 an3 cd3 ct3),sl3⟩) (c3:PySem.W.codeIn K cd3 "rooms_along" = true) (k3:PySem.W.keepIn K (.ref f3)=true)
  (a4:PySem.W.nsIn K mainGlobals "words_to" = some (some (.ref f4))) (l4:K.lookup f4=some ⟨oc4,od4, .func (fo "words_to" (top 5) kV4 dc4 pm4 an4 cd4 ct4),sl4⟩) (c4:PySem.W.codeIn K cd4 "words_to" = true) (k4:PySem.W.keepIn K (.ref f4)=true)
  (a5:PySem.W.nsIn K mainGlobals "hope_words" = some (some (.ref f5))) (l5:K.lookup f5=some ⟨oc5,od5, .func (fo "hope_words" (top 7) kV5 dc5 pm5 an5 cd5 ct5),sl5⟩) (c5:PySem.W.codeIn K cd5 "hope_words" = true) (k5:PySem.W.keepIn K (.ref f5)=true)
  (a6:PySem.W.nsIn K mainGlobals "hope_word" = some (some (.ref f6))) (l6:K.lookup f6=some ⟨oc6,od6, .func (fo "hope_word" (top 8) kV6 dc6 pm6 an6 cd6 ct6),sl6⟩) (c6:PySem.W.codeIn K cd6 "hope_word" = true) (k6:PySem.W.keepIn K (.ref f6)=true)
  (a7:PySem.W.nsIn K mainGlobals "ways_to" = some (some (.ref f7))) (l7:K.lookup f7=some ⟨oc7,od7, .func (fo "ways_to" (top 10) kV7 dc7 pm7 an7 cd7 ct7),sl7⟩) (c7:PySem.W.codeIn K cd7 "ways_to" = true) (k7:PySem.W.keepIn K (.ref f7)=true)
  (a8:PySem.W.nsIn K mainGlobals "is_step" = some (some (.ref f8))) (l8:K.lookup f8=some ⟨oc8,od8, .func (fo "is_step" (top 12) kV8 dc8 pm8 an8 cd8 ct8),sl8⟩) (c8:PySem.W.codeIn K cd8 "is_step" = true) (k8:PySem.W.keepIn K (.ref f8)=true)
  (a9:PySem.W.nsIn K mainGlobals "rounds" = some (some (.ref f9))) (l9:K.lookup f9=some ⟨oc9,od9, .func (fo "rounds" (top 13) kV9 dc9 pm9 an9 cd9 ct9),sl9⟩) (c9:PySem.W.codeIn K cd9 "rounds" = true) (k9:PySem.W.keepIn K (.ref f9)=true)
  (a10:PySem.W.nsIn K mainGlobals "loops_of" = some (some (.ref f10))) (l10:K.lookup f10=some ⟨oc10,od10, .func (fo "loops_of" (top 14) kV10 dc10 pm10 an10 cd10 ct10),sl10⟩) (c10:PySem.W.codeIn K cd10 "loops_of" = true) (k10:PySem.W.keepIn K (.ref f10)=true)
  (a11:PySem.W.nsIn K mainGlobals "rounds_hold" = some (some (.ref f11))) (l11:K.lookup f11=some ⟨oc11,od11, .func (fo "rounds_hold" (top 15) kV11 dc11 pm11 an11 cd11 ct11),sl11⟩) (c11:PySem.W.codeIn K cd11 "rounds_hold" = true) (k11:PySem.W.keepIn K (.ref f11)=true)
  (a12:PySem.W.nsIn K mainGlobals "_law_said" = some (some (.ref f12))) (l12:K.lookup f12=some ⟨oc12,od12, .func (fo "_law_said" (top 17) kV12 dc12 pm12 an12 cd12 ct12),sl12⟩) (c12:PySem.W.codeIn K cd12 "_law_said" = true) (k12:PySem.W.keepIn K (.ref f12)=true)
  (a13:PySem.W.nsIn K mainGlobals "_law_source" = some (some (.ref f13))) (l13:K.lookup f13=some ⟨oc13,od13, .func (fo "_law_source" (top 18) kV13 dc13 pm13 an13 cd13 ct13),sl13⟩) (c13:PySem.W.codeIn K cd13 "_law_source" = true) (k13:PySem.W.keepIn K (.ref f13)=true)
  (a14:PySem.W.nsIn K mainGlobals "_law_draw" = some (some (.ref f14))) (l14:K.lookup f14=some ⟨oc14,od14, .func (fo "_law_draw" (top 19) kV14 dc14 pm14 an14 cd14 ct14),sl14⟩) (c14:PySem.W.codeIn K cd14 "_law_draw" = true) (k14:PySem.W.keepIn K (.ref f14)=true)
  (a15:PySem.W.nsIn K mainGlobals "_law_signs" = some (some (.ref f15))) (l15:K.lookup f15=some ⟨oc15,od15, .func (fo "_law_signs" (top 20) kV15 dc15 pm15 an15 cd15 ct15),sl15⟩) (c15:PySem.W.codeIn K cd15 "_law_signs" = true) (k15:PySem.W.keepIn K (.ref f15)=true)
  (a16:PySem.W.nsIn K mainGlobals "_law_tongue" = some (some (.ref f16))) (l16:K.lookup f16=some ⟨oc16,od16, .func (fo "_law_tongue" (top 21) kV16 dc16 pm16 an16 cd16 ct16),sl16⟩) (c16:PySem.W.codeIn K cd16 "_law_tongue" = true) (k16:PySem.W.keepIn K (.ref f16)=true)
  (a17:PySem.W.nsIn K mainGlobals "_law_rooms" = some (some (.ref f17))) (l17:K.lookup f17=some ⟨oc17,od17, .func (fo "_law_rooms" (top 22) kV17 dc17 pm17 an17 cd17 ct17),sl17⟩) (c17:PySem.W.codeIn K cd17 "_law_rooms" = true) (k17:PySem.W.keepIn K (.ref f17)=true)
  (a18:PySem.W.nsIn K mainGlobals "_law_table" = some (some (.ref f18))) (l18:K.lookup f18=some ⟨oc18,od18, .func (fo "_law_table" (top 23) kV18 dc18 pm18 an18 cd18 ct18),sl18⟩) (c18:PySem.W.codeIn K cd18 "_law_table" = true) (k18:PySem.W.keepIn K (.ref f18)=true)
  (a19:PySem.W.nsIn K mainGlobals "_law_hope" = some (some (.ref f19))) (l19:K.lookup f19=some ⟨oc19,od19, .func (fo "_law_hope" (top 24) kV19 dc19 pm19 an19 cd19 ct19),sl19⟩) (c19:PySem.W.codeIn K cd19 "_law_hope" = true) (k19:PySem.W.keepIn K (.ref f19)=true)
  (a20:PySem.W.nsIn K mainGlobals "_law_next" = some (some (.ref f20))) (l20:K.lookup f20=some ⟨oc20,od20, .func (fo "_law_next" (top 25) kV20 dc20 pm20 an20 cd20 ct20),sl20⟩) (c20:PySem.W.codeIn K cd20 "_law_next" = true) (k20:PySem.W.keepIn K (.ref f20)=true)
  (a21:PySem.W.nsIn K mainGlobals "_law_reach" = some (some (.ref f21))) (l21:K.lookup f21=some ⟨oc21,od21, .func (fo "_law_reach" (top 26) kV21 dc21 pm21 an21 cd21 ct21),sl21⟩) (c21:PySem.W.codeIn K cd21 "_law_reach" = true) (k21:PySem.W.keepIn K (.ref f21)=true)
  (a22:PySem.W.nsIn K mainGlobals "_law_room" = some (some (.ref f22))) (l22:K.lookup f22=some ⟨oc22,od22, .func (fo "_law_room" (top 27) kV22 dc22 pm22 an22 cd22 ct22),sl22⟩) (c22:PySem.W.codeIn K cd22 "_law_room" = true) (k22:PySem.W.keepIn K (.ref f22)=true)
  (a23:PySem.W.nsIn K mainGlobals "_law_is_word" = some (some (.ref f23))) (l23:K.lookup f23=some ⟨oc23,od23, .func (fo "_law_is_word" (top 28) kV23 dc23 pm23 an23 cd23 ct23),sl23⟩) (c23:PySem.W.codeIn K cd23 "_law_is_word" = true) (k23:PySem.W.keepIn K (.ref f23)=true)
  (a24:PySem.W.nsIn K mainGlobals "_law_is_step" = some (some (.ref f24))) (l24:K.lookup f24=some ⟨oc24,od24, .func (fo "_law_is_step" (top 29) kV24 dc24 pm24 an24 cd24 ct24),sl24⟩) (c24:PySem.W.codeIn K cd24 "_law_is_step" = true) (k24:PySem.W.keepIn K (.ref f24)=true)
  (a25:PySem.W.nsIn K mainGlobals "_law_word_spoilt" = some (some (.ref f25))) (l25:K.lookup f25=some ⟨oc25,od25, .func (fo "_law_word_spoilt" (top 30) kV25 dc25 pm25 an25 cd25 ct25),sl25⟩) (c25:PySem.W.codeIn K cd25 "_law_word_spoilt" = true) (k25:PySem.W.keepIn K (.ref f25)=true)
  (a26:PySem.W.nsIn K mainGlobals "_law_holds" = some (some (.ref f26))) (l26:K.lookup f26=some ⟨oc26,od26, .func (fo "_law_holds" (top 31) kV26 dc26 pm26 an26 cd26 ct26),sl26⟩) (c26:PySem.W.codeIn K cd26 "_law_holds" = true) (k26:PySem.W.keepIn K (.ref f26)=true)
  (a27:PySem.W.nsIn K mainGlobals "_law_looked" = some (some (.ref f27))) (l27:K.lookup f27=some ⟨oc27,od27, .func (fo "_law_looked" (top 32) kV27 dc27 pm27 an27 cd27 ct27),sl27⟩) (c27:PySem.W.codeIn K cd27 "_law_looked" = true) (k27:PySem.W.keepIn K (.ref f27)=true)
  (a28:PySem.W.nsIn K mainGlobals "law" = some (some (.ref f28))) (l28:K.lookup f28=some ⟨oc28,od28, .func (fo "law" (top 33) kV28 dc28 pm28 an28 cd28 ct28),sl28⟩) (c28:PySem.W.codeIn K cd28 "law" = true) (k28:PySem.W.keepIn K (.ref f28)=true)
  (z1:PySem.W.nsIn K mainGlobals "abs" = some none) (z2:PySem.W.nsIn K mainGlobals "all" = some none) (z3:PySem.W.nsIn K mainGlobals "enumerate" = some none) (z4:PySem.W.nsIn K mainGlobals "int" = some none) (z5:PySem.W.nsIn K mainGlobals "isinstance" = some none) (z6:PySem.W.nsIn K mainGlobals "len" = some none) (z7:PySem.W.nsIn K mainGlobals "list" = some none) (z8:PySem.W.nsIn K mainGlobals "min" = some none) (z9:PySem.W.nsIn K mainGlobals "range" = some none) (z10:PySem.W.nsIn K mainGlobals "sorted" = some none) (z11:PySem.W.nsIn K mainGlobals "str" = some none) (z12:PySem.W.nsIn K mainGlobals "sum" = some none) (z13:PySem.W.nsIn K mainGlobals "tuple" = some none) (z14:PySem.W.nsIn K mainGlobals "zip" = some none)  :
  ∃ fd:FuncData,(∀ (s:Shared) (v:Value),BindsTo s fd ⟨[v],[]⟩ [("_law_script",v)])/\∀ base:Heap,K.In base->base.Ns mainGlobals mg->FnOk l.prog w K mg base CX0 6 fa fd ["_law_script"] (am4 K):=by
 have e:=hfa.symm.trans (PySem.W.mg_of X G a28);cases e
 have F1:=nq (st:=top 1) l1 c1 k1;have b1:=F1.binds (ps:=["tongue", "thing"]) λ_ _ _ _ _ _ us hl=>match us,hl with | [_,_],_=>rfl
 have F2:=nq (st:=top 3) l2 c2 k2;have b2:=F2.binds (ps:=["table", "room", "word"]) λ_ _ _ _ _ _ us hl=>match us,hl with | [_,_,_],_=>rfl
 have F3:=nq (st:=top 4) l3 c3 k3;have b3:=F3.binds (ps:=["table", "room", "word"]) λ_ _ _ _ _ _ us hl=>match us,hl with | [_,_,_],_=>rfl
 have F4:=nq (st:=top 5) l4 c4 k4;have b4:=F4.binds (ps:=["table", "start", "passed"]) λ_ _ _ _ _ _ us hl=>match us,hl with | [_,_,_],_=>rfl
 have F5:=nq (st:=top 7) l5 c5 k5;have b5:=F5.binds (ps:=["table"]) λ_ _ _ _ _ _ us hl=>match us,hl with | [_],_=>rfl
 have F6:=nq (st:=top 8) l6 c6 k6;have b6:=F6.binds (ps:=["table", "start"]) λ_ _ _ _ _ _ us hl=>match us,hl with | [_,_],_=>rfl
 have F7:=nq (st:=top 10) l7 c7 k7;have b7:=F7.binds (ps:=["table"]) λ_ _ _ _ _ _ us hl=>match us,hl with | [_],_=>rfl
 have F8:=nq (st:=top 12) l8 c8 k8;have b8:=F8.binds (ps:=["table", "u", "z"]) λ_ _ _ _ _ _ us hl=>match us,hl with | [_,_,_],_=>rfl
 have F9:=nq (st:=top 13) l9 c9 k9;have b9:=F9.binds (ps:=["table"]) λ_ _ _ _ _ _ us hl=>match us,hl with | [_],_=>rfl
 have F10:=nq (st:=top 14) l10 c10 k10;have b10:=F10.binds (ps:=["table"]) λ_ _ _ _ _ _ us hl=>match us,hl with | [_],_=>rfl
 have F11:=nq (st:=top 15) l11 c11 k11;have b11:=F11.binds (ps:=["table", "u", "y", "c", "x"]) λ_ _ _ _ _ _ us hl=>match us,hl with | [_,_,_,_,_],_=>rfl
 have F12:=nq (st:=top 17) l12 c12 k12;have b12:=F12.binds (ps:=["_law_found", "_law_wanted"]) λ_ _ _ _ _ _ us hl=>match us,hl with | [_,_],_=>rfl
 have F13:=nq (st:=top 18) l13 c13 k13;have b13:=F13.binds (ps:=["_law_script"]) λ_ _ _ _ _ _ us hl=>match us,hl with | [_],_=>rfl
 have F14:=nq (st:=top 19) l14 c14 k14;have b14:=F14.binds (ps:=["_law_left", "_law_many"]) λ_ _ _ _ _ _ us hl=>match us,hl with | [_,_],_=>rfl
 have F15:=nq (st:=top 20) l15 c15 k15;have b15:=F15.binds (ps:=[]) λ_ _ _ _ _ _ us hl=>match us,hl with | [],_=>rfl
 have F16:=nq (st:=top 21) l16 c16 k16;have b16:=F16.binds (ps:=["_law_left"]) λ_ _ _ _ _ _ us hl=>match us,hl with | [_],_=>rfl
 have F17:=nq (st:=top 22) l17 c17 k17;have b17:=F17.binds (ps:=["_law_left", "_law_tongue_here", "_law_many"]) λ_ _ _ _ _ _ us hl=>match us,hl with | [_,_,_],_=>rfl
 have F18:=nq (st:=top 23) l18 c18 k18;have b18:=F18.binds (ps:=["_law_left", "_law_most"]) λ_ _ _ _ _ _ us hl=>match us,hl with | [_,_],_=>rfl
 have F19:=nq (st:=top 24) l19 c19 k19;have b19:=F19.binds (ps:=["_law_table_here"]) λ_ _ _ _ _ _ us hl=>match us,hl with | [_],_=>rfl
 have F20:=nq (st:=top 25) l20 c20 k20;have b20:=F20.binds (ps:=["_law_table_here", "_law_rooms_here"]) λ_ _ _ _ _ _ us hl=>match us,hl with | [_,_],_=>rfl
 have F21:=nq (st:=top 26) l21 c21 k21;have b21:=F21.binds (ps:=["_law_table_here", "_law_rooms_here"]) λ_ _ _ _ _ _ us hl=>match us,hl with | [_,_],_=>rfl
 have F22:=nq (st:=top 27) l22 c22 k22;have b22:=F22.binds (ps:=["_law_table_here", "_law_word"]) λ_ _ _ _ _ _ us hl=>match us,hl with | [_,_],_=>rfl
 have F23:=nq (st:=top 28) l23 c23 k23;have b23:=F23.binds (ps:=["_law_table_here", "_law_word"]) λ_ _ _ _ _ _ us hl=>match us,hl with | [_,_],_=>rfl
 have F24:=nq (st:=top 29) l24 c24 k24;have b24:=F24.binds (ps:=["_law_table_here", "_law_u", "_law_z"]) λ_ _ _ _ _ _ us hl=>match us,hl with | [_,_,_],_=>rfl
 have F25:=nq (st:=top 30) l25 c25 k25;have b25:=F25.binds (ps:=["_law_left", "_law_tongue_here", "_law_word", "_law_which"]) λ_ _ _ _ _ _ us hl=>match us,hl with | [_,_,_,_],_=>rfl
 have F26:=nq (st:=top 31) l26 c26 k26;have b26:=F26.binds (ps:=["_law_table_here", "_law_four"]) λ_ _ _ _ _ _ us hl=>match us,hl with | [_,_],_=>rfl
 have F27:=nq (st:=top 32) l27 c27 k27;have b27:=F27.binds (ps:=["_law_left", "_law_table_here", "_law_four"]) λ_ _ _ _ _ _ us hl=>match us,hl with | [_,_,_],_=>rfl
 have F28:=nq (st:=top 33) l28 c28 k28;have b28:=F28.binds (ps:=["_law_script"]) λ_ _ _ _ _ _ us hl=>match us,hl with | [_],_=>rfl
 have M:Nm mg:=⟨PySem.W.mg_none_of X G z1,PySem.W.mg_none_of X G z2,PySem.W.mg_none_of X G z3,PySem.W.mg_none_of X G z4,PySem.W.mg_none_of X G z5,PySem.W.mg_none_of X G z6,PySem.W.mg_none_of X G z7,PySem.W.mg_none_of X G z8,PySem.W.mg_none_of X G z9,PySem.W.mg_none_of X G z10,PySem.W.mg_none_of X G z11,PySem.W.mg_none_of X G z12,PySem.W.mg_none_of X G z13,PySem.W.mg_none_of X G z14⟩;refine ⟨PySem.W.fnOf "law" "law" (a4o (top 33)) (jh (top 33)) (aq (top 33)) .none kV28 dc28 pm28 an28 cd28 ct28,λs v=>.of_eq rfl,λbase _ _=>?_⟩
 have D_0:Dn l.prog w K mg base 1 "is_text" ["tongue", "thing"] (qd K 2 (STP.lq)) _ _:=⟨o7 F1 aym (m_0 M),PySem.W.mg_of X G a1,k1,b1⟩;have D_2:Dn l.prog w K mg base 1 "rooms_along" ["table", "room", "word"] (qd K 3 (STP.dw)) _ _:=⟨o7 F3 ayo (m_2 ),PySem.W.mg_of X G a3,k3,b3⟩;have D_1:Dn l.prog w K mg base 2 "room_from" ["table", "room", "word"] (qd K 3 (STP.iy)) _ _:=⟨o7 F2 ayn (m_1 D_2 (by decide)),PySem.W.mg_of X G a2,k2,b2⟩
 have D_3:Dn l.prog w K mg base 1 "words_to" ["table", "start", "passed"] (qd K 3 (STP.dh)) _ _:=⟨o7 F4 ayp (m_3 M),PySem.W.mg_of X G a4,k4,b4⟩;have D_5:Dn l.prog w K mg base 1 "hope_word" ["table", "start"] (qd K 2 (RCH.d9)) _ _:=⟨o7 F6 ayr (m_5 M),PySem.W.mg_of X G a6,k6,b6⟩;have D_4:Dn l.prog w K mg base 2 "hope_words" ["table"] (qd K 1 (RCH.dg)) _ _:=⟨o7 F5 ayq (m_4 M D_5 (by decide)),PySem.W.mg_of X G a5,k5,b5⟩
 have D_6:Dn l.prog w K mg base 2 "ways_to" ["table"] (qd K 1 (STP.m5)) _ _:=⟨o7 F7 ays (m_6 M D_3 (by decide)),PySem.W.mg_of X G a7,k7,b7⟩
 have D_7:Dn l.prog w K mg base 3 "is_step" ["table", "u", "z"] (qd K 3 (STP.qt)) _ _:=⟨o7 F8 ayt (m_7 M D_1 (by decide) D_2 (by decide)),PySem.W.mg_of X G a8,k8,b8⟩
 have D_9:Dn l.prog w K mg base 3 "loops_of" ["table"] (qd K 1 (RND.kj)) _ _:=⟨o7 F10 ayv (m_9 M D_4 (by decide) D_3 (by decide)),PySem.W.mg_of X G a10,k10,b10⟩
 have D_8:Dn l.prog w K mg base 4 "rounds" ["table"] (qd K 1 (RND.jt)) _ _:=⟨o7 F9 ayu (m_8 M D_9 (by decide) D_6 (by decide) D_3 (by decide)),PySem.W.mg_of X G a9,k9,b9⟩
 have D_10:Dn l.prog w K mg base 4 "rounds_hold" ["table", "u", "y", "c", "x"] (qd K 5 (K42.jr)) _ _:=⟨o7 F11 aul (azv D_7 (by decide) D_0 (by decide) D_1 (by decide)),PySem.W.mg_of X G a11,k11,b11⟩
 have D_11:Dn l.prog w K mg base 1 "_law_said" ["_law_found", "_law_wanted"] (qd K 2 (STP.my)) _ _:=⟨o7 F12 aum (azw ),PySem.W.mg_of X G a12,k12,b12⟩;have D_12:Dn l.prog w K mg base 1 "_law_source" ["_law_script"] (qd K 1 (SRC.dj)) _ _:=⟨o7 F13 aun (azx M),PySem.W.mg_of X G a13,k13,b13⟩;have D_13:Dn l.prog w K mg base 1 "_law_draw" ["_law_left", "_law_many"] (qd K 2 (SRC.aa)) _ _:=⟨o7 F14 auo (azy M),PySem.W.mg_of X G a14,k14,b14⟩;have D_14:Dn l.prog w K mg base 1 "_law_signs" [] (qd K 0 (SRC.d8)) _ _:=⟨o7 F15 aup (azz ),PySem.W.mg_of X G a15,k15,b15⟩
 have D_15:Dn l.prog w K mg base 2 "_law_tongue" ["_law_left"] (qd K 1 (SRC.gk)) _ _:=⟨o7 F16 auq (b00 M D_13 (by decide) D_14 (by decide)),PySem.W.mg_of X G a16,k16,b16⟩
 have D_16:Dn l.prog w K mg base 2 "_law_rooms" ["_law_left", "_law_tongue_here", "_law_many"] (qd K 3 (SRC.iw)) _ _:=⟨o7 F17 aur (b01 M D_13 (by decide)),PySem.W.mg_of X G a17,k17,b17⟩
 have D_17:Dn l.prog w K mg base 3 "_law_table" ["_law_left", "_law_most"] (qd K 2 (SRC.gj)) _ _:=⟨o7 F18 aus (b02 M D_13 (by decide) D_16 (by decide) D_15 (by decide)),PySem.W.mg_of X G a18,k18,b18⟩
 have D_18:Dn l.prog w K mg base 1 "_law_hope" ["_law_table_here"] (qd K 1 (RCH.fj)) _ _:=⟨o7 F19 aut (b03 M),PySem.W.mg_of X G a19,k19,b19⟩;have D_19:Dn l.prog w K mg base 1 "_law_next" ["_law_table_here", "_law_rooms_here"] (qd K 2 (RCH.fu)) _ _:=⟨o7 F20 auu (b04 ),PySem.W.mg_of X G a20,k20,b20⟩;have D_20:Dn l.prog w K mg base 2 "_law_reach" ["_law_table_here", "_law_rooms_here"] (qd K 2 (RCH.ie)) _ _:=⟨o7 F21 auv (b05 M D_18 (by decide) D_19 (by decide)),PySem.W.mg_of X G a21,k21,b21⟩
 have D_21:Dn l.prog w K mg base 1 "_law_room" ["_law_table_here", "_law_word"] (qd K 2 (STP.jk)) _ _:=⟨o7 F22 auw (b06 ),PySem.W.mg_of X G a22,k22,b22⟩;have D_22:Dn l.prog w K mg base 1 "_law_is_word" ["_law_table_here", "_law_word"] (qd K 2 (STP.dz)) _ _:=⟨o7 F23 auy (b07 M),PySem.W.mg_of X G a23,k23,b23⟩;have D_23:Dn l.prog w K mg base 2 "_law_is_step" ["_law_table_here", "_law_u", "_law_z"] (qd K 3 (STP.bx)) _ _:=⟨o7 F24 auz (b08 M D_22 (by decide) D_21 (by decide)),PySem.W.mg_of X G a24,k24,b24⟩
 have D_24:Dn l.prog w K mg base 2 "_law_word_spoilt" ["_law_left", "_law_tongue_here", "_law_word", "_law_which"] (qd K 4 (STP.dq)) _ _:=⟨o7 F25 av0 (b09 M D_13 (by decide) D_14 (by decide)),PySem.W.mg_of X G a25,k25,b25⟩
 have D_25:Dn l.prog w K mg base 3 "_law_holds" ["_law_table_here", "_law_four"] (qd K 2 (K42.bz)) _ _:=⟨o7 F26 av1 (b0a D_23 (by decide) D_22 (by decide) D_21 (by decide)),PySem.W.mg_of X G a26,k26,b26⟩
 have D_26:Dn l.prog w K mg base 5 "_law_looked" ["_law_left", "_law_table_here", "_law_four"] (qd K 3 (K42.cu)) _ _:=⟨o7 F27 av2 (b0b M D_13 (by decide) D_25 (by decide) D_11 (by decide) D_24 (by decide) D_10 (by decide)),PySem.W.mg_of X G a27,k27,b27⟩
 have D_27:Dn l.prog w K mg base 6 "law" ["_law_script"] (qd K 1 (K42.am2)) _ _:=⟨o7 F28 av3 (b0c M D_13 (by decide) D_25 (by decide) D_23 (by decide) D_26 (by decide) D_20 (by decide) D_12 (by decide) D_17 (by decide) D_8 (by decide)),PySem.W.mg_of X G a28,k28,b28⟩
 exact D_27.ok.imp avs
theorem walk{l:PySem.W.OpenLaw}{q:Program}{loose:List Str}{XP:(Str->Option Value)->Heap->Prop}{YP:World->Heap->Prop}{d:DefRec}{K:Params->PySem.W.Frag}(hn:l.most=some 63)(hdf:d.params.defaults=[])
  (hY:∀ (w:World) (h:Heap),YP w h->(K w.params).In h)
  (F:∀ (w:World) (mg:Str->Option Value) (fa:Addr) (h:Heap),(K w.params).In h->h.Ns mainGlobals mg->mg d.name=some (.ref fa)->
   ∃ fd:FuncData,(∀ (s:Shared) (u:Value),BindsTo s fd ⟨[u],[]⟩ [("_law_script",u)])/\∀ base:Heap,(K w.params).In base->base.Ns mainGlobals mg->FnOk l.prog w (K w.params) mg base CX0 6 fa fd ["_law_script"] (am4 (K w.params))) :
  PySem.W.WalkO q loose XP YP l.row.toRowW d [] (λf vs=>PySem.call f vs) :=
 L2.aol (n:=63) (k:=6) (x := "_law_script") (CX:=λ_=>CX0) (sp:=λw=>am4 (K w.params)) hn (by decide) hdf ⟨rfl,by decide,by decide,rfl⟩ hY F (λ_ _ a ns hl hO hS=>⟨a,ns,rfl,avt hO hS,hl,λ_=>rfl⟩) λ_ _ _ _ _ z=>z
end K42
open PySem PySem.W PyProof.Rows
theorem K42.said:PySem.Challenge.rw_nearreach_k42_rounds.wellSaid=true:=by kernel_rfl
noncomputable def K42.hq:Program:=view PySem.Challenge.pw_nearreach_k42_rounds [PySem.Challenge.pw_nearreach_k42_rounds.main.body.length - 1]
noncomputable def K42.hl:List Str:=PySem.Challenge.pw_nearreach_k42_rounds.boundNames
local macro_rules | `(tactic| o_head $H) => `(tactic| refine PySem.W.holds_open (q:=K42.hq) (loose:=K42.hl) (Xt:=fun _=>true) (XP:=fun _ _=>True) (Yf:=Hook.obs $H) (Ya:=Hook.val $H) (YP:=Hook.says $H) (N:=20000) ?hl (Hook.of $H) (Hook.keeps $H) (fun _ _=>trivial) (fun _ _ _ _ _=>trivial) (by rfl) (by rfl) (by rfl) (fun _ _=>recFacts_nil rfl) (by rfl) (by assumption) (by decide +kernel) ⟨rfl,rfl,rfl,rfl,rfl,by decide +kernel⟩ ?hw ?hc)
set_option maxRecDepth 100000 in
set_option maxHeartbeats 0 in
theorem PySem.Challenge.cw_nearreach_k42_rounds_holds : PySem.Challenge.rw_nearreach_k42_rounds.Holds := by
 w_on;refine holds_law K42.said fun said=>?_;k_head
 (case hw=>w_witness2)
 (case hl=>intro w;kernel_rfl)
 k_fill
 refine K42.walk (l:=PySem.Challenge.rw_nearreach_k42_rounds) rfl rfl (fun w h Y=>PySem.W.kIn_of Y) ?F
 case F =>
  intro w mg fa h KX G hmg
  refine' K42.avu KX G hmg ?a1 ?l1 ?c1 ?k1 ?a2 ?l2 ?c2 ?k2 ?a3 ?l3 ?c3 ?k3 ?a4 ?l4 ?c4 ?k4 ?a5 ?l5 ?c5 ?k5 ?a6 ?l6 ?c6 ?k6 ?a7 ?l7 ?c7 ?k7 ?a8 ?l8 ?c8 ?k8 ?a9 ?l9 ?c9 ?k9 ?a10 ?l10 ?c10 ?k10 ?a11 ?l11 ?c11 ?k11 ?a12 ?l12 ?c12 ?k12 ?a13 ?l13 ?c13 ?k13 ?a14 ?l14 ?c14 ?k14 ?a15 ?l15 ?c15 ?k15 ?a16 ?l16 ?c16 ?k16 ?a17 ?l17 ?c17 ?k17 ?a18 ?l18 ?c18 ?k18 ?a19 ?l19 ?c19 ?k19 ?a20 ?l20 ?c20 ?k20 ?a21 ?l21 ?c21 ?k21 ?a22 ?l22 ?c22 ?k22 ?a23 ?l23 ?c23 ?k23 ?a24 ?l24 ?c24 ?k24 ?a25 ?l25 ?c25 ?k25 ?a26 ?l26 ?c26 ?k26 ?a27 ?l27 ?c27 ?k27 ?a28 ?l28 ?c28 ?k28 ?z1 ?z2 ?z3 ?z4 ?z5 ?z6 ?z7 ?z8 ?z9 ?z10 ?z11 ?z12 ?z13 ?z14
  (case a1=>k_is);(case l1=>k_is);(case c1=>k_is);(case k1=>k_is)
  (case a2=>k_is);(case l2=>k_is);(case c2=>k_is);(case k2=>k_is)
  (case a3=>k_is);(case l3=>k_is);(case c3=>k_is);(case k3=>k_is)
  (case a4=>k_is);(case l4=>k_is);(case c4=>k_is);(case k4=>k_is)
  (case a5=>k_is);(case l5=>k_is);(case c5=>k_is);(case k5=>k_is)
  (case a6=>k_is);(case l6=>k_is);(case c6=>k_is);(case k6=>k_is)
  (case a7=>k_is);(case l7=>k_is);(case c7=>k_is);(case k7=>k_is)
  (case a8=>k_is);(case l8=>k_is);(case c8=>k_is);(case k8=>k_is)
  (case a9=>k_is);(case l9=>k_is);(case c9=>k_is);(case k9=>k_is)
  (case a10=>k_is);(case l10=>k_is);(case c10=>k_is);(case k10=>k_is)
  (case a11=>k_is);(case l11=>k_is);(case c11=>k_is);(case k11=>k_is)
  (case a12=>k_is);(case l12=>k_is);(case c12=>k_is);(case k12=>k_is)
  (case a13=>k_is);(case l13=>k_is);(case c13=>k_is);(case k13=>k_is)
  (case a14=>k_is);(case l14=>k_is);(case c14=>k_is);(case k14=>k_is)
  (case a15=>k_is);(case l15=>k_is);(case c15=>k_is);(case k15=>k_is)
  (case a16=>k_is);(case l16=>k_is);(case c16=>k_is);(case k16=>k_is)
  (case a17=>k_is);(case l17=>k_is);(case c17=>k_is);(case k17=>k_is)
  (case a18=>k_is);(case l18=>k_is);(case c18=>k_is);(case k18=>k_is)
  (case a19=>k_is);(case l19=>k_is);(case c19=>k_is);(case k19=>k_is)
  (case a20=>k_is);(case l20=>k_is);(case c20=>k_is);(case k20=>k_is)
  (case a21=>k_is);(case l21=>k_is);(case c21=>k_is);(case k21=>k_is)
  (case a22=>k_is);(case l22=>k_is);(case c22=>k_is);(case k22=>k_is)
  (case a23=>k_is);(case l23=>k_is);(case c23=>k_is);(case k23=>k_is)
  (case a24=>k_is);(case l24=>k_is);(case c24=>k_is);(case k24=>k_is)
  (case a25=>k_is);(case l25=>k_is);(case c25=>k_is);(case k25=>k_is)
  (case a26=>k_is);(case l26=>k_is);(case c26=>k_is);(case k26=>k_is)
  (case a27=>k_is);(case l27=>k_is);(case c27=>k_is);(case k27=>k_is)
  (case a28=>k_is);(case l28=>k_is);(case c28=>k_is);(case k28=>k_is)
  (case z1=>k_is)
  (case z2=>k_is)
  (case z3=>k_is)
  (case z4=>k_is)
  (case z5=>k_is)
  (case z6=>k_is)
  (case z7=>k_is)
  (case z8=>k_is)
  (case z9=>k_is)
  (case z10=>k_is)
  (case z11=>k_is)
  (case z12=>k_is)
  (case z13=>k_is)
  (case z14=>k_is)
