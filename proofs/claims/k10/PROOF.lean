import PyProof.Rows.All
import Wide.All
import OpenK.AllK
import Wide.FinOn
import Lean
import PyProof.EqAt
import PyProof.EqKinds
import PyProof.TupleCall
import PyProof.ListStr
import PyProof.TupleOfStr
import PyProof.ConsumeWalk
import PyProof.SliceStr2
import PyProof.CompUse
import PyProof.Rows.SetFrom
import PyProof.SetRoads
import PyProof.StrLawsIn
import PyProof.Rows.StrIndexOr
import PyProof.Rows.StrJoin2
import PyProof.Rows.SumAny
import PyProof.WalkInts
import PyProof.SeqI3
import PyProof.Draws
import PyProof.ZipIter
import PyProof.EnumMake
import Wide.Txt2
import PyProof.Rows.SortWalk
import PyProof.ListRange
import PyProof.Rows.Range3
import KE.KStateDown
import PyProof.ReprRoads
import PyProof.CallFns
import PyProof.WalksMore
import KE.KTryDeep
import PyProof.ExcBaseAll.ValueError
import KE.KTryMore
import KE.KIsNot
import PyProof.ExcAttrAll.ValueError
import PyProof.NsDelKeeps
import PySem.Challenge.RW_nearreach_k10_takings_forged
set_option Elab.async false
set_option linter.all false
set_option maxRecDepth 100000
namespace L2
open PySem PySem.Spec PyProof.Rows
abbrev Key:=Sum Int Str
def ai3:Key->Value->Bool
 | .inl k,v=>Value.isInt k v
 | .inr x,v=>Value.isStrOf x v
def aob(w:World):Key->Int
 | .inl k=>hashInt k
 | .inr x=>hashStr w x
theorem n8:∀ {k:Key} {v:Value},ai3 k v=true->(∃ i t,k=Sum.inl i/\v=Value.int i t)\/(∃ x t,k=Sum.inr x/\v=Value.str x t)
 | .inl i,v,h=>by
  obtain ⟨t,e⟩:=Value.isInt_shape (k:=i) (v:=v) h;exact .inl ⟨i,t,rfl,e⟩
 | .inr x,v,h=>by
  obtain ⟨t,e⟩:=Value.isStrOf_shape (x:=x) (v:=v) h;exact .inr ⟨x,t,rfl,e⟩
theorem ai4(a b:Int):decide ((Sum.inl a:Key)=Sum.inl b)=(a == b):=by
 by_cases e:a=b
 ·subst e;simp
 ·have h:¬ (Sum.inl a:Key)=Sum.inl b:=λq=>e (Sum.inl.inj q);rw [decide_eq_false h];exact (beq_eq_false_iff_ne.mpr e).symm
theorem ai5(a b:Str):decide ((Sum.inr a:Key)=Sum.inr b)=decide (a=b):=by
 by_cases e:a=b
 ·subst e;simp
 ·have h:¬ (Sum.inr a:Key)=Sum.inr b:=λq=>e (Sum.inr.inj q);rw [decide_eq_false h,decide_eq_false e]
theorem ai6(a:Int)(b:Str):decide ((Sum.inl a:Key)=Sum.inr b)=false:=decide_eq_false (λq=>nomatch q)
theorem ai7(a:Str)(b:Int):decide ((Sum.inr a:Key)=Sum.inl b)=false:=decide_eq_false (λq=>nomatch q)
def a1v(prog:Program)(w:World):PySem.KeyKind prog w Key where
 is:=ai3
 hash:=aob w
 inj:=λv a b ha hb=>by
  rcases n8 ha with ⟨i,t,rfl,rfl⟩ | ⟨x,t,rfl,rfl⟩
  ·rcases n8 hb with ⟨j,u,rfl,e⟩ | ⟨y,u,rfl,e⟩
   ·injection e with e1 _;rw [e1]
   ·exact nomatch e
  ·rcases n8 hb with ⟨j,u,rfl,e⟩ | ⟨y,u,rfl,e⟩
   ·exact nomatch e
   ·injection e with e1 _;rw [e1]
 byValue:=λk v h=>by
  rcases n8 h with ⟨i,t,rfl,rfl⟩ | ⟨x,t,rfl,rfl⟩<;>rfl
 pyHash:=λhv h=>by
  rcases n8 hv with ⟨i,t,rfl,rfl⟩ | ⟨x,t,rfl,rfl⟩
  ·exact wpAny_pyHash_int h
  ·exact wpAny_pyHash_str h
 eqBool:=λhu hv h=>by
  rcases n8 hu with ⟨i,t,rfl,rfl⟩ | ⟨x,t,rfl,rfl⟩
  ·rcases n8 hv with ⟨j,u,rfl,rfl⟩ | ⟨y,u,rfl,rfl⟩
   ·rw [ai4] at h;exact wpAny_eqBool_int h
   ·rw [ai6] at h;exact SeqAt.EqAt.int_str i t y u _ _ _ _ h
  ·rcases n8 hv with ⟨j,u,rfl,rfl⟩ | ⟨y,u,rfl,rfl⟩
   ·rw [ai7] at h;exact SeqAt.EqAt.str_int x t j u _ _ _ _ h
   ·rw [ai5] at h;exact wpAny_eqBool_str h
 «strs»:=λk x t v h=>by
  rcases n8 h with ⟨i,u,rfl,e⟩ | ⟨y,u,rfl,e⟩
  ·exact nomatch e
  ·injection e with e1 _
   subst e1
   cases v<;>rfl
inductive V where
 | non | bl (b:Bool) | int (i:Int) | str (x:Str) | byt (b:Array UInt8) | flt (b:UInt64) | ref (a:Addr) | ty (n:String)
 deriving DecidableEq
def RelV:V->Value->Prop
 | .non,u=>u=Value.none
 | .bl b,u=>u=Value.bool b
 | .int i,u=>∃ t,u=Value.int i t
 | .str x,u=>∃ t,u=Value.str x t
 | .byt b,u=>∃ t,u=Value.bytes b t
 | .flt b,u=>∃ t,u=Value.float b t
 | .ref a,u=>u=Value.ref a
 | .ty n,u=>u=Value.type n
abbrev Vals:List V->List Value->Prop:=Paired RelV
theorem Vals.length{xs:List V}{us:List Value}(r:Vals xs us):xs.length=us.length:=Paired.length r
theorem Vals.get:∀ {xs:List V} {us:List Value} {i:Nat} {x:V},Vals xs us->xs[i]? = some x->∃ u,us[i]? = some u/\RelV x u
 | _,_,_,_, .nil,e=>by simp at e
 | _,_,0,_, .cons r _,e=>by simp at e;subst e;exact ⟨_,rfl,r⟩
 | _,_,i+1,x, .cons _ t,e=>by
  obtain ⟨u,h1,h2⟩:=Vals.get (i:=i) (x:=x) t (by simpa using e)
  exact ⟨u,by simpa using h1,h2⟩
theorem Vals.set{x:V}{u:Value}(r:RelV x u):∀ {xs:List V} {us:List Value} (i:Nat),Vals xs us->Vals (xs.set i x) (us.set i u)
 | _,_,_, .nil=>.nil
 | _,_,0, .cons _ t=>.cons r t
 | _,_,i+1, .cons q t=>.cons q (Vals.set r i t)
theorem Vals.append:∀ {xs ys:List V} {us ws:List Value},Vals xs us->Vals ys ws->Vals (xs++ys) (us++ws)
 | _,_,_,_, .nil,s=>s
 | _,_,_,_, .cons r t,s=>.cons r (Vals.append t s)
theorem Vals.take:∀ {xs:List V} {us:List Value} (n:Nat),Vals xs us->Vals (xs.take n) (us.take n)
 | _,_,0,_=>.nil
 | _,_,_+1, .nil=>.nil
 | _,_,n+1, .cons r t=>.cons r (Vals.take n t)
theorem Vals.drop:∀ {xs:List V} {us:List Value} (n:Nat),Vals xs us->Vals (xs.drop n) (us.drop n)
 | _,_,0,r=>r
 | _,_,_+1, .nil=>.nil
 | _,_,n+1, .cons _ t=>Vals.drop n t
def RelO:Option V->Option Value->Prop
 | some v,some u=>RelV v u
 | none,none=>True
 | _,_=>False
def KV{κ:Type}:List (κ × V)->List (κ × Value)->Prop:=Paired λ(p:κ × V) (q:κ × Value)=>p.1=q.1/\RelV p.2 q.2
def kV:Key->V
 | .inl i=>.int i
 | .inr x=>.str x
inductive HO where
 | lst (xs:List V)
 | tup (xs:List V)
 | dK (kvs:List (Key × V)) | dT (kvs:List (List Key × V))
 | set (S:Int->Bool) (n:Nat)
 | ins (C dx:Addr) (fs:List (Str × V))
 | own (x:Addr)
 | xd (fs:List (Str × V))
 | met (f x:Addr)
 | rng (lo hi:Int)
 | frz (o:Obj) (u:HO)
 | tbl (ps:Array Value)
 | ext (φ:Heap->Prop)
abbrev Hp:=Addr->Option HO
def upd(H:Hp)(a:Addr)(o:HO):Hp:=λb=>if b=a then some o else H b
theorem uf{H:Hp}{a:Addr}{o:HO}:upd H a o a=some o:=by unfold upd;rw [if_pos rfl]
theorem jm{H:Hp}{a b:Addr}{o:HO}(h:b≠a):upd H a o b=H b:=by unfold upd;rw [if_neg h]
theorem jc{H:Hp}{a b:Addr}{o:HO}(h:H a=some o)(h':H b=none):a≠b:=by
 intro e;subst e;rw [h] at h';cases h'
section
variable(P:Program)(w:World)
def ObjOk(H:Hp)(h:Heap)(a:Addr):HO->Prop
 | .lst xs=>xs.length<=sizeLine/\∃ (its:List Value) (n:Nat),Vals xs its/\h.get? a=some { cls:=.type "list",data:=.seq its.toArray n }
 | .tup xs=>xs.length<=sizeLine/\∃ its:List Value,Vals xs its/\IsTup h a its.toArray
 | .dK kvs=>kvs.length<=sizeLine/\(a == sysModules)=false/\∃ vs,KV kvs vs/\h.DictOf (a1v P w) a vs
 | .dT kvs=>kvs.length<=sizeLine/\(a == sysModules)=false/\∃ xs:List (List Key × Addr × Value),
   Paired (λ(p:List Key × V) (q:List Key × Addr × Value)=>p.1=q.1/\H q.2.1=some (.tup (p.1.map kV))/\RelV p.2 q.2.2) kvs xs /\
   ∃ o es ep,h.get? a=some o/\o.ExactDict/\o.data = .dict es ep/\es.toList=xs.map (entryOfKey (tupleKind (a1v P w)))/\(xs.map (·.1)).Nodup
 | .set S n=>h.SetOf (intKind P w) a S n
 | .ins C dx fs=>H dx=some (.own a)/\fs.length<=1000/\dx≠a/\h.get? a=some (PySem.W.instObj C dx) /\
   ∃ mA,h.Ns1 dx mA/\(∀ f,RelO (fs.lookup f) (mA f))/\PySem.Within mA (fs.map (·.1))
 | .own _=>∃ o,h.get? a=some o
 | .xd fs=>∃ mA,h.Ns1 a mA/\∀ f,RelO (fs.lookup f) (mA f)
 | .rng lo hi=>∃ t u v,h.get? a=some { cls:=.type "range",data:=.fields #[.int lo t, .int hi u, .int 1 v] }
 | .frz o u=>h.get? a=some o/\ObjOk H h a u
 | .tbl ps=>h.get? a=some { cls:=.none,data:=.fields ps }
 | .met f x=>h.get? a=some (PySem.W.methodObj (.ref f) (.ref x))
 | .ext φ=>φ h/\(∃ o,h.get? a=some o)/\∀ h1 h2:Heap,φ h1->(∀ o,h1.get? a=some o->h2.get? a=some o)->φ h2
def HOk(H:Hp)(h:Heap):Prop:=∀ a o,H a=some o->ObjOk P w H h a o
end
section
variable{P:Program}{w:World}{H H':Hp}{h h':Heap}{a:Addr}{o:HO}
theorem ObjOk.lt(x:ObjOk P w H h a o):a<h.objs.size:=by
 cases o with
 | lst xs=>obtain ⟨_,_,_,_,e⟩:=x;exact Heap.lt_size e
 | tup xs=>obtain ⟨_,_,_,p⟩:=x;exact p.lt
 | dK kvs=>obtain ⟨_,_,_,_,o,_,_,e,_⟩:=x;exact Heap.lt_size e
 | dT kvs=>obtain ⟨_,_,_,_,o,_,_,e,_⟩:=x;exact Heap.lt_size e
 | set S n=>obtain ⟨o,_,_,_,e,_⟩:=x;exact Heap.lt_size e
 | ins C dx fs=>obtain ⟨_,_,_,e,_⟩:=x;exact Heap.lt_size e
 | own y=>obtain ⟨_,e⟩:=x;exact Heap.lt_size e
 | xd fs=>obtain ⟨_,⟨_,_,_,e,_⟩,_⟩:=x;exact Heap.lt_size e
 | rng lo hi=>obtain ⟨_,_,_,e⟩:=x;exact Heap.lt_size e
 | frz ob u=>obtain ⟨e,_⟩:=x;exact Heap.lt_size e
 | tbl ps=>exact Heap.lt_size (show h.get? a=some _ from x)
 | met f y=>exact Heap.lt_size (show h.get? a=some _ from x)
 | ext φ=>obtain ⟨_,⟨_,e⟩,_⟩:=x;exact Heap.lt_size e
theorem Paired.mapP{α β:Type}{F G:α->β->Prop}:∀ {l₁:List α} {l₂:List β},Paired F l₁ l₂->(∀ a b,F a b->G a b)->Paired G l₁ l₂
 | _,_, .nil,_=>.nil
 | _,_, .cons r t,f=>.cons (f _ _ r) (Paired.mapP t f)
theorem ObjOk.stay(x:ObjOk P w H h a o)(k:∀ b u,(b=a\/H b=some (.own a))->h.get? b=some u->h'.get? b=some u)
  (ho:∀ b,H b=some (.own a)->H' b=some (.own a)) (ht:∀ b xs,H b=some (.tup xs)->H' b=some (.tup xs)):ObjOk P w H' h' a o:=by
 induction o with
 | lst xs=>obtain ⟨z,its,n,r,e⟩:=x;exact ⟨z,its,n,r,k _ _ (.inl rfl) e⟩
 | tup xs=>obtain ⟨z,its,r,ob,e,c⟩:=x;exact ⟨z,its,r,ob,k _ _ (.inl rfl) e,c⟩
 | dK kvs=>obtain ⟨z,y,vs,r,ob,es,ep,e,c⟩:=x;exact ⟨z,y,vs,r,ob,es,ep,k _ _ (.inl rfl) e,c⟩
 | dT kvs =>
  obtain ⟨z,y,xs,r,ob,es,ep,e,c⟩:=x;exact ⟨z,y,xs,Paired.mapP r λp q z=>⟨z.1,ht _ _ z.2.1,z.2.2⟩,ob,es,ep,k _ _ (.inl rfl) e,c⟩
 | set S n=>obtain ⟨ob,es,ep,t,e,c⟩:=x;exact ⟨ob,es,ep,t,k _ _ (.inl rfl) e,c⟩
 | ins C dx fs =>
  obtain ⟨d,z,ne,e,mA,⟨od,es,ep,e2,c⟩,r⟩:=x;exact ⟨ho _ d,z,ne,k _ _ (.inl rfl) e,mA,⟨od,es,ep,k _ _ (.inr d) e2,c⟩,r⟩
 | own y=>obtain ⟨ob,e⟩:=x;exact ⟨ob,k _ _ (.inl rfl) e⟩
 | xd fs=>obtain ⟨mA,⟨od,es,ep,e,c⟩,r⟩:=x;exact ⟨mA,⟨od,es,ep,k _ _ (.inl rfl) e,c⟩,r⟩
 | rng lo hi=>obtain ⟨t,u,v,e⟩:=x;exact ⟨t,u,v,k _ _ (.inl rfl) e⟩
 | frz ob u ih=>obtain ⟨e,q⟩:=x;exact ⟨k _ _ (.inl rfl) e,ih q⟩
 | tbl ps =>
  have e:h.get? a=some { cls:=.none,data:=.fields ps }:=x;show h'.get? a=some { cls:=.none,data:=.fields ps };exact k a _ (.inl rfl) e
 | met f y =>
  have e:h.get? a=some (PySem.W.methodObj (.ref f) (.ref y)):=x;show h'.get? a=some (PySem.W.methodObj (.ref f) (.ref y));exact k a _ (.inl rfl) e
 | ext φ=>obtain ⟨p,⟨o,e⟩,st⟩:=x;exact ⟨st _ _ p λo q=>k _ _ (.inl rfl) q,⟨o,k _ _ (.inl rfl) e⟩,st⟩
theorem HOk.lt(x:HOk P w H h)(e:H a=some o):a<h.objs.size:=(x a o e).lt
theorem HOk.fresh(x:HOk P w H h)(e:h.objs.size<=a):H a=none:=by
 cases q:H a with
 | none=>rfl
 | some u=>exact absurd (Nat.lt_of_lt_of_le (x.lt q) e) (Nat.lt_irrefl _)
theorem HOk.kept(x:HOk P w H h)(k:∀ b u,h.get? b=some u->h'.get? b=some u):HOk P w H h':=λa o e =>
 (x a o e).stay (λb u _ q=>k b u q) (λ_ q=>q) λ_ _ q=>q
theorem HOk.laid(x:HOk P w H h)(k:∀ b u,h.get? b=some u->h'.get? b=some u)(hp:h.objs.size<=a)(new:ObjOk P w (upd H a o) h' a o):HOk P w (upd H a o) h':=λb u e=>by
 have hn:=x.fresh hp
 by_cases hb:b=a
 ·subst hb;rw [uf] at e;cases e;exact new
 ·rw [jm hb] at e;exact (x b u e).stay (λc v _ q=>k c v q) (λc q=>by rw [jm (jc q hn)];exact q) λc xs q=>by rw [jm (jc q hn)];exact q
end
def Rd(H:Hp)(a:Addr)(u:HO):Prop:=H a=some u\/∃ o,H a=some (.frz o u)
theorem Rd.of{H:Hp}{a:Addr}{u:HO}(h:H a=some u):Rd H a u:=.inl h
theorem Rd.ok{P:Program}{w:World}{H:Hp}{h:Heap}{a:Addr}{u:HO}(r:Rd H a u)(x:HOk P w H h):ObjOk P w H h a u:=by
 rcases r with r | ⟨o,r⟩
 ·exact x a u r
 ·obtain ⟨_,q⟩:=x a _ r;exact q
def Mut:Option HO->Prop
 | some (.lst _)=>True
 | some (.dK _)=>True
 | some (.dT _)=>True
 | some (.set _ _)=>True
 | some (.ins _ _ _)=>True
 | some (.ext _)=>True
 | _=>False
section
variable{P:Program}{w:World}{H:Hp}{h h':Heap}{x e:Addr}{o':HO}
theorem HOk.write(ok:HOk P w H h)(mu:Mut (H x))(he:e=x\/H e=some (.own x))(k:∀ b u,b≠e->h.get? b=some u->h'.get? b=some u)(heo:∃ u,h'.get? e=some u)
  (new:ObjOk P w (upd H x o') h' x o'):HOk P w (upd H x o') h':=λb u q=>by
 have nown:∀ c y,H c=some (.own y)->c≠x:=λc y r z=>by subst z;rw [r] at mu;exact mu
 have ntup:∀ c xs,H c=some (.tup xs)->c≠x:=λc xs r z=>by subst z;rw [r] at mu;exact mu
 by_cases hb:b=x
 ·subst hb;rw [uf] at q;cases q;exact new
 ·rw [jm hb] at q
  by_cases hbe:b=e
  ·have q':H b=some (.own x):=by
    rcases he with z | z
    ·exact absurd (hbe.trans z) hb
    ·rw [hbe];exact z
   rw [q] at q';cases q'
   obtain ⟨v,hv⟩:=heo;exact ⟨v,by rw [hbe];exact hv⟩
  ·refine (ok b u q).stay (λc v hc r=>k c v ?_ r) (λc r=>by rw [jm (nown c b r)];exact r) λc xs r=>by rw [jm (ntup c xs r)];exact r
   rcases hc with rfl | hc
   ·exact hbe
   ·rintro rfl
    rcases he with z | z
    ·exact nown c b hc z
    ·rw [hc] at z;cases z;exact hb rfl
end
structure Un (fs ex:List Addr) (H H':Hp) (h h':Heap):Prop where
 keep:∀ b o,h.get? b=some o->H b=none->b ∉ fs->b ∉ ex->h'.get? b=some o
 slot:∀ b o,h.get? b=some o->H b=none->b∈fs->b ∉ ex->∃ sl,h'.get? b=some { o with slots:=sl }
 free:∀ b o,h.get? b=some o->H b=none->b ∉ ex->H' b=none
 there:∀ b o,h.get? b=some o->b ∉ ex->∃ o',h'.get? b=some o'
 tups:∀ b xs,H b=some (.tup xs)->H' b=some (.tup xs)
 frzs:∀ b o u,H b=some (.frz o u)->H' b=some (.frz o u)
 tbls:∀ b ps,H b=some (.tbl ps)->∃ more,H' b=some (.tbl (ps++more))
section
variable{fs fs' ex ex':List Addr}{H H1 H2:Hp}{h h1 h2 h':Heap}{a x e:Addr}{o:HO}
theorem Un.any(u:Un fs ex H H1 h h1){b:Addr}{ob:Obj}(q:h.get? b=some ob)(n:H b=none)(hx:b ∉ ex):∃ sl,h1.get? b=some { ob with slots:=sl }:=by
 by_cases hb:b∈fs
 ·exact u.slot b ob q n hb hx
 ·exact ⟨ob.slots,u.keep b ob q n hb hx⟩
theorem Un.kept(k:∀ b u,h.get? b=some u->h'.get? b=some u):Un fs ex H H h h' :=
 ⟨λb ob q _ _ _=>k b ob q,λb ob q _ _ _=>⟨ob.slots,k b ob q⟩,λ_ _ _ n _=>n,λb ob q _=>⟨ob,k b ob q⟩,λ_ _ q=>q,λ_ _ _ q=>q,λ_ ps q=>⟨#[],by rw [q];simp⟩⟩
theorem Un.refl:Un fs ex H H h h:=Un.kept λ_ _ q=>q
theorem Un.laid(k:∀ b u,h.get? b=some u->h'.get? b=some u)(hp:h.objs.size<=a)(hn:H a=none):Un fs ex H (upd H a o) h h' where
 keep:=λb u q _ _ _=>k b u q
 slot:=λb u q _ _ _=>⟨u.slots,k b u q⟩
 free:=λb u q n _=>by rw [jm (Nat.ne_of_lt (Nat.lt_of_lt_of_le (Heap.lt_size q) hp))];exact n
 there:=λb u q _=>⟨u,k b u q⟩
 tups:=λb xs q=>by rw [jm (jc q hn)];exact q
 frzs:=λb u xs q=>by rw [jm (jc q hn)];exact q
 tbls:=λb ps q=>⟨#[],by rw [jm (jc q hn),q];simp⟩
theorem Un.write(mu:Mut (H x))(he:e=x\/H e=some (.own x))(k:∀ b u,b≠e->h.get? b=some u->h'.get? b=some u)(heo:∃ u,h'.get? e=some u):Un fs ex H (upd H x o) h h':=by
 have hx:∀ b,H b=none->b≠x:=λb n z=>by subst z;rw [n] at mu;exact mu
 have hb:∀ b,H b=none->b≠e:=λb n z=>by
  subst z
  rcases he with r | r
  ·exact hx b n r
  ·rw [n] at r;cases r
 have hm:∀ b u,H b=some u->¬ Mut (some u)->b≠x:=λb u q nm z=>by subst z;rw [q] at mu;exact nm mu
 refine ⟨λb u q n _ _=>k b u (hb b n) q,λb u q n _ _=>⟨u.slots,k b u (hb b n) q⟩,λb u q n _=>by rw [jm (hx b n)];exact n,λb u q _=>?_,
  λb xs q=>by rw [jm (hm b _ q λz=>z)];exact q,λb u xs q=>by rw [jm (hm b _ q λz=>z)];exact q,λb ps q=>⟨#[],by rw [jm (hm b _ q λz=>z),q];simp⟩⟩
 by_cases hbe:b=e
 ·subst hbe;exact heo
 ·exact ⟨u,k b u hbe q⟩
end
def trk(h:Heap)(H:Hp):List Addr:=(List.range h.objs.size).filter λa=>(H a).isSome
def ac6(h:Heap)(H:Hp):Heap:=PySem.W.hideAll h (trk h H)
theorem a9s(h:Heap)(H:Hp):(ac6 h H).objs.size=h.objs.size:=PySem.W.hideAll_size _ _
theorem ac8{h:Heap}{H:Hp}{b:Addr}{o:Obj}(e:h.get? b=some o)(n:H b=none):(ac6 h H).get? b=some o :=
 PySem.W.hideAll_get _ e λhm=>by
  have q:(H b).isSome=true:=(List.mem_filter.mp hm).2;rw [n] at q;simp at q
theorem afk{h:Heap}{H:Hp}{b:Addr}{o:Obj}(e:(ac6 h H).get? b=some o):h.get? b=some o/\H b=none:=by
 have e':h.get? b=some o:=PySem.W.of_hideAll (trk h H) e;refine ⟨e',?_⟩
 cases q:H b with
 | none=>rfl
 | some x =>
  have hm:b∈trk h H:=List.mem_filter.mpr ⟨List.mem_range.mpr (Heap.lt_size e'),by simp [q]⟩
  have z:(ac6 h H).get? b=none:=PySem.W.hideAll_none (trk h H) hm;rw [z] at e;cases e
def afl(g h:Heap)(L:Addr):List (Addr × Obj):=(List.range h.objs.size).filterMap λa=>if a=L\/(g.get? a).isSome=true then none else (h.get? a).map λo=>(a,o)
def rest(g h:Heap)(L d:Addr):List (Addr × Obj):=(afl g h L).filter λp=>decide (p.1≠d)
structure Mod (K:PySem.W.Frag) (mg:Str->Option Value) (base:Heap):Prop where
 kin:K.In base
 glob:base.Ns mainGlobals mg
 blt:∃ mb,base.Ns builtinsNs mb/\∀ x:Str,x ≠ "__name__"->mb x=bootBuiltins x
 nolimit:base.NoLimit
structure Cx where
 prog:Program
 w:World
 K:PySem.W.Frag
 mg:Str->Option Value
 base:Heap
 A:Around
 N:List Str
 s₀:Shared
 H₀:Hp
 env:Env
 outer:List Env
 stack:List Env
 ex:List Addr
 fn:Str->Bool
 calm:Bool
 pn:List (Addr × Obj)
 xe:Value->Shared->Prop
def frs(l:List Env):List Addr:=l.filterMap (·.frame)
abbrev Cx.fs(X:Cx):List Addr:=frs X.outer
def Vis(sc:Scope)(x:Str):Prop:=sc.names.lookup x=some .local\/sc.names.lookup x=some .cell\/sc.names.lookup x=some .free
def Loc(sc:Scope)(x:Str):Prop:=sc.names.lookup x=some .local\/sc.names.lookup x=some .cell
def Look(env:Env)(h:Heap)(m:Str->Option Value)(x:Str)(u:Value):Prop :=
 (env.kindOf x=some .local/\m x=some u)\/((env.kindOf x=some .cell\/env.kindOf x=some .free)/\∃ c,env.cells.lookup x=some c/\h.IsCell c (some u))
structure Cx.Ok (X:Cx):Prop where
 mod:Mod X.K X.mg X.base
 kind:X.env.scope.kind = .function
 glob:X.env.globals=mainGlobals
 blt:X.env.builtins=builtinsNs
 above:X.s₀.heap.objs.size<=X.env.locals
 inj:∀ x y c,X.env.cells.lookup x=some c->X.env.cells.lookup y=some c->x=y
 has:∀ x,(X.env.kindOf x=some .cell\/X.env.kindOf x=some .free)->∃ c,X.env.cells.lookup x=some c
 cab:∀ x c,X.fn x=true->X.env.cells.lookup x=some c->X.s₀.heap.objs.size<=c
 hd:X.calm=true->X.A.handled=none
 frames:X.A.frames=some X.stack
 stk:X.stack=X.outer\/(X.stack=X.env::X.outer/\X.env.frame=some X.env.locals)
 exf:∀ b∈X.ex,b≠X.env.locals/\∀ x c,X.env.cells.lookup x=some c->c≠b
 bs:∀ b o,X.base.get? b=some o->X.s₀.heap.get? b=some o/\X.H₀ b=none
 bsz:X.base.objs.size<=X.s₀.heap.objs.size
 noex:∀ b o,X.base.get? b=some o->b ∉ X.ex
 exfs:∀ b∈X.ex,b ∉ X.fs
 funs:X.s₀.heap.FunFrames X.base X.outer
 frf:∀ b∈X.fs,X.H₀ b=none
structure Inv (X:Cx) (pins:List (Addr × Obj)) (σ:List (Option V)) (H:Hp) (s:Shared):Prop where
 ok:X.Ok
 os:s.os=X.s₀.os
 bare:AllBare s.gens
 base:Un X.fs X.ex X.H₀ H X.s₀.heap s.heap
 loc:∃ m,s.heap.Ns X.env.locals m/\∀ (i:Nat) (x:Str) (v:V),X.N[i]? = some x->σ[i]? = some (some v)->Vis X.env.scope x->∃ u,RelV v u/\Look X.env s.heap m x u
 cell:∀ x c,X.env.cells.lookup x=some c->∃ v,s.heap.IsCell c v
 free:H X.env.locals=none
 freeC:∀ x c,X.env.cells.lookup x=some c->H c=none
 pin:∀ p∈X.pn++pins,s.heap.get? p.1=some p.2/\H p.1=none/\p.1≠X.env.locals/\p.1 ∉ X.fs/\∀ v,p.2.data≠.cell v
 hok:HOk X.prog X.w H s.heap
 len:σ.length=X.N.length
section
variable{X:Cx}{pins:List (Addr × Obj)}{σ:List (Option V)}{H H':Hp}{s:Shared}{h':Heap}
theorem Cx.Ok.nofr(ok:X.Ok){b:Addr}{o:Obj}(e:X.base.get? b=some o):b ∉ X.fs:=λhb=>by
 have:=(ok.funs.mem hb).1
 rw [e] at this;cases this
theorem Inv.bs(I:Inv X pins σ H s):∀ b o,X.base.get? b=some o->s.heap.get? b=some o/\H b=none:=λb o e =>
 ⟨I.base.keep b o (I.ok.bs b o e).1 (I.ok.bs b o e).2 (I.ok.nofr e) (I.ok.noex b o e),I.base.free b o (I.ok.bs b o e).1 (I.ok.bs b o e).2 (I.ok.noex b o e)⟩
theorem Inv.bk(I:Inv X pins σ H s):∀ b o,X.base.get? b=some o->s.heap.get? b=some o:=λb o e=>(I.bs b o e).1
theorem Inv.mod(I:Inv X pins σ H s):Mod X.K X.mg X.base:=I.ok.mod
theorem Inv.kIn(I:Inv X pins σ H s):X.K.In s.heap:=I.ok.mod.kin.keeps I.bk
theorem Inv.fr(I:Inv X pins σ H s):∃ m,Fr X.base X.env.locals s.heap m :=
 let ⟨m,hn,_⟩:=I.loc
 ⟨m,hn,I.bk,Nat.le_trans I.ok.bsz I.ok.above⟩
theorem Inv.lt(I:Inv X pins σ H s):X.env.locals<s.heap.objs.size:=let ⟨_,hn,_⟩:=I.loc;hn.lt
theorem Inv.sz(I:Inv X pins σ H s):X.s₀.heap.objs.size<=s.heap.objs.size:=Nat.le_trans I.ok.above (Nat.le_of_lt I.lt)
theorem Inv.nofs(I:Inv X pins σ H s){a:Addr}(h:s.heap.objs.size<=a):a ∉ X.fs:=λhb=>by
 obtain ⟨_,o,ho,_⟩:=I.ok.funs.mem hb;exact absurd (Nat.lt_of_lt_of_le (Heap.lt_size ho) (Nat.le_trans I.sz h)) (Nat.lt_irrefl _)
theorem Inv.cne(I:Inv X pins σ H s):∀ x c,X.env.cells.lookup x=some c->c≠X.env.locals:=λx c e z=>by
 obtain ⟨v,o,ho,hd⟩:=I.cell x c e;obtain ⟨m,⟨o',es,ep,ho',hd',_⟩,_⟩:=I.loc;rw [z,ho'] at ho;cases ho;rw [hd'] at hd;cases hd
theorem Inv.funs(I:Inv X pins σ H s):s.heap.FunFrames X.base X.outer:=by
 have all:∀ (l:List Env),(∀ b∈frs l,b∈X.fs)->X.s₀.heap.FunFrames X.base l->s.heap.FunFrames X.base l:=by
  intro l
  induction l with
  | nil=>intro _ _;trivial
  | cons env r ih =>
   intro hs hl
   obtain ⟨hk,⟨L,o,hf,hn,ho,hd⟩,hr⟩:=hl;have hL:L∈X.fs:=hs L (by unfold frs;rw [List.filterMap_cons,hf];exact List.mem_cons_self)
   obtain ⟨sl,e⟩:=I.base.slot L o ho (I.ok.frf L hL) hL λz=>I.ok.exfs L z hL;exact ⟨hk,⟨L,_,hf,hn,e,hd⟩,ih (λb hb=>hs b (by unfold frs;rw [List.filterMap_cons,hf];exact List.mem_cons_of_mem _ hb)) hr⟩
 exact all X.outer (λ_ hb=>hb) I.ok.funs
theorem Inv.stack(I:Inv X pins σ H s):s.heap.FunFrames X.base X.stack:=by
 rcases I.ok.stk with e | ⟨e,hf⟩
 ·rw [e];exact I.funs
 ·rw [e];obtain ⟨m,hn,_⟩:=I.loc;refine .cons (by rw [I.ok.kind];decide) hf hn ?_ I.funs
  exact Heap.get?_none_of_le (Nat.le_trans I.ok.bsz I.ok.above)
theorem Inv.stkSub(I:Inv X pins σ H s):∀ b∈frs X.stack,b∈X.env.locals::X.fs:=λb hb=>by
 rcases I.ok.stk with e | ⟨e,hf⟩
 ·rw [e] at hb;exact List.mem_cons_of_mem _ hb
 ·rw [e] at hb;unfold frs at hb;rw [List.filterMap_cons,hf] at hb;exact hb
theorem Inv.stkFree(I:Inv X pins σ H s):∀ b∈frs X.stack,H b=none:=λb hb=>by
 rcases List.mem_cons.mp (I.stkSub b hb) with e | hb
 ·rw [e];exact I.free
 ·obtain ⟨_,o,ho,_⟩:=I.ok.funs.mem hb;exact I.base.free b o ho (I.ok.frf b hb) λz=>I.ok.exfs b z hb
theorem Inv.step{g':Array GenState}{t':Nat}{d':Drawn}{ch:List Addr}(I:Inv X pins σ H s)
  (hch:∀ b∈ch,(b∈X.ex\/X.s₀.heap.objs.size<=b)/\b≠X.env.locals/\(∀ x c,X.env.cells.lookup x=some c->c≠b)/\∀ p∈X.pn++pins,p.1≠b)
  (keep:∀ b o,b≠X.env.locals->b ∉ X.fs->b ∉ ch->s.heap.get? b=some o->H b=none->h'.get? b=some o)
  (slot:∀ b o,b≠X.env.locals->b∈X.fs->b ∉ ch->s.heap.get? b=some o->H b=none->∃ sl,h'.get? b=some { o with slots:=sl }) (free:∀ b o,b ∉ ch->s.heap.get? b=some o->H b=none->H' b=none)
  (there:∀ b o,b ∉ ch->s.heap.get? b=some o->∃ o',h'.get? b=some o')
  (tups:∀ b xs,H b=some (.tup xs)->H' b=some (.tup xs)) (frzs:∀ b o u,H b=some (.frz o u)->H' b=some (.frz o u)) (tbls:∀ b ps,H b=some (.tbl ps)->∃ more,H' b=some (.tbl (ps++more)))
  (ns:∀ m,s.heap.Ns X.env.locals m->h'.Ns X.env.locals m) (hok:HOk X.prog X.w H' h') (hg:AllBare g') :
  Inv X pins σ H' { s with heap:=h',gens:=g',drawn:=d',toks:=t' }:=by
 have neL:∀ b o,X.s₀.heap.get? b=some o->b≠X.env.locals:=λb o e=>Nat.ne_of_lt (Nat.lt_of_lt_of_le (Heap.lt_size e) I.ok.above);have neC:∀ b o,X.s₀.heap.get? b=some o->b ∉ X.ex->b ∉ ch:=λb o e hx hb=>by
  rcases (hch b hb).1 with z | z
  ·exact hx z
  ·exact absurd (Nat.lt_of_lt_of_le (Heap.lt_size e) z) (Nat.lt_irrefl _)
 have cellK:∀ x c,X.env.cells.lookup x=some c->∀ v,s.heap.IsCell c v->h'.IsCell c v:=λx c e v ⟨o,ho,hd⟩=>by
  have nch:c ∉ ch:=λz=>(hch c z).2.2.1 x c e rfl
  by_cases hc:c∈X.fs
  ·obtain ⟨sl,q⟩:=slot c o (I.cne x c e) hc nch ho (I.freeC x c e);exact ⟨_,q,hd⟩
  ·exact ⟨o,keep c o (I.cne x c e) hc nch ho (I.freeC x c e),hd⟩
 refine ⟨I.ok,I.os,hg,⟨λb o e n hb hx=>?_,λb o e n hb hx=>?_,λb o e n hx=>?_,λb o e hx=>?_,λb xs e=>tups b xs (I.base.tups b xs e),λb o xs e=>frzs b o xs (I.base.frzs b o xs e),λb ps e=>?_⟩,?_,λx c e=>?_,?_,λx c e=>?_,λp hp=>?_,hok,I.len⟩
 ·exact keep b o (neL b o e) hb (neC b o e hx) (I.base.keep b o e n hb hx) (I.base.free b o e n hx)
 ·obtain ⟨sl,e1⟩:=I.base.slot b o e n hb hx;obtain ⟨sl',e2⟩:=slot b _ (neL b o e) hb (neC b o e hx) e1 (I.base.free b o e n hx);exact ⟨sl',e2⟩
 ·obtain ⟨o',e1⟩:=I.base.there b o e hx;exact free b o' (neC b o e hx) e1 (I.base.free b o e n hx)
 ·obtain ⟨o',e1⟩:=I.base.there b o e hx;exact there b o' (neC b o e hx) e1
 ·obtain ⟨m1,e1⟩:=I.base.tbls b ps e;obtain ⟨m2,e2⟩:=tbls b _ e1;exact ⟨m1++m2,by rw [e2,Array.append_assoc]⟩
 ·obtain ⟨m,hn,hl⟩:=I.loc;refine ⟨m,ns m hn,λi x v e1 e2 e3=>?_⟩;obtain ⟨u,r,l⟩:=hl i x v e1 e2 e3;refine ⟨u,r,?_⟩
  rcases l with l | ⟨k,c,e,z⟩
  ·exact .inl l
  ·exact .inr ⟨k,c,e,cellK x c e _ z⟩
 ·obtain ⟨v,z⟩:=I.cell x c e;exact ⟨v,cellK x c e v z⟩
 ·obtain ⟨m,⟨o,_,_,ho,_⟩,_⟩:=I.loc;exact free _ o (λz=>(hch _ z).2.1 rfl) ho I.free
 ·obtain ⟨v,o,ho,hd⟩:=I.cell x c e;exact free c o (λz=>(hch c z).2.2.1 x c e rfl) ho (I.freeC x c e)
 ·obtain ⟨e,n,ne,nf,d⟩:=I.pin p hp;have nch:p.1 ∉ ch:=λz=>(hch p.1 z).2.2.2 p hp rfl;exact ⟨keep p.1 p.2 ne nf nch e n,free p.1 p.2 nch e n,ne,nf,d⟩
theorem Inv.un{t':Nat}(I:Inv X pins σ H s)(u:Un X.fs [] H H' s.heap h')(hok:HOk X.prog X.w H' h'):Inv X pins σ H' { s with heap:=h',toks:=t' }:=by
 obtain ⟨m,⟨o,es,ep,ho,r⟩,_⟩:=id I.loc;obtain ⟨sl,hL⟩:=u.any ho I.free (by simp)
 exact I.step (g':=s.gens) (d':=s.drawn) (ch:=[]) (λ_ z=>nomatch z) (λb o _ hb _ e n=>u.keep b o e n hb (by simp)) (λb o _ hb _ e n=>u.slot b o e n hb (by simp)) (λb o _ e n=>u.free b o e n (by simp)) (λb o _ e=>u.there b o e (by simp)) u.tups u.frzs u.tbls (λm' hm=>by
  obtain ⟨o',es',ep',ho',r'⟩:=hm;rw [ho] at ho';cases ho'
  exact ⟨_,es',ep',hL,r'⟩) hok I.bare
theorem Inv.call{g':Array GenState}{t':Nat}{d':Drawn}{ch:List Addr}(I:Inv X pins σ H s)(u:Un (frs X.stack) ch H H' s.heap h')(hok:HOk X.prog X.w H' h')(hg:AllBare g')
  (hch:∀ b∈ch,(b∈X.ex\/X.s₀.heap.objs.size<=b)/\b≠X.env.locals/\(∀ x c,X.env.cells.lookup x=some c->c≠b)/\∀ p∈X.pn++pins,p.1≠b) :
  Inv X pins σ H' { s with heap:=h',gens:=g',drawn:=d',toks:=t' }:=by
 obtain ⟨m,⟨o,es,ep,ho,r⟩,_⟩:=id I.loc;obtain ⟨sl,hL⟩:=u.any ho I.free λz=>(hch _ z).2.1 rfl;exact I.step (ch:=ch) hch (λb o hL hb hc e n=>u.keep b o e n (λz=>(List.mem_cons.mp (I.stkSub b z)).elim hL hb) hc) (λb o _ _ hc e n=>u.any e n hc) (λb o hc e n=>u.free b o e n hc) (λb o hc e=>u.there b o e hc) u.tups u.frzs u.tbls (λm' hm=>by
  obtain ⟨o',es',ep',ho',r'⟩:=hm;rw [ho] at ho';cases ho'
  exact ⟨_,es',ep',hL,r'⟩) hok hg
theorem Inv.turned{t':Nat}{it:Addr}(I:Inv X pins σ H s)(k:∀ b o,b≠it->s.heap.get? b=some o->h'.get? b=some o)(hn:H it=none)(hL:it≠X.env.locals)
  (h1:it∈X.ex\/X.s₀.heap.objs.size<=it) (h2:∀ x c,X.env.cells.lookup x=some c->c≠it) (h3:∀ p∈X.pn++pins,p.1≠it):Inv X pins σ H { s with heap:=h',toks:=t' }:=by
 have nit:∀ b u,H b=some u->b≠it:=λb u e z=>by rw [z,hn] at e;cases e
 refine I.step (g':=s.gens) (d':=s.drawn) (ch:=[it]) (λb hb=>?_) (λb o _ _ hc e _=>k b o (λz=>hc (by simp [z])) e) (λb o _ _ hc e _=>⟨o.slots,k b o (λz=>hc (by simp [z])) e⟩) (λ_ _ _ _ n=>n)
  (λb o hc e=>⟨o,k b o (λz=>hc (by simp [z])) e⟩) (λ_ _ e=>e) (λ_ _ _ e=>e) (λb ps e=>⟨#[],by rw [e];simp⟩) (λm hm=>?_) (λb u e=>?_) I.bare
 ·have e:b=it:=by simpa using hb
  subst e;exact ⟨h1,hL,h2,h3⟩
 ·obtain ⟨o,es,ep,ho,r⟩:=hm;exact ⟨o,es,ep,k _ o (Ne.symm hL) ho,r⟩
 ·refine (I.hok b u e).stay (λc v hc q=>k c v ?_ q) (λ_ q=>q) λ_ _ q=>q
  rcases hc with z | z
  ·rw [z];exact nit b u e
  ·exact nit c _ z
theorem Inv.tok(I:Inv X pins σ H s)(t:Nat):Inv X pins σ H { s with toks:=t }:=I.un (h':=s.heap) (t':=t) Un.refl I.hok
theorem Inv.kept{t':Nat}(I:Inv X pins σ H s)(k:∀ b u,s.heap.get? b=some u->h'.get? b=some u):Inv X pins σ H { s with heap:=h',toks:=t' }:=I.un (Un.kept k) (I.hok.kept k)
theorem Inv.laid{a:Addr}{o:HO}{t':Nat}(I:Inv X pins σ H s)(k:∀ b u,s.heap.get? b=some u->h'.get? b=some u)(hp:s.heap.objs.size<=a)(new:ObjOk X.prog X.w (upd H a o) h' a o) :
  Inv X pins σ (upd H a o) { s with heap:=h',toks:=t' }:=I.un (Un.laid k hp (I.hok.fresh hp)) (I.hok.laid k hp new)
theorem Inv.write{x e:Addr}{o:HO}{t':Nat}(I:Inv X pins σ H s)(mu:Mut (H x))(he:e=x\/H e=some (.own x))(k:∀ b u,b≠e->s.heap.get? b=some u->h'.get? b=some u)(heo:∃ u,h'.get? e=some u)
  (new:ObjOk X.prog X.w (upd H x o) h' x o):Inv X pins σ (upd H x o) { s with heap:=h',toks:=t' }:=I.un (Un.write mu he k heo) (I.hok.write mu he k heo new)
theorem Inv.weak{σ':List (Option V)}(I:Inv X pins σ H s)(hl:σ'.length=σ.length)(w:∀ (i:Nat) v,σ'[i]? = some (some v)->σ[i]? = some (some v)):Inv X pins σ' H s :=
 ⟨I.ok,I.os,I.bare,I.base,let ⟨m,hn,hl'⟩:=I.loc; ⟨m,hn,λi x v e1 e2 e3=>hl' i x v e1 (w i v e2) e3⟩,I.cell,I.free,I.freeC,I.pin,I.hok,hl.trans I.len⟩
theorem Inv.pins_of{pins':List (Addr × Obj)}(I:Inv X pins σ H s)(h:∀ p∈pins',s.heap.get? p.1=some p.2/\H p.1=none/\p.1≠X.env.locals/\p.1 ∉ X.fs/\∀ v,p.2.data≠.cell v):Inv X pins' σ H s :=
 ⟨I.ok,I.os,I.bare,I.base,I.loc,I.cell,I.free,I.freeC,λp hp=>(List.mem_append.mp hp).elim (λz=>I.pin p (List.mem_append_left _ z)) (h p),I.hok,I.len⟩
theorem a7o{N:List Str}(hN:N.Nodup){i j:Nat}{x:Str}(a:N[i]? = some x)(b:N[j]? = some x):i=j:=by
 obtain ⟨h1,e1⟩:=List.getElem?_eq_some_iff.mp a;obtain ⟨h2,e2⟩:=List.getElem?_eq_some_iff.mp b;exact (List.getElem_inj hN).mp (e1.trans e2.symm)
theorem a5r{M:Model}{A:Around}{E:Value->Shared->Prop}{i:Nat}{x:Str}{v:V}{u:Value}{Q:Unit->Shared->Prop}(I:Inv X pins σ H s)(hN:X.N.Nodup)(hi:X.N[i]? = some x)(hx:Loc X.env.scope x)(r:RelV v u)
  (h:∀ s',Inv X pins (σ.set i (some v)) H s'->(∃ a,Heap.SameBut a s.heap s'.heap/\(a=X.env.locals\/X.env.cells.lookup x=some a))->Q () s') (hf:X.fn x=true\/X.env.scope.names.lookup x=some .local:=by first | exact .inl rfl | exact .inr rfl | assumption):wpAny M A (storeName X.env x u) Q E s:=by
 obtain ⟨m,hn,hl⟩:=id I.loc;have hcls:(X.env.scope.kind == .class || (X.env.scope.kind == .module && X.env.locals != X.env.globals))=false:=by rw [I.ok.kind];rfl
 have hiσ:i<σ.length:=by rw [I.len];exact (List.getElem?_eq_some_iff.mp hi).1
 have cne:=I.cne;have tracked:∀ {a:Addr} {h':Heap},(∃ o,s.heap.get? a=some o/\H a=none)->Heap.SameBut a s.heap h'->HOk X.prog X.w H h':=λ{a h'} ha hs b ob e=>by
  obtain ⟨_,_,hfree⟩:=ha;refine (I.hok b ob e).stay (λc w' hc q=>(hs.2 c ?_).trans q) (λ_ q=>q) λ_ _ q=>q
  rintro rfl
  rcases hc with rfl | hc
  ·rw [hfree] at e;cases e
  ·rw [hfree] at hc;cases hc
 rcases hx with hk | hk
 ·refine wpAny_storeName_local hk hn (λh' hn' hs=>?_) hcls;obtain ⟨oL,_,_,hoL,_⟩:=id hn;refine h _ ⟨I.ok,I.os,I.bare,⟨λb o e n hb hx=>?_,λb o e n hb hx=>?_,I.base.free,λb o e hx=>?_,I.base.tups,I.base.frzs,I.base.tbls⟩,⟨_,hn',λj y v' e1 e2 e3=>?_⟩,λy c e=>?_,I.free,I.freeC,λp hp=>?_,tracked ⟨oL,hoL,I.free⟩ hs,by simpa using I.len⟩ ⟨_,hs, .inl rfl⟩
  ·exact (hs.2 b (Nat.ne_of_lt (Nat.lt_of_lt_of_le (Heap.lt_size e) I.ok.above))).trans (I.base.keep b o e n hb hx)
  ·obtain ⟨sl,e1⟩:=I.base.slot b o e n hb hx;exact ⟨sl,(hs.2 b (Nat.ne_of_lt (Nat.lt_of_lt_of_le (Heap.lt_size e) I.ok.above))).trans e1⟩
  ·obtain ⟨o',e1⟩:=I.base.there b o e hx;exact ⟨o',(hs.2 b (Nat.ne_of_lt (Nat.lt_of_lt_of_le (Heap.lt_size e) I.ok.above))).trans e1⟩
  ·by_cases hj:j=i
   ·subst hj;rw [hi] at e1;cases e1
    rw [List.getElem?_set_self hiσ] at e2;cases e2
    exact ⟨u,r, .inl ⟨hk,by simp⟩⟩
   ·rw [List.getElem?_set_ne (Ne.symm hj)] at e2;obtain ⟨u',r',q⟩:=hl j y v' e1 e2 e3;refine ⟨u',r',?_⟩
    rcases q with ⟨k,e⟩ | ⟨k,c,e,z⟩
    ·refine .inl ⟨k,?_⟩;have:y≠x:=λe=>hj (a7o hN e1 (e ▸ hi));simp [this,e]
    ·exact .inr ⟨k,c,e,z.sameBut hs (cne y c e)⟩
  ·obtain ⟨w',z⟩:=I.cell y c e;exact ⟨w',z.sameBut hs (cne y c e)⟩
  ·obtain ⟨e,n,ne,nf,d⟩:=I.pin p hp;exact ⟨(hs.2 p.1 ne).trans e,n,ne,nf,d⟩
 ·have hfn:X.fn x=true:=by
   rcases hf with z | z
   ·exact z
   ·rw [z] at hk;cases hk
  obtain ⟨c,hc⟩:=I.ok.has x (.inl hk);obtain ⟨w',z⟩:=I.cell x c hc;refine wpAny_storeName_cell I.ok.kind hk hc z (λh' hc' hs=>?_);obtain ⟨oc,hoc,hocd⟩:=id z;refine h { s with heap:=h' } ⟨I.ok,I.os,I.bare,⟨λb o e n hb hx=>?_,λb o e n hb hx=>?_,I.base.free,λb o e hx=>?_,I.base.tups,I.base.frzs,I.base.tbls⟩,⟨m,hn.sameBut hs (Ne.symm (cne x c hc)),λj y v' e1 e2 e3=>?_⟩,λy c' e=>?_,I.free,I.freeC,λp hp=>?_,tracked ⟨oc,hoc,I.freeC x c hc⟩ hs,by simpa using I.len⟩ ⟨c,hs, .inr hc⟩
  ·exact (hs.2 b (Nat.ne_of_lt (Nat.lt_of_lt_of_le (Heap.lt_size e) (I.ok.cab x c hfn hc)))).trans (I.base.keep b o e n hb hx)
  ·obtain ⟨sl,e1⟩:=I.base.slot b o e n hb hx;exact ⟨sl,(hs.2 b (Nat.ne_of_lt (Nat.lt_of_lt_of_le (Heap.lt_size e) (I.ok.cab x c hfn hc)))).trans e1⟩
  ·obtain ⟨o',e1⟩:=I.base.there b o e hx;exact ⟨o',(hs.2 b (Nat.ne_of_lt (Nat.lt_of_lt_of_le (Heap.lt_size e) (I.ok.cab x c hfn hc)))).trans e1⟩
  ·by_cases hj:j=i
   ·subst hj;rw [hi] at e1;cases e1
    rw [List.getElem?_set_self hiσ] at e2;cases e2
    exact ⟨u,r, .inr ⟨.inl hk,c,hc,hc'⟩⟩
   ·rw [List.getElem?_set_ne (Ne.symm hj)] at e2;obtain ⟨u',r',q⟩:=hl j y v' e1 e2 e3;refine ⟨u',r',?_⟩
    rcases q with q | ⟨k,c',e,z'⟩
    ·exact .inl q
    ·refine .inr ⟨k,c',e,z'.sameBut hs ?_⟩
     rintro rfl
     exact hj (a7o hN e1 (I.ok.inj _ _ _ e hc ▸ hi))
  ·by_cases hcc:c'=c
   ·subst hcc;exact ⟨_,hc'⟩
   ·obtain ⟨w2,z2⟩:=I.cell y c' e;exact ⟨w2,z2.sameBut hs hcc⟩
  ·obtain ⟨e,n,ne,nf,d⟩:=I.pin p hp;refine ⟨(hs.2 p.1 ?_).trans e,n,ne,nf,d⟩
   intro q
   rw [q,hoc] at e;have q':oc=p.2:=Option.some.inj e;exact d w' (by rw [<-q'];exact hocd)
theorem a7p{M:Model}{A:Around}{E:Value->Shared->Prop}{i:Nat}{x:Str}{v:V}{u:Value}{Q:Unit->Shared->Prop}(I:Inv X pins σ H s)(hN:X.N.Nodup)(hi:X.N[i]? = some x)(hx:Loc X.env.scope x)(r:RelV v u)
  (h:∀ s',Inv X pins (σ.set i (some v)) H s'->Q () s') (hf:X.fn x=true\/X.env.scope.names.lookup x=some .local:=by first | exact .inl rfl | exact .inr rfl | assumption):wpAny M A (storeName X.env x u) Q E s :=
 a5r I hN hi hx r (λs' I' _=>h s' I') hf
end
abbrev XK:=Value->Option Addr->Hp->Prop
abbrev St:=List (Option V)
abbrev VK:=V->Hp->Prop
abbrev TE:=St->Hp->VK->Prop
abbrev TT:=St->Hp->(Bool->Hp->Prop)->Prop
abbrev TA:=St->Hp->(List V->Hp->Prop)->Prop
structure Ends where
 nx:St->Hp->Prop
 rt:VK
 bk:St->Hp->Prop:=λ_ _=>False
 ct:St->Hp->Prop:=λ_ _=>False
abbrev TS:=Ends->St->Hp->Prop
def EP(X:Cx)(pins:List (Addr × Obj))(σ:St)(Q:VK)(u:Value)(s':Shared):Prop:=∃ v H',Inv X pins σ H' s'/\RelV v u/\Q v H'
def TP(X:Cx)(pins:List (Addr × Obj))(σ:St)(Q:Bool->Hp->Prop)(b:Bool)(s':Shared):Prop:=∃ H',Inv X pins σ H' s'/\Q b H'
def AP(X:Cx)(pins:List (Addr × Obj))(σ:St)(Q:List V->Hp->Prop)(us:List Value)(s':Shared):Prop:=∃ vs H',Inv X pins σ H' s'/\Vals vs us/\Q vs H'
def SP(X:Cx)(pins:List (Addr × Obj))(D:Ends)(f:Flow)(s':Shared):Prop :=
 match f with
 | .next=>∃ σ' H',Inv X pins σ' H' s'/\D.nx σ' H'
 | .brk=>∃ σ' H',Inv X pins σ' H' s'/\D.bk σ' H'
 | .cont=>∃ σ' H',Inv X pins σ' H' s'/\D.ct σ' H'
 | .ret u=>∃ v σ' H',Inv X pins σ' H' s'/\RelV v u/\D.rt v H'
def PE(X:Cx)(e:Expr)(t:TE):Prop :=
 ∀ (pins:List (Addr × Obj)) (s:Shared) (σ:St) (H:Hp) (Q:VK),Inv X pins σ H s->t σ H Q->wpAny (model X.prog X.w) X.A (eval e X.env) (EP X pins σ Q) X.xe s
def PT(X:Cx)(e:Expr)(t:TT):Prop :=
 ∀ (pins:List (Addr × Obj)) (s:Shared) (σ:St) (H:Hp) (Q:Bool->Hp->Prop),Inv X pins σ H s->t σ H Q->wpAny (model X.prog X.w) X.A (isTrue e X.env (eval e X.env)) (TP X pins σ Q) X.xe s
def PW(X:Cx)(e:Expr)(t:TT):Prop :=
 ∀ (whole:Sem Value) (pins:List (Addr × Obj)) (s:Shared) (σ:St) (H:Hp) (Q:Bool->Hp->Prop),Inv X pins σ H s->t σ H Q->wpAny (model X.prog X.w) X.A (isTrue e X.env whole) (TP X pins σ Q) X.xe s
theorem PW.pt{X:Cx}{e:Expr}{t:TT}(h:PW X e t):PT X e t:=h _
def PA(X:Cx)(es:List Expr)(t:TA):Prop :=
 ∀ (pos:Pos) (pins:List (Addr × Obj)) (s:Shared) (σ:St) (H:Hp) (Q:List V->Hp->Prop),Inv X pins σ H s->t σ H Q->wpAny (model X.prog X.w) X.A (spliced (backTo pos (starEach es X.env))) (AP X pins σ Q) X.xe s
def PS(X:Cx)(st:Stmt)(t:TS):Prop :=
 ∀ (pins:List (Addr × Obj)) (s:Shared) (σ:St) (H:Hp) (D:Ends),Inv X pins σ H s->t D σ H->wpAny (model X.prog X.w) X.A (exec st X.env) (SP X pins D) X.xe s
def PSs(X:Cx)(st:List Stmt)(t:TS):Prop :=
 ∀ (pins:List (Addr × Obj)) (s:Shared) (σ:St) (H:Hp) (D:Ends),Inv X pins σ H s->t D σ H->wpAny (model X.prog X.w) X.A (execs st X.env) (SP X pins D) X.xe s
theorem thn{α:Type}{t:Sem α}{Q Q':α->Shared->Prop}{M:Model}{A:Around}{E:Value->Shared->Prop}{s:Shared}(h:wpAny M A t Q E s)(hQ:∀ a s,Q a s->Q' a s):wpAny M A t Q' E s:=wpAny_mono h hQ λ_ _ x=>x
section
variable{X:Cx}
def aoc(i:Nat):TE:=λσ H Q=>∃ v,σ[i]? = some (some v)/\Q v H
def tC(v:V):TE:=λ_ H Q=>Q v H
theorem ai8{i:Nat}{x:Str}{pos:Pos}(hN:X.N[i]? = some x)(hv:Vis X.env.scope x)(hd:(x == ("__debug__" : Str))=false:=by decide)(hcd:(x == ("__classdict__" : Str))=false:=by decide):PE X (.Name x pos) (aoc i):=by
 intro pins s σ H Q I h
 obtain ⟨v,e,h⟩:=h;obtain ⟨m,hn,hl⟩:=I.loc;obtain ⟨u,r,l⟩:=hl i x v hN e hv;have fin:EP X pins σ Q u s:=⟨v,H,I,r,h⟩
 rcases l with ⟨hk,hm⟩ | ⟨hk,c,hc,hcell⟩
 ·exact wpAny_Name (wpAny_loadName_local I.ok.kind hk hn hm fin) hd
 ·rcases hk with hk | hk
  ·exact wpAny_Name (wpAny_loadName_cell I.ok.kind hk hc hcell fin) hd
  ·exact wpAny_Name (wpAny_loadName_free I.ok.kind hk hc hcell fin hcd) hd
theorem ai9{i j pos}:PE X (.Constant (.int i) j pos) (tC (.int i)):=λ_ _ _ H _ I h=>wpAny_Constant_int ⟨.int i,H,I.tok _,⟨_,rfl⟩,h⟩
theorem am0{b j pos}:PE X (.Constant (.bool b) j pos) (tC (.bl b)):=λ_ _ _ H _ I h=>Constant_bool ⟨.bl b,H,I,rfl,h⟩
theorem aia{j pos}:PE X (.Constant .none j pos) (tC .non):=λ_ _ _ H _ I h=>Constant_none ⟨.non,H,I,rfl,h⟩
theorem aib{x j pos}:PE X (.Constant (.str x) j pos) (tC (.str x)):=λ_ _ _ H _ I h=>Calls.Constant_str ⟨.str x,H,I.tok _,⟨_,rfl⟩,h⟩
def Gl(X:Cx)(x:Str):Prop:=X.env.kindOf x=some .globalImplicit
theorem a9t{E:Value->Shared->Prop}{pins:List (Addr × Obj)}{s:Shared}{σ:St}{H:Hp}{x:Str}{u:Value}{pos:Pos}{Q:Value->Shared->Prop}(I:Inv X pins σ H s)(hg:Gl X x)(hm:X.mg x=some u)(h:Q u s)
  (hd:(x == ("__debug__" : Str))=false:=by decide):wpAny (model X.prog X.w) X.A (eval (.Name x pos) X.env) Q E s :=
 Calls.Name_function_global I.ok.kind hg (Calls.loadGlobal_global (by rw [I.ok.glob];exact I.mod.glob.keeps I.bk) hm h) hd
theorem a5s{E:Value->Shared->Prop}{pins:List (Addr × Obj)}{s:Shared}{σ:St}{H:Hp}{x:Str}{u:Value}{pos:Pos}{Q:Value->Shared->Prop}(I:Inv X pins σ H s)(hg:Gl X x)(hm:X.mg x=none)(hv:bootBuiltins x=some u)(h:Q u s)
  (hn:x ≠ "__name__":=by decide) (hd:(x == ("__debug__" : Str))=false:=by decide):wpAny (model X.prog X.w) X.A (eval (.Name x pos) X.env) Q E s:=by
 obtain ⟨mb,h1,h2⟩:=I.mod.blt;exact Calls.Name_function_global I.ok.kind hg (Calls.loadGlobal_builtin (by rw [I.ok.glob];exact I.mod.glob.keeps I.bk) hm (by rw [I.ok.blt];exact h1.keeps I.bk) ((h2 x hn).trans hv) h) hd
theorem afm{x:Str}{v:V}{u:Value}{pos:Pos}(hg:Gl X x)(hm:X.mg x=none)(hv:bootBuiltins x=some u)(r:RelV v u)(hn:x ≠ "__name__":=by decide)(hd:(x == ("__debug__" : Str))=false:=by decide):PE X (.Name x pos) (tC v) :=
 λ_ _ _ H _ I h=>a5s I hg hm hv ⟨v,H,I,r,h⟩ hn hd
variable{a b:Expr}{ta tb:TE}{pos:Pos}
variable{tA tB':TT}{rest:List Expr}
def aod(t u:TT):TT:=λσ H Q=>t σ H λc H1=>if c=true then u σ H1 Q else Q false H1
def tOr(t u:TT):TT:=λσ H Q=>t σ H λc H1=>if c=true then Q true H1 else u σ H1 Q
def aoe(t:TT):TT:=λσ H Q=>t σ H λc H1=>Q (!c) H1
theorem afn(ha:PT X a tA):PW X (.BoolOp .And [a] pos) tA:=by
 intro wh pins s σ H Q I h
 refine isTrue_and (thn (ha pins s σ H Q I h) λc s1 e=>?_)
 cases c with
 | true=>exact isTrue_and_nil e
 | false=>exact e
theorem aic(ha:PT X a tA):PW X (.BoolOp .Or [a] pos) tA:=by
 intro wh pins s σ H Q I h
 refine isTrue_or (thn (ha pins s σ H Q I h) λc s1 e=>?_)
 cases c with
 | false=>exact isTrue_or_nil e
 | true=>exact e
theorem aid(ha:PT X a tA)(hb:PW X (.BoolOp .And (b::rest) pos) tB'):PW X (.BoolOp .And (a::b::rest) pos) (aod tA tB'):=by
 intro wh pins s σ H Q I h
 refine isTrue_and (thn (ha pins s σ H _ I h) λc s1 ⟨H1,I1,q1⟩=>?_)
 cases c with
 | true=>exact hb wh pins s1 σ H1 Q I1 q1
 | false=>exact ⟨H1,I1,q1⟩
theorem am1(ha:PT X a tA)(hb:PW X (.BoolOp .Or (b::rest) pos) tB'):PW X (.BoolOp .Or (a::b::rest) pos) (tOr tA tB'):=by
 intro wh pins s σ H Q I h
 refine isTrue_or (thn (ha pins s σ H _ I h) λc s1 ⟨H1,I1,q1⟩=>?_)
 cases c with
 | true=>exact ⟨H1,I1,q1⟩
 | false=>exact hb wh pins s1 σ H1 Q I1 q1
theorem aie(ha:PT X a tA):PT X (.UnaryOp .Not a pos) (aoe tA):=by
 intro pins s σ H Q I h
 exact isTrue_not (ha pins s σ H (λc H1=>Q (!c) H1) I h)
def am2(ta tb:TE):TE:=λσ H Q=>ta σ H λx H1=>∃ c,x = .bl c/\if c=true then tb σ H1 Q else Q (.bl false) H1
def am3(ta:TE):TE:=λσ H Q=>ta σ H λx H1=>∃ c,x = .bl c/\Q (.bl (!c)) H1
theorem aif{op}{t:TE}(h:PE X a t):PE X (.BoolOp op [a] pos) t:=λpins s σ H Q I hw=>BoolOp_one (h pins s σ H Q I hw)
theorem aig(ha:PE X a ta)(hb:PE X (.BoolOp .And (b::rest) pos) tb):PE X (.BoolOp .And (a::b::rest) pos) (am2 ta tb):=by
 intro pins s σ H Q I h
 refine BoolOp_and (thn (ha pins s σ H _ I h) λv s1 ⟨x,H1,I1,r1,q1⟩=>?_);obtain ⟨c,rfl,q1⟩:=q1;cases r1
 refine wpAny_truthy_bool ?_
 cases c with
 | true=>exact hb pins s1 σ H1 Q I1 q1
 | false=>exact ⟨.bl false,H1,I1,rfl,q1⟩
theorem aih(ha:PE X a ta):PE X (.UnaryOp .Not a pos) (am3 ta):=by
 intro pins s σ H Q I h
 refine UnaryOp_ (thn (ha pins s σ H _ I h) λv s1 ⟨x,H1,I1,r1,q1⟩=>?_);obtain ⟨c,rfl,q1⟩:=q1;cases r1
 exact not_of (wpAny_truthy_bool ⟨.bl (!c),H1,I1,rfl,q1⟩)
def tIf(t:TT)(ta tb:TE):TE:=λσ H Q=>t σ H λc H1=>if c=true then ta σ H1 Q else tb σ H1 Q
theorem aca{c:Expr}(hc:PT X c tA)(ha:PE X a ta)(hb:PE X b tb):PE X (.IfExp c a b pos) (tIf tA ta tb):=by
 intro pins s σ H Q I h
 refine wpAny_IfExp (thn (hc pins s σ H _ I h) λd s1 ⟨H1,I1,q1⟩=>?_)
 cases d with
 | true=>exact ha pins s1 σ H1 Q I1 q1
 | false=>exact hb pins s1 σ H1 Q I1 q1
end
def SqL(K:PySem.W.Frag)(H:Hp)(a:Addr)(xs:List V):Prop :=
 Rd H a (.lst xs) \/
  ∃ (o:Obj) (its:Array Value) (n:Nat),K.lookup a=some o/\o.cls = .type "list"/\o.dict=none/\o.data = .seq its n/\its.size<=sizeLine/\Vals xs its.toList
def SqT(K:PySem.W.Frag)(H:Hp)(a:Addr)(xs:List V):Prop :=
 Rd H a (.tup xs) \/
  ∃ (o:Obj) (its:Array Value) (n:Nat),K.lookup a=some o/\o.cls = .type "tuple"/\o.data = .seq its n/\its.size<=sizeLine/\Vals xs its.toList
def aog:Value->Option V
 | .none=>some .non
 | .bool b=>some (.bl b)
 | .int i _=>some (.int i)
 | .str x _=>some (.str x)
 | .bytes b _=>some (.byt b)
 | .float b _=>some (.flt b)
 | .ref a=>some (.ref a)
 | .type n=>some (.ty n)
 | _=>none
theorem RelV.abs{x:V}{u:Value}(r:RelV x u):aog u=some x:=by
 cases x with
 | non=>cases r;rfl
 | bl _=>cases r;rfl
 | int _=>obtain ⟨t,rfl⟩:=r;rfl
 | str _=>obtain ⟨t,rfl⟩:=r;rfl
 | byt _=>obtain ⟨t,rfl⟩:=r;rfl
 | flt _=>obtain ⟨t,rfl⟩:=r;rfl
 | ref _=>cases r;rfl
 | ty _=>cases r;rfl
theorem RelV.inj{x y:V}{u:Value}(r:RelV x u)(q:RelV y u):x=y:=Option.some.inj (r.abs.symm.trans q.abs)
theorem Vals.inj:∀ {xs ys:List V} {us:List Value},Vals xs us->Vals ys us->xs=ys
 | _,_,_, .nil, .nil=>rfl
 | _,_,_, .cons r t, .cons r' t'=>by rw [r.inj r',Vals.inj t t']
section
variable{X:Cx}{pins:List (Addr × Obj)}{σ:St}{H:Hp}{s:Shared}{a:Addr}{xs ys:List V}
theorem SqL.of{K:PySem.W.Frag}(h:H a=some (.lst xs)):SqL K H a xs:=.inl (.inl h)
theorem SqT.of{K:PySem.W.Frag}(h:H a=some (.tup xs)):SqT K H a xs:=.inl (.inl h)
theorem Inv.list(I:Inv X pins σ H s)(h:SqL X.K H a xs):∃ its:List Value,Vals xs its/\PlainL s.heap a its.toArray/\xs.length<=sizeLine:=by
 rcases h with h | ⟨o,its,n,hk,hc,hd,hs,hz,r⟩
 ·obtain ⟨z,its,n,r,e⟩:=h.ok I.hok;exact ⟨its,r,⟨_,n,e,rfl,rfl,rfl⟩,z⟩
 ·refine ⟨its.toList,r,⟨o,n,I.kIn a o hk,hc,hd,by simpa using hs⟩,?_⟩
  have e:=r.length;simp only [Array.length_toList] at e;omega
theorem Inv.tuple(I:Inv X pins σ H s)(h:SqT X.K H a xs):∃ its:List Value,Vals xs its/\IsTup s.heap a its.toArray/\xs.length<=sizeLine:=by
 rcases h with h | ⟨o,its,n,hk,hc,hs,hz,r⟩
 ·obtain ⟨z,its,r,p⟩:=h.ok I.hok;exact ⟨its,r,p,z⟩
 ·refine ⟨its.toList,r,⟨o,I.kIn a o hk,hc,n,by simpa using hs⟩,?_⟩
  have e:=r.length;simp only [Array.length_toList] at e;omega
theorem Inv.list_inj(I:Inv X pins σ H s)(h:SqL X.K H a xs)(h':SqL X.K H a ys):xs=ys:=by
 obtain ⟨its,r,⟨o,n,e,_,_,d⟩,_⟩:=I.list h;obtain ⟨its',r',⟨o',n',e',_,_,d'⟩,_⟩:=I.list h';rw [e] at e';cases e'
 rw [d] at d'
 injection d' with d1 _
 have:its=its':=by simpa using congrArg Array.toList d1
 subst this;exact r.inj r'
theorem Inv.tuple_inj(I:Inv X pins σ H s)(h:SqT X.K H a xs)(h':SqT X.K H a ys):xs=ys:=by
 obtain ⟨its,r,⟨o,e,_,n,d⟩,_⟩:=I.tuple h;obtain ⟨its',r',⟨o',e',_,n',d'⟩,_⟩:=I.tuple h';rw [e] at e';cases e'
 rw [d] at d'
 injection d' with d1 _
 have:its=its':=by simpa using congrArg Array.toList d1
 subst this;exact r.inj r'
end
abbrev Cx.wish(X:Cx)(E:Value->Shared->Prop):Cx:={ X with xe:=E }
abbrev Cx.nox(X:Cx):Cx:=X.wish λ_ _=>False
theorem Cx.Ok.wish{X:Cx}(ok:X.Ok)(E:Value->Shared->Prop):(X.wish E).Ok :=
 ⟨ok.mod,ok.kind,ok.glob,ok.blt,ok.above,ok.inj,ok.has,ok.cab,ok.hd,ok.frames,ok.stk,ok.exf,ok.bs,ok.bsz,ok.noex,ok.exfs,ok.funs,ok.frf⟩
theorem Cx.Ok.unwish{X:Cx}{E:Value->Shared->Prop}(ok:(X.wish E).Ok):X.Ok :=
 ⟨ok.mod,ok.kind,ok.glob,ok.blt,ok.above,ok.inj,ok.has,ok.cab,ok.hd,ok.frames,ok.stk,ok.exf,ok.bs,ok.bsz,ok.noex,ok.exfs,ok.funs,ok.frf⟩
section
variable{X:Cx}{pins:List (Addr × Obj)}{σ:St}{H:Hp}{s:Shared}{E:Value->Shared->Prop}
theorem Inv.wish(I:Inv X pins σ H s)(E:Value->Shared->Prop):Inv (X.wish E) pins σ H s:=⟨I.ok.wish E,I.os,I.bare,I.base,I.loc,I.cell,I.free,I.freeC,I.pin,I.hok,I.len⟩
theorem Inv.unwish(I:Inv (X.wish E) pins σ H s):Inv X pins σ H s:=⟨I.ok.unwish,I.os,I.bare,I.base,I.loc,I.cell,I.free,I.freeC,I.pin,I.hok,I.len⟩
theorem SP.unwish{D:Ends}{f:Flow}{s':Shared}(h:SP (X.wish E) pins D f s'):SP X pins D f s':=by
 cases f with
 | next=>obtain ⟨σ',H',I,q⟩:=h;exact ⟨σ',H',I.unwish,q⟩
 | brk=>obtain ⟨σ',H',I,q⟩:=h;exact ⟨σ',H',I.unwish,q⟩
 | cont=>obtain ⟨σ',H',I,q⟩:=h;exact ⟨σ',H',I.unwish,q⟩
 | ret u=>obtain ⟨v,σ',H',I,r,q⟩:=h;exact ⟨v,σ',H',I.unwish,r,q⟩
theorem PSs.nox{st:List Stmt}{t:TS}(h:PSs X.nox st t):PSs X st t:=λpins s σ H D I hw =>
 wpAny_mono (h pins s σ H D (I.wish _) hw) (λ_ _ q=>q.unwish) λ_ _ z=>False.elim z
end
section
variable{X:Cx}{st:Stmt}{rest:List Stmt}{t u:TS}{e:Expr}{te:TE}{pos:Pos}
def am4:TS:=λD σ H=>D.nx σ H
def aoh(t u:TS):TS:=λD σ H=>t { D with nx:=u D } σ H
theorem afo:PSs X [] am4:=λ_ _ σ H _ I h=>wpAny_execs_nil ⟨σ,H,I,h⟩
theorem acb(h1:PS X st t)(h2:PSs X rest u):PSs X (st::rest) (aoh t u):=by
 intro pins s σ H D I h
 refine wpAny_execs_cons (thn (h1 pins s σ H { D with nx:=u D } I h) λf s1 q=>?_)
 cases f with
 | next =>
  obtain ⟨σ',H',I',q⟩:=q;exact h2 pins s1 σ' H' D I' q
 | ret v=>exact q
 | brk=>exact q
 | cont=>exact q
theorem afp(h1:PS X st t):PSs X [st] t:=by
 intro pins s σ H D I h
 refine wpAny_execs_cons (thn (h1 pins s σ H D I h) λf s1 q=>?_)
 cases f with
 | next=>exact wpAny_execs_nil q
 | ret v=>exact q
 | brk=>exact q
 | cont=>exact q
theorem Inv.quiet{pins:List (Addr × Obj)}{σ:St}{H:Hp}{s:Shared}(I:Inv X pins σ H s):interactive X.env=false:=by simp [interactive,I.ok.kind]
def am5(te:TE):TS:=λD σ H=>te σ H λ_ H1=>D.nx σ H1
theorem afq(he:PE X e te)(hs:swapsWith e none pos.line X.env=pure false:=by rfl):PS X (.Expr e pos) (am5 te):=by
 intro pins s σ H D I h
 exact wpAny_Expr_any (thn (he pins s σ H _ I h) λv s1 ⟨x,H1,I1,r1,q1⟩=>⟨σ,H1,I1,q1⟩) I.quiet hs
def aoi(te:TE):TS:=λD σ H=>te σ H D.rt
theorem aii(he:PE X e te):PS X (.Return (some e) pos) (aoi te):=by
 intro pins s σ H D I h
 exact wpAny_Return_some (thn (he pins s σ H _ I h) λv s1 ⟨x,H1,I1,r1,q1⟩=>⟨x,σ,H1,I1,r1,q1⟩)
def aoj(c:TT)(t u:TS):TS:=λD σ H=>c σ H λb H1=>if b=true then t D σ H1 else u D σ H1
theorem am6{c:Expr}{a b:List Stmt}{tc:TT}(hc:PT X c tc)(ha:PSs X a t)(hb:PSs X b u):PS X (.If c a b pos) (aoj tc t u):=by
 intro pins s σ H D I h
 refine wpAny_If (thn (hc pins s σ H _ I h) λd s1 ⟨H1,I1,q1⟩=>?_)
 cases d with
 | true=>exact ha pins s1 σ H1 D I1 q1
 | false=>exact hb pins s1 σ H1 D I1 q1
end
abbrev TG:=V->St->Hp->(St->Hp->Prop)->Prop
abbrev TGs:=List V->St->Hp->(St->Hp->Prop)->Prop
def PG(X:Cx)(target:Expr)(t:TG):Prop :=
 ∀ (pins:List (Addr × Obj)) (s:Shared) (σ:St) (H:Hp) (v:V) (u:Value) (Q:St->Hp->Prop),Inv X pins σ H s->RelV v u->t v σ H Q->
  wpAny (model X.prog X.w) X.A (assign target X.env u) (λ_ s'=>∃ σ' H',Inv X pins σ' H' s'/\Q σ' H') X.xe s
def PGs(X:Cx)(ts:List Expr)(t:TGs):Prop :=
 ∀ (pins:List (Addr × Obj)) (s:Shared) (σ:St) (H:Hp) (vs:List V) (us:List Value) (Q:St->Hp->Prop),Inv X pins σ H s->Vals vs us->t vs σ H Q->
  wpAny (model X.prog X.w) X.A (assignInOrder ((assignEach ts X.env).map (·.2)) us) (λ_ s'=>∃ σ' H',Inv X pins σ' H' s'/\Q σ' H') X.xe s
abbrev am7:=V->V->V->Hp->(Hp->Prop)->Prop
def ang(X:Cx)(t:am7):Prop :=
 ∀ (pins:List (Addr × Obj)) (s:Shared) (σ:St) (H:Hp) (o i v:V) (ov iv u:Value) (Q:Hp->Prop),Inv X pins σ H s->RelV o ov->RelV i iv->RelV v u->t o i v H Q->
  wpAny (model X.prog X.w) X.A (setItem ov iv u) (λ_ s'=>∃ H',Inv X pins σ H' s'/\Q H') X.xe s
section
variable{X:Cx}{pos:Pos}
def a6y(i:Nat):TG:=λv σ H Q=>Q (σ.set i (some v)) H
theorem ye{i:Nat}{x:Str}(hN:X.N.Nodup)(hi:X.N[i]? = some x)(hx:Loc X.env.scope x)(hf:X.fn x=true\/X.env.scope.names.lookup x=some .local:=by first | exact .inl rfl | exact .inr rfl | assumption):PG X (.Name x pos) (a6y i):=by
 intro pins s σ H v u Q I r h
 exact wpAny_assign_Name (a7p I hN hi hx r (λs' I'=>⟨_,H,I',h⟩) hf)
def anh:TGs:=λvs σ H Q=>vs=[]/\Q σ H
def acd(t:TG)(u:TGs):TGs:=λvs σ H Q=>∃ v r,vs=v::r/\t v σ H λσ' H'=>u r σ' H' Q
theorem a9u:PGs X [] anh:=by
 intro pins s σ H vs us Q I r h
 obtain ⟨e,h⟩:=h;subst e;cases r
 exact assignInOrder_nil ⟨σ,H,I,h⟩
theorem a3u{e:Expr}{es:List Expr}{t:TG}{u:TGs}(h1:PG X e t)(h2:PGs X es u)
  (hs:(assignEach (e::es) X.env).map (·.2)=assign e X.env::(assignEach es X.env).map (·.2):=by rfl):PGs X (e::es) (acd t u):=by
 intro pins s σ H vs us Q I r h
 obtain ⟨v,vr,e1,h⟩:=h;subst e1
 cases r with
 | cons r rr =>
  rw [hs];refine assignInOrder_cons (thn (h1 pins s σ H _ _ _ I r h) λ_ s1 ⟨σ1,H1,I1,q1⟩=>?_);exact h2 pins s1 σ1 H1 _ _ Q I1 rr q1
def qb(K:PySem.W.Frag)(n:Nat)(t:TGs):TG:=λv σ H Q=>∃ a xs,v = .ref a/\SqT K H a xs/\xs.length=n/\t xs σ H Q
theorem aeg{es:List Expr}{k:Nat}{t:TGs}{n:Nat}(hc:X.calm=true)(h:PGs X es t)
  (hn:(assignEach es X.env).length=n:=by rfl) (hst:(assignEach es X.env).findIdx? (·.1)=none:=by rfl):PG X (.Tuple es k pos) (qb X.K n t):=by
 intro pins s σ H v u Q I r hw
 obtain ⟨a,xs,e1,hq,hl,hw⟩:=hw;subst e1;cases r
 obtain ⟨its,rv,ht,hz⟩:=I.tuple hq;refine assign_Tuple_tuple (I.ok.hd hc) ht (by simp [hn,<-hl,rv.length]) hst λh' hx=>?_
 have I1:Inv X pins σ H { s with heap:=h' }:=I.kept (t':=s.toks) λb o e=>hx b o (Nat.ne_of_lt (Heap.lt_size e)) e
 exact h pins _ σ H xs _ Q I1 (by simpa using rv) hw
def a3d(to ti:TE)(t:am7):TG:=λv σ H Q=>to σ H λo H1=>ti σ H1 λi H2=>t o i v H2 λH3=>Q σ H3
theorem aij{o i:Expr}{to ti:TE}{t:am7}(ho:PE X o to)(hi:PE X i ti)(hs:ang X t)
  (ha:∀ v,assign (.Subscript o i pos) X.env v=(do
   let ov <-holding [v] (eval o X.env)
   let iv <-holding [v,ov] (eval i X.env)
   standAt pos
   holding [v,ov,iv] (setItem ov iv v)
   release [v,ov,iv] []):=by intro _;rfl):PG X (.Subscript o i pos) (a3d to ti t):=by
 intro pins s σ H v u Q I r h
 rw [ha];refine wpAny_bind (wpAny_holding (thn (ho pins s σ H _ I h) λov s1 ⟨x,H1,I1,r1,q1⟩=>?_));refine wpAny_bind (wpAny_holding (thn (hi pins s1 σ H1 _ I1 q1) λiv s2 ⟨y,H2,I2,r2,q2⟩=>?_));refine wpAny_bind (wpAny_standAt (wpAny_bind (wpAny_holding (thn (hs pins s2 σ H2 x y v ov iv u _ I2 r1 r2 r q2) λ_ s3 ⟨H3,I3,q3⟩=>?_))));exact wpAny_release ⟨σ,H3,I3,q3⟩
def am8(te:TE)(g:TG):TS:=λD σ H=>te σ H λx H1=>g x σ H1 D.nx
theorem aik{tg e:Expr}{te:TE}{g:TG}(he:PE X e te)(hg:PG X tg g)(hs:swapsWithSole [tg] e pos.line X.env=pure false:=by rfl)(hw:swappedStores [tg] e X.env=pure none:=by rfl)
  (h1:(assignEach [tg] X.env).map (·.2)=[assign tg X.env]:=by rfl):PS X (.Assign [tg] e pos) (am8 te g):=by
 intro pins s σ H D I h
 refine wpAny_Assign_stores (thn (he pins s σ H _ I h) λv s1 ⟨x,H1,I1,r1,q1⟩=>?_) hs hw;rw [h1];exact thn (hg pins s1 σ H1 x v _ I1 r1 q1) λ_ s2 q=>q
theorem ail{i:Nat}{x:Str}{e:Expr}{te:TE}{pos':Pos}(hN:X.N.Nodup)(hi:X.N[i]? = some x)(hx:Loc X.env.scope x)(he:PE X e te)(hs:swapsWith e (some (.Name x pos')) pos.line X.env=pure false:=by rfl)(hf:X.fn x=true\/X.env.scope.names.lookup x=some .local:=by first | exact .inl rfl | exact .inr rfl | assumption) :
  PS X (.Assign [.Name x pos'] e pos) (am8 te (a6y i)):=by
 intro pins s σ H D I h
 refine wpAny_Assign_Name (thn (he pins s σ H _ I h) λv s1 ⟨y,H1,I1,r1,q1⟩=>?_) hs;exact a7p I1 hN hi hx r1 (λs2 I2=>⟨_,H1,I2,q1⟩) hf
end
structure It where
 go:Nat->Hp->Prop
 yld:Nat->Hp->V->Hp->Prop
 stop:Nat->Hp->Prop
def a7q(X:Cx)(pins:List (Addr × Obj))(H:Hp)(b:Addr):Prop :=
 H b=none/\b≠X.env.locals/\b ∉ X.fs/\(b∈X.ex\/X.s₀.heap.objs.size<=b)/\(∀ x c,X.env.cells.lookup x=some c->c≠b)/\∀ p∈X.pn++pins,p.1≠b
theorem Inv.fpOk{X:Cx}{pins:List (Addr × Obj)}{σ:St}{H H':Hp}{s:Shared}{b:Addr}(I:Inv X pins σ H s)(hb:s.heap.objs.size<=b)(hn:H' b=none):a7q X pins H' b:=by
 refine ⟨hn,Nat.ne_of_gt (Nat.lt_of_lt_of_le I.lt hb),I.nofs hb, .inr (Nat.le_trans I.sz hb),λx c e z=>?_,λp hp z=>?_⟩
 ·obtain ⟨v,q⟩:=I.cell x c e;exact absurd (Nat.lt_of_lt_of_le q.lt (by rw [z];exact hb)) (Nat.lt_irrefl _)
 ·exact absurd (Nat.lt_of_lt_of_le (Heap.lt_size (I.pin p hp).1) (by rw [z];exact hb)) (Nat.lt_irrefl _)
structure Turn (P:Program) (w:World) (K:PySem.W.Frag) (tg:Expr) (J:It) (fp:List Addr) (it:Addr) (tn:Nat->Heap->Prop):Prop where
 mem:it∈fp
 obj:∀ i h,tn i h->∀ b∈fp,∃ o,h.get? b=some o/\∀ v,o.data≠.cell v
 keep:∀ i h h',tn i h->(∀ b∈fp,∀ o,h.get? b=some o->h'.get? b=some o)->tn i h'
 item:∀ (X:Cx),X.prog=P->X.w=w->X.K=K->X.calm=true->∀ (i:Nat) (pins:List (Addr × Obj)) (s:Shared) (σ:St) (H:Hp) (E:Value->Shared->Prop),Inv X pins σ H s->(∀ b∈fp,a7q X pins H b)->tn i s.heap->J.go i H->
  wpAny (model P w) X.A (pyNext (.ref it)) (λr s1=>∃ u,r=some u /\
   wpAny (model P w) X.A (letOwnedTupleGo tg (.ref it) u) (λ_ s2=>∃ x H',Inv X pins σ H' s2/\RelV x u/\J.yld i H x H'/\tn (i+1) s2.heap/\∀ b∈fp,H' b=none) E s1) E s
 done:∀ (X:Cx),X.prog=P->X.w=w->X.K=K->X.calm=true->∀ (i:Nat) (pins:List (Addr × Obj)) (s:Shared) (σ:St) (H:Hp) (E:Value->Shared->Prop),Inv X pins σ H s->(∀ b∈fp,a7q X pins H b)->tn i s.heap->J.stop i H->
  wpAny (model P w) X.A (pyNext (.ref it)) (λr s1=>r=none/\Inv X pins σ H s1) E s
 self:∀ (A:Around) (i:Nat) (s:Shared) (Q:Value->Shared->Prop) (E:Value->Shared->Prop),tn i s.heap->Q (.ref it) s->wpAny (model P w) A (pyIter (.ref it)) Q E s
abbrev TI:=St->Hp->(It->Hp->Prop)->Prop
def PIE(X:Cx)(pins:List (Addr × Obj))(σ:St)(tg:Expr)(R:It->Hp->Prop)(itv:Value)(s2:Shared):Prop :=
 ∃ (it:Addr) (fp:List Addr) (tn:Nat->Heap->Prop) (J:It) (H':Hp),itv = .ref it/\Inv X pins σ H' s2/\Turn X.prog X.w X.K tg J fp it tn/\tn 0 s2.heap/\(∀ b∈fp,a7q X pins H' b)/\R J H'
def PI(X:Cx)(tg iter:Expr)(wi:TI):Prop :=
 ∀ (pins:List (Addr × Obj)) (s:Shared) (σ:St) (H:Hp) (R:It->Hp->Prop),Inv X pins σ H s->wi σ H R->
  wpAny (model X.prog X.w) X.A (eval iter X.env) (λv s1=>wpAny (model X.prog X.w) X.A (pyIter v) (PIE X pins σ tg R) X.xe s1) X.xe s
theorem ace{M:Model}{A:Around}{E:Value->Shared->Prop}{s:Shared}{tg:Expr}{it:Addr}{u:Value}{o:Obj}{n:String}{vs:Array Value}{Q:Unit->Shared->Prop}(ho:s.heap.get? it=some o)(hc:o.cls = .type n)(hd:o.data = .fields vs)
  (hn:["enumerate", "zip", "dict_itemiterator", "dict_reverseitemiterator", "odict_iterator", "itertools.zip_longest", "itertools.pairwise"].contains n=false) (hQ:Q () s):wpAny M A (letOwnedTupleGo tg (.ref it) u) Q E s:=by
 unfold letOwnedTupleGo
 cases tg<;>first
  | exact wpAny_pure hQ
  | (cases u<;>first
    | exact wpAny_pure hQ
    | (refine wpAny_bind (wpAny_load ho ?_)
       rw [hc,hd];show wpAny M A (if (["enumerate", "zip", "dict_itemiterator", "dict_reverseitemiterator", "odict_iterator", "itertools.zip_longest", "itertools.pairwise"].contains n && vs[0]? == some (rawInt _))=true then _ else _) Q E s
       rw [if_neg (by intro h;rw [hn,Bool.false_and] at h;cases h)]
       exact wpAny_pure hQ))
def Itl(K:PySem.W.Frag)(a:Addr):It :=
 ⟨λi H=>∃ xs x,SqL K H a xs/\xs[i]? = some x,λi H x H'=>H'=H/\∀ xs,SqL K H a xs->xs[i]? = some x,λi H=>∃ xs,SqL K H a xs/\xs.length<=i⟩
def Itt(K:PySem.W.Frag)(a:Addr):It :=
 ⟨λi H=>∃ xs x,SqT K H a xs/\xs[i]? = some x,λi H x H'=>H'=H/\∀ xs,SqT K H a xs->xs[i]? = some x,λi H=>∃ xs,SqT K H a xs/\xs.length<=i⟩
def Itr(lo:Int)(n:Nat):It:=⟨λi _=>i<n,λi H x H'=>H'=H/\x = .int (lo+i),λi _=>n<=i⟩
theorem a9v{P:Program}{w:World}{K:PySem.W.Frag}{tg:Expr}(a it:Addr):Turn P w K tg (Itl K a) [it] it (λi h=>h.IsListIter it a i) where
 mem:=by simp
 obj:=λi h st b hb=>by
  have e:b=it:=by simpa using hb
  subst e;obtain ⟨o,e,c,d⟩:=st;exact ⟨o,e,λv z=>by rw [d] at z;cases z⟩
 keep:=λi h h' st k=>st.at λo e=>k it (by simp) o e
 item:=by
  intro X hP hw hK hc i pins s σ H E I hf st hg
  subst hP hw hK;obtain ⟨xs,x,hq,hx⟩:=hg;obtain ⟨its,rv,p,hz⟩:=I.list hq;obtain ⟨u,hu,ru⟩:=rv.get hx;obtain ⟨f0,f1,f2,f3,f4,f5⟩:=hf it (by simp)
  refine wpAny_pyNext_list_item st p.isList (x:=u) (by simpa using hu) λh' st' sb=>?_
  have I1:Inv X pins σ H { s with heap:=h' }:=I.turned (t':=s.toks) (λb o hb e=>(sb.2 b hb).trans e) f0 f1 f3 f4 f5
  obtain ⟨o,e,c,d⟩:=id st';exact ⟨u,rfl,ace (s:={ s with heap:=h' }) e c d (by decide) ⟨x,H,I1,ru,⟨rfl,λys hy=>by rw [I.list_inj hy hq];exact hx⟩,st',λb hb=>(hf b hb).1⟩⟩
 done:=by
  intro X hP hw hK hc i pins s σ H E I hf st hg
  subst hP hw hK;obtain ⟨xs,hq,hx⟩:=hg;obtain ⟨its,rv,p,hz⟩:=I.list hq;obtain ⟨f0,f1,f2,f3,f4,f5⟩:=hf it (by simp)
  have hl:=rv.length;exact wpAny_pyNext_list_end (I.ok.hd hc) st p.isList (by simp;omega) λh' eb=>⟨rfl,I.turned (t':=s.toks) (λb o hb e=>eb b o hb e) f0 f1 f3 f4 f5⟩
 self:=λ_ _ _ _ _ st h=>wpAny_pyIter_listiter st h
theorem a8w{P:Program}{w:World}{K:PySem.W.Frag}{tg:Expr}(a it:Addr):Turn P w K tg (Itt K a) [it] it (λi h=>h.IsTupleIter it a i) where
 mem:=by simp
 obj:=λi h st b hb=>by
  have e:b=it:=by simpa using hb
  subst e;obtain ⟨o,e,c,d⟩:=st;exact ⟨o,e,λv z=>by rw [d] at z;cases z⟩
 keep:=λi h h' st k=>st.at λo e=>k it (by simp) o e
 item:=by
  intro X hP hw hK hc i pins s σ H E I hf st hg
  subst hP hw hK;obtain ⟨xs,x,hq,hx⟩:=hg;obtain ⟨its,rv,p,hz⟩:=I.tuple hq;obtain ⟨u,hu,ru⟩:=rv.get hx;obtain ⟨f0,f1,f2,f3,f4,f5⟩:=hf it (by simp)
  refine wpAny_pyNext_tuple_item st (show s.heap.IsTuple a its.toArray from p) (x:=u) (by simpa using hu) λh' st' sb=>?_
  have I1:Inv X pins σ H { s with heap:=h' }:=I.turned (t':=s.toks) (λb o hb e=>(sb.2 b hb).trans e) f0 f1 f3 f4 f5
  obtain ⟨o,e,c,d⟩:=id st';exact ⟨u,rfl,ace (s:={ s with heap:=h' }) e c d (by decide) ⟨x,H,I1,ru,⟨rfl,λys hy=>by rw [I.tuple_inj hy hq];exact hx⟩,st',λb hb=>(hf b hb).1⟩⟩
 done:=by
  intro X hP hw hK hc i pins s σ H E I hf st hg
  subst hP hw hK;obtain ⟨xs,hq,hx⟩:=hg;obtain ⟨its,rv,p,hz⟩:=I.tuple hq;obtain ⟨f0,f1,f2,f3,f4,f5⟩:=hf it (by simp)
  have hl:=rv.length;exact wpAny_pyNext_tuple_end (I.ok.hd hc) st (show s.heap.IsTuple a its.toArray from p) (by simp;omega) λh' eb=>⟨rfl,I.turned (t':=s.toks) (λb o hb e=>eb b o hb e) f0 f1 f3 f4 f5⟩
 self:=λ_ _ _ _ _ st h=>wpAny_pyIter_tupleiter st h
theorem a8x{P:Program}{w:World}{K:PySem.W.Frag}{tg:Expr}(it:Addr)(lo:Int)(n:Nat):Turn P w K tg (Itr lo n) [it] it (λi h=>IsRangeIter h it (lo+(i:Nat)*1) ((n:Int) - (i:Nat)) 1) where
 mem:=by simp
 obj:=λi h st b hb=>by
  have e:b=it:=by simpa using hb
  subst e;exact ⟨_,st,λv z=>by
   have z':Data.fields _=Data.cell v:=z
   cases z'⟩
 keep:=λi h h' st k=>k it (by simp) _ st
 item:=by
  intro X hP hw hK hc i pins s σ H E I hf st hg
  subst hP hw hK;obtain ⟨f0,f1,f2,f3,f4,f5⟩:=hf it (by simp)
  have W:=Walks.range (prog:=X.prog) (w:=X.w) (I.ok.hd hc) it lo 1 n;refine W.item i s _ _ hg st λv h' tk hv st' kk=>?_;obtain ⟨t,rfl⟩:=hv;have I1:Inv X pins σ H { s with heap:=h',toks:=tk }:=I.turned (λb o hb e=>kk b o (by simpa using hb) e) f0 f1 f3 f4 f5
  refine ⟨_,rfl,ace (s:={ s with heap:=h',toks:=tk }) (n := "range_iterator") st' rfl rfl (by decide) ⟨.int (lo+i),H,I1,⟨t,?_⟩,⟨rfl,rfl⟩,st',λb hb=>(hf b hb).1⟩⟩
  rw [Int.mul_one]
 done:=by
  intro X hP hw hK hc i pins s σ H E I hf st hg
  subst hP hw hK;obtain ⟨f0,f1,f2,f3,f4,f5⟩:=hf it (by simp)
  exact wpAny_pyNext_range_end (I.ok.hd hc) st (by have:n<=i:=hg;omega) λh' eb=>⟨rfl,I.turned (t':=s.toks) (λb o hb e=>eb b o hb e) f0 f1 f3 f4 f5⟩
 self:=λ_ _ _ _ _ st h=>wpAny_pyIter_rangeiter st h
section
variable{X:Cx}{tg:Expr}
def am9(K:PySem.W.Frag)(tl:TE):TI:=λσ H R=>tl σ H λx H1=>∃ a,x = .ref a/\(∃ xs,SqL K H1 a xs)/\R (Itl K a) H1
def aok(K:PySem.W.Frag)(tl:TE):TI:=λσ H R=>tl σ H λx H1=>∃ a,x = .ref a/\(∃ xs,SqT K H1 a xs)/\R (Itt K a) H1
theorem a9w{l:Expr}{tl:TE}(hl:PE X l tl):PI X tg l (am9 X.K tl):=by
 intro pins s σ H R I h
 refine thn (hl pins s σ H _ I h) λv s1 ⟨x,H1,I1,r1,q1⟩=>?_;obtain ⟨a,e,⟨xs,hq⟩,q⟩:=q1;subst e;cases r1
 obtain ⟨its,rv,p,hz⟩:=I1.list hq;refine wpAny_pyIter_list p.isList ?_;refine ⟨s1.heap.objs.size,[s1.heap.objs.size],_,_,H1,rfl,I1.kept (t':=s1.toks) λb o e=>Heap.get?_push_of_some _ e,a9v a _,⟨_,Heap.get?_push_size _ rfl,rfl,rfl⟩,λb hb=>?_,q⟩;have e:b=s1.heap.objs.size:=by simpa using hb
 subst e;exact I1.fpOk (Nat.le_refl _) (I1.hok.fresh (Nat.le_refl _))
theorem aim{l:Expr}{tl:TE}(hl:PE X l tl):PI X tg l (aok X.K tl):=by
 intro pins s σ H R I h
 refine thn (hl pins s σ H _ I h) λv s1 ⟨x,H1,I1,r1,q1⟩=>?_;obtain ⟨a,e,⟨xs,hq⟩,q⟩:=q1;subst e;cases r1
 obtain ⟨its,rv,p,hz⟩:=I1.tuple hq;refine wpAny_pyIter_tuple (show s1.heap.IsTuple a its.toArray from p) ?_
 refine ⟨s1.heap.objs.size,[s1.heap.objs.size],_,_,H1,rfl,I1.kept (t':=s1.toks) λb o e=>Heap.get?_push_of_some _ e,a8w a _,⟨_,Heap.get?_push_size _ rfl,rfl,rfl⟩,λb hb=>?_,q⟩;have e:b=s1.heap.objs.size:=by simpa using hb
 subst e;exact I1.fpOk (Nat.le_refl _) (I1.hok.fresh (Nat.le_refl _))
theorem acf{pins:List (Addr × Obj)}{σ:St}{H:Hp}{s:Shared}{R:It->Hp->Prop}{E:Value->Shared->Prop}{lo hi:Int}{t u v:Tok}{tk:Nat}(I:Inv X pins σ H s)(h1 : -(2 ^ 62)<=lo)(h2:lo<2 ^ 62)(h3 : -(2 ^ 62)<=hi)(h4:hi<2 ^ 62)
  (q:R (Itr lo (hi - lo).toNat) H):wpAny (model X.prog X.w) X.A (pyIter (.ref s.heap.objs.size)) (PIE X pins σ tg R) E { s with heap:=s.heap.push { cls:=.type "range",data:=.fields #[.int lo t, .int hi u, .int 1 v] },toks:=tk }:=by
 refine wpAny_pyIter_range (IsRange.new ..) (small_one h1 h2 h3 h4) ?_;have I1:Inv X pins σ H { s with heap:=s.heap.push { cls:=.type "range",data:=.fields #[.int lo t, .int hi u, .int 1 v] },toks:=tk }:=I.kept λb o e=>Heap.get?_push_of_some _ e
 refine ⟨(s.heap.push { cls:=.type "range",data:=.fields #[.int lo t, .int hi u, .int 1 v] }).objs.size,[(s.heap.push { cls:=.type "range",data:=.fields #[.int lo t, .int hi u, .int 1 v] }).objs.size],_,_,H,rfl,
  I1.kept (t':=tk) λb o e=>Heap.get?_push_of_some _ e,a8x _ lo (hi - lo).toNat,?_,λb hb=>?_,q⟩
 ·have e1:lo+((0:Nat):Int)*1=lo:=by simp
  have e2:(((hi - lo).toNat:Nat):Int) - ((0:Nat):Int)=Builtin.Range.rangeSize lo hi 1:=by rw [rangeSize_one];split<;>omega
  show IsRangeIter _ _ (lo+((0:Nat):Int)*1) ((((hi - lo).toNat:Nat):Int) - ((0:Nat):Int)) 1;rw [e1,e2];exact Heap.get?_push_size _ rfl
 ·have e:b=(s.heap.push { cls:=.type "range",data:=.fields #[.int lo t, .int hi u, .int 1 v] }).objs.size:=by simpa using hb
  subst e;exact I1.fpOk (Nat.le_refl _) (I1.hok.fresh (Nat.le_refl _))
def ama(ta:TA):TI:=λσ H R=>ta σ H λvs H1=>∃ j:Int,vs=[.int j] /\ -(2 ^ 62)<=j/\j<2 ^ 62/\R (Itr 0 j.toNat) H1
theorem a9x{a:Expr}{ta:TA}{p pos:Pos}(hg:Gl X "range")(hm:X.mg "range" = none)(ha:PA X [a] ta)(hs:starEach [a] X.env=[(false,eval a X.env)]:=by rfl):PI X tg (.Call (.Name "range" p) [a] [] pos) (ama ta):=by
 intro pins s σ H R I h
 refine Call_ (a5s I hg hm boot_range (PyProof.Rows.callWith_type1 (thn (ha pos pins s σ H _ I h) λus s1 ⟨vs,H1,I1,r1,q1⟩=>?_) hs rfl));obtain ⟨j,e,q1,q2,q⟩:=q1;subst e
 cases r1 with
 | cons r rr =>
  cases rr
  obtain ⟨t,rfl⟩:=r;exact call_range_1 (acf I1 (by omega) (by omega) q1 q2 (by simpa using q))
def aol(wi:TI)(g:TG)(tb:TS):TS:=λD σ H=>wi σ H λJ H1=>∃ W:Nat->Nat->St->Hp->Prop,(∃ m,W 0 m σ H1)/\∀ i m σ H,W i m σ H->
 (J.stop i H/\D.nx σ H)\/(J.go i H/\∃ N:St->Hp->Prop,(∀ σ' H',N σ' H'->∃ m',m'<m/\W (i+1) m' σ' H')/\∀ x H',J.yld i H x H'->g x σ H' λσ2 H2=>tb { D with nx:=N,ct:=N,bk:=D.nx } σ2 H2)
def a5t(fp:List Addr)(h:Heap):List (Addr × Obj):=fp.filterMap λb=>(h.get? b).map λo=>(b,o)
theorem yt{fp:List Addr}{h:Heap}{b:Addr}{o:Obj}(hb:b∈fp)(e:h.get? b=some o):(b,o)∈a5t fp h:=List.mem_filterMap.mpr ⟨b,hb,by rw [e];rfl⟩
theorem a9y{fp:List Addr}{h:Heap}{p:Addr × Obj}(hp:p∈a5t fp h):p.1∈fp/\h.get? p.1=some p.2:=by
 obtain ⟨b,hb,e⟩:=List.mem_filterMap.mp hp
 cases q:h.get? b with
 | none=>rw [q] at e;cases e
 | some o =>
  rw [q] at e;have e':(b,o)=p:=Option.some.inj e;subst e';exact ⟨hb,q⟩
theorem Inv.pinned{pins:List (Addr × Obj)}{σ:St}{H:Hp}{s:Shared}{fp:List Addr}(I:Inv X pins σ H s)(hf:∀ b∈fp,a7q X pins H b)(ho:∀ b∈fp,∃ o,s.heap.get? b=some o/\∀ v,o.data≠.cell v):Inv X (pins++a5t fp s.heap) σ H s :=
 I.pins_of λp hp=>(List.mem_append.mp hp).elim (λz=>I.pin p (List.mem_append_right _ z)) λz=>by
  obtain ⟨hb,e⟩:=a9y z;obtain ⟨f0,f1,f2,_⟩:=hf p.1 hb;obtain ⟨o,e',d⟩:=ho p.1 hb;rw [e] at e';cases e'
  exact ⟨e,f0,f1,f2,d⟩
theorem Inv.unpinned{pins pl:List (Addr × Obj)}{σ:St}{H:Hp}{s:Shared}(I:Inv X (pins++pl) σ H s):Inv X pins σ H s:=I.pins_of λp hp=>I.pin p (List.mem_append_right _ (List.mem_append_left _ hp))
theorem ain{iter:Expr}{body:List Stmt}{wi:TI}{g:TG}{tb:TS}{pos:Pos}(hp:PassesOwn (model X.prog X.w) X.A X.env X.xe)(hc:X.calm=true)(hi:PI X tg iter wi)(hg:PG X tg g)(hb:PSs X body tb)
  (hs:∀ x,foldedSetIterable iter X.env x=pure x:=by intro _;rfl):PS X (.For tg iter body [] pos) (aol wi g tb):=by
 intro pins s σ H D I h
 refine wpAny_For (thn (hi pins s σ H _ I h) λv s1 h1=>thn h1 λitv s2 h2=>?_) hs;obtain ⟨it,fp,tn,J,H2,e,I2,T,st2,f2,W,⟨m0,w0⟩,turn⟩:=h2;subst e;have stat:∀ {H':Hp},(∀ b∈fp,H' b=none)->∀ b∈fp,a7q X pins H' b:=λhn b hb=>⟨hn b hb,(f2 b hb).2⟩;refine codeAny_forLoop_any (λn s'=>∃ i σ' H',Inv X pins σ' H' s'/\tn i s'.heap/\(∀ b∈fp,H' b=none)/\W i n σ' H') ?_ m0 ⟨0,σ,H2,I2,st2,λb hb=>(f2 b hb).1,w0⟩
 rintro n s3 ⟨i,σ3,H3,I3,st3,fr3,w3⟩
 rcases turn i n σ3 H3 w3 with ⟨stop,qn⟩ | ⟨go,N,hN,step⟩
 ·refine wpAny_passesOwn hp (thn (T.done X rfl rfl rfl hc i pins s3 σ3 H3 X.xe I3 (stat fr3) st3 stop) λr s4 ⟨hr,I4⟩=>?_);subst hr;exact wpAny_execs_nil ⟨σ3,H3,I4,qn⟩
 ·refine wpAny_passesOwn hp (thn (T.item X rfl rfl rfl hc i pins s3 σ3 H3 X.xe I3 (stat fr3) st3 go) λr s4 ⟨u,hr,h4⟩=>?_);subst hr;refine wpAny_passesOwn hp (thn h4 λ_ s5 ⟨x,H5,I5,r5,y5,st5,fr5⟩=>?_);have I5':=I5.pinned (stat fr5) (T.obj _ _ st5);refine wpAny_passesOwn hp (thn (hg _ s5 σ3 H5 x u _ I5' r5 (step x H5 y5)) λ_ s6 ⟨σ6,H6,I6,q6⟩=>?_);refine wpAny_passesOwn hp (thn (hb _ s6 σ6 H6 _ I6 q6) λf s7 q7=>?_);have again:∀ {σ7:St} {H7:Hp},Inv X (pins++a5t fp s5.heap) σ7 H7 s7->N σ7 H7->∃ m,m<n/\∃ i σ' H',Inv X pins σ' H' s7/\tn i s7.heap/\(∀ b∈fp,H' b=none)/\W i m σ' H':=λ{σ7 H7} I7 n7=>by
   obtain ⟨m',hm,w7⟩:=hN σ7 H7 n7;refine ⟨m',hm,i+1,σ7,H7,I7.unpinned,T.keep _ _ _ st5 λb hb o e=>(I7.pin (b,o) (List.mem_append_right _ (List.mem_append_right _ (yt hb e)))).1,λb hb=>?_,w7⟩;obtain ⟨o,e,d⟩:=T.obj _ _ st5 b hb;exact (I7.pin (b,o) (List.mem_append_right _ (List.mem_append_right _ (yt hb e)))).2.1
  cases f with
  | next=>obtain ⟨σ7,H7,I7,n7⟩:=q7;exact again I7 n7
  | cont=>obtain ⟨σ7,H7,I7,n7⟩:=q7;exact again I7 n7
  | brk=>obtain ⟨σ7,H7,I7,q7⟩:=q7;exact ⟨σ7,H7,I7.unpinned,q7⟩
  | ret v=>obtain ⟨x7,σ7,H7,I7,r7,q7⟩:=q7;exact ⟨x7,σ7,H7,I7.unpinned,r7,q7⟩
end
abbrev R2:=V->V->Hp->VK->Prop
def OpR(X:Cx)(f:Value->Value->Sem Value)(r:R2):Prop :=
 ∀ (pins:List (Addr × Obj)) (s:Shared) (σ:St) (H:Hp) (x y:V) (v u:Value) (Q:VK),Inv X pins σ H s->RelV x v->RelV y u->r x y H Q->
  wpAny (model X.prog X.w) X.A (f v u) (EP X pins σ Q) X.xe s
def UnR(X:Cx)(f:Value->Sem Value)(r:V->Hp->VK->Prop):Prop :=
 ∀ (pins:List (Addr × Obj)) (s:Shared) (σ:St) (H:Hp) (x:V) (v:Value) (Q:VK),Inv X pins σ H s->RelV x v->r x H Q->
  wpAny (model X.prog X.w) X.A (f v) (EP X pins σ Q) X.xe s
def CallR(X:Cx)(f:Value)(r:List V->Hp->VK->Prop):Prop :=
 ∀ (pins:List (Addr × Obj)) (s:Shared) (σ:St) (H:Hp) (xs:List V) (us:List Value) (Q:VK),Inv X pins σ H s->Vals xs us->r xs H Q->
  wpAny (model X.prog X.w) X.A (call f us) (EP X pins σ Q) X.xe s
def aom(X:Cx)(r:V->Hp->(Bool->Hp->Prop)->Prop):Prop :=
 ∀ (pins:List (Addr × Obj)) (s:Shared) (σ:St) (H:Hp) (x:V) (v:Value) (Q:Bool->Hp->Prop),Inv X pins σ H s->RelV x v->r x H Q->
  wpAny (model X.prog X.w) X.A (truthy v) (TP X pins σ Q) X.xe s
def tOp(r:R2)(ta tb:TE):TE:=λσ H Q=>ta σ H λx H1=>tb σ H1 λy H2=>r x y H2 Q
def tUn(r:V->Hp->VK->Prop)(ta:TE):TE:=λσ H Q=>ta σ H λx H1=>r x H1 Q
def rI(C:Int->Int->Prop)(g:Int->Int->V):R2:=λx y H Q=>∃ i j,x = .int i/\y = .int j/\C i j/\Q (g i j) H
def rI0(g:Int->Int->V):R2:=λx y H Q=>∃ i j,x = .int i/\y = .int j/\Q (g i j) H
def rU(g:Int->V):V->Hp->VK->Prop:=λx H Q=>∃ i,x = .int i/\Q (g i) H
section
variable{X:Cx}{a b c:Expr}{ta tb tc:TE}{pos:Pos}
theorem amb(ha:PE X a ta)(hb:PE X b tb){pins:List (Addr × Obj)}{s:Shared}{σ:St}{H:Hp}{R:V->V->Hp->Prop}(I:Inv X pins σ H s)
  (h:ta σ H λx H1=>tb σ H1 λy H2=>R x y H2) {Q:Value->Shared->Prop} {f:Value->Value->Sem Value}
  (hf:∀ v u s2 x y H2,Inv X pins σ H2 s2->RelV x v->RelV y u->R x y H2->wpAny (model X.prog X.w) X.A (f v u) Q X.xe s2) :
  wpAny (model X.prog X.w) X.A (eval a X.env) (λv s₁=>wpAny (model X.prog X.w) X.A (eval b X.env) (λu s₂=>wpAny (model X.prog X.w) X.A (f v u) Q X.xe s₂) X.xe s₁) X.xe s:=by
 refine thn (ha pins s σ H _ I h) λv s1 ⟨x,H1,I1,r1,q1⟩=>?_;refine thn (hb pins s1 σ H1 _ I1 q1) λu s2 ⟨y,H2,I2,r2,q2⟩=>?_;exact hf v u s2 x y H2 I2 r1 r2 q2
theorem amc{op:Operator}{r:R2}(ho:OpR X (binaryOp op) r)(ha:PE X a ta)(hb:PE X b tb):PE X (.BinOp a op b pos) (tOp r ta tb):=by
 intro pins s σ H Q I h
 exact wpAny_BinOp (amb ha hb I h λv u s2 x y H2 I2 rx ry q=>ho pins s2 σ H2 x y v u Q I2 rx ry q)
theorem amd{op:UnaryOp}{r:V->Hp->VK->Prop}(ho:UnR X (unaryOp op) r)(ha:PE X a ta):PE X (.UnaryOp op a pos) (tUn r ta):=by
 intro pins s σ H Q I h
 exact UnaryOp_ (thn (ha pins s σ H _ I h) λv s1 ⟨x,H1,I1,r1,q1⟩=>ho pins s1 σ H1 x v Q I1 r1 q1)
theorem opI{f:Value->Value->Sem Value}{C:Int->Int->Prop}{g:Int->Int->Int}
  (rule:∀ (i j:Int) (t u:Tok) (s:Shared) (Q:Value->Shared->Prop) (E:Value->Shared->Prop),C i j->Q (.int (g i j) s.toks) { s with toks:=s.toks+1 }->wpAny (model X.prog X.w) X.A (f (.int i t) (.int j u)) Q E s) :
  OpR X f (rI C λi j=>.int (g i j)):=by
 intro pins s σ H x y v u Q I rx ry h
 obtain ⟨i,j,rfl,rfl,hc,q⟩:=h;obtain ⟨t,rfl⟩:=rx;obtain ⟨t',rfl⟩:=ry;exact rule i j t t' s _ _ hc ⟨.int (g i j),H,I.tok _,⟨_,rfl⟩,q⟩
theorem ani{f:Value->Value->Sem Value}{g:Int->Int->Int}
  (rule:∀ (i j:Int) (t u:Tok) (s:Shared) (Q:Value->Shared->Prop) (E:Value->Shared->Prop),Q (.int (g i j) s.toks) { s with toks:=s.toks+1 }->wpAny (model X.prog X.w) X.A (f (.int i t) (.int j u)) Q E s) :
  OpR X f (rI0 λi j=>.int (g i j)):=by
 intro pins s σ H x y v u Q I rx ry h
 obtain ⟨i,j,rfl,rfl,q⟩:=h;obtain ⟨t,rfl⟩:=rx;obtain ⟨t',rfl⟩:=ry;exact rule i j t t' s _ _ ⟨.int (g i j),H,I.tok _,⟨_,rfl⟩,q⟩
theorem alf{f:Value->Value->Sem Value}{g:Int->Int->Bool}
  (rule:∀ (i j:Int) (t u:Tok) (s:Shared) (Q:Value->Shared->Prop) (E:Value->Shared->Prop),Q (.bool (g i j)) s->wpAny (model X.prog X.w) X.A (f (.int i t) (.int j u)) Q E s) :
  OpR X f (rI0 λi j=>.bl (g i j)):=by
 intro pins s σ H x y v u Q I rx ry h
 obtain ⟨i,j,rfl,rfl,q⟩:=h;obtain ⟨t,rfl⟩:=rx;obtain ⟨t',rfl⟩:=ry;exact rule i j t t' s _ _ ⟨.bl (g i j),H,I,rfl,q⟩
def anj(i j:Int):Prop:=0<j/\j<1073741824
def ank(i j:Int):Prop:=0<=j/\j<=1000000/\i.natAbs<2 ^ 64
def CMul(i j:Int):Prop:=(-(2 ^ 64)<i/\i<2 ^ 64)\/(-(2 ^ 64)<j/\j<2 ^ 64)
theorem CMul.ok{i j:Int}(h:CMul i j):IntMulOk i j:=by
 rcases h with ⟨h1,h2⟩ | ⟨h1,h2⟩
 ·exact .of_left (intBits_le_64 h1 h2)
 ·exact .of_right (intBits_le_64 h1 h2)
theorem aio:OpR X (binaryOp .Add) (rI0 λi j=>.int (i+j)):=ani λ_ _ _ _ _ _ _ q=>add_int q
theorem aip:OpR X (binaryOp .Sub) (rI0 λi j=>.int (i - j)):=ani λ_ _ _ _ _ _ _ q=>sub_int q
theorem aiq:OpR X (binaryOp .Mult) (rI CMul λi j=>.int (i*j)):=opI λ_ _ _ _ _ _ _ hc q=>mul_int q hc.ok
theorem afr:OpR X (binaryOp .FloorDiv) (rI anj λi j=>.int (i / j)):=opI λi j _ _ _ _ _ hc q=>by
 have h1:(0:Int)<j:=hc.1;have h2:j<1073741824:=hc.2;exact floordiv_int (by omega) (by rw [Int.fdiv_eq_ediv_of_nonneg i (by omega)];exact q) (.inl (PyProof.noPylong_small (by omega)))
theorem air:OpR X (binaryOp .Mod) (rI (λ_ j=>0<j) λi j=>.int (i % j)):=opI λi j _ _ _ _ _ hc q=>by
 have h1:(0:Int)<j:=hc;exact mod_int' (by omega) (by rw [Int.fmod_eq_emod_of_nonneg i (by omega)];exact q)
theorem ais:OpR X (binaryOp .Pow) (rI ank λi j=>.int (i ^ j.toNat)):=opI λ_ _ _ _ _ _ _ hc q=>pow_int_small hc.1 hc.2.1 hc.2.2 q
theorem unI{f:Value->Sem Value}{g:Int->Int}
  (rule:∀ (i:Int) (t:Tok) (s:Shared) (Q:Value->Shared->Prop) (E:Value->Shared->Prop),Q (.int (g i) s.toks) { s with toks:=s.toks+1 }->wpAny (model X.prog X.w) X.A (f (.int i t)) Q E s) :
  UnR X f (rU λi=>.int (g i)):=by
 intro pins s σ H x v Q I rx h
 obtain ⟨i,rfl,q⟩:=h;obtain ⟨t,rfl⟩:=rx;exact rule i t s _ _ ⟨.int (g i),H,I.tok _,⟨_,rfl⟩,q⟩
theorem ait:UnR X (unaryOp .USub) (rU λi=>.int (-i)):=unI λ_ _ _ _ _ q=>neg_int q
end
section
variable{X:Cx}{a b c:Expr}{ta tb tc:TE}{pos:Pos}
theorem a1w{pins:List (Addr × Obj)}{σ:St}{H:Hp}{s:Shared}{Q:VK}{k k':Bool}(I:Inv X pins σ H s)(q:Q (.bl k) H)(e:k=k'):EP X pins σ Q (.bool k') s:=by
 subst e;exact ⟨.bl k,H,I,rfl,q⟩
theorem a3e:OpR X (compareOp .Lt) (rI0 λi j=>.bl (decide (i<j))):=alf λ_ _ _ _ _ _ _ q=>lt_int q
theorem a3v:OpR X (compareOp .LtE) (rI0 λi j=>.bl (decide (i<=j))):=alf λ_ _ _ _ _ _ _ q=>le_int q
theorem afs:OpR X (compareOp .Gt) (rI0 λi j=>.bl (decide (j<i))):=alf λ_ _ _ _ _ _ _ q=>gt_int q
theorem ame:OpR X (compareOp .GtE) (rI0 λi j=>.bl (decide (j<=i))):=alf λ_ _ _ _ _ _ _ q=>ge_int q
theorem p8:OpR X (compareOp .Lt) (λx y H Q=>∃ i j,x = .str i/\y = .str j/\Q (.bl (decide (i.cps.toList<j.cps.toList))) H):=by
 intro pins s σ H x y v u Q I rx ry h
 obtain ⟨i,j,rfl,rfl,q⟩:=h;obtain ⟨t,rfl⟩:=rx;obtain ⟨t',rfl⟩:=ry;exact lt_str (a1w I q rfl)
theorem a9z:OpR X (compareOp .In) (λx y H Q=>∃ i j,x = .str i/\y = .str j/\Q (.bl (!(Builtin.Str.occurrences j i 0 j.length 1).isEmpty)) H):=by
 intro pins s σ H x y v u Q I rx ry h
 obtain ⟨i,j,rfl,rfl,q⟩:=h;obtain ⟨t,rfl⟩:=rx;obtain ⟨t',rfl⟩:=ry;exact in_str (a1w I q rfl)
theorem aeh:OpR X (compareOp .Is) (λx y H Q=>y = .non/\Q (.bl (decide (x = .non))) H):=by
 intro pins s σ H x y v u Q I rx ry h
 obtain ⟨rfl,q⟩:=h;cases ry
 refine is_none_gen (a1w I q ?_)
 cases x<;>first
  | (cases rx;rfl)
  | (obtain ⟨t,rfl⟩:=rx;rfl)
theorem a3w:OpR X (compareOp .IsNot) (λx y H Q=>y = .non/\Q (.bl (!decide (x = .non))) H):=by
 intro pins s σ H x y v u Q I rx ry h
 obtain ⟨rfl,q⟩:=h;cases ry
 refine isnot_none_gen (a1w I q ?_)
 cases x<;>first
  | (cases rx;rfl)
  | (obtain ⟨t,rfl⟩:=rx;rfl)
theorem OpR.or{f:Value->Value->Sem Value}{r r':R2}(h:OpR X f r)(h':OpR X f r'):OpR X f (λx y H Q=>r x y H Q\/r' x y H Q):=by
 intro pins s σ H x y v u Q I rx ry q
 rcases q with q | q
 ·exact h pins s σ H x y v u Q I rx ry q
 ·exact h' pins s σ H x y v u Q I rx ry q
theorem gk(b:Expr){op:CmpOp}(h:op≠.In:=by decide)(h2:op≠.NotIn:=by decide):behindInMarks op b=false:=by
 have e1:(op == CmpOp.In)=false:=by cases op<;>first | rfl | exact absurd rfl h
 have e2:(op == CmpOp.NotIn)=false:=by cases op<;>first | rfl | exact absurd rfl h2
 cases b<;>simp [behindInMarks,e1,e2]
theorem aft{op:CmpOp}{r:R2}(ho:OpR X (compareOp op) r)(ha:PE X a ta)(hb:PE X b tb)(hm:behindInMarks op b=false):PE X (.Compare a [op] [b] pos) (tOp r ta tb):=by
 intro pins s σ H Q I h
 exact wpAny_Compare1 (amb ha hb I h λv u s2 x y H2 I2 rx ry q=>ho pins s2 σ H2 x y v u Q I2 rx ry q) hm
def afu(t:TE):TT:=λσ H Q=>t σ H λx H'=>∃ k,x = .bl k/\Q k H'
theorem afv{op:CmpOp}{r:R2}(ho:OpR X (compareOp op) r)(ha:PE X a ta)(hb:PE X b tb)(hm:behindInMarks op b=false):PT X (.Compare a [op] [b] pos) (afu (tOp r ta tb)):=by
 intro pins s σ H Q I h
 refine wpAny_isTrue_Compare1 (thn (ha pins s σ H _ I h) λv s1 ⟨x,H1,I1,r1,q1⟩=>thn (hb pins s1 σ H1 _ I1 q1) λu s2 ⟨y,H2,I2,r2,q2⟩ =>
  thn (ho pins s2 σ H2 x y v u _ I2 r1 r2 q2) λc s3 ⟨z,H3,I3,r3,k,e,q3⟩=>?_) hm
 subst e;cases r3
 exact wpAny_truthy_bool ⟨H3,I3,q3⟩
def aa0(r r':R2)(ta tb tc:TE):TE:=λσ H Q=>ta σ H λx H1=>tb σ H1 λy H2=>r x y H2 λz H3=>∃ k,z = .bl k /\
 (if k=true then tc σ H3 λw' H4=>r' y w' H4 Q else Q (.bl false) H3)
theorem acg{op op':CmpOp}{r r':R2}(ho:OpR X (compareOp op) r)(ho':OpR X (compareOp op') r')(ha:PE X a ta)(hb:PE X b tb)(hc:PE X c tc)
  (hm:lastMarks [op,op'] [b,c]=false:=by with_unfolding_all rfl):PE X (.Compare a [op,op'] [b,c] pos) (aa0 r r' ta tb tc):=by
 intro pins s σ H Q I h
 refine Compare_chain (thn (ha pins s σ H _ I h) λv s1 ⟨x,H1,I1,r1,q1⟩=>chain_link (thn (hb pins s1 σ H1 _ I1 q1) λu s2 ⟨y,H2,I2,r2,q2⟩ =>
  thn (ho pins s2 σ H2 x y v u _ I2 r1 r2 q2) λd s3 ⟨z,H3,I3,r3,k,e,q3⟩=>?_)) hm
 subst e;cases r3
 refine wpAny_truthy_bool ?_
 cases k with
 | false=>exact ite_ff ⟨.bl false,H3,I3,rfl,q3⟩
 | true=>exact ite_tt (chain_last (thn (hc pins s3 σ H3 _ I3 q3) λw' s4 ⟨z',H4,I4,r4,q4⟩=>ho' pins s4 σ H4 y z' u w' Q I4 r2 r4 q4))
theorem ach{op op':CmpOp}{r r':R2}(ho:OpR X (compareOp op) r)(ho':OpR X (compareOp op') r')(ha:PE X a ta)(hb:PE X b tb)(hc:PE X c tc)
  (hm:lastMarks [op,op'] [b,c]=false:=by with_unfolding_all rfl):PT X (.Compare a [op,op'] [b,c] pos) (afu (aa0 r r' ta tb tc)):=by
 intro pins s σ H Q I h
 refine isTrue_chain (thn (ha pins s σ H _ I h) λv s1 ⟨x,H1,I1,r1,q1⟩=>test_link (thn (hb pins s1 σ H1 _ I1 q1) λu s2 ⟨y,H2,I2,r2,q2⟩ =>
  thn (ho pins s2 σ H2 x y v u _ I2 r1 r2 q2) λd s3 ⟨z,H3,I3,r3,k,e,q3⟩=>?_)) hm
 subst e;cases r3
 refine wpAny_truthy_bool ?_
 cases k with
 | false =>
  obtain ⟨k',e',q'⟩:=q3
  cases e'
  exact ite_ff ⟨H3,I3,q'⟩
 | true =>
  refine ite_tt (test_last (thn (hc pins s3 σ H3 _ I3 q3) λw' s4 ⟨z',H4,I4,r4,q4⟩=>thn (ho' pins s4 σ H4 y z' u w' _ I4 r2 r4 q4) λd' s5 ⟨z2,H5,I5,r5,k2,e2,q5⟩=>?_));subst e2;cases r5
  exact wpAny_truthy_bool ⟨H5,I5,q5⟩
def amf(K:PySem.W.Frag)(x:V)(H:Hp)(k:Bool):Prop :=
 match x with
 | .non=>k=false
 | .bl b=>k=b
 | .int i=>k=(i != 0)
 | .str y=>y.length<=sizeLine/\k=((y.length:Int) != 0)
 | .byt y=>y.size<=sizeLine/\k=((y.size:Int) != 0)
 | .ref p=>(∃ xs,SqL K H p xs/\k = !xs.isEmpty)\/(∃ xs,SqT K H p xs/\k = !xs.isEmpty)\/∃ kvs,H p=some (.dK kvs)/\k = !kvs.isEmpty
 | _=>False
theorem a8y{κ:Type}{kvs:List (κ × V)}{vs:List (κ × Value)}(r:KV kvs vs):(!vs.isEmpty) = !kvs.isEmpty:=by
 cases r<;>rfl
theorem a3i{xs:List V}{its:List Value}(r:Vals xs its):(!its.toArray.isEmpty) = !xs.isEmpty:=by
 cases r<;>simp
theorem a1x:(sizeLine:Nat)<2 ^ 63:=by rw [sizeLine_eq];decide
theorem aiu:aom X (λx H Q=>∃ k,amf X.K x H k/\Q k H):=by
 intro pins s σ H x v Q I rx h
 obtain ⟨k,e,q⟩:=h;have hl:=a1x;have hs:sizeLine=16777216:=sizeLine_eq
 cases x with
 | non =>
  cases rx
  have e':k=false:=e;subst e';exact truthy_none ⟨H,I,q⟩
 | bl b =>
  cases rx
  have e':k=b:=e;subst e';exact wpAny_truthy_bool ⟨H,I,q⟩
 | int i =>
  obtain ⟨t,rfl⟩:=rx;have e':k=(i != 0):=e;subst e';exact PySem.P.truthy_int ⟨H,I,q⟩
 | str y =>
  obtain ⟨t,rfl⟩:=rx;obtain ⟨hy,e'⟩:y.length<=sizeLine/\k=((y.length:Int) != 0):=e;subst e';exact PySem.P.truthy_str (by omega) ⟨H,I.tok _,q⟩
 | byt y =>
  obtain ⟨t,rfl⟩:=rx;obtain ⟨hy,e'⟩:y.size<=sizeLine/\k=((y.size:Int) != 0):=e;subst e';exact PySem.W.truthy_bytes (by omega) ⟨H,I.tok _,q⟩
 | ref p =>
  cases rx
  have e':(∃ xs,SqL X.K H p xs/\k = !xs.isEmpty)\/(∃ xs,SqT X.K H p xs/\k = !xs.isEmpty)\/∃ kvs,H p=some (.dK kvs)/\k = !kvs.isEmpty:=e
  rcases e' with ⟨xs,hx,e'⟩ | ⟨xs,hx,e'⟩ | ⟨kvs,hx,e'⟩
  ·subst e';obtain ⟨its,r,pl,hz⟩:=I.list hx;have hlen:=r.length;exact wpAny_truthy_list pl.isList (by simp only [List.size_toArray];omega) ⟨H,I.tok _,by rw [a3i r];exact q⟩
  ·subst e';obtain ⟨its,r,pl,hz⟩:=I.tuple hx;have hlen:=r.length;exact truthy_tuple pl (by simp only [List.size_toArray];omega) ⟨H,I.tok _,by rw [a3i r];exact q⟩
  ·subst e';obtain ⟨hz,hS,vs,r,m⟩:kvs.length<=sizeLine/\(p == sysModules)=false/\∃ vs,KV kvs vs/\s.heap.DictOf (a1v X.prog X.w) p vs:=I.hok p _ hx;have hlen:kvs.length=vs.length:=Paired.length r;exact wpAny_truthy_dict hS m (by omega) ⟨H,I.tok _,by rw [a8y r];exact q⟩
 | _=>exact (show False from e).elim
theorem aci(ha:PE X a ta)(he:∀ whole,isTrue a X.env whole=(do let v <-whole;standAt a.pos;holding [v] (truthy v))) :
  PT X a (λσ H Q=>ta σ H λx H'=>∃ k,amf X.K x H' k/\Q k H'):=by
 intro pins s σ H Q I h
 exact isTrue_plain (thn (ha pins s σ H _ I h) λv s1 ⟨x,H1,I1,r1,q1⟩=>aiu pins s1 σ H1 x v Q I1 r1 q1) (he _)
theorem a8z:OpR X (binaryOp .Add) (λx y H Q=>∃ i j,x = .str i/\y = .str j/\i.length+j.length<=sizeLine/\Q (.str (i++j)) H):=by
 intro pins s σ H x y v u Q I rx ry h
 obtain ⟨i,j,rfl,rfl,hz,q⟩:=h;obtain ⟨t,rfl⟩:=rx;obtain ⟨t',rfl⟩:=ry;exact add_str (λt' tk=>⟨.str (i++j),H,I.tok _,⟨_,rfl⟩,q⟩) hz
theorem vals1{x:V}{us:List Value}(r:Vals [x] us):∃ u,us=[u]/\RelV x u:=by
 cases r with
 | cons r1 r2=>cases r2;exact ⟨_,rfl,r1⟩
theorem vals2{x y:V}{us:List Value}(r:Vals [x,y] us):∃ u w',us=[u,w']/\RelV x u/\RelV y w':=by
 cases r with
 | cons r1 r2 =>
  cases r2 with
  | cons r3 r4=>cases r4;exact ⟨_,_,rfl,r1,r3⟩
theorem a7r:CallR X (.builtin "abs") (λxs H Q=>∃ i,xs=[.int i]/\Q (.int (if i<0 then -i else i)) H):=by
 intro pins s σ H xs us Q I r h
 obtain ⟨i,rfl,q⟩:=h;obtain ⟨u,rfl,t,rfl⟩:=vals1 r;exact call_abs_int λu tk=>⟨.int (if i<0 then -i else i),H,I.tok _,⟨_,rfl⟩,q⟩
theorem aa1(hc:X.calm=true):CallR X (.builtin "max") (λxs H Q=>∃ i j,xs=[.int i, .int j]/\Q (.int (if j > i then j else i)) H):=by
 intro pins s σ H xs us Q I r h
 obtain ⟨i,j,rfl,q⟩:=h;obtain ⟨u,w',rfl,⟨t,rfl⟩,⟨t',rfl⟩⟩:=vals2 r;refine max_two_ints (I.ok.hd hc) λh' tk k=>⟨_,H,I.kept k,?_,q⟩
 by_cases hj:j > i
 ·rw [if_pos hj,if_pos hj];exact ⟨_,rfl⟩
 ·rw [if_neg hj,if_neg hj];exact ⟨_,rfl⟩
theorem aa2(hc:X.calm=true):CallR X (.builtin "min") (λxs H Q=>∃ i j,xs=[.int i, .int j]/\Q (.int (if j<i then j else i)) H):=by
 intro pins s σ H xs us Q I r h
 obtain ⟨i,j,rfl,q⟩:=h;obtain ⟨u,w',rfl,⟨t,rfl⟩,⟨t',rfl⟩⟩:=vals2 r;refine min_two_ints (I.ok.hd hc) λh' tk k=>⟨_,H,I.kept k,?_,q⟩
 by_cases hj:j<i
 ·rw [if_pos hj,if_pos hj];exact ⟨_,rfl⟩
 ·rw [if_neg hj,if_neg hj];exact ⟨_,rfl⟩
theorem a5u:CallR X (.type "int") (λxs H Q=>(∃ i,xs=[.int i]/\Q (.int i) H)\/∃ k,xs=[.bl k]/\Q (.int (if k then 1 else 0)) H):=by
 intro pins s σ H xs us Q I r h
 rcases h with ⟨i,rfl,q⟩ | ⟨k,rfl,q⟩
 ·obtain ⟨u,rfl,t,rfl⟩:=vals1 r;exact call_int_int ⟨.int i,H,I,⟨_,rfl⟩,q⟩
 ·obtain ⟨u,rfl,r1⟩:=vals1 r;cases r1
  exact call_int_bool ⟨.int (if k then 1 else 0),H,I.tok _,⟨_,rfl⟩,q⟩
theorem a90:CallR X (.type "bool") (λxs H Q=>(∃ i,xs=[.int i]/\Q (.bl (i != 0)) H)\/∃ k,xs=[.bl k]/\Q (.bl k) H):=by
 intro pins s σ H xs us Q I r h
 rcases h with ⟨i,rfl,q⟩ | ⟨k,rfl,q⟩
 ·obtain ⟨u,rfl,t,rfl⟩:=vals1 r;exact call_bool_int ⟨.bl (i != 0),H,I,rfl,q⟩
 ·obtain ⟨u,rfl,r1⟩:=vals1 r;cases r1
  exact call_bool_bool ⟨.bl k,H,I,rfl,q⟩
end
structure ObjM (h:Heap) (x dx C:Addr) (mA:Str->Option Value):Prop where
 obj:h.get? x=some (PySem.W.instObj C dx)
 ns:h.Ns1 dx mA
 ne:dx≠x
theorem aa3{h:Heap}{dx:Addr}{mA:Str->Option Value}(n:h.Ns1 dx mA):∃ od,h.get? dx=some od/\∀ name,PySem.W.lookIn name od=some (mA name):=by
 obtain ⟨o,es,ep,ho,hd,hk,_,hm⟩:=n;refine ⟨o,ho,λname=>?_⟩;have e:=hm name;unfold nsFind findBy at e;rw [<-Array.find?_toList] at e;unfold PySem.W.lookIn;rw [hd];dsimp only
 split
 ·rename_i y q;rw [q] at e;exact congrArg some e
 ·rename_i q;rw [q] at e;have a:es.toList.any (·.refKey)=false:=by
   rw [List.any_eq_false]
   intro y hy
   obtain ⟨z,t,hkey⟩:=hk y (Array.mem_toList_iff.mp hy);simp [DictEntry.refKey,hkey]
  have a':¬ es.toList.any (·.refKey)=true:=by rw [a];exact Bool.false_ne_true
  rw [if_neg a'];exact congrArg some e
theorem ObjM.look{h:Heap}{x dx C:Addr}{mA:Str->Option Value}(I:ObjM h x dx C mA):∃ od,PySem.W.InstAt h x (PySem.W.instObj C dx) C (some od)/\∀ name,PySem.W.lookIn name od=some (mA name) :=
 let ⟨od,ho,hl⟩:=aa3 I.ns
 ⟨od,⟨I.obj,rfl,rfl,ho⟩,hl⟩
section
variable{P:Program}{w:World}{H H':Hp}{h h':Heap}{a C dx:Addr}{fs fs':List (Str × V)}
theorem afw(hok:HOk P w H h)(e:H a=some (.ins C dx fs)):∃ mA,ObjM h a dx C mA/\(∀ f,RelO (fs.lookup f) (mA f))/\PySem.Within mA (fs.map (·.1))/\fs.length<=1000/\H dx=some (.own a):=by
 obtain ⟨d,z,ne,ob,mA,n,r,q⟩:=(show ObjOk P w H h a (.ins C dx fs) from hok a _ e)
 exact ⟨mA,⟨ob,n,ne⟩,r,q,z,d⟩
end
structure Cls (K:PySem.W.Frag) (C:Addr):Prop where
 pg:PySem.W.plainGet K C Str.empty=true
 hd:PySem.W.hasDictIn K C=true
 po:PySem.W.plainOver K C=true
 sa:PySem.W.findIn K (.ref C) "__setattr__" = some (some (.builtin "object.__setattr__"))
theorem Cls.get{K:PySem.W.Frag}{C:Addr}(c:Cls K C)(f:Str):PySem.W.plainGet K C f=true:=c.pg
section
variable{X:Cx}{pins:List (Addr × Obj)}{σ:St}{H:Hp}{s:Shared}{A:Around}{E:Value->Shared->Prop}{Q:Value->Shared->Prop}{c:Value}{b:Bool}
inductive TyOf (K:PySem.W.Frag) (H:Hp):V->Value->Prop where
 | non:TyOf K H .non (.type "NoneType")
 | bl (x:Bool):TyOf K H (.bl x) (.type "bool")
 | int (i:Int):TyOf K H (.int i) (.type "int")
 | str (x:Str):TyOf K H (.str x) (.type "str")
 | flt (x:UInt64):TyOf K H (.flt x) (.type "float")
 | lst {a:Addr} {xs:List V} (e:H a=some (.lst xs)):TyOf K H (.ref a) (.type "list")
 | frz {a:Addr} {o:Obj} {xs:List V} (e:H a=some (.frz o (.lst xs))):TyOf K H (.ref a) (.type "list")
 | tup {a:Addr} {xs:List V} (e:H a=some (.tup xs)):TyOf K H (.ref a) (.type "tuple")
 | dK {a:Addr} {kvs:List (Key × V)} (e:H a=some (.dK kvs)):TyOf K H (.ref a) (.type "dict")
 | dT {a:Addr} {kvs:List (List Key × V)} (e:H a=some (.dT kvs)):TyOf K H (.ref a) (.type "dict")
 | ins {a C dx:Addr} {fs:List (Str × V)} (e:H a=some (.ins C dx fs)) (cl:Cls K C) (ha:PySem.W.findIn K (.ref C) "__class__" = some (some (.builtin "object.__class__")))
   (hn:PySem.W.specialIn K (.builtin "object.__class__") "__get__" = some (some (.builtin "getset_descriptor.__get__"))) (htk:PySem.W.takesIn K (.builtin "object.__class__")=some true)
   (hm:PySem.W.mroIn K C (.type "object")=some true):TyOf K H (.ref a) (.ref C)
theorem aa4{x:V}{u t:Value}(I:Inv X pins σ H s)(rx:RelV x u)(ty:TyOf X.K H x t)(e:PySem.W.kitOne X.K t c=some b)(h:∀ tk,Q (.bool b) { s with toks:=tk }) :
  wpAny (model X.prog X.w) A (call (.builtin "isinstance") [u,c]) Q E s:=by
 cases ty with
 | non=>cases (show u=Value.none from rx);exact PySem.W.kia_one PySem.W.kitx_none I.kIn True.intro e (λz=>nomatch z) h
 | bl y=>cases (show u=Value.bool y from rx);exact PySem.W.kia_one PySem.W.kitx_bool I.kIn True.intro e (λz=>nomatch z) h
 | int i=>obtain ⟨t,q⟩:=(show ∃ t,u=Value.int i t from rx);cases q;exact PySem.W.kia_one PySem.W.kitx_int I.kIn True.intro e (λz=>nomatch z) h
 | str y=>obtain ⟨t,q⟩:=(show ∃ t,u=Value.str y t from rx);cases q;exact PySem.W.kia_one PySem.W.kitx_str I.kIn True.intro e (λz=>nomatch z) h
 | flt y=>obtain ⟨t,q⟩:=(show ∃ t,u=Value.float y t from rx);cases q;exact PySem.W.kia_one PySem.W.kitx_float I.kIn True.intro e (λz=>nomatch z) h
 | @lst a xs ea =>
  cases (show u=Value.ref a from rx)
  obtain ⟨_,_,n,_,h1⟩:=(show ObjOk X.prog X.w H s.heap a (.lst xs) from I.hok a _ ea)
  exact PySem.W.kia_one PySem.W.kitx_list I.kIn ⟨_,h1,rfl⟩ e (λz=>nomatch z) h
 | @frz a ob xs ea =>
  cases (show u=Value.ref a from rx)
  obtain ⟨_,_,_,n,_,h1⟩:=(show ObjOk X.prog X.w H s.heap a (.frz ob (.lst xs)) from I.hok a _ ea)
  exact PySem.W.kia_one PySem.W.kitx_list I.kIn ⟨_,h1,rfl⟩ e (λz=>nomatch z) h
 | @tup a xs ea =>
  cases (show u=Value.ref a from rx)
  obtain ⟨_,_,_,p⟩:=(show ObjOk X.prog X.w H s.heap a (.tup xs) from I.hok a _ ea)
  obtain ⟨o,h1,h2,_⟩:=p;exact PySem.W.kia_one PySem.W.kitx_tuple I.kIn ⟨o,h1,h2⟩ e (λz=>nomatch z) h
 | @dK a kvs ea =>
  cases (show u=Value.ref a from rx)
  obtain ⟨_,_,vs,_,p⟩:=(show ObjOk X.prog X.w H s.heap a (.dK kvs) from I.hok a _ ea)
  obtain ⟨o,es,ep,h1,h2,_⟩:=p;exact PySem.W.kia_one PySem.W.kitx_dict I.kIn ⟨o,h1,h2.1⟩ e (λz=>nomatch z) h
 | @dT a kvs ea =>
  cases (show u=Value.ref a from rx)
  obtain ⟨_,_,xs,_,o,es,ep,h1,h2,_⟩:=(show ObjOk X.prog X.w H s.heap a (.dT kvs) from I.hok a _ ea)
  exact PySem.W.kia_one PySem.W.kitx_dict I.kIn ⟨o,h1,h2.1⟩ e (λz=>nomatch z) h
 | @ins a C dx fs ea cl ha hn htk hm =>
  cases (show u=Value.ref a from rx)
  obtain ⟨mA,O,_⟩:=afw I.hok ea;obtain ⟨od,J,_⟩:=O.look;exact PySem.W.kia_one (PySem.W.kitx_own (cl.get _) cl.hd ha hn htk hm) I.kIn J e (λz=>nomatch z) h
end
structure Room (k:Nat) (A:Around):Prop where
 hd:A.handled=none
 dp:A.depth+3*k+5<recursionLimit
 un:A.units+16*k+200<cLine
 gd:A.guards=some []
theorem Room.mono{j k:Nat}{A:Around}(r:Room k A)(h:j<=k):Room j A:=⟨r.hd,by have:=r.dp;omega,by have:=r.un;omega,r.gd⟩
theorem Room.deeper{k:Nat}{A:Around}(r:Room (k+1) A)(env:Env):Room k (A.deeper env) :=
 ⟨r.hd,by have:=r.dp;show A.depth+1+3*k+5<_;omega,by have:=r.un;show A.units+3+16*k+200<_;omega,r.gd⟩
theorem Room.depth{k:Nat}{A:Around}(r:Room k A):A.depth<recursionLimit:=by have:=r.dp;omega
theorem Room.units{k:Nat}{A:Around}(r:Room k A):A.units+64<cLine:=by have:=r.un;omega
def anl:TA:=λ_ H Q=>Q [] H
def amg(ta:TE)(tr:TA):TA:=λσ H Q=>ta σ H λx H1=>tr σ H1 λxs H2=>Q (x::xs) H2
section
variable{X:Cx}{e:Expr}{es:List Expr}{te:TE}{t:TA}{pos:Pos}
theorem aei:PA X [] anl:=λ_ _ _ _ H Q I h=>Calls.spliced_nil ⟨[],H,I, .nil,h⟩
theorem a6z(ha:PE X e te)(hr:PA X es t)(hs:starEach (e::es) X.env=(false,eval e X.env)::starEach es X.env:=by rfl):PA X (e::es) (amg te t):=by
 intro pos pins s σ H Q I h
 rw [hs];show wpAny _ _ (spliced ((false,eval e X.env)::backTo pos (starEach es X.env))) _ _ s;refine Calls.spliced_cons (thn (ha pins s σ H _ I h) λu s1 ⟨x,H1,I1,r1,q1⟩=>?_);exact thn (hr pos pins s1 σ H1 _ I1 q1) λus s2 ⟨xs,H2,I2,r2,q2⟩=>⟨x::xs,H2,I2, .cons r1 r2,q2⟩
def aon(t:TA):TE:=λσ H Q=>t σ H λxs H1=>xs.length<=sizeLine/\∀ p,H1 p=none->Q (.ref p) (upd H1 p (.tup xs))
def aoo(t:TA):TE:=λσ H Q=>t σ H λxs H1=>xs.length<=sizeLine/\∀ p,H1 p=none->Q (.ref p) (upd H1 p (.lst xs))
theorem aiv{x1}(h:PA X es t):PE X (.Tuple es x1 pos) (aon t):=by
 intro pins s σ H Q I hq
 refine wpAny_Tuple_spliced (thn (h pos pins s σ H _ I hq) λus s1 ⟨xs,H1,I1,r,z,q⟩=>⟨by rw [<-r.length];exact z,?_⟩)
 have hf:H1 s1.heap.objs.size=none:=I1.hok.fresh (Nat.le_refl _);refine ⟨.ref s1.heap.objs.size,upd H1 s1.heap.objs.size (.tup xs),I1.laid (t':=s1.toks) (λb u e=>Heap.get?_push_of_some _ e) (Nat.le_refl _) ?_,rfl,q _ hf⟩;exact ⟨z,us,r,⟨_,Heap.get?_push_size _ rfl,rfl,_,rfl⟩⟩
theorem aiw(h:PA X es t):PE X (.List es pos) (aoo t):=by
 intro pins s σ H Q I hq
 refine wpAny_List_spliced (thn (h pos pins s σ H _ I hq) λus s1 ⟨xs,H1,I1,r,z,q⟩=>⟨by rw [<-r.length];exact z,?_⟩)
 have hf:H1 s1.heap.objs.size=none:=I1.hok.fresh (Nat.le_refl _);refine ⟨.ref s1.heap.objs.size,upd H1 s1.heap.objs.size (.lst xs),I1.laid (t':=s1.toks) (λb u e=>Heap.get?_push_of_some _ e) (Nat.le_refl _) ?_,rfl,q _ hf⟩;exact ⟨z,us,0,r,Heap.get?_push_size _ rfl⟩
end
abbrev Sp:=List V->Hp->VK->XK->Prop
abbrev CXT:=List Env->Hp->Shared->XK->Value->Shared->Prop
structure Env0 (P:Program) (w:World) (K:PySem.W.Frag) (mg:Str->Option Value) (base:Heap) (A:Around) (outer:List Env) (s:Shared) (H:Hp):Prop where
 frames:A.frames=some outer
 mod:Mod K mg base
 bs:∀ b o,base.get? b=some o->s.heap.get? b=some o/\H b=none
 bsz:base.objs.size<=s.heap.objs.size
 funs:s.heap.FunFrames base outer
 frf:∀ b∈frs outer,H b=none
 hok:HOk P w H s.heap
 bare:AllBare s.gens
def CE(outer:List Env)(P:Program)(w:World)(H:Hp)(s:Shared)(Q:VK)(u:Value)(s':Shared):Prop :=
 ∃ v H',s'.os=s.os/\AllBare s'.gens/\Un (frs outer) [] H H' s.heap s'.heap/\HOk P w H' s'.heap/\RelV v u/\Q v H'
def CR(CX:CXT)(outer:List Env)(P:Program)(w:World)(H:Hp)(s:Shared)(Q:VK)(E:XK)(r:Result)(s':Shared):Prop :=
 match r with
 | .ok (.ret u)=>CE outer P w H s Q u s'
 | .ok _=>False
 | .error e=>CX outer H s E e s'
structure FnOk (P:Program) (w:World) (K:PySem.W.Frag) (mg:Str->Option Value) (base:Heap) (CX:CXT) (k:Nat) (f:Addr) (fd:FuncData) (ps:List Str) (sp:Sp):Prop where
 len:∀ vs H Q E,sp vs H Q E->vs.length=ps.length
 run:∀ (A:Around) (outer:List Env) (s:Shared) (H:Hp) (args:Args) (us:List Value) (vs:List V) (Q:VK) (E:XK),Room k A->Env0 P w K mg base A outer s H->BindsTo s fd args (ps.zip us)->Vals vs us->sp vs H Q E->
  codeAny (model P w) A (.call (.ref f) args) (CR CX outer P w H s Q E) s
theorem FnOk.imp{P:Program}{w:World}{K:PySem.W.Frag}{mg:Str->Option Value}{base:Heap}{CX:CXT}{k:Nat}{f:Addr}{fd:FuncData}{ps:List Str}{sp sp':Sp}(F:FnOk P w K mg base CX k f fd ps sp)
  (h:∀ vs H Q E,sp' vs H Q E->sp vs H Q E):FnOk P w K mg base CX k f fd ps sp' :=
 ⟨λvs H Q E q=>F.len vs H Q E (h _ _ _ _ q),λA outer s H args us vs Q E hr he hb hv hs=>F.run A outer s H args us vs Q E hr he hb hv (h _ _ _ _ hs)⟩
section
variable{X:Cx}{pins:List (Addr × Obj)}{σ:St}{H:Hp}{s s':Shared}
theorem Inv.env0(I:Inv X pins σ H s):Env0 X.prog X.w X.K X.mg X.base X.A X.stack s H :=
 ⟨I.ok.frames,I.ok.mod,I.bs,Nat.le_trans I.ok.bsz I.sz,I.stack,I.stkFree,I.hok,I.bare⟩
theorem Inv.after{Q:VK}{u:Value}(I:Inv X pins σ H s)(h:CE X.stack X.prog X.w H s Q u s'):EP X pins σ Q u s':=by
 obtain ⟨v,H',os,bare,un,hok,r,q⟩:=h;obtain ⟨hh,g,d,t,os'⟩:=s';obtain rfl:os'=s.os:=os;exact ⟨v,H',I.call (h':=hh) (g':=g) (d':=d) (t':=t) (ch:=[]) un hok bare (λb z=>absurd z (by simp)),r,q⟩
end
def aix(sp:Sp)(dvs:List V)(E:XK)(t:TA):TE:=λσ H Q=>t σ H λvs H1=>sp (vs++dvs) H1 Q E
def Binds(K:PySem.W.Frag)(fd:FuncData)(ps:List Str)(ds:List Value):Prop :=
 ∀ (s:Shared) (us:List Value),K.In s.heap->(us++ds).length=ps.length->BindsTo s fd ⟨us,[]⟩ (ps.zip (us++ds))
theorem Binds.all{K:PySem.W.Frag}{fd:FuncData}{ps:List Str}(h:∀ us:List Value,us.length=ps.length->bindArgs fd ⟨us,[]⟩=pure (ps.zip us)):Binds K fd ps []:=λs us _ hl=>by
 rw [List.append_nil] at hl ⊢;exact .of_eq (h us hl)
def a7s(CX:CXT)(X:Cx)(E:XK):Prop:=∀ (pins:List (Addr × Obj)) (σ:St) (H:Hp) (s:Shared) (e:Value) (s':Shared),Inv X pins σ H s->CX X.stack H s E e s'->X.xe e s'
section
variable{X:Cx}{CX:CXT}{k:Nat}{f C:Addr}{fd:FuncData}{ps:List Str}{sp:Sp}{dvs:List V}{ds:List Value}{E:XK}{x m:Str}{p pos apos:Pos}{e o:Expr}{es:List Expr}{ta:TE}{t:TA}
theorem aej{pins:List (Addr × Obj)}{σ:St}{H:Hp}{s:Shared}{Q:VK}{us:List Value}{vs:List V}(F:FnOk X.prog X.w X.K X.mg X.base CX k f fd ps sp)(hr:Room k X.A)(hb:Binds X.K fd ps ds)(hd:Vals dvs ds)(hx:a7s CX X E)
  (I:Inv X pins σ H s) (r:Vals vs us) (h:sp (vs++dvs) H Q E):wpAny (model X.prog X.w) X.A (call (.ref f) us) (EP X pins σ Q) X.xe s:=by
 have r2:Vals (vs++dvs) (us++ds):=r.append hd;have hl:(us++ds).length=ps.length:=by rw [<-r2.length];exact F.len _ _ _ _ h
 refine wpAny_call (codeAny_mono (F.run X.A X.stack s H ⟨us,[]⟩ (us++ds) (vs++dvs) Q E hr I.env0 (hb s us I.kIn hl) r2 h) λr s' hq=>?_)
 cases r with
 | error e=>exact hx pins σ H s e s' I hq
 | ok fl =>
  cases fl with
  | ret u=>exact I.after hq
  | next=>exact False.elim hq
  | brk=>exact False.elim hq
  | cont=>exact False.elim hq
theorem afx(F:FnOk X.prog X.w X.K X.mg X.base CX k f fd ps sp)(hr:Room k X.A)(hg:Gl X x)(hm:X.mg x=some (.ref f))(hk:PySem.W.keepIn X.K (.ref f)=true)(hb:Binds X.K fd ps ds)(hd:Vals dvs ds)(hx:a7s CX X E)
  (ha:PA X (e::es) t) (hdb:(x == ("__debug__" : Str))=false:=by decide) (he:starEach (e::es) X.env=(false,eval e X.env)::starEach es X.env:=by rfl) (hpl:(backTo pos (starEach es X.env)).any (·.1)=false:=by rfl) :
  PE X (.Call (.Name x p) (e::es) [] pos) (aix sp dvs E t):=by
 intro pins s σ H Q I h
 refine wpAny_Call_Name_kw (a9t I hg hm ?_ hdb);refine PySem.W.callWith_K (h₀:=X.base) I.ok.mod.kin hk (thn (ha pos pins s σ H _ I h) λus s1 ⟨vs,H1,I1,r,q⟩=>⟨I1.kIn,?_⟩) he hpl;exact aej F hr hb hd hx I1 r q
theorem acj(F:FnOk X.prog X.w X.K X.mg X.base CX k f fd ps sp)(hr:Room k X.A)(hg:Gl X x)(hm:X.mg x=some (.ref f))(hk:PySem.W.keepIn X.K (.ref f)=true)(hb:Binds X.K fd ps ds)(hd:Vals dvs ds)(hx:a7s CX X E)
  (hdb:(x == ("__debug__" : Str))=false:=by decide):PE X (.Call (.Name x p) [] [] pos) (aix sp dvs E anl):=by
 intro pins s σ H Q I h
 refine wpAny_Call_Name_kw (a9t I hg hm ?_ hdb);exact PySem.W.callWith_K0 I.kIn hk (aej (us:=[]) F hr hb hd hx I .nil h)
end
structure FnScope (N P:List Str) (sc:Scope):Prop where
 kind:sc.kind = .function
 co:sc.isCoroutine=false
 gen:sc.isGenerator=false
 nd:N.Nodup
 pre:N.take P.length=P
 par:∀ x∈P,sc.names.lookup x=some .local\/sc.names.lookup x=some .cell
 nofree:∀ y∈sc.names,y.2≠.free
theorem a5v{kindOf:Str->Option NameKind}{x:Str}:∀ {binds:List (Str × Value)} {m:Str->Option Value},(∀ v,(x,v) ∉ binds)->bindL kindOf binds m x=m x
 | [],_,_=>rfl
 | (n,v)::r,m,h=>by
  unfold bindL;rw [a5v λw hw=>h w (List.mem_cons_of_mem _ hw)]
  split
  ·have:x≠n:=by rintro rfl;exact h v List.mem_cons_self
   simp [this]
  ·rfl
theorem a5w{kindOf:Str->Option NameKind}{x:Str}:∀ {binds:List (Str × Value)} {m:Str->Option Value},(∀ v,(x,v) ∉ binds)->bindC kindOf binds m x=m x
 | [],_,_=>rfl
 | (n,v)::r,m,h=>by
  unfold bindC;rw [a5w λw hw=>h w (List.mem_cons_of_mem _ hw)]
  split
  ·rfl
  ·have:x≠n:=by rintro rfl;exact h v List.mem_cons_self
   simp [this]
theorem a5x{kindOf:Str->Option NameKind}{x:Str}{v:Value}:∀ {P:List Str} {vs:List Value} {i:Nat} {m:Str->Option Value},P.Nodup->P[i]? = some x->vs[i]? = some v->kindOf x=some .local->
  bindL kindOf (P.zip vs) m x=some v
 | [],_,_,_,_,h,_,_=>by simp at h
 | _::_,[],_,_,_,_,h,_=>by simp at h
 | p::P,w::vs,0,m,nd,h1,h2,hk=>by
  simp at h1 h2;subst h1;subst h2
  show bindL kindOf ((p,w)::P.zip vs) m p=_;unfold bindL;rw [a5v λv hv=>(List.nodup_cons.mp nd).1 (List.of_mem_zip hv).1,if_pos hk];simp
 | p::P,w::vs,i+1,m,nd,h1,h2,hk=>by
  show bindL kindOf ((p,w)::P.zip vs) m x=_;unfold bindL;exact a5x (i:=i) (List.nodup_cons.mp nd).2 (by simpa using h1) (by simpa using h2) hk
theorem a5y{kindOf:Str->Option NameKind}{x:Str}{v:Value}:∀ {P:List Str} {vs:List Value} {i:Nat} {m:Str->Option Value},P.Nodup->P[i]? = some x->vs[i]? = some v->kindOf x≠some .local->
  bindC kindOf (P.zip vs) m x=some v
 | [],_,_,_,_,h,_,_=>by simp at h
 | _::_,[],_,_,_,_,h,_=>by simp at h
 | p::P,w::vs,0,m,nd,h1,h2,hk=>by
  simp at h1 h2;subst h1;subst h2
  show bindC kindOf ((p,w)::P.zip vs) m p=_;unfold bindC;rw [a5w λv hv=>(List.nodup_cons.mp nd).1 (List.of_mem_zip hv).1,if_neg hk];simp
 | p::P,w::vs,i+1,m,nd,h1,h2,hk=>by
  show bindC kindOf ((p,w)::P.zip vs) m x=_;unfold bindC;exact a5y (i:=i) (List.nodup_cons.mp nd).2 (by simpa using h1) (by simpa using h2) hk
def start(N:List Str)(vs:List V):St:=vs.map some++List.replicate (N.length - vs.length) none
def zr(CX:CXT)(P:Program)(w:World)(K:PySem.W.Frag)(mg:Str->Option Value)(base:Heap)(N:List Str)(qual:Str)(scope:Scope)(f:Addr)(cd:Value)(A:Around)(outer:List Env)(s:Shared)(H:Hp)(E:XK):Cx where
 prog:=P
 w:=w
 K:=K
 mg:=mg
 base:=base
 A:=A.deeper (envOfC qual scope s.heap.objs.size f cd)
 N:=N
 s₀:=s
 H₀:=H
 env:=envOfC qual scope s.heap.objs.size f cd
 outer:=outer
 stack:=envOfC qual scope s.heap.objs.size f cd::outer
 ex:=[]
 calm:=true
 fn:=λ_=>true
 pn:=[]
 xe:=λe s'=>wpAny (model P w) (A.deeper (envOfC qual scope s.heap.objs.size f cd)) (leaving (envOfC qual scope s.heap.objs.size f cd) e) (λ_ s''=>CX outer H s E e s'') (λe' s''=>CX outer H s E e' s'') s'
theorem a7t{sc:Scope}{n:Nat}{x:Str}(h:sc.names.lookup x=some .cell):∃ c,(cellsFrom n sc.names []).lookup x=some c:=by
 have q:=PySem.W.cellsFrom_some sc.names n [] (.inl h);exact Option.isSome_iff_exists.mp q
theorem aa5{CX:CXT}{P:Program}{w:World}{K:PySem.W.Frag}{mg:Str->Option Value}{base:Heap}{N ps:List Str}{qual:Str}{scope:Scope}{f:Addr}{cd:Value}{A:Around}{outer:List Env}{s s1:Shared}{H:Hp}{E:XK}{us:List Value}{vs:List V}
  (S:FnScope N ps scope) (hd:A.handled=none) (e0:Env0 P w K mg base A outer s H) (hl:vs.length=ps.length) (r:Vals vs us)
  (x:InCallC s s.heap.objs.size (bindL (envOfC qual scope s.heap.objs.size f cd).kindOf (ps.zip us) λ_=>none) (cellsFrom (s.heap.objs.size+1) scope.names []) (bindC (envOfC qual scope s.heap.objs.size f cd).kindOf (ps.zip us) λ_=>none) s1) :
  Inv (zr CX P w K mg base N qual scope f cd A outer s H E) [] (start N vs) H s1:=by
 have hpl:ps.length<=N.length:=by have:=congrArg List.length S.pre;rw [List.length_take] at this;omega
 obtain ⟨h1,tk,rfl,hk⟩:=x.done;have noA:∀ b:Addr,b ∉ (zr CX P w K mg base N qual scope f cd A outer s H E).ex:=λb z=>absurd (show b∈([]:List Addr) from z) (by simp)
 refine ⟨⟨e0.mod,S.kind,rfl,rfl,Nat.le_refl _,λy z c h1 h2=>?_,λy hy=>?_,λy c _ h=>?_,λ_=>hd,Around.frames_deeper e0.frames, .inr ⟨rfl,rfl⟩,λb z=>absurd z (noA b),e0.bs,e0.bsz,λb _ _=>noA b,λb z=>absurd z (noA b),e0.funs,e0.frf⟩,
  rfl,e0.bare,Un.kept hk,⟨_,x.toInCall.ns,λi y v h1 h2 h3=>?_⟩,λy c h=>⟨_,x.cell y c h⟩,e0.hok.fresh (Nat.le_refl _),λy c h=>?_,λp hp=>absurd (show p∈([]:List (Addr × Obj)) from hp) (by simp),e0.hok.kept hk,?_⟩
 ·exact name_of_addr x.apart (PySem.mem_of_lookup h1) (PySem.mem_of_lookup h2)
 ·have hy:scope.names.lookup y=some .cell\/scope.names.lookup y=some .free:=hy
  rcases hy with hy | hy
  ·exact a7t hy
  ·exact absurd rfl (S.nofree _ (PySem.mem_of_lookup hy))
 ·exact Nat.le_of_lt (x.above y c (PySem.mem_of_lookup h))
 ·have hi:i<vs.length:=by
   unfold start at h2
   by_cases hi:i<vs.length
   ·exact hi
   ·rw [List.getElem?_append_right (by simpa using hi)] at h2
    rw [List.getElem?_replicate] at h2
    split at h2<;>cases h2
  have ha:vs[i]? = some v:=by
   unfold start at h2;rw [List.getElem?_append_left (by simpa using hi),List.getElem?_map] at h2
   cases e:vs[i]? with
   | none=>rw [e] at h2;cases h2
   | some a=>rw [e] at h2;cases h2;rfl
  obtain ⟨u,hu,rv⟩:=r.get ha;have hp:ps[i]? = some y:=by
   rw [<-S.pre,List.getElem?_take_of_lt (by omega)];exact h1
  have ndP:ps.Nodup:=by rw [<-S.pre];exact S.nd.sublist (List.take_sublist _ _)
  refine ⟨u,rv,?_⟩
  rcases S.par y (List.mem_of_getElem? hp) with k | k
  ·exact .inl ⟨k,a5x ndP hp hu k⟩
  ·obtain ⟨c,e⟩:=a7t (n:=s.heap.objs.size+1) k;refine .inr ⟨.inl k,c,e,?_⟩;have q:=x.cell y c e;rw [a5y ndP hp hu (by show scope.names.lookup y≠_;rw [k];decide)] at q
   exact q
 ·exact e0.hok.fresh (Nat.le_of_lt (x.above y c (PySem.mem_of_lookup h)))
 ·unfold start;show _=N.length;rw [List.length_append,List.length_map,List.length_replicate];omega
theorem amh{CX:CXT}{P:Program}{w:World}{K:PySem.W.Frag}{mg:Str->Option Value}{base:Heap}{k:Nat}{f:Addr}{name qual:Str}{params:Arguments}{body:List Stmt}{scope:Scope}{dV kV doc pm cdv ct oc:Value}{an od:Option Addr}
  {osl:Array (Option Value)} {N ps:List Str} {sp:Sp} (lk:K.lookup f=some ⟨oc,od, .func (PySem.W.fnOf name qual params body scope dV kV doc pm an cdv ct),osl⟩) (hcd:PySem.W.codeIn K cdv qual=true) (S:FnScope N ps scope)
  (len:∀ vs H Q E,sp vs H Q E->vs.length=ps.length)
  (hbody:∀ (A:Around) (outer:List Env) (s:Shared) (H:Hp) (vs:List V) (Q:VK) (E:XK),Room k (A.deeper (envOfC qual scope s.heap.objs.size f cdv))->sp vs H Q E->
   ∃ t,PSs (zr CX P w K mg base N qual scope f cdv A outer s H E) body t/\t { nx:=λ_ H'=>Q .non H',rt:=Q } (start N vs) H) :
  FnOk P w K mg base CX (k+1) f (PySem.W.fnOf name qual params body scope dV kV doc pm an cdv ct) ps sp:=by
 refine ⟨len,λA outer s H args us vs Q E hr e0 hb r hsp=>?_⟩;have hl:=len _ _ _ _ hsp;have KX:K.In s.heap:=e0.mod.kin.keeps λb o e=>(e0.bs b o e).1;have lim:s.heap.NoLimit:=e0.mod.nolimit.keeps λb o e=>(e0.bs b o e).1;have hkind:∀ y∈ps.zip us,scope.names.lookup y.1=some .local\/(scope.names.lookup y.1=some .cell/\((cellsFrom (s.heap.objs.size+1) scope.names []).lookup y.1).isSome=true):=λ⟨n,v⟩ hy=>by
  rcases S.par n (List.of_mem_zip hy).1 with q | q
  ·exact .inl q
  ·exact .inr ⟨q,PySem.W.cellsFrom_some _ _ _ (.inl q)⟩
 refine codeAny_call_function hr.depth (KX _ _ lk) rfl S.co S.gen rfl (PySem.W.codeRec_of KX hcd) (hb _ _ _ _ ?_);refine wpAny_newFunctionEnv_cells S.kind hkind λenv he s1 x=>?_;subst he;refine ⟨lim.keeps x.toInCall.keep,codeAny_func ?_⟩;obtain ⟨t,ht,hq⟩:=hbody A outer s H vs Q E (hr.deeper _) hsp;have I:Inv (zr CX P w K mg base N qual scope f cdv A outer s H E) [] (start N vs) H s1:=aa5 S hr.hd e0 hl r x;refine wpAny_mono (ht [] s1 (start N vs) H _ I hq) (λfl s' hs=>?_) λe s' hs=>hs;have fin:∀ {σ':St} {H':Hp} {v:V} {u:Value},Inv (zr CX P w K mg base N qual scope f cdv A outer s H E) [] σ' H' s'->RelV v u->Q v H'->CE outer P w H s Q u s' :=
  λ{σ' H' v u} J rv q=>⟨v,H',J.os,J.bare,J.base,J.hok,rv,q⟩
 cases fl with
 | ret u =>
  obtain ⟨v,σ',H',J,rv,q⟩:=hs;exact fin J rv q
 | next =>
  obtain ⟨σ',H',J,q⟩:=hs;exact fin (v:=V.non) (u:=Value.none) J rfl q
 | brk =>
  obtain ⟨_,_,_,q⟩:=hs;exact False.elim q
 | cont =>
  obtain ⟨_,_,_,q⟩:=hs;exact False.elim q
section
variable{X:Cx}{x:Str}{p pos:Pos}{e:Expr}{es:List Expr}{t:TA}{id T:String}{r:List V->Hp->VK->Prop}
def tCB(r:List V->Hp->VK->Prop)(t:TA):TE:=λσ H Q=>t σ H λvs H1=>r vs H1 Q
theorem ack(hc:CallR X (.builtin id) r)(hg:Gl X x)(hm:X.mg x=none)(hv:bootBuiltins x=some (.builtin id))(ha:PA X (e::es) t)(hn:x ≠ "__name__":=by decide)(hdb:(x == ("__debug__" : Str))=false:=by decide)
  (he:starEach (e::es) X.env=(false,eval e X.env)::starEach es X.env:=by rfl) (hpl:(backTo pos (starEach es X.env)).any (·.1)=false:=by rfl):PE X (.Call (.Name x p) (e::es) [] pos) (tCB r t):=by
 intro pins s σ H Q I h
 refine wpAny_Call_Name_kw (a5s I hg hm hv ?_ hn hdb);exact PyProof.Rows.callWith_builtin1 (thn (ha pos pins s σ H _ I h) λus s1 ⟨vs,H1,I1,r1,q1⟩=>hc pins s1 σ H1 vs us Q I1 r1 q1) he hpl
theorem aa6(hc:CallR X (.type T) r)(hg:Gl X x)(hm:X.mg x=none)(hv:bootBuiltins x=some (.type T))(ha:PA X (e::es) t)(hn:x ≠ "__name__":=by decide)(hdb:(x == ("__debug__" : Str))=false:=by decide)
  (he:starEach (e::es) X.env=(false,eval e X.env)::starEach es X.env:=by rfl) (hpl:(backTo pos (starEach es X.env)).any (·.1)=false:=by rfl):PE X (.Call (.Name x p) (e::es) [] pos) (tCB r t):=by
 intro pins s σ H Q I h
 refine wpAny_Call_Name_kw (a5s I hg hm hv ?_ hn hdb);exact PyProof.Rows.callWith_type1 (thn (ha pos pins s σ H _ I h) λus s1 ⟨vs,H1,I1,r1,q1⟩=>hc pins s1 σ H1 vs us Q I1 r1 q1) he hpl
end
end L2
namespace HT
open PySem PyProof.Rows
section
variable{prog:Program}{w:World}{A:Around}{E:Value->Shared->Prop}{s:Shared}
theorem afy{t b:Addr}{vs ws:List Value}{Q:Value->Shared->Prop}(ht:IsTup s.heap t vs.toArray)(hb:IsTup s.heap b ws.toArray)(hv:vs≠[])
  (h1:ws=[]->Q (.ref t) s) (h2:ws≠[]->Q (.ref s.heap.objs.size) { s with heap:=s.heap.push { cls:=.type "tuple",data:=.seq (vs++ws).toArray } })
  (hsz:vs.length+ws.length<=sizeLine):wpAny (model prog w) A (binaryOp .Add (.ref t) (.ref b)) Q E s:=by
 obtain ⟨⟨cls,dd,data,sl⟩,ho,hc,n,hd⟩:=id ht;obtain ⟨⟨cls2,dd2,data2,sl2⟩,ho2,hc2,n2,hd2⟩:=id hb;simp only at hc hd hc2 hd2;subst hc hd hc2 hd2;have e:vs.toArray++ws.toArray=(vs++ws).toArray:=by simp
 by_cases hw:ws=[]
 ·exact concat_meets ⟨_,ho,rfl⟩ ⟨_,ho2,rfl⟩ noFill_tuple_add seq_tuple_add PySem.F.slot_tuple_add PySem.F.entry_tuple_add (PySem.F.args_tuple_add_2 _ _)
   (tuple_addW1 t b vs.toArray ws.toArray n n2 dd dd2 sl sl2 (by simpa using hv) (by simp [hw])) ⟨ho,ho2,h1 hw⟩
 ·refine concat_meets ⟨_,ho,rfl⟩ ⟨_,ho2,rfl⟩ noFill_tuple_add seq_tuple_add PySem.F.slot_tuple_add PySem.F.entry_tuple_add (PySem.F.args_tuple_add_2 _ _)
   (tuple_addW2 t b vs.toArray ws.toArray n n2 dd dd2 sl sl2 (by simpa using hv) (by simpa using hw) (by rw [List.size_toArray,List.size_toArray];exact hsz)) ⟨ho,ho2,?_⟩
  rw [e];exact h2 hw
def sIx(n d:Nat):Option Int->Nat
 | none=>d
 | some v=>if v<0 then (v+(n:Int)).toNat else min v.toNat n
theorem a3x(n d:Nat):sIx n d none=d:=rfl
theorem a3y(n d k:Nat):sIx n d (some (k:Int))=min k n:=by
 show (if (k:Int)<0 then ((k:Int)+(n:Int)).toNat else min (k:Int).toNat n)=min k n
 rw [if_neg (by omega),Int.toNat_natCast]
theorem aa7(n d:Nat)(hd:d<=n)(o:Option Int):sIx n d o<=n:=by
 cases o with
 | none=>exact hd
 | some v =>
  show (if v<0 then (v+(n:Int)).toNat else min v.toNat n)<=n
  by_cases hv:v<0
  ·rw [if_pos hv];omega
  ·rw [if_neg hv];exact Nat.min_le_right _ _
theorem aa8(v:Int)(n d:Nat):(if v<0 then max (v+(n:Int)) 0 else min v (n:Int))=((sIx n d (some v):Nat):Int):=by
 show (if v<0 then max (v+(n:Int)) 0 else min v (n:Int))=(((if v<0 then (v+(n:Int)).toNat else min v.toNat n):Nat):Int)
 by_cases hv:v<0
 ·simp only [if_pos hv];omega
 ·simp only [if_neg hv];omega
theorem a91(lo hi:Option Int)(n:Nat):Builtin.Slice.sliceAdjust lo hi 1 (n:Int)=(((sIx n 0 lo:Nat):Int),((sIx n n hi:Nat):Int)):=by
 have h1:¬ ((1:Int)<0):=by omega
 unfold Builtin.Slice.sliceAdjust;simp only [h1,if_false];refine Prod.ext ?_ ?_
 ·cases lo with
  | none=>rfl
  | some v=>exact aa8 v n 0
 ·cases hi with
  | none=>rfl
  | some v=>exact aa8 v n n
theorem a92(i j:Nat):Builtin.Slice.slicePlaces (i:Int) (j:Int) 1=j - i:=by
 unfold Builtin.Slice.slicePlaces;have h1:(1:Int) > 0:=by omega
 simp only [h1,if_true,Int.ediv_one]
 split<;>omega
theorem vy{v:Value}{o:Option Int}{Q:Option Int->Shared->Prop}(p:IsPart v o)(h:Q o s):wpAny (model prog w) A (Builtin.Slice.slicePartIndex v) Q E s:=by
 cases p with
 | none=>exact slicePart_none h
 | int i t=>exact slicePart_int h
theorem xu{sl:Addr}{vl vu:Value}{lo hi:Option Int}{n:Nat}{Q:Int × Int × Nat->Shared->Prop}(hs:s.heap.IsSliceOf sl vl vu .none)(pl:IsPart vl lo)(pu:IsPart vu hi)
  (h:Q (((sIx n 0 lo:Nat):Int),1,sIx n n hi - sIx n 0 lo) s):wpAny (model prog w) A (Builtin.Slice.sliceApplied (.ref sl) (pure (n:Int))) Q E s:=by
 obtain ⟨os,hos,hcs,hds⟩:=id hs;unfold Builtin.Slice.sliceApplied Builtin.Slice.sliceFields;refine wpAny_bind (wpAny_bind (wpAny_field hos hds (x:=vl) rfl (wpAny_bind (wpAny_field hos hds (x:=vu) rfl (wpAny_bind (wpAny_field hos hds (x:=.none) rfl (wpAny_pure ?_)))))));refine wpAny_bind (slicePart_none ?_);show wpAny _ _ (if ((1:Int) == 0)=true then _ else _) _ _ s
 rw [if_neg (by decide)]
 refine wpAny_bind (vy pl (wpAny_bind (vy pu (wpAny_bind (wpAny_pure ?_)))));show wpAny _ _ (match Builtin.Slice.sliceAdjust lo hi 1 (n:Int) with | (lo,hi)=>pure (lo,(1:Int),Builtin.Slice.slicePlaces lo hi 1)) _ _ s
 rw [a91 lo hi n];show wpAny _ _ (pure (((sIx n 0 lo:Nat):Int),(1:Int),Builtin.Slice.slicePlaces ((sIx n 0 lo:Nat):Int) ((sIx n n hi:Nat):Int) 1)) _ _ s;rw [a92];exact wpAny_pure h
theorem acl(xs:Array Value)(i k:Nat):((List.range k).filterMap λ(m:Nat)=>xs[((i:Int)+(m:Int)*1).toNat]?).toArray=((xs.toList.drop i).take k).toArray:=by
 have e:(λ(m:Nat)=>xs[((i:Int)+(m:Int)*1).toNat]?)=λm=>xs[i+m]?:=by
  funext m
  have:((i:Int)+(m:Int)*1).toNat=i+m:=by omega
  rw [this]
 rw [e];have:=pick_run xs i k;rw [List.filterMap_map] at this;have e2:((λx=>xs[x]?) ∘ λx=>i+x)=λm=>xs[i+m]?:=rfl;rw [e2] at this;rw [this]
theorem a0n{t sl:Addr}{items:Array Value}{vl vu:Value}{lo hi:Option Int}{Q:Value->Shared->Prop}(ht:IsTup s.heap t items)(hs:s.heap.IsSliceOf sl vl vu .none)(pl:IsPart vl lo)(pu:IsPart vu hi)
  (hw:¬ (sIx items.size 0 lo=0/\sIx items.size items.size hi=items.size))
  (h:Q (.ref s.heap.objs.size) { s with heap:=s.heap.push { cls:=.type "tuple",data:=.seq ((items.toList.drop (sIx items.size 0 lo)).take (sIx items.size items.size hi - sIx items.size 0 lo)).toArray } })
  (hsz:items.size<=sizeLine):wpAny (model prog w) A (getItem (.ref t) (.ref sl)) Q E s:=by
 have htake:sizeOk (.seq ((items.toList.drop (sIx items.size 0 lo)).take (sIx items.size items.size hi - sIx items.size 0 lo)).toArray):=by
  show ((items.toList.drop (sIx items.size 0 lo)).take (sIx items.size items.size hi - sIx items.size 0 lo)).toArray.size<=sizeLine;rw [List.size_toArray,List.length_take,List.length_drop,Array.length_toList];omega
 have hj:sIx items.size items.size hi<=items.size:=aa7 _ _ (Nat.le_refl _) hi;obtain ⟨os,hos,hcs,hds⟩:=id hs;have hTs:s.TypeIs (.ref sl) "slice":=⟨os,hos,hcs⟩;unfold getItem
 try with_reducible refine wpAny_holding ?_
 first | refine wpAny_bind (wpAny_pure ?_) | skip
 refine wpAny_bind (wpAny_sequenceKey ht.typeIs (by decide) ?_)
 refine wpAny_bind (wpAny_callSpecial?_slot (name:=Str.ofString "__getitem__") ht.typeIs PyProof.Rows.slot_tuple_getitem
  (wpAny_call_entry PyProof.Rows.slot_tuple_getitem ht.typeIs entry_tuple_getitem ?_ (args_tuple_getitem _ _)))
 show wpAny _ _ (Builtin.Tuple.tupleItemsOf (.ref t)>>=_) _ _ s;refine wpAny_bind (tupleItemsOf_ ht ?_);refine wpAny_bind (wpAny_typeOf hTs ?_);rw [if_pos (by decide)]
 refine wpAny_bind (xu hs pl pu ?_);have hno:¬ ((((sIx items.size 0 lo:Nat):Int) == 0 && (1:Int) == 1 && (sIx items.size items.size hi - sIx items.size 0 lo) == items.size)=true):=by
  intro q
  rw [Bool.and_eq_true,Bool.and_eq_true] at q;have q1:((sIx items.size 0 lo:Nat):Int)=0:=eq_of_beq q.1.1;have q2:sIx items.size items.size hi - sIx items.size 0 lo=items.size:=eq_of_beq q.2;exact hw ⟨by omega,by omega⟩
 show wpAny _ _ (if (((sIx items.size 0 lo:Nat):Int) == 0 && (1:Int) == 1 && (sIx items.size items.size hi - sIx items.size 0 lo) == items.size)=true then _ else _) _ _ s
 rw [if_neg hno,acl]
 first
  | exact wpAny_bind (m:=Builtin.Tuple.tupleExact _) (wpAny_newObj_type (wpAny_pure ⟨_,rfl,wpAny_pure h⟩) htake)
  | exact wpAny_bind (m:=Builtin.Tuple.tupleExact _) (wpAny_newObj_type (wpAny_bind (wpAny_pure (wpAny_pure ⟨_,rfl,wpAny_pure h⟩))) htake)
  | exact wpAny_bind (wpAny_bind (m:=Builtin.Tuple.tupleExact _) (wpAny_newObj_type (wpAny_pure (wpAny_pure ⟨_,rfl,wpAny_pure h⟩)) htake))
  | exact wpAny_bind (wpAny_bind (m:=Builtin.Tuple.tupleExact _) (wpAny_newObj_type (wpAny_pure ⟨_,rfl,wpAny_pure h⟩) htake))
end
end HT
namespace L2
open PySem PySem.Spec PyProof.Rows
abbrev TO:=St->Hp->(Option Int->Hp->Prop)->Prop
def PO(X:Cx)(e:Option Expr)(t:TO):Prop :=
 ∀ (pins:List (Addr × Obj)) (s:Shared) (σ:St) (H:Hp) (Q:Option Int->Hp->Prop),Inv X pins σ H s->t σ H Q->
  wpAny (model X.prog X.w) X.A (evalPart e X.env) (λu s'=>∃ o H',Inv X pins σ H' s'/\IsPart u o/\Q o H') X.xe s
def afz:TO:=λ_ H Q=>Q none H
def ami(t:TE):TO:=λσ H Q=>t σ H λx H1=>∃ i,x = .int i/\Q (some i) H1
section
variable{X:Cx}{e:Expr}{te:TE}{lo hi:Option Expr}{tl th:TO}{pos p2:Pos}
theorem ag0:PO X none afz:=by
 intro pins s σ H Q I h
 rw [evalPart_none];exact wpAny_pure ⟨none,H,I, .none,h⟩
theorem ag1(h:PE X e te):PO X (some e) (ami te):=by
 intro pins s σ H Q I hw
 rw [evalPart_some];refine thn (h pins s σ H _ I hw) λu s1 ⟨x,H1,I1,r1,q1⟩=>?_;obtain ⟨i,rfl,q⟩:=q1;obtain ⟨t,rfl⟩:=r1;exact ⟨some i,H1,I1, .int i t,q⟩
def SlR(X:Cx)(r:V->Option Int->Option Int->Hp->VK->Prop):Prop :=
 ∀ (pins:List (Addr × Obj)) (s:Shared) (σ:St) (H:Hp) (x:V) (v vl vu:Value) (lo hi:Option Int) (sl:Addr) (Q:VK),Inv X pins σ H s->RelV x v->s.heap.IsSliceOf sl vl vu .none->IsPart vl lo->IsPart vu hi->r x lo hi H Q->
  ∃ T id,typeLookup (.type T) "__getitem__" = pure (some (.builtin id))/\s.TypeIs v T/\wpAny (model X.prog X.w) X.A (getItem v (.ref sl)) (EP X pins σ Q) X.xe s
theorem SlR.or{r r':V->Option Int->Option Int->Hp->VK->Prop}(h:SlR X r)(h':SlR X r'):SlR X (λx lo hi H Q=>r x lo hi H Q\/r' x lo hi H Q):=by
 intro pins s σ H x v vl vu lo hi sl Q I rx hs pl pu q
 rcases q with q | q
 ·exact h pins s σ H x v vl vu lo hi sl Q I rx hs pl pu q
 ·exact h' pins s σ H x v vl vu lo hi sl Q I rx hs pl pu q
def tSl(r:V->Option Int->Option Int->Hp->VK->Prop)(te:TE)(tl th:TO):TE:=λσ H Q=>te σ H λx H1=>tl σ H1 λl H2=>th σ H2 λu H3=>r x l u H3 Q
theorem acn{r:V->Option Int->Option Int->Hp->VK->Prop}(hr:SlR X r)(he:PE X e te)(hl:PO X lo tl)(hu:PO X hi th):PE X (.Subscript e (.Slice lo hi none p2) pos) (tSl r te tl th):=by
 intro pins s σ H Q I h
 refine Subscript_ (thn (he pins s σ H _ I h) λv s1 ⟨x,H1,I1,r1,q1⟩=>?_);refine wpAny_Slice (thn (hl pins s1 σ H1 _ I1 q1) λvl s2 ⟨l,H2,I2,pl,q2⟩=>thn (hu pins s2 σ H2 _ I2 q2) λvu s3 ⟨u,H3,I3,pu,q3⟩=>?_);rw [evalPart_none];refine wpAny_pure ?_;have I4:Inv X pins σ H3 { s3 with heap:=s3.heap.push { cls:=.type "slice",data:=.fields #[vl,vu, .none] } }:=I3.kept (t':=s3.toks) λb ob q=>Heap.get?_push_of_some _ q
 obtain ⟨T,id,hT,ht,hg⟩:=hr pins { s3 with heap:=s3.heap.push { cls:=.type "slice",data:=.fields #[vl,vu, .none] } } σ H3 x v vl vu l u s3.heap.objs.size Q I4 r1 (Heap.IsSliceOf.new ..) pl pu q3
 show wpAny (model X.prog X.w) X.A (subscriptTail e (.Slice lo hi none p2) v (.ref s3.heap.objs.size)) (EP X pins σ Q) X.xe { s3 with heap:=s3.heap.push { cls:=.type "slice",data:=.fields #[vl,vu, .none] } }
 exact tail_any (ops:=[.ref s3.heap.objs.size,v]) ht hT hg (by with_unfolding_all rfl)
def aek(xs:List V)(lo hi:Option Int):List V:=(xs.drop (HT.sIx xs.length 0 lo)).take (HT.sIx xs.length xs.length hi - HT.sIx xs.length 0 lo)
theorem a1y(xs:List V)(lo hi:Option Int):(aek xs lo hi).length<=xs.length:=by
 unfold aek;rw [List.length_take,List.length_drop];omega
def amj(K:PySem.W.Frag):V->Option Int->Option Int->Hp->VK->Prop:=λx lo hi H Q=>∃ a xs,x = .ref a/\SqT K H a xs /\
 ¬ (HT.sIx xs.length 0 lo=0/\HT.sIx xs.length xs.length hi=xs.length)/\∀ p,H p=none->Q (.ref p) (upd H p (.tup (aek xs lo hi)))
theorem aiy:SlR X (amj X.K):=by
 intro pins s σ H x v vl vu lo hi sl Q I rx hs pl pu h
 obtain ⟨a,xs,rfl,hx,hw,q⟩:=h;cases rx
 obtain ⟨its,r,ht,hz⟩:=I.tuple hx;have hlen:its.toArray.size=xs.length:=by rw [List.size_toArray];exact r.length.symm
 refine ⟨"tuple",_,PyProof.Rows.slot_tuple_getitem.lookup,ht.typeIs,?_⟩;refine HT.a0n ht hs pl pu (by rw [hlen];exact hw) ?_ (by rw [hlen];exact hz)
 rw [hlen];refine ⟨.ref s.heap.objs.size,_,I.laid (t':=s.toks) (o:=.tup (aek xs lo hi)) (λb ob q=>Heap.get?_push_of_some _ q) (Nat.le_refl _) ?_,rfl,q _ (I.hok.fresh (Nat.le_refl _))⟩;exact ⟨Nat.le_trans (a1y xs lo hi) hz,_,(r.drop (HT.sIx xs.length 0 lo)).take (HT.sIx xs.length xs.length hi - HT.sIx xs.length 0 lo),IsTup.new _ _⟩
def aiz(K:PySem.W.Frag):R2:=λx y H Q=>∃ a b xs ys,x = .ref a/\y = .ref b/\SqT K H a xs/\SqT K H b ys/\xs≠[]/\xs.length+ys.length<=sizeLine /\
 (ys=[]->Q (.ref a) H)/\(ys≠[]->∀ p,H p=none->Q (.ref p) (upd H p (.tup (xs++ys))))
theorem Vals.nil_iff{xs:List V}{us:List Value}(r:Vals xs us):us=[]↔xs=[]:=by
 cases r with
 | nil=>simp
 | cons _ _=>simp
theorem ag2:OpR X (binaryOp .Add) (aiz X.K):=by
 intro pins s σ H x y v u Q I rx ry h
 obtain ⟨a,b,xs,ys,rfl,rfl,ha,hb,hx,hz,q1,q2⟩:=h;cases rx
 cases ry
 obtain ⟨its,r1,p1,_⟩:=I.tuple ha;obtain ⟨its2,r2,p2,_⟩:=I.tuple hb;refine HT.afy p1 p2 (λz=>hx (r1.nil_iff.mp z)) (λz=>⟨.ref a,H,I,rfl,q1 (r2.nil_iff.mp z)⟩) (λz=>?_) (by rw [<-r1.length,<-r2.length];exact hz)
 refine ⟨.ref s.heap.objs.size,_,I.laid (t':=s.toks) (o:=.tup (xs++ys)) (λb ob q=>Heap.get?_push_of_some _ q) (Nat.le_refl _) ?_,rfl,q2 (λw=>z (r2.nil_iff.mpr w)) _ (I.hok.fresh (Nat.le_refl _))⟩;exact ⟨by rw [List.length_append];exact hz,_,r1.append r2,IsTup.new _ _⟩
end
def ixN(n:Nat)(i:Int):Option Nat:=if 0<=i then (if i<n then some i.toNat else none) else if -(n:Int)<=i then some (i+n).toNat else none
def atI{α:Type}(xs:List α)(i:Int):Option α:=(ixN xs.length i).bind λj=>xs[j]?
theorem aa9{n:Nat}{i:Int}{j:Nat}(h:ixN n i=some j):seqIndex? i n=some j/\j<n /\ -(n:Int)<=i/\i<n:=by
 unfold ixN at h
 by_cases h0:0<=i
 ·rw [if_pos h0] at h
  by_cases h1:i<n
  ·rw [if_pos h1] at h;have e:i.toNat=j:=Option.some.inj h;exact ⟨by rw [seqIndex_of h0 h1,e],by omega,by omega,h1⟩
  ·rw [if_neg h1] at h;cases h
 ·rw [if_neg h0] at h
  by_cases h1 : -(n:Int)<=i
  ·rw [if_pos h1] at h;have e:(i+n).toNat=j:=Option.some.inj h;exact ⟨by rw [seqIndex_neg (by omega) h1,e],by omega,h1,by omega⟩
  ·rw [if_neg h1] at h;cases h
theorem a70{α:Type}{xs:List α}{i:Int}{v:α}(h:atI xs i=some v):∃ j,seqIndex? i xs.length=some j/\xs[j]? = some v/\j<xs.length /\ -(xs.length:Int)<=i/\i<xs.length:=by
 unfold atI at h
 cases e:ixN xs.length i with
 | none=>rw [e] at h;cases h
 | some j =>
  rw [e] at h;obtain ⟨h1,h2,h3,h4⟩:=aa9 e;exact ⟨j,h1,h,h2,h3,h4⟩
theorem qt{α:Type}{xs:List α}{j:Nat}{v:α}(h:xs[j]? = some v):atI xs (j:Int)=some v:=by
 have hj:j<xs.length:=(List.getElem?_eq_some_iff.mp h).1;have e:ixN xs.length (j:Int)=some j:=by
  unfold ixN;rw [if_pos (by omega),if_pos (by omega)];simp
 unfold atI;rw [e];exact h
def a71(b:Expr):Prop:=∀ o i,subscripted b false o i=operate [o,i] (getItem o i)
def IxR(X:Cx)(r:R2):Prop :=
 ∀ (value slice:Expr) (pins:List (Addr × Obj)) (s:Shared) (σ:St) (H:Hp) (x y:V) (v u:Value) (Q:VK),Inv X pins σ H s->RelV x v->RelV y u->r x y H Q->
  subscripted slice false v u=operate [v,u] (getItem v u)->wpAny (model X.prog X.w) X.A (subscriptTail value slice v u) (EP X pins σ Q) X.xe s
def MtR(X:Cx)(id:String)(r:V->List V->Hp->VK->Prop):Prop :=
 ∀ (pins:List (Addr × Obj)) (s:Shared) (σ:St) (H:Hp) (x:V) (xs:List V) (v:Value) (us:List Value) (Q:VK),Inv X pins σ H s->RelV x v->Vals xs us->r x xs H Q->
  wpAny (model X.prog X.w) X.A (call (.builtin id) (v::us)) (EP X pins σ Q) X.xe s
section
variable{X:Cx}{a b:Expr}{ta tb:TE}{pos:Pos}
theorem IxR.or{r r':R2}(h:IxR X r)(h':IxR X r'):IxR X (λx y H Q=>r x y H Q\/r' x y H Q):=by
 intro value slice pins s σ H x y v u Q I rx ry q hs
 rcases q with q | q
 ·exact h value slice pins s σ H x y v u Q I rx ry q hs
 ·exact h' value slice pins s σ H x y v u Q I rx ry q hs
theorem amk{r:R2}(hr:IxR X r)(ha:PE X a ta)(hb:PE X b tb)(hs:a71 b):PE X (.Subscript a b pos) (tOp r ta tb):=by
 intro pins s σ H Q I h
 exact Subscript_ (amb ha hb I h λv u s2 x y H2 I2 rx ry q=>hr a b pins s2 σ H2 x y v u Q I2 rx ry q (hs _ _))
def anm(K:PySem.W.Frag):R2:=λx y H Q=>∃ p xs i v,x = .ref p/\y = .int i/\SqL K H p xs/\atI xs i=some v/\Q v H
def ano(K:PySem.W.Frag):R2:=λx y H Q=>∃ p xs i v,x = .ref p/\y = .int i/\SqT K H p xs/\atI xs i=some v/\Q v H
def anp:R2:=λx y H Q=>∃ z i c,x = .str z/\y = .int i/\z.length<=sizeLine/\atI z.cps.toList i=some c/\Q (.str ⟨#[c]⟩) H
theorem ag3:IxR X (anm X.K):=by
 intro value slice pins s σ H x y v u Q I rx ry h hs
 obtain ⟨p,xs,i,z,rfl,rfl,hq,he,q⟩:=h;cases rx
 obtain ⟨t,rfl⟩:=ry;obtain ⟨its,r,pl,hz⟩:=I.list hq;obtain ⟨j,h1,h2,h3,h4,h5⟩:=a70 he;obtain ⟨w,ew,rw'⟩:=r.get h2;have hl:=r.length;have hn:=a1x;have fin:EP X pins σ Q w s:=⟨z,H,I,rw',q⟩
 by_cases h0:0<=i
 ·have hj:i.toNat=j:=by
   rw [seqIndex_of h0 h5] at h1;exact Option.some.inj h1
  exact item_listR pl.isList h0 (by omega) (by rw [hj];simpa using ew) fin hs
 ·have hj:(i+(its.toArray.size:Int)).toNat=j:=by
   rw [seqIndex_neg (by omega) h4] at h1
   rw [List.size_toArray,<-hl];exact Option.some.inj h1
  exact subscriptTail_builtinR (x:=w) pl.isList.typeIs slot_list_getitem.lookup
   (wpAny_getItem_list_neg (Q:=λr s'=>r=w/\EP X pins σ Q r s') pl.isList (by omega) (by rw [List.size_toArray]<;>omega) (by omega) (by rw [hj];simpa using ew) ⟨rfl,fin⟩) hs
theorem a1z:IxR X (ano X.K):=by
 intro value slice pins s σ H x y v u Q I rx ry h hs
 obtain ⟨p,xs,i,z,rfl,rfl,hq,he,q⟩:=h;cases rx
 obtain ⟨t,rfl⟩:=ry;obtain ⟨its,r,pl,hz⟩:=I.tuple hq;obtain ⟨j,h1,h2,h3,h4,h5⟩:=a70 he;obtain ⟨w,ew,rw'⟩:=r.get h2;have hl:=r.length;have hn:=a1x;have fin:EP X pins σ Q w s:=⟨z,H,I,rw',q⟩;exact subscriptTail_builtinR (x:=w) pl.typeIs slot_tuple_getitem.lookup
  (getItem_tuple (j:=j) (Q:=λr s'=>r=w/\EP X pins σ Q r s') pl (by omega) (by omega) (by rw [List.size_toArray,<-hl];exact h1) (by simpa using ew) ⟨rfl,fin⟩) hs
theorem aj0:IxR X anp:=by
 intro value slice pins s σ H x y v u Q I rx ry h hs
 obtain ⟨z,i,c,rfl,rfl,hz,he,q⟩:=h;obtain ⟨t,rfl⟩:=rx;obtain ⟨t',rfl⟩:=ry;obtain ⟨j,h1,h2,h3,h4,h5⟩:=a70 he;have hl:z.cps.toList.length=z.length:=by simp [Str.length]
 rw [hl] at h1 h4 h5;have hn:=a1x;exact tail_any (typeIs_str s z t) slot_str_getitem.lookup (getItem_str (c:=c) (by
  have e1:decide (i < -(2 ^ 63:Int))=false:=decide_eq_false (by omega)
  have e2:decide (i≥2 ^ 63)=false:=decide_eq_false (by omega)
  rw [e1,e2,Bool.or_false]) (by rw [h1];simpa using h2) ⟨.str ⟨#[c]⟩,H,I.tok _,⟨_,rfl⟩,q⟩) hs
def rIx(K:PySem.W.Frag):R2:=λx y H Q=>anm K x y H Q\/ano K x y H Q\/anp x y H Q
theorem aj1:IxR X (rIx X.K):=ag3.or (a1z.or aj0)
theorem a93(its:List Value)(n j:Nat)(u:Value):Obj.mapSeq (·.setIfInBounds j u) { cls:=.type "list",data:=.seq its.toArray n }={ cls:=.type "list",data:=.seq (its.set j u).toArray n }:=by
 simp [Obj.mapSeq]
theorem Inv.lst{pins:List (Addr × Obj)}{σ:St}{H:Hp}{s:Shared}{p:Addr}{xs:List V}(I:Inv X pins σ H s)(h:H p=some (.lst xs)) :
  ∃ (its:List Value) (n:Nat),Vals xs its/\s.heap.get? p=some { cls:=.type "list",data:=.seq its.toArray n }/\xs.length<=sizeLine:=by
 obtain ⟨z,its,n,r,e⟩:=I.hok p _ h;exact ⟨its,n,r,e,z⟩
theorem Inv.lstUpd{pins:List (Addr × Obj)}{σ:St}{H:Hp}{s:Shared}{p:Addr}{xs ys:List V}{its its':List Value}{n n':Nat}{f:Obj->Obj}(I:Inv X pins σ H s)(h:H p=some (.lst xs))
  (ho:s.heap.get? p=some { cls:=.type "list",data:=.seq its.toArray n }) (hf:f { cls:=.type "list",data:=.seq its.toArray n }={ cls:=.type "list",data:=.seq its'.toArray n' }) (r:Vals ys its') (hz:ys.length<=sizeLine) (t:Nat) :
  Inv X pins σ (upd H p (.lst ys)) { s with heap:=s.heap.update p f,toks:=t }:=by
 have e:(s.heap.update p f).get? p=some { cls:=.type "list",data:=.seq its'.toArray n' }:=by
  rw [Heap.get?_update_self f ho (by rw [hf]<;>rfl),hf]
 refine I.write (x:=p) (e:=p) (by rw [h];trivial) (.inl rfl) (λb u hb q=>(Heap.get?_update_other _ _ (Ne.symm hb)).trans q) ⟨_,e⟩ ?_
 exact ⟨hz,its',n',r,e⟩
def aj2:V->V->V->Hp->(Hp->Prop)->Prop:=λo i v H Q=>∃ p xs k j,o = .ref p/\i = .int k/\H p=some (.lst xs)/\ixN xs.length k=some j/\Q (upd H p (.lst (xs.set j v)))
theorem set_list:ang X aj2:=by
 intro pins s σ H o i v ov iv u Q I ro ri rv h
 obtain ⟨p,xs,k,j,rfl,rfl,hp,hj,q⟩:=h;cases ro
 obtain ⟨t,rfl⟩:=ri;obtain ⟨its,n,r,ho,hz⟩:=I.lst hp;obtain ⟨h1,h2,h3,h4⟩:=aa9 hj;have hl:=r.length;have hn:=a1x;have I':Inv X pins σ (upd H p (.lst (xs.set j v))) { s with heap:=s.heap.update p (Obj.mapSeq (·.setIfInBounds j u)) } :=
  I.lstUpd hp ho (a93 its n j u) (r.set rv j) (by rw [List.length_set];exact hz) s.toks
 by_cases h0:0<=k
 ·have hk:k.toNat=j:=by
   rw [seqIndex_of h0 h4] at h1;exact Option.some.inj h1
  exact PySem.W.ki_setAt ho h0 (by omega) (by rw [List.size_toArray,<-hl];exact h4) (by rw [hk];exact ⟨_,I',q⟩)
 ·have hk:(k+(its.toArray.size:Int)).toNat=j:=by
   rw [seqIndex_neg (by omega) h3] at h1
   rw [List.size_toArray,<-hl];exact Option.some.inj h1
  exact PySem.W.ki_setBack ho (by omega) (by rw [List.size_toArray,<-hl];exact h3) (by omega) (by rw [hk];exact ⟨_,I',q⟩)
theorem a5z(lo hi:Option Int)(n:Nat):(sliceBounds lo hi none n).1=((HT.sIx n 0 lo:Nat):Int)/\(sliceBounds lo hi none n).2.1=((HT.sIx n n hi:Nat):Int)/\(sliceBounds lo hi none n).2.2=1:=by
 refine ⟨?_,?_,rfl⟩
 ·cases lo with
  | none=>simp [sliceBounds,HT.sIx]
  | some i =>
   simp only [sliceBounds,HT.sIx,Option.getD_none,show (1:Int) > 0 by decide,if_true]
   by_cases h:i<0
   ·simp only [h,if_true]<;>omega
   ·simp only [h,if_false]<;>omega
 ·cases hi with
  | none=>simp [sliceBounds,HT.sIx]
  | some i =>
   simp only [sliceBounds,HT.sIx,Option.getD_none,show (1:Int) > 0 by decide,if_true]
   by_cases h:i<0
   ·simp only [h,if_true]<;>omega
   ·simp only [h,if_false]<;>omega
theorem a3z(its:List Value)(lo hi:Option Int):slicePick its.toArray lo hi none=((its.drop (HT.sIx its.length 0 lo)).take (HT.sIx its.length its.length hi - HT.sIx its.length 0 lo)).toArray:=by
 obtain ⟨h1,h2,h3⟩:=a5z lo hi its.toArray.size;unfold slicePick;rw [h1,h2,h3];simp only [sliceRange_one,pick_run,List.size_toArray]<;>rfl
def aml(K:PySem.W.Frag):V->Option Int->Option Int->Hp->VK->Prop:=λx lo hi H Q=>∃ a xs,x = .ref a/\SqL K H a xs/\∀ p,H p=none->Q (.ref p) (upd H p (.lst (aek xs lo hi)))
theorem ag4:SlR X (aml X.K):=by
 intro pins s σ H x v vl vu lo hi sl Q I rx hs pl pu h
 obtain ⟨a,xs,rfl,hx,q⟩:=h;cases rx
 obtain ⟨its,r,ht,hz⟩:=I.list hx;have hlen:=r.length;refine ⟨"list",_,slot_list_getitem.lookup,ht.isList.typeIs,?_⟩;refine wpAny_getItem_list_slice ht.isList hs pl pu .none (by simp) ?_ (by rw [List.size_toArray]<;>omega)
 rw [a3z,<-hlen];refine ⟨.ref s.heap.objs.size,_,I.laid (t':=s.toks) (o:=.lst (aek xs lo hi)) (λb ob q=>Heap.get?_push_of_some _ q) (Nat.le_refl _) ?_,rfl,q _ (I.hok.fresh (Nat.le_refl _))⟩;exact ⟨Nat.le_trans (a1y xs lo hi) hz,_,0,(r.drop (HT.sIx xs.length 0 lo)).take (HT.sIx xs.length xs.length hi - HT.sIx xs.length 0 lo),Heap.get?_push_size _ rfl⟩
def zu:V->Bool
 | .non=>true
 | .bl _=>true
 | .int _=>true
 | .str _=>true
 | _=>false
def eqV:V->V->Bool
 | .non, .non=>true
 | .bl a, .bl b=>a == b
 | .bl a, .int b=>(if a then 1 else 0) == b
 | .int a, .bl b=>a == (if b then 1 else 0)
 | .int a, .int b=>a == b
 | .str a, .str b=>a == b
 | _,_=>false
theorem aaa{A:Around}{s:Shared}{y x:V}{u v:Value}(ry:RelV y u)(rx:RelV x v)(fy:zu y=true)(fx:zu x=true):SeqAt.EqAt A s u v (eqV y x):=by
 cases y with
 | non =>
  cases ry
  cases x with
  | non=>cases rx;exact SeqAt.EqAt.same _
  | bl b=>cases rx;exact SeqAt.EqAt.none_bool b
  | int b=>obtain ⟨t,rfl⟩:=rx;exact SeqAt.EqAt.none_int b t
  | str b=>obtain ⟨t,rfl⟩:=rx;exact SeqAt.EqAt.none_str b t
  | _=>exact absurd (show false=true from fx) Bool.false_ne_true
 | bl a =>
  cases ry
  cases x with
  | non=>cases rx;exact SeqAt.EqAt.bool_none a
  | bl b=>cases rx;exact SeqAt.EqAt.bool_bool a b
  | int b=>obtain ⟨t,rfl⟩:=rx;exact SeqAt.EqAt.bool_int a b t
  | str b=>obtain ⟨t,rfl⟩:=rx;exact SeqAt.EqAt.bool_str a b t
  | _=>exact absurd (show false=true from fx) Bool.false_ne_true
 | int a =>
  obtain ⟨t',rfl⟩:=ry
  cases x with
  | non=>cases rx;exact SeqAt.EqAt.int_none a t'
  | bl b=>cases rx;exact SeqAt.EqAt.int_bool a t' b
  | int b=>obtain ⟨t,rfl⟩:=rx;exact SeqAt.EqAt.int_int a t' b t
  | str b=>obtain ⟨t,rfl⟩:=rx;exact SeqAt.EqAt.int_str a t' b t
  | _=>exact absurd (show false=true from fx) Bool.false_ne_true
 | str a =>
  obtain ⟨t',rfl⟩:=ry
  cases x with
  | non=>cases rx;exact SeqAt.EqAt.str_none a t'
  | bl b=>cases rx;exact SeqAt.EqAt.str_bool a t' b
  | int b=>obtain ⟨t,rfl⟩:=rx;exact SeqAt.EqAt.str_int a t' b t
  | str b=>obtain ⟨t,rfl⟩:=rx;exact SeqAt.EqAt.str_str a t' b t
  | _=>exact absurd (show false=true from fx) Bool.false_ne_true
 | _=>exact absurd (show false=true from fy) Bool.false_ne_true
def eqU(x:V)(u:Value):Bool:=match u with
 | .none=>eqV .non x
 | .bool b=>eqV (.bl b) x
 | .int i _=>eqV (.int i) x
 | .str z _=>eqV (.str z) x
 | _=>false
theorem ael{x y:V}{u:Value}(r:RelV y u)(f:zu y=true):eqU x u=eqV y x:=by
 cases y with
 | non=>cases r;rfl
 | bl b=>cases r;rfl
 | int i=>obtain ⟨t,rfl⟩:=r;rfl
 | str z=>obtain ⟨t,rfl⟩:=r;rfl
 | _=>exact absurd (show false=true from f) Bool.false_ne_true
theorem a72{x:V}:∀ {xs:List V} {us:List Value},Vals xs us->xs.all zu=true->us.any (eqU x)=xs.any λy=>eqV y x
 | _,_, .nil,_=>rfl
 | y::xs,u::us, .cons r t,f=>by
  rw [List.all_cons,Bool.and_eq_true] at f;rw [List.any_cons,List.any_cons,ael r f.1,a72 t f.2]
theorem a4a{A:Around}{s:Shared}{x:V}{v:Value}(rx:RelV x v)(fx:zu x=true):∀ {xs:List V} {us:List Value},Vals xs us->xs.all zu=true->∀ u∈us,SeqAt.EqAt A s u v (eqU x u)
 | _,_, .nil,_=>λu hu=>by cases hu
 | y::xs,u::us, .cons r t,f=>λu' hu=>by
  rw [List.all_cons,Bool.and_eq_true] at f
  rcases List.mem_cons.mp hu with rfl | hu
  ·rw [ael r f.1];exact aaa r rx f.1 fx
  ·exact a4a rx fx t f.2 u' hu
def inV(x:V)(xs:List V):Bool:=xs.any λy=>eqV y x
def rIn(K:PySem.W.Frag)(neg:Bool):R2:=λx y H Q=>∃ p xs,y = .ref p/\(SqL K H p xs\/SqT K H p xs)/\zu x=true/\xs.all zu=true/\Q (.bl (if neg then !inV x xs else inV x xs)) H
theorem a2a:OpR X (compareOp .In) (rIn X.K false):=by
 intro pins s σ H x y v u Q I rx ry h
 obtain ⟨p,xs,rfl,hq,fx,fs,q⟩:=h;cases ry
 rcases hq with hq | hq
 ·obtain ⟨its,r,pl,hz⟩:=I.list hq;refine SeqAt.in_listAt (eqU x) pl.isList (λw hw=>a4a rx fx r fs w (by simpa using hw)) ⟨.bl _,H,I,rfl,?_⟩
  rw [show its.toArray.any (eqU x)=its.any (eqU x) by simp,a72 r fs]
  exact q
 ·obtain ⟨its,r,pl,hz⟩:=I.tuple hq;refine SeqAt.in_tupleAt (eqU x) pl (λw hw=>a4a rx fx r fs w (by simpa using hw)) ⟨.bl _,H,I,rfl,?_⟩
  rw [show its.toArray.any (eqU x)=its.any (eqU x) by simp,a72 r fs]
  exact q
theorem cz:CallR X (.builtin "len") (λxs H Q=>∃ p ys,xs=[.ref p]/\(SqL X.K H p ys\/SqT X.K H p ys)/\Q (.int ys.length) H):=by
 intro pins s σ H xs us Q I r h
 obtain ⟨p,ys,rfl,hq,q⟩:=h;obtain ⟨u,rfl,rx⟩:=vals1 r;cases rx
 have hn:=a1x
 rcases hq with hq | hq
 ·obtain ⟨its,r',pl,hz⟩:=I.list hq;have hlen:=r'.length;exact Calls.call_len_list pl.isList (by simp only [List.size_toArray]<;>omega) ⟨.int ys.length,H,I.tok _,⟨s.toks+1,by rw [List.size_toArray,hlen]⟩,q⟩
 ·obtain ⟨its,r',pl,hz⟩:=I.tuple hq;have hlen:=r'.length;exact len_tuple pl (by simp only [List.size_toArray]<;>omega) ⟨.int ys.length,H,I.tok _,⟨s.toks+1,by rw [List.size_toArray,hlen]⟩,q⟩
theorem dg:CallR X (.builtin "len") (λxs H Q=>∃ z,xs=[.str z]/\z.length<=sizeLine/\Q (.int z.length) H):=by
 intro pins s σ H xs us Q I r h
 obtain ⟨z,rfl,hz,q⟩:=h;obtain ⟨u,rfl,t,rfl⟩:=vals1 r;have hn:=a1x;exact len_str (by omega) ⟨.int z.length,H,I.tok _,⟨_,rfl⟩,q⟩
theorem CallR.or{f:Value}{r r':List V->Hp->VK->Prop}(h:CallR X f r)(h':CallR X f r'):CallR X f (λxs H Q=>r xs H Q\/r' xs H Q):=by
 intro pins s σ H xs us Q I rs q
 rcases q with q | q
 ·exact h pins s σ H xs us Q I rs q
 ·exact h' pins s σ H xs us Q I rs q
theorem a1f:CallR X (.type "list") (λxs H Q=>∃ p ys,xs=[.ref p]/\(SqL X.K H p ys\/SqT X.K H p ys)/\∀ l,H l=none->Q (.ref l) (upd H l (.lst ys))):=by
 intro pins s σ H xs us Q I r h
 obtain ⟨p,ys,rfl,hq,q⟩:=h;obtain ⟨u,rfl,rx⟩:=vals1 r;cases rx
 have fin:∀ (its:List Value),Vals ys its->ys.length<=sizeLine->∀ (h':Heap) (c':Nat),(∀ b o',s.heap.get? b=some o'->h'.get? b=some o')->
   h'.get? s.heap.objs.size=some { cls:=.type "list",dict:=none,data:=.seq its.toArray c',slots := #[] }->EP X pins σ Q (.ref s.heap.objs.size) { s with heap:=h' }:=λits r' hz h' c' kp e =>
  ⟨.ref s.heap.objs.size,_,I.laid (t':=s.toks) kp (Nat.le_refl _) (show ObjOk X.prog X.w _ h' _ (.lst ys) from ⟨hz,its,c',r',e⟩),rfl,q _ (I.hok.fresh (Nat.le_refl _))⟩
 rcases hq with hq | hq
 ·obtain ⟨its,r',pl,hz⟩:=I.list hq;have hlen:=r'.length;obtain ⟨o,ho,hc,n,hd⟩:=pl.isList;exact call_list_seq p (.inl rfl) ho hc hd (λh' c' kp e=>fin its r' hz h' c' kp e) (by simp only [List.size_toArray]<;>omega)
 ·obtain ⟨its,r',pl,hz⟩:=I.tuple hq;have hlen:=r'.length;obtain ⟨o,ho,hc,n,hd⟩:=pl;exact call_list_seq p (.inr rfl) ho hc hd (λh' c' kp e=>fin its r' hz h' c' kp e) (by simp only [List.size_toArray]<;>omega)
theorem ug:CallR X (.type "tuple") (λxs H Q=>∃ p ys,xs=[.ref p]/\((SqL X.K H p ys/\∀ l,H l=none->Q (.ref l) (upd H l (.tup ys)))\/(SqT X.K H p ys/\Q (.ref p) H))):=by
 intro pins s σ H xs us Q I r h
 obtain ⟨p,ys,rfl,h⟩:=h;obtain ⟨u,rfl,rx⟩:=vals1 r;cases rx
 rcases h with ⟨hq,q⟩ | ⟨hq,q⟩
 ·obtain ⟨its,r',pl,hz⟩:=I.list hq;have hlen:=r'.length;refine call_tuple_list pl.isList (λh' kp=>?_) (by simp only [List.size_toArray]<;>omega)
  have I1:Inv X pins σ H { s with heap:=h' }:=I.kept (t':=s.toks) kp
  have I2:Inv X pins σ (upd H h'.objs.size (.tup ys)) { s with heap:=h'.push { cls:=.type "tuple",data:=.seq its.toArray } } :=
   I1.laid (t':=s.toks) (λb o e=>Heap.get?_push_of_some _ e) (Nat.le_refl _) (show ObjOk X.prog X.w _ _ _ (.tup ys) from ⟨hz,its,r',IsTup.new _ _⟩)
  exact ⟨.ref h'.objs.size,_,I2,rfl,q _ (I1.hok.fresh (Nat.le_refl _))⟩
 ·obtain ⟨its,r',pl,hz⟩:=I.tuple hq;exact call_tuple_same pl ⟨.ref p,H,I,rfl,q⟩
def tyV(K:PySem.W.Frag)(T:String)(x:V)(H:Hp):Prop:=match x with
 | .str _=>T = "str"
 | .int _=>T = "int"
 | .ref p=>(T = "list"/\∃ xs,SqL K H p xs)\/(T = "tuple"/\∃ o,K.lookup p=some o/\o.cls = .type "tuple"/\o.dict=none) \/
   (T = "dict"/\((∃ kvs,H p=some (.dK kvs))\/∃ kvs,H p=some (.dT kvs)))\/(T = "set"/\∃ S n,H p=some (.set S n))
 | _=>False
theorem aem{pins:List (Addr × Obj)}{σ:St}{H:Hp}{s:Shared}{T:String}{x:V}{v:Value}(I:Inv X pins σ H s)(r:RelV x v)(ty:tyV X.K T x H) :
  s.TypeIs v T/\∀ a,v = .ref a->∃ ob,s.heap.get? a=some ob/\ob.dict=none:=by
 cases x with
 | str z =>
  obtain ⟨t,rfl⟩:=r
  cases (show T = "str" from ty)
  exact ⟨typeIs_str s z t,λ_ e=>nomatch e⟩
 | int i =>
  obtain ⟨t,rfl⟩:=r
  cases (show T = "int" from ty)
  exact ⟨typeIs_int s i t,λ_ e=>nomatch e⟩
 | ref p =>
  cases r
  rcases ty with ⟨rfl,xs,hq⟩ | ⟨rfl,o,hk,hc,hd⟩ | ⟨rfl,hk⟩ | ⟨rfl,S,n,hk⟩
  ·obtain ⟨its,_,pl,_⟩:=I.list hq;refine ⟨pl.isList.typeIs,λa e=>?_⟩;cases e
   obtain ⟨o,n,e,c,hd,_⟩:=pl;exact ⟨o,e,hd⟩
  ·refine ⟨⟨o,I.kIn p o hk,hc⟩,λa e=>?_⟩;cases e
   exact ⟨o,I.kIn _ o hk,hd⟩
  ·have z:∃ o,s.heap.get? p=some o/\o.ExactDict:=by
    rcases hk with ⟨kvs,hk⟩ | ⟨kvs,hk⟩
    ·obtain ⟨_,_,_,_,o,_,_,e,ex,_⟩:=I.hok p _ hk;exact ⟨o,e,ex⟩
    ·obtain ⟨_,_,_,_,o,_,_,e,ex,_⟩:=I.hok p _ hk;exact ⟨o,e,ex⟩
   obtain ⟨o,e,ex⟩:=z;refine ⟨⟨o,e,ex.1⟩,λa e2=>?_⟩;cases e2
   exact ⟨o,e,ex.2.1⟩
  ·obtain ⟨o,_,_,_,e,ex,_⟩:=I.hok p _ hk;refine ⟨⟨o,e,ex.1⟩,λa e2=>?_⟩;cases e2
   exact ⟨o,e,ex.2.1⟩
 | _=>exact False.elim ty
def tBM(K:PySem.W.Frag)(T:String)(r:V->List V->Hp->VK->Prop)(to:TE)(t:TA):TE:=λσ H Q=>to σ H λx H1=>tyV K T x H1/\t σ H1 λxs H2=>r x xs H2 Q
variable{o e:Expr}{es:List Expr}{to:TE}{t:TA}{name:Str}{apos cpos:Pos}{T id:String}{r:V->List V->Hp->VK->Prop}
theorem amm(pa:PlainAttrs T)(slot:Slot T name id)(hty:typeOf (.builtin id)=pure (.type "method_descriptor"))(hm:MtR X id r)(ho:PE X o to)(ha:PA X (e::es) t)
  (hbase:attributeBase o name X.env (eval o X.env)=eval o X.env:=by rfl)
  (hfew:((backTo cpos (starEach (e::es) X.env)).all (λx => !x.1) && (backToKw cpos (keywordEach [] X.env)).all (λx=>x.1.isSome)
   && decide ((e::es).length+([]:List Keyword).length+(if ([]:List Keyword).isEmpty then 0 else 1)<30))=true:=by rfl)
  (hline:(apos.endLine == cpos.line)=true:=by rfl) (hs:starEach (e::es) X.env=(false,eval e X.env)::starEach es X.env:=by rfl) (hplain:(backTo cpos (starEach es X.env)).any (·.1)=false:=by rfl) :
  PE X (.Call (.Attribute o name apos) (e::es) [] cpos) (tBM X.K T r to t):=by
 intro pins s σ H Q I h
 refine wpAny_Call_method_late hbase hfew hline rfl (thn (ho pins s σ H _ I h) λv s1 ⟨x,H1,I1,r1,ty,q1⟩=>?_);obtain ⟨h1,h2⟩:=aem I1 r1 ty;refine ⟨T,id,pa,slot,hty,h1,h2,?_⟩;have hA:=ha cpos pins s1 σ H1 _ I1 q1;rw [hs] at hA ⊢;refine Calls.callWith_builtin (by show (false || (backTo cpos (starEach es X.env)).any (·.1))=false;rw [hplain]<;>rfl) (Calls.evalArgs_plain ?_)
 exact thn hA λus s2 ⟨vs,H2,I2,r2,q2⟩=>hm pins s2 σ H2 x vs v us Q I2 r1 r2 q2
end
def MtM(X:Cx)(id:String)(r:V->List V->Hp->VK->Prop):Prop :=
 ∀ (pins:List (Addr × Obj)) (s:Shared) (σ:St) (H:Hp) (x:V) (xs:List V) (v:Value) (us:List Value) (Q:VK),Inv X pins σ H s->RelV x v->Vals xs us->r x xs H Q->
  wpAny (model X.prog X.w) X.A (call (.builtin id) (v::us)) (EP X pins σ Q) X.xe s
theorem Vals.one:∀ {x:V} {us:List Value},Vals [x] us->∃ u,us=[u]/\RelV x u
 | _,_, .cons r .nil=>⟨_,rfl,r⟩
theorem Vals.reverse{xs:List V}{us:List Value}(h:Vals xs us):Vals xs.reverse us.reverse:=by
 induction h with
 | nil=>exact .nil
 | cons r t ih=>rw [List.reverse_cons,List.reverse_cons];exact Vals.append ih (.cons r .nil)
theorem Vals.rep{xs:List V}{us:List Value}(h:Vals xs us):∀ k:Nat,Vals (List.replicate k xs).flatten (List.replicate k us).flatten
 | 0=>.nil
 | k+1=>by
  rw [List.replicate_succ,List.replicate_succ,List.flatten_cons,List.flatten_cons];exact Vals.append h (Vals.rep h k)
theorem foldl_rep(its:List Value):∀ (k:Nat) (acc:List Value),
  List.foldl (λx1 x2=>x1++x2) acc.toArray (List.replicate k its.toArray)=(acc++(List.replicate k its).flatten).toArray
 | 0,acc=>by simp
 | k+1,acc=>by
  have e:acc.toArray++its.toArray=(acc++its).toArray:=by simp
  have e2:(acc++its)++(List.replicate k its).flatten=acc++(List.replicate (k+1) its).flatten:=by
   rw [List.replicate_succ,List.flatten_cons,List.append_assoc]
  rw [<-e2,<-foldl_rep its k (acc++its),<-e,List.replicate_succ,List.foldl_cons]
section
variable{X:Cx}{pins:List (Addr × Obj)}{σ:St}{H:Hp}{s:Shared}{l b:Addr}{xs ys zs:List V}
theorem Inv.lset{its its':List Value}{n:Nat}{f:Array Value->Array Value}{t':Nat}(I:Inv X pins σ H s)(hH:H l=some (.lst xs))
  (e:s.heap.get? l=some { cls:=.type "list",data:=.seq its.toArray n }) (hf:f its.toArray=its'.toArray) (hv:Vals ys its') (hz:ys.length<=sizeLine) :
  Inv X pins σ (upd H l (.lst ys)) { s with heap:=s.heap.update l (Obj.mapSeq f),toks:=t' }:=by
 have q:=PySem.IsL.update e f;rw [hf] at q;refine I.write (x:=l) (e:=l) (by rw [hH];exact trivial) (.inl rfl) (λb' u hb hu=>(Heap.get?_update_other s.heap (Obj.mapSeq f) (Ne.symm hb)).trans hu) ⟨_,q⟩ ?_
 exact ⟨hz,its',_,hv,q⟩
theorem Inv.lnew{its:List Value}{t':Nat}(I:Inv X pins σ H s)(hv:Vals ys its)(hz:ys.length<=sizeLine) :
  Inv X pins σ (upd H s.heap.objs.size (.lst ys)) { s with heap:=s.heap.push { cls:=.type "list",data:=.seq its.toArray },toks:=t' } :=
 I.laid (λ_ _ q=>Heap.get?_push_of_some _ q) (Nat.le_refl _) ⟨hz,its,0,hv,Heap.get?_push_size _ rfl⟩
theorem Inv.fresh(I:Inv X pins σ H s):H s.heap.objs.size=none:=I.hok.fresh (Nat.le_refl _)
theorem Inv.lstM(I:Inv X pins σ H s)(hH:H l=some (.lst xs)):xs.length<=sizeLine/\∃ (its:List Value) (n:Nat),Vals xs its/\xs.length=its.length/\s.heap.get? l=some { cls:=.type "list",data:=.seq its.toArray n }:=by
 obtain ⟨z,its,n,r,e⟩:=I.hok l _ hH;exact ⟨z,its,n,r,r.length,e⟩
theorem aco{n:Nat}(h:n<=sizeLine):Builtin.List.listTooLong n=false:=by
 unfold Builtin.List.listTooLong;exact decide_eq_false (by omega)
end
section
variable{X:Cx}
def aab:V->List V->Hp->VK->Prop:=λx vs H Q=>∃ l xs y,x = .ref l/\vs=[y]/\H l=some (.lst xs)/\xs.length<sizeLine/\Q .non (upd H l (.lst (xs++[y])))
theorem aac:MtM X "list.append" aab:=by
 intro pins s σ H x vs v us Q I rx rv h
 obtain ⟨l,xs,y,rfl,rfl,hH,hz,q⟩:=h;cases rx
 obtain ⟨u,rfl,ru⟩:=rv.one;obtain ⟨z,its,n,r,hl,e⟩:=I.lstM hH;refine call_meets F.slot_list_append ⟨_,e,rfl⟩ F.entry_list_append (F.args_list_append_2 _ _) (PySem.list_append l its.toArray n u (by rw [List.size_toArray];omega)) ⟨e,?_⟩
 refine ⟨.non,_,I.lset (its':=its++[u]) hH e (by simp) (r.append (.cons ru .nil)) ?_,rfl,q⟩
 rw [List.length_append,List.length_singleton];omega
theorem len_rep{α:Type}(xs:List α)(k:Nat):(List.replicate k xs).flatten.length=k*xs.length:=by
 induction k with
 | zero=>simp
 | succ k ih=>rw [List.replicate_succ,List.flatten_cons,List.length_append,ih,Nat.succ_mul,Nat.add_comm]
end
end L2
namespace Att
open PySem PySem.W PySem.Calls PyProof.Rows
theorem a2b{P:Params}{h:Heap}:∀ (ns:List Int) (vs:List Value),WellAll P h vs (ns.map WData.int)->IntsAre vs ns:=by
 intro ns
 induction ns with
 | nil =>
  intro vs w
  rw [List.map_nil] at w;cases w
  exact .nil
 | cons n ns ih =>
  intro vs w
  rw [List.map_cons] at w
  cases w with
  | cons a b =>
   cases a
   exact .cons _ _ (ih _ b)
theorem aad{l:OpenLaw}{n:Nat}(hn:l.most=some n){P:Params}{h:Heap}{args:List WData}{vals:List Value}
  (hpre:l.row.toRowW.claim.pre args=true) (hwl:WellAll P h vals args) :
  ∃ a vs ns,vals=[Value.ref a]/\args=[WData.list (ns.map WData.int)]/\h.get? a=some { cls:=.type "list",data:=.seq vs.toArray }/\IntsAre vs ns/\ns.length<=n:=by
 have hsh:WShape.hasAll [] args [.list .int]=true:=(pre_splitW hpre).1;have hc:l.pre.holds [] { args:=args }=true:=(pre_splitW hpre).2;obtain ⟨d,r,rfl,h1,h2⟩:=hasAllW_cons hsh;obtain rfl:=hasAllW_nil h2;obtain ⟨xs,rfl,h3⟩:=hasW_list h1;obtain ⟨ns,rfl⟩:=items_int h3;have hlen:ns.length<=n:=by
  unfold OpenLaw.pre at hc;have h4:(WTm.not (.lt (.lit (.int (n:Int))) (.len (.arg 0)))).holds [] { args:=[.list (ns.map .int)] }=true:=by
   have h4:=(holds_andW hc).1;rw [hn] at h4;exact h4
  have h5:=condW_of h4 (w_not (w_lt w_lit (w_len_list (w_arg rfl))));rw [List.length_map] at h5;refine Nat.le_of_not_lt λq=>?_;have q':(n:Int)<((ns.length:Nat):Int):=by omega
  first
   | (rw [decide_eq_true q'] at h5;exact absurd h5 (by decide))
   | (simp at h5;omega)
 cases hwl with
 | cons w1 w2 =>
  cases w2
  cases w1 with
  | list ho hall=>exact ⟨_,_,ns,rfl,rfl,ho,a2b ns _ hall,hlen⟩
theorem aae(l:OpenLaw)(args:List WData):l.row.toRowW.claim.post args (.bool true) args=true :=
 postW_of (r:=l.row.toRowW) (X:=(true == true))
  (show WShape.has [] (.bool true) .bool=true by first | rfl | decide | simp [WShape.has,WShape.arms,WShape.armsAll])
  (show (WTm.eq .res (.lit (.bool true))).value [] { args:=args,res:=some (.bool true),after:=args }=some (.bool (true == true)) from w_eq_bool (w_res rfl) w_lit) rfl
theorem a73{l:OpenLaw}{n:Nat}{q:Program}{loose:List Str}{XP:(Str->Option Value)->Heap->Prop}{YP:World->Heap->Prop}{d:DefRec}
  (hn:l.most=some n) (hdf:d.params.defaults=[])
  (call:∀ (w:World) (s₀ s₁:Shared) (mg mb:Str->Option Value) (fa:Addr) (o:Obj) (pm cd doc:Value) (a:Addr) (vs:List Value) (ns:List Int),
   Ground q loose [] XP w s₀ mg mb s₁.heap->YP w s₁.heap->
   s₁.heap.get? fa=some o->o.data = .func (docDef d.name d.params d.body d.scope pm cd doc)->s₁.heap.CodeRec cd d.name->mg d.name=some (.ref fa)->
   s₁.heap.get? a=some { cls:=.type "list",data:=.seq vs.toArray }->IntsAre vs ns->ns.length<=n->s₁.gens = #[]->
   codeAny (model l.prog w) callerA (.call (.ref fa) ⟨[.ref a],[]⟩) (λr s'=>r = .ok (.ret (.bool true))/\OldK s₁.heap s'.heap/\s'.os=s₁.os/\AllBare s'.gens) s₁) :
  WalkO q loose XP YP l.row.toRowW d [] (λf vs=>PySem.call f vs):=by
 intro w s₀ s₁ mg mb G Y fa o pm cd doc dV kV ho hd hcd hD hmg hg args vals as hpre hlay hrd hwl hlo
 obtain rfl:dV = .none:=Dflts.none hD hdf
 obtain rfl:kV = .none:=Dflts.noKw hD
 obtain ⟨a,vs,ns,rfl,rfl,hobj,hints,hlen⟩:=aad hn hpre hwl;refine enter_call (codeAny_mono (call w s₀ s₁ mg mb fa o pm cd doc a vs ns G Y ho (fd_plain hd) hcd hmg hobj hints hlen hg) λr s' hq=>?_);obtain ⟨rfl,h2,h3,h4⟩:=hq;exact ⟨.inl ⟨.bool true, .bool true,[],rfl,λ_=>rfl, .bool true,aae l _,λ_=>⟨List.Pairwise.nil,λ_ hm=>(nomatch hm)⟩⟩,h2,h3,h4⟩
end Att
namespace L2
open PySem PySem.Spec PyProof.Rows
theorem a65:∀ {vs:List Value} {ns:List Int},IntsAre vs ns->Vals (ns.map V.int) vs
 | _,_, .nil=>.nil
 | _,_, .cons n t h=>.cons ⟨t,rfl⟩ (a65 h)
def Only(H:Hp):Prop:=∀ b,H b=none\/∃ o xs,H b=some (.frz o (.lst xs))
theorem acp{P:Program}{w:World}{K:PySem.W.Frag}{mg mb:Str->Option Value}{CX:CXT}{k:Nat}{fa a:Addr}{fd:FuncData}{x:Str}{sp:Sp}{s₁:Shared}{vs:List Value}{ns:List Int}
  (KX:K.In s₁.heap) (hns:s₁.heap.Ns mainGlobals mg) (hb:s₁.heap.Ns builtinsNs mb) (hbb:∀ x:Str,x ≠ "__name__"->mb x=bootBuiltins x) (hlim:s₁.heap.NoLimit) (hg:s₁.gens = #[])
  (ha:s₁.heap.get? a=some { cls:=.type "list",data:=.seq vs.toArray }) (hi:IntsAre vs ns) (hl:ns.length<=sizeLine) (hr:Room k callerA)
  (F:∀ base:Heap,K.In base->base.Ns mainGlobals mg->FnOk P w K mg base CX k fa fd [x] sp) (hbind:∀ (s:Shared) (u:Value),BindsTo s fd ⟨[u],[]⟩ [(x,u)])
  (hsp:∀ H:Hp,Only H->SqL K H a (ns.map V.int)->sp [.ref a] H (λv _=>v = .bl true) λ_ _ _=>False)
  (hCX:∀ H e s',CX [] H s₁ (λ_ _ _=>False) e s'->False) :
  codeAny (model P w) callerA (.call (.ref fa) ⟨[.ref a],[]⟩) (λr s'=>r = .ok (.ret (.bool true))/\OldK s₁.heap s'.heap/\s'.os=s₁.os/\AllBare s'.gens) s₁:=by
 have rv:=a65 hi;have lenV:=hi.length;have core:∀ H:Hp,Only H->SqL K H a (ns.map V.int)->HOk P w H s₁.heap->(∀ b,H b≠none->b=a)->(H a≠none->K.lookup a=none)->
   codeAny (model P w) callerA (.call (.ref fa) ⟨[.ref a],[]⟩) (λr s'=>r = .ok (.ret (.bool true))/\OldK s₁.heap s'.heap/\s'.os=s₁.os/\AllBare s'.gens) s₁:=by
  intro H hO hS hok hA hK
  have base_of:∀ {b:Addr} {o:Obj},s₁.heap.get? b=some o->H b=none->(ac6 s₁.heap H).get? b=some o:=λe n=>ac8 e n;have noA:∀ {b:Addr} {o:Obj} {es:Array DictEntry} {ep:Nat},s₁.heap.get? b=some o->o.data = .dict es ep->H b=none:=λ{b o es ep} e d=>by
   cases q:H b with
   | none=>rfl
   | some u =>
    have e':b=a:=hA b (by rw [q];simp)
    subst e';rw [ha] at e;cases e
    have d':Data.seq vs.toArray _=Data.dict es ep:=d
    cases d'
  have nsK:∀ {b:Addr} {m:Str->Option Value},s₁.heap.Ns b m->(ac6 s₁.heap H).Ns b m:=λ{b m} ⟨o,es,ep,e,d,r⟩=>⟨o,es,ep,base_of e (noA e d),d,r⟩;have hKb:K.In (ac6 s₁.heap H):=λb o e=>base_of (KX b o e) (by
   cases q:H b with
   | none=>rfl
   | some u =>
    have e':b=a:=hA b (by rw [q];simp)
    subst e';rw [hK (by rw [q];simp)] at e;cases e)
  have hM:Mod K mg (ac6 s₁.heap H):=⟨hKb,nsK hns,⟨mb,nsK hb,hbb⟩,let ⟨mc,h1,h2⟩:=hlim; ⟨mc,nsK h1,h2⟩⟩;have e0:Env0 P w K mg (ac6 s₁.heap H) callerA [] s₁ H:=⟨rfl,hM,λb o e=>afk e,Nat.le_of_eq (a9s _ _),trivial,λb hb=>absurd (show b∈([]:List Addr) from hb) (by simp),hok, .of_eq hg⟩
  refine codeAny_mono ((F _ hKb (nsK hns)).run callerA [] s₁ H ⟨[.ref a],[]⟩ [.ref a] [.ref a] _ _ hr e0 (hbind s₁ (.ref a)) (.cons rfl .nil) (hsp H hO hS)) λr s' h=>?_
  cases r with
  | error e=>exact (hCX H e s' h).elim
  | ok fl =>
   cases fl with
   | next=>exact False.elim h
   | brk=>exact False.elim h
   | cont=>exact False.elim h
   | ret u =>
    obtain ⟨v,H',os,bare,un,hok',r',q⟩:=h;have q':v = .bl true:=q;subst q';obtain rfl:u=Value.bool true:=r';refine ⟨rfl,OldK.of_keep λb o e=>?_,os,bare⟩
    cases q:H b with
    | none=>exact un.keep b o e q (by intro z;exact absurd (show b∈([]:List Addr) from z) (by simp)) (by simp)
    | some u =>
     rcases hO b with z | ⟨ob,xs,z⟩
     ·rw [q] at z;cases z
     ·have z2:=un.frzs b ob _ z;obtain ⟨e1,_⟩:=hok b _ z;obtain ⟨e2,_⟩:=hok' b _ z2;rw [e] at e1;cases e1
      exact e2
 cases hk:K.lookup a with
 | some o =>
  have e:=KX a o hk;rw [ha] at e;cases e
  refine core (λ_=>none) (λ_=>.inl rfl) (.inr ⟨_,vs.toArray,_,hk,rfl,rfl,rfl,by rw [List.size_toArray,lenV];exact hl,by simpa using rv⟩) (λb u z=>by have z':(none:Option HO)=some u:=z;cases z') (λb z=>absurd rfl z) λz=>absurd rfl z
 | none =>
  refine core (λb=>if b=a then some (.frz { cls:=.type "list",data:=.seq vs.toArray } (.lst (ns.map V.int))) else none) (λb=>?_) (.inl (.inr ⟨{ cls:=.type "list",data:=.seq vs.toArray },if_pos rfl⟩)) (λb u z=>?_) (λb z=>?_) λ_=>hk
  ·by_cases hb:b=a
   ·exact .inr ⟨_,_,if_pos hb⟩
   ·exact .inl (if_neg hb)
  ·by_cases hb:b=a
   ·have z':=(if_pos hb).symm.trans z
    cases z'
    subst hb;exact ⟨ha,by rw [List.length_map];exact hl,vs,_,rv,ha⟩
   ·have z':=(if_neg hb).symm.trans z
    cases z'
  ·by_cases hb:b=a
   ·exact hb
   ·exact absurd (if_neg hb) z
theorem ag5{l:PySem.W.OpenLaw}{n k:Nat}{q:Program}{loose:List Str}{XP:(Str->Option Value)->Heap->Prop}{YP:World->Heap->Prop}{d:DefRec}{K:Params->PySem.W.Frag}{CX:World->CXT}{sp:World->Sp}{x:Str}
  (hn:l.most=some n) (hn2:n<=sizeLine) (hdf:d.params.defaults=[]) (hr:Room k callerA)
  (hY:∀ (w:World) (h:Heap),YP w h->(K w.params).In h)
  (F:∀ (w:World) (mg:Str->Option Value) (fa:Addr) (h:Heap),(K w.params).In h->h.Ns mainGlobals mg->mg d.name=some (.ref fa)->
   ∃ fd:FuncData,(∀ (s:Shared) (u:Value),BindsTo s fd ⟨[u],[]⟩ [(x,u)]) /\
    ∀ base:Heap,(K w.params).In base->base.Ns mainGlobals mg->FnOk l.prog w (K w.params) mg base (CX w) k fa fd [x] (sp w))
  (hsp:∀ (w:World) (H:Hp) (a:Addr) (ns:List Int),ns.length<=n->Only H->SqL (K w.params) H a (ns.map V.int)->sp w [.ref a] H (λv _=>v = .bl true) λ_ _ _=>False)
  (hCX:∀ (w:World) (H:Hp) (s:Shared) (e:Value) (s':Shared),CX w [] H s (λ_ _ _=>False) e s'->False) :
  PySem.W.WalkO q loose XP YP l.row.toRowW d [] (λf vs=>PySem.call f vs):=by
 refine Att.a73 hn hdf λw s₀ s₁ mg mb fa o pm cd doc a vs ns G Y ho hd hcd hmg hobj hints hlen hg=>?_;have KX:=hY w _ Y;obtain ⟨fd,hb,hF⟩:=F w mg fa _ KX G.T.g hmg;exact acp KX G.T.g G.T.b G.T.builtins G.T.nolimit hg hobj hints (Nat.le_trans hlen hn2) hr hF hb (λH hO hS=>hsp w H a ns hlen hO hS) λH e s'=>hCX w H s₁ e s'
def a0o(s:Stmt):Arguments:=match s with
 | .FunctionDef _ a _ _ _ _ _ _ _ _=>a
 | _=>{ posonlyargs:=[],args:=[],vararg:=none,kwonlyargs:=[],kw_defaults:=[],kwarg:=none,defaults:=[] }
def jd(s:Stmt):List Stmt:=match s with
 | .FunctionDef _ _ b _ _ _ _ _ _ _=>b
 | _=>[]
def bc(s:Stmt):Scope:=match s with
 | .FunctionDef _ _ _ _ _ _ sc _ _ _=>sc
 | _=>{ kind:=.function,names:=[],isGenerator:=false,isCoroutine:=false }
abbrev CX0:CXT:=λ_ _ _ _ _ _=>False
abbrev E0:XK:=λ_ _ _=>False
theorem aj3{X:Cx}:a7s CX0 X E0:=λ_ _ _ _ _ _ _ h=>h.elim
structure Fun (K:PySem.W.Frag) (x qual:Str) (st:Stmt) (f:Addr) (fd:FuncData):Prop where
 ex:∃ (oc:Value) (od:Option Addr) (kV doc pm:Value) (an:Option Addr) (cdv ct:Value) (osl:Array (Option Value)),
  fd=PySem.W.fnOf x qual (a0o st) (jd st) (bc st) .none kV doc pm an cdv ct/\K.lookup f=some ⟨oc,od, .func fd,osl⟩/\PySem.W.codeIn K cdv qual=true
 kp:PySem.W.keepIn K (.ref f)=true
section
variable{P:Program}{w:World}{K:PySem.W.Frag}{mg:Str->Option Value}{base:Heap}
theorem Fun.ok{x qual:Str}{st:Stmt}{f:Addr}{fd:FuncData}{N ps:List Str}{k:Nat}{sp:Sp}(F:Fun K x qual st f fd)(S:FnScope N ps (bc st))(len:∀ vs H Q E,sp vs H Q E->vs.length=ps.length)
  (hbody:∀ (cdv:Value) (A:Around) (outer:List Env) (s:Shared) (H:Hp) (vs:List V) (Q:VK) (E:XK),Room k (A.deeper (envOfC qual (bc st) s.heap.objs.size f cdv))->sp vs H Q E->
   ∃ t,PSs (zr CX0 P w K mg base N qual (bc st) f cdv A outer s H E).nox (jd st) t/\t { nx:=λ_ H'=>Q .non H',rt:=Q } (start N vs) H):FnOk P w K mg base CX0 (k+1) f fd ps sp:=by
 obtain ⟨oc,od,kV,doc,pm,an,cdv,ct,osl,rfl,lk,hcd⟩:=F.ex;refine amh lk hcd S len λA outer s H vs Q E hr hsp=>?_;obtain ⟨t,h,q⟩:=hbody cdv A outer s H vs Q E hr hsp;exact ⟨t,h.nox,q⟩
theorem Fun.binds{x qual:Str}{st:Stmt}{f:Addr}{fd:FuncData}{ps:List Str}(F:Fun K x qual st f fd)
  (h:∀ (kV doc pm:Value) (an:Option Addr) (cdv ct:Value) (us:List Value),us.length=ps.length->bindArgs (PySem.W.fnOf x qual (a0o st) (jd st) (bc st) .none kV doc pm an cdv ct) ⟨us,[]⟩=pure (ps.zip us)):Binds K fd ps []:=by
 obtain ⟨oc,od,kV,doc,pm,an,cdv,ct,osl,rfl,lk,hcd⟩:=F.ex;exact .all (h kV doc pm an cdv ct)
theorem aj4{x qual:Str}{st:Stmt}{f:Addr}{oc:Value}{od an:Option Addr}{osl:Array (Option Value)}{kV doc pm cdv ct:Value}(l:K.lookup f=some ⟨oc,od, .func (PySem.W.fnOf x qual (a0o st) (jd st) (bc st) .none kV doc pm an cdv ct),osl⟩)
  (c:PySem.W.codeIn K cdv qual=true) (k:PySem.W.keepIn K (.ref f)=true):Fun K x qual st f (PySem.W.fnOf x qual (a0o st) (jd st) (bc st) .none kV doc pm an cdv ct):=⟨⟨oc,od,kV,doc,pm,an,cdv,ct,osl,rfl,l,c⟩,k⟩
end
def Same(H H':Hp):Prop:=∀ b o,H b=some o->H' b=some o
theorem Same.seq{K:PySem.W.Frag}{H H':Hp}{a:Addr}{xs:List V}(e:Same H H')(h:SqL K H a xs):SqL K H' a xs:=by
 rcases h with (h | ⟨o,h⟩) | h
 ·exact .inl (.inl (e _ _ h))
 ·exact .inl (.inr ⟨o,e _ _ h⟩)
 ·exact .inr h
section
variable{κ:Type}[DecidableEq κ]
theorem RelO.getD{o:Option V}{u:Option Value}{d:V}{d':Value}(r:RelO o u)(rd:RelV d d'):RelV (o.getD d) (u.getD d'):=by
 cases o with
 | none=>cases u with
  | none=>exact rd
  | some _=>exact (show False from r).elim
 | some _=>cases u with
  | none=>exact (show False from r).elim
  | some _=>exact r
end
end L2
set_option maxHeartbeats 4000000
namespace L2
open PySem PySem.Spec PyProof.Rows
section
variable{X:Cx}
theorem a7u:OpR X (compareOp .Is) (λx y H Q=>∃ i j,x = .bl i/\y = .bl j/\Q (.bl (i == j)) H):=by
 intro pins s σ H x y v u Q I rx ry h
 obtain ⟨i,j,rfl,rfl,q⟩:=h;cases rx
 cases ry
 exact is_bool (a1w I q rfl)
theorem wz:OpR X (compareOp .IsNot) (λx y H Q=>∃ i j,x = .bl i/\y = .bl j/\Q (.bl (i != j)) H):=by
 intro pins s σ H x y v u Q I rx ry h
 obtain ⟨i,j,rfl,rfl,q⟩:=h;cases rx
 cases ry
 exact isnot_bool (a1w I q rfl)
theorem qj:OpR X (compareOp .LtE) (λx y H Q=>∃ i j,x = .str i/\y = .str j/\Q (.bl (!decide (j.cps.toList<i.cps.toList))) H):=by
 intro pins s σ H x y v u Q I rx ry h
 obtain ⟨i,j,rfl,rfl,q⟩:=h;obtain ⟨t,rfl⟩:=rx;obtain ⟨t',rfl⟩:=ry;exact PySem.P.le_str (a1w I q rfl)
def a1n{α:Type}(xs:List α)(lo hi:Option Int):List α:=(xs.drop (HT.sIx xs.length 0 lo)).take (HT.sIx xs.length xs.length hi - HT.sIx xs.length 0 lo)
def amn:V->Option Int->Option Int->Hp->VK->Prop:=λx lo hi H Q=>∃ z,x = .str z/\z.length<=sizeLine/\Q (.str ⟨(a1n z.cps.toList lo hi).toArray⟩) H
theorem aj5(lo hi:Option Int)(n:Nat):Builtin.Str.strSliceIndices lo hi 1 n=(List.range (HT.sIx n n hi - HT.sIx n 0 lo)).map λk=>HT.sIx n 0 lo+k:=by
 have e1:Builtin.Str.strSliceIndices lo hi 1 n=sliceRange ((HT.sIx n 0 lo:Nat):Int) ((HT.sIx n n hi:Nat):Int) 1:=by
  unfold Builtin.Str.strSliceIndices;dsimp only
  congr 1
  ·cases lo with
   | none=>simp [HT.sIx]
   | some i=>simp only [HT.sIx,show (1:Int) > 0 by decide,if_true];split<;>omega
  ·cases hi with
   | none=>simp [HT.sIx]
   | some i=>simp only [HT.sIx,show (1:Int) > 0 by decide,if_true];split<;>omega
 rw [e1];exact sliceRange_one _ _
theorem aj6{α:Type}(xs:List α)(a:Nat):∀ k,a+k<=xs.length->((List.range k).map λj=>a+j).filterMap (xs[·]?)=(xs.drop a).take k
 | 0,_=>by simp
 | k+1,h=>by
  rw [List.range_succ,List.map_append,List.filterMap_append,aj6 xs a k (by omega)]
  have hk:a+k<xs.length:=by omega
  rw [List.take_succ]
  congr 1
  simp [List.getElem?_drop,hk]
theorem aj7:SlR X amn:=by
 intro pins s σ H x v vl vu lo hi sl Q I rx hs pl pu h
 obtain ⟨z,rfl,hz,q⟩:=h;obtain ⟨t,rfl⟩:=rx;refine ⟨"str",_,PyProof.Rows.slot_str_getitem.lookup,typeIs_str s z t,?_⟩;have hl:z.cps.toList.length=z.length:=by simp [Str.length]
 have fin:∀ (l u:Option (Int × Tok)),vl=partValue l->vu=partValue u->l.map (·.1)=lo->u.map (·.1)=hi->wpAny (model X.prog X.w) X.A (getItem (.str z t) (.ref sl)) (EP X pins σ Q) X.xe s:=by
  intro l u e1 e2 e3 e4
  subst e1 e2;refine wpAny_getItem_str_slice (l:=l) (u:=u) (st:=none) hs rfl ?_;have hp:slicePicked z l u none=(List.range (HT.sIx z.length z.length hi - HT.sIx z.length 0 lo)).map λk=>HT.sIx z.length 0 lo+k:=by
   unfold slicePicked;rw [e3,e4];exact aj5 lo hi z.length
  have hb1:HT.sIx z.length z.length hi<=z.length:=HT.aa7 _ _ (Nat.le_refl _) _;have hb2:HT.sIx z.length 0 lo<=z.length:=HT.aa7 _ _ (Nat.zero_le _) _;unfold sliceMade
  split
  ·rename_i c;simp only [Bool.and_eq_true,beq_iff_eq] at c;obtain ⟨_,c⟩:=c;rw [hp,List.length_map,List.length_range] at c;have e:(⟨(a1n z.cps.toList lo hi).toArray⟩:Str)=z:=by
    unfold a1n;rw [hl];have z1:HT.sIx z.length 0 lo=0:=by omega
    have z2:HT.sIx z.length z.length hi=z.length:=by omega
    rw [z1,z2,List.drop_zero,Nat.sub_zero,List.take_of_length_le (by omega)]
   rw [e] at q;exact ⟨.str z,H,I,⟨_,rfl⟩,q⟩
  ·have e:(⟨(a1n z.cps.toList lo hi).toArray⟩:Str)=⟨((slicePicked z l u none).filterMap (z.cps[·]?)).toArray⟩:=by
    rw [hp];unfold a1n;rw [hl]
    by_cases hc:HT.sIx z.length 0 lo<=HT.sIx z.length z.length hi
    ·rw [<-aj6 z.cps.toList _ _ (by omega)]
     simp only [Array.getElem?_toList]
    ·rw [show HT.sIx z.length z.length hi - HT.sIx z.length 0 lo=0 by omega]
     simp
   rw [e] at q;refine ⟨?_, .str _,H,I.tok _,⟨_,rfl⟩,q⟩;rw [<-e];show (a1n z.cps.toList lo hi).toArray.size<=sizeLine;rw [List.size_toArray];unfold a1n;rw [List.length_take,List.length_drop,hl];omega
 cases pl with
 | none=>cases pu with
  | none=>exact fin none none rfl rfl rfl rfl
  | int j t'=>exact fin none (some (j,t')) rfl rfl rfl rfl
 | int i t'=>cases pu with
  | none=>exact fin (some (i,t')) none rfl rfl rfl rfl
  | int j t''=>exact fin (some (i,t')) (some (j,t'')) rfl rfl rfl rfl
theorem ji:CallR X (.builtin "isinstance") (λxs H Q=>∃ x T t b,xs=[x, .ty T]/\TyOf X.K H x t/\PySem.W.kitOne X.K t (.type T)=some b/\Q (.bl b) H):=by
 intro pins s σ H xs us Q I r h
 obtain ⟨x,T,t,b,rfl,ty,e,q⟩:=h;obtain ⟨u,w',rfl,rx,rt⟩:=vals2 r;cases rt
 exact aa4 I rx ty e λtk=>⟨.bl b,H,I.tok tk,rfl,q⟩
def ud(x:Str):List V:=x.cps.toList.map λc=>V.str ⟨#[c]⟩
theorem a3j{x:Str}{acc:Array Value}(h:ItemsOf (SignAt x) acc x.cps.size):Vals (ud x) acc.toList:=by
 obtain ⟨hs,ha⟩:=h;have key:∀ (cs:List Nat) (us:List Value),us.length=cs.length->(∀ (j:Nat) (v:Value),us[j]? = some v->∃ c u,cs[j]? = some c/\v = .str ⟨#[c]⟩ u)->Vals (cs.map λc=>V.str ⟨#[c]⟩) us:=by
  intro cs
  induction cs with
  | nil=>intro us hl _;cases us with | nil=>exact .nil | cons _ _=>simp at hl
  | cons c cs ih =>
   intro us hl hp
   cases us with
   | nil=>simp at hl
   | cons u us =>
    refine .cons ?_ (ih us (by simpa using hl) λj v e=>hp (j+1) v (by simpa using e))
    obtain ⟨c',t,e1,e2⟩:=hp 0 u rfl;simp at e1;subst e1;exact ⟨t,e2⟩
 refine key _ _ (by simp [hs]) λj v e=>?_
 obtain ⟨c,u,e1,e2⟩:=ha j v (by simpa using e)
 exact ⟨c,u,by simpa using e1,e2⟩
theorem a2c(hc:X.calm=true):CallR X (.type "list") (λxs H Q=>∃ z,xs=[.str z]/\z.length<=sizeLine/\∀ l,H l=none->Q (.ref l) (upd H l (.lst (ud z)))):=by
 intro pins s σ H xs us Q I r h
 obtain ⟨z,rfl,hz,q⟩:=h;obtain ⟨u,rfl,t,rfl⟩:=vals1 r;refine PySem.call_list_str (I.ok.hd hc) z t (λh' tk acc c kp e hi=>?_) (by simpa [Str.length] using hz)
 refine ⟨.ref s.heap.objs.size,_,I.laid (t':=tk) kp (Nat.le_refl _) (show ObjOk X.prog X.w _ h' _ (.lst (ud z)) from ⟨by simpa [ud,Str.length] using hz,acc.toList,c,a3j hi,by simpa using e⟩),rfl,q _ (I.hok.fresh (Nat.le_refl _))⟩
theorem v4(hc:X.calm=true):CallR X (.type "tuple") (λxs H Q=>∃ z,xs=[.str z]/\z.length<=sizeLine/\∀ l,H l=none->Q (.ref l) (upd H l (.tup (ud z)))):=by
 intro pins s σ H xs us Q I r h
 obtain ⟨z,rfl,hz,q⟩:=h;obtain ⟨u,rfl,t,rfl⟩:=vals1 r;refine PySem.call_tuple_str (I.ok.hd hc) z t (λh' tk acc kp hi=>?_) (by simpa [Str.length] using hz)
 have I1:Inv X pins σ H { s with heap:=h',toks:=tk }:=I.kept kp
 have I2:Inv X pins σ (upd H h'.objs.size (.tup (ud z))) { s with heap:=h'.push { cls:=.type "tuple",data:=.seq acc },toks:=tk } :=
  I1.laid (t':=tk) (λb o e=>Heap.get?_push_of_some _ e) (Nat.le_refl _) (show ObjOk X.prog X.w _ _ _ (.tup (ud z)) from ⟨by simpa [ud,Str.length] using hz,acc.toList,a3j hi,by simpa using IsTup.new h' acc⟩)
 exact ⟨.ref h'.objs.size,_,I2,rfl,q _ (I1.hok.fresh (Nat.le_refl _))⟩
end
def Its(x:Str):It:=⟨λi _=>i<x.cps.size,λi H v H'=>H'=H/\∃ c,x.cps.toList[i]? = some c/\v = .str ⟨#[c]⟩,λi _=>i=x.cps.size⟩
theorem a7v{P:Program}{w:World}{K:PySem.W.Frag}{tg:Expr}(it:Addr)(x:Str)(t:Tok)(ty:String)
  (hty:["enumerate", "zip", "dict_itemiterator", "dict_reverseitemiterator", "odict_iterator", "itertools.zip_longest", "itertools.pairwise"].contains ty=false)
  (W:∀ A':Around,A'.handled=none->Walks P w A' it [it] [it] x.cps.size (SignAt x) (λi h=>h.IsStrIter it ty x t i))
  (slf:∀ (A:Around) (i:Nat) (s:Shared) (Q:Value->Shared->Prop) (E:Value->Shared->Prop),s.heap.IsStrIter it ty x t i->Q (.ref it) s->wpAny (model P w) A (pyIter (.ref it)) Q E s) :
  Turn P w K tg (Its x) [it] it (λi h=>h.IsStrIter it ty x t i) where
 mem:=by simp
 obj:=λi h st b hb=>by
  have e:b=it:=by simpa using hb
  subst e;obtain ⟨o,e,c,d⟩:=st;exact ⟨o,e,λv z=>by rw [d] at z;cases z⟩
 keep:=λi h h' st k=>by
  obtain ⟨o,e,c,d⟩:=st;exact ⟨o,k it (by simp) o e,c,d⟩
 item:=by
  intro X hP hw hK hc i pins s σ H E I hf st hg
  subst hP hw hK;obtain ⟨f0,f1,f2,f3,f4,f5⟩:=hf it (by simp)
  refine (W X.A (I.ok.hd hc)).item i s _ _ hg st λv h' tk hv st' kk=>?_;obtain ⟨c,u,hx,rfl⟩:=hv;have I1:Inv X pins σ H { s with heap:=h',toks:=tk }:=I.turned (λb o hb e=>kk b o (by simpa using hb) e) f0 f1 f3 f4 f5
  obtain ⟨o,e,oc,d⟩:=id st';exact ⟨_,rfl,ace (s:={ s with heap:=h',toks:=tk }) e oc d hty ⟨.str ⟨#[c]⟩,H,I1,⟨_,rfl⟩,⟨rfl,c,by simpa using hx,rfl⟩,st',λb hb=>(hf b hb).1⟩⟩
 done:=by
  intro X hP hw hK hc i pins s σ H E I hf st hg
  subst hP hw hK;obtain ⟨f0,f1,f2,f3,f4,f5⟩:=hf it (by simp)
  have hg':i=x.cps.size:=hg;subst hg';exact (W X.A (I.ok.hd hc)).done s _ _ st λh' tk eb=>⟨rfl,I.turned (λb o hb e=>eb b o (by simpa using hb) e) f0 f1 f3 f4 f5⟩
 self:=slf
section
variable{X:Cx}{tg:Expr}
def aop(tl:TE):TI:=λσ H R=>tl σ H λx H1=>∃ z,x = .str z/\R (Its z) H1
theorem aen{l:Expr}{tl:TE}(hl:PE X l tl):PI X tg l (aop tl):=by
 intro pins s σ H R I h
 refine thn (hl pins s σ H _ I h) λv s1 ⟨x,H1,I1,r1,q1⟩=>?_;obtain ⟨z,e,q⟩:=q1;subst e;obtain ⟨t,rfl⟩:=r1;have fp:∀ b∈[s1.heap.objs.size],a7q X pins H1 b:=λb hb=>by
  have e:b=s1.heap.objs.size:=by simpa using hb
  subst e;exact I1.fpOk (Nat.le_refl _) (I1.hok.fresh (Nat.le_refl _))
 cases ha:z.cps.all (· < 128)
 ·exact wpAny_pyIter_wide ha ⟨s1.heap.objs.size,[s1.heap.objs.size],_,_,H1,rfl,I1.kept (t':=s1.toks) λb o e=>Heap.get?_push_of_some _ e,
   a7v _ z t "str_iterator" (by decide) (λA' hA=>Walks.strWide hA _ z t) (λ_ _ _ _ _ st h=>wpAny_pyIter_striter_wide st h),⟨_,Heap.get?_push_size _ rfl,rfl,rfl⟩,fp,q⟩
 ·exact wpAny_pyIter_ascii ha ⟨s1.heap.objs.size,[s1.heap.objs.size],_,_,H1,rfl,I1.kept (t':=s1.toks) λb o e=>Heap.get?_push_of_some _ e,
   a7v _ z t "str_ascii_iterator" (by decide) (λA' hA=>Walks.strAscii hA _ z t) (λ_ _ _ _ _ st h=>wpAny_pyIter_striter_ascii st h),⟨_,Heap.get?_push_size _ rfl,rfl,rfl⟩,fp,q⟩
end
def cxC(X:Cx)(N:List Str)(scope:Scope)(cl:List (Str × Addr))(C:Addr)(fp:List Addr)(s:Shared)(H:Hp):Cx where
 prog:=X.prog
 w:=X.w
 K:=X.K
 mg:=X.mg
 base:=X.base
 A:=X.A
 N:=N
 s₀:=s
 H₀:=H
 env:=compEnvC scope cl C X.env
 outer:=X.stack
 stack:=X.stack
 ex:=fp
 fn:=λ_=>false
 calm:=X.calm
 pn:=[]
 xe:=λ_ _=>False
structure CSc (X:Cx) (scope:Scope) (cl:List (Str × Addr)) (ts fr:List Str) (ix:List Nat):Prop where
 clos:closureFor scope X.env=pure cl
 kind:scope.kind = .function
 nocell:∀ y∈scope.names,y.2≠.cell
 names:∀ y∈scope.names,y.2 = .local->scope.names.lookup y.1=some .local
 sub:∀ y c,cl.lookup y=some c->X.env.cells.lookup y=some c
 has:∀ y,((relabel scope X.env).names.lookup y=some .cell\/(relabel scope X.env).names.lookup y=some .free)->∃ c,cl.lookup y=some c
 nofn:∀ y∈ts,(relabel scope X.env).names.lookup y=some .local
 len:ix.length=fr.length
 vis:∀ (j:Nat) (y:Str),fr[j]? = some y->∃ i:Nat,ix[j]? = some i/\X.N[i]? = some y/\(X.env.kindOf y=some .cell\/X.env.kindOf y=some .free)/\((relabel scope X.env).names.lookup y=some .cell\/(relabel scope X.env).names.lookup y=some .free)
def Ext(a b:St):Prop:=b.length=a.length/\∀ (i:Nat) v,a[i]? = some (some v)->b[i]? = some (some v)
def vz(nt:Nat)(ix:List Nat)(σ:St):St:=List.replicate nt none++ix.map λi=>(σ[i]?).join
def aj8(J:It)(s0:St)(g:TG)(te:TE)(Q:VK)(H1:Hp):Prop:=∃ W:Nat->Nat->List V->Hp->Prop,(∃ m,W 0 m [] H1)/\∀ i m ys H,W i m ys H->
 (J.stop i H/\∀ p,H p=none->Q (.ref p) (upd H p (.lst ys))) \/
 (J.go i H/\ys.length<sizeLine/\∀ x H',J.yld i H x H'->g x s0 H' λσ2 H2=>Ext s0 σ2/\te σ2 H2 λy H3=>∃ m',m'<m/\W (i+1) m' (ys++[y]) H3)
def acq(wi:TI)(s0:St->St)(g:TG)(te:TE):TE:=λσ H Q=>wi σ H λJ H1=>aj8 J (s0 σ) g te Q H1
theorem aaf{prog:Program}{w:World}{A:Around}{R:Result->Shared->Prop}{s:Shared}{elt target iter:Expr}{scope:Scope}{pos:Pos}{it acc:Value}{env:Env}(J:Nat->Shared->Prop)
  (step:∀ m z,J m z->wpAny (model prog w) A (pyNext it) (λgot z1=>match got with
   | none=>R (.ok .next) z1
   | some v=>wpAny (model prog w) A (letOwnedTupleGo target it v) (λ_ z2=>wpAny (model prog w) A (assign target env v) (λ_ z3=>wpAny (model prog w) A (eval elt env) (λx z4 =>
     wpAny (model prog w) A (call (.builtin "list.append") [acc,x]) (λ_ z5=>∃ m',m'<m/\J m' z5) (λ_ _=>False) z4)
     (λ_ _=>False) z3) (λ_ _=>False) z2) (λ_ _=>False) z1) (λ_ _=>False) z)
  (m:Nat) (j0:J m s):codeAny (model prog w) A (.compLoop (.ListComp elt [⟨target,iter,[],0⟩] scope pos) 0 it acc env) R s:=by
 refine codeAny_loop rfl J (λm z hj=>(wpAny_noted ?_:wpAny _ _ ((compTurn (.ListComp elt [⟨target,iter,[],0⟩] scope pos) 0 it acc env).onRaise _) _ _ z)) m j0;rw [compTurn_list1];refine wpAny_bind (wpAny_standAt (wpAny_bind (wpAny_mono (step m z hj) (λgot z1 h1=>?_) λ_ _ no=>no.elim)))
 match got,h1 with
 | none,h1=>exact wpAny_pure h1
 | some v,h1 =>
  refine wpAny_bind (wpAny_mono h1 (λ_ z2 h2=>wpAny_bind (wpAny_mono h2 (λ_ z3 h3=>?_) λ_ _ no=>no.elim)) λ_ _ no=>no.elim);refine wpAny_bind (wpAny_bind (wpAny_mono h3 (λx z4 h4=>?_) λ_ _ no=>no.elim));exact wpAny_bind (wpAny_mono h4 (λ_ z5 h5=>wpAny_pure (wpAny_pure ⟨rfl,h5⟩)) λ_ _ no=>no.elim)
section
variable{X:Cx}
theorem aag{pins:List (Addr × Obj)}{σ:St}{H:Hp}{s:Shared}{scope:Scope}{cl:List (Str × Addr)}{ts fr:List Str}{ix:List Nat}{C:Addr}{fp:List Addr}(S:CSc X scope cl ts fr ix)(I:Inv X pins σ H s)
  (hf:∀ b∈fp,a7q X pins H b) (hb:∀ b∈fp,b<s.heap.objs.size) (hC:s.heap.objs.size<=C):(cxC X (ts++fr) scope cl C fp s H).Ok where
 mod:=I.ok.mod
 kind:=S.kind
 glob:=I.ok.glob
 blt:=I.ok.blt
 above:=hC
 inj:=λx y c h1 h2=>I.ok.inj x y c (S.sub x c h1) (S.sub y c h2)
 has:=S.has
 cab:=λ_ _ z=>nomatch z
 hd:=I.ok.hd
 frames:=I.ok.frames
 stk:=.inl rfl
 exf:=λb hb'=>⟨Nat.ne_of_lt (Nat.lt_of_lt_of_le (hb b hb') hC),λx c e=>(hf b hb').2.2.2.2.1 x c (S.sub x c e)⟩
 bs:=λb o e=>I.bs b o e
 bsz:=Nat.le_trans I.ok.bsz I.sz
 noex:=λb o e hb'=>by
  rcases (hf b hb').2.2.2.1 with z | z
  ·exact I.ok.noex b o e z
  ·exact absurd (Nat.lt_of_lt_of_le (Heap.lt_size e) (Nat.le_trans I.ok.bsz z)) (Nat.lt_irrefl _)
 exfs:=λb hb' z=>by
  rcases List.mem_cons.mp (I.stkSub b z) with e | e
  ·exact (hf b hb').2.1 e
  ·exact (hf b hb').2.2.1 e
 funs:=I.stack
 frf:=λb hb'=>I.stkFree b hb'
theorem a94{nt:Nat}{ix:List Nat}{σ:St}:(vz nt ix σ).length=nt+ix.length:=by
 unfold vz;rw [List.length_append,List.length_replicate,List.length_map]
theorem ag6{pins:List (Addr × Obj)}{σ:St}{H:Hp}{s s4:Shared}{scope:Scope}{cl:List (Str × Addr)}{ts fr:List Str}{ix:List Nat}{C:Addr}{fp:List Addr}{m:Str->Option Value}(S:CSc X scope cl ts fr ix)(I:Inv X pins σ H s)
  (hf:∀ b∈fp,a7q X pins H b) (hb:∀ b∈fp,b<s.heap.objs.size) (hC:s.heap.objs.size<=C)
  (k:∀ b o,s.heap.get? b=some o->s4.heap.get? b=some o) (hn:s4.heap.Ns C m) (ho:s4.os=s.os) (hg:s4.gens=s.gens) :
  Inv (cxC X (ts++fr) scope cl C fp s H) [] (vz ts.length ix σ) H s4 where
 ok:=aag S I hf hb hC
 os:=ho
 bare:=by rw [hg];exact I.bare
 base:=Un.kept k
 loc:=by
  refine ⟨m,hn,λi x v e1 e2 e3=>?_⟩;have e1:(ts++fr)[i]? = some x:=e1
  by_cases hi:i<ts.length
  ·unfold vz at e2;rw [List.getElem?_append_left (by simpa using hi),List.getElem?_replicate,if_pos hi] at e2
   cases e2
  ·rw [List.getElem?_append_right (by omega)] at e1
   unfold vz at e2;rw [List.getElem?_append_right (by simpa using hi),List.length_replicate,List.getElem?_map] at e2
   obtain ⟨j,h1,h2,h3,h4⟩:=S.vis _ x e1;rw [h1] at e2;have e2':(σ[j]?).join=some v:=Option.some.inj e2;have e5:σ[j]? = some (some v):=by
    cases q:σ[j]? with
    | none=>rw [q] at e2';cases e2'
    | some o=>rw [q] at e2';simp at e2';rw [e2']
   obtain ⟨m0,_,hl⟩:=I.loc;have vis:Vis X.env.scope x:=h3.elim (λz=>.inr (.inl z)) λz=>.inr (.inr z);obtain ⟨u,ru,l⟩:=hl j x v h2 e5 vis;refine ⟨u,ru,?_⟩
   rcases l with ⟨z,_⟩ | ⟨_,c,hc,hcell⟩
   ·rcases h3 with h3 | h3<;>rw [h3] at z<;>cases z
   ·obtain ⟨c',hc'⟩:=S.has x h4;have e6:c'=c:=Option.some.inj ((S.sub x c' hc').symm.trans hc);subst e6;obtain ⟨o,ho,hd⟩:=hcell;exact .inr ⟨h4,c',hc',o,k _ _ ho,hd⟩
 cell:=λx c e=>by
  obtain ⟨v,o,ho,hd⟩:=I.cell x c (S.sub x c e);exact ⟨v,o,k _ _ ho,hd⟩
 free:=I.hok.fresh hC
 freeC:=λx c e=>I.freeC x c (S.sub x c e)
 pin:=λp hp=>absurd (show p∈([]:List (Addr × Obj)) from hp) (by simp)
 hok:=I.hok.kept k
 len:=by
  rw [a94];show _=(ts++fr).length;rw [List.length_append,S.len]
theorem Inv.unpinned'{pins:List (Addr × Obj)}{σ:St}{H:Hp}{s:Shared}(I:Inv X pins σ H s):Inv X [] σ H s:=I.pins_of λ_ hp=>nomatch hp
theorem comp_back{pins:List (Addr × Obj)}{σ σ':St}{H H':Hp}{s s':Shared}{scope:Scope}{cl:List (Str × Addr)}{N:List Str}{C acc:Addr}{fp:List Addr}{h':Heap}{ys:List V}{its:List Value}{n:Nat}(I:Inv X pins σ H s)
  (hf:∀ b∈fp,a7q X pins H b) (hC:s.heap.objs.size<=C) (hacc:s.heap.objs.size<=acc) (hCa:C≠acc)
  (J:Inv (cxC X N scope cl C fp s H) [] σ' H' s') (hn:H' acc=none) (ha:s'.heap.get? acc=some { cls:=.type "list",data:=.seq its.toArray n }) (rv:Vals ys its) (hz:ys.length<=sizeLine) (sb:Heap.SameBut C s'.heap h') :
  Inv X pins σ (upd H' acc (.lst ys)) { s' with heap:=h' }:=by
 have k:∀ b o,b≠C->s'.heap.get? b=some o->h'.get? b=some o:=λb o hb e=>sb.extBut b o hb e;have old:∀ b o,s.heap.get? b=some o->b≠C/\b≠acc:=λb o e=>⟨Nat.ne_of_lt (Nat.lt_of_lt_of_le (Heap.lt_size e) hC),Nat.ne_of_lt (Nat.lt_of_lt_of_le (Heap.lt_size e) hacc)⟩;have u0:Un (frs X.stack) fp H H' s.heap s'.heap:=J.base;have fC:H' C=none:=J.free;have u:Un (frs X.stack) fp H (upd H' acc (.lst ys)) s.heap h':=by
  refine ⟨λb o e n' hb hx=>k b o (old b o e).1 (u0.keep b o e n' hb hx),λb o e n' hb hx=>?_,λb o e n' hx=>?_,λb o e hx=>?_,λb xs e=>?_,λb o v e=>?_,λb ps e=>?_⟩
  ·obtain ⟨sl,e1⟩:=u0.slot b o e n' hb hx;exact ⟨sl,k b _ (old b o e).1 e1⟩
  ·rw [jm (old b o e).2];exact u0.free b o e n' hx
  ·obtain ⟨o',e1⟩:=u0.there b o e hx;exact ⟨o',k b _ (old b o e).1 e1⟩
  ·rw [jm (jc (u0.tups b xs e) hn)];exact u0.tups b xs e
  ·rw [jm (jc (u0.frzs b o v e) hn)];exact u0.frzs b o v e
  ·obtain ⟨more,e1⟩:=u0.tbls b ps e;exact ⟨more,by rw [jm (jc e1 hn)];exact e1⟩
 have hok:HOk X.prog X.w (upd H' acc (.lst ys)) h':=λb o e=>by
  by_cases hb:b=acc
  ·subst hb;rw [uf] at e;cases e
   exact ⟨hz,its,n,rv,k _ _ (Ne.symm hCa) ha⟩
  ·rw [jm hb] at e;refine (J.hok b o e).stay (λc v hc q=>k c v ?_ q) (λc q=>by rw [jm (jc q hn)];exact q) λc xs q=>by rw [jm (jc q hn)];exact q
   rcases hc with z | z
   ·rw [z];exact jc e fC
   ·exact jc z fC
 have J':=I.call (g':=s'.gens) (t':=s'.toks) (d':=s'.drawn) (ch:=fp) u hok J.bare λb hb=>⟨(hf b hb).2.2.2.1,(hf b hb).2.1,(hf b hb).2.2.2.2.1,(hf b hb).2.2.2.2.2⟩;have eo:s'.os=s.os:=J.os;obtain ⟨hp,g,d,t,o⟩:=s';have eo':o=s.os:=eo;subst eo';exact J'
def a74(X:Cx)(pins:List (Addr × Obj))(σ:St)(use:Option (Value->Sem Unit))(Q:VK)(Qf:Value->Shared->Prop):Prop :=
 ∀ (acc C:Addr) (s6:Shared) (H6:Hp) (m6:Str->Option Value),s6.heap.Ns C m6->a7q X pins H6 C->(∀ h',Heap.SameBut C s6.heap h'->Inv X pins σ H6 { s6 with heap:=h' })->Q (.ref acc) H6->
  compPost (model X.prog X.w) X.A X.xe use Qf (.ref acc) C (.ok .next) s6
theorem acr{pins:List (Addr × Obj)}{σ:St}{Q:VK}:a74 X pins σ none Q (EP X pins σ Q):=λacc C s6 H6 m6 hn _ k q=>⟨m6,hn,λh' sb=>⟨.ref acc,H6,k h' sb,rfl,q⟩⟩
theorem acs{pins:List (Addr × Obj)}{σ:St}{D:Ends}{i:Nat}{x:Str}{pos':Pos}(hN:X.N.Nodup)(hi:X.N[i]? = some x)(hx:Loc X.env.scope x)(hf:X.fn x=true\/X.env.scope.names.lookup x=some .local) :
  a74 X pins σ (some (assign (.Name x pos') X.env)) (λv H1=>a6y i v σ H1 D.nx) (λ_ s'=>SP X pins D .next s'):=by
 intro acc C s6 H6 m6 hn fp k q
 obtain ⟨f1,f2,f3,f4,f5,f6⟩:=fp;have I6:Inv X pins σ H6 s6:=k s6.heap (Heap.SameBut.refl _ _);refine wpAny_assign_Name (a5r (v:=.ref acc) I6 hN hi hx rfl (λs' I' ⟨a,sb,ha⟩=>⟨m6,hn.sameBut sb ?_,λh' sb'=>⟨_,H6,I'.turned (t':=s'.toks) (it:=C) (λb o hb e=>sb'.extBut b o hb e) f1 f2 f4 f5 f6,q⟩⟩) hf)
 rcases ha with ha | ha
 ·rw [ha];exact f2
 ·exact λz=>f5 x a ha z.symm
theorem a66{elt tg iter:Expr}{scope:Scope}{pos ppos:Pos}{cl:List (Str × Addr)}{ts fr:List Str}{ix:List Nat}{wi:TI}{g:TG}{te:TE}(hc:X.calm=true)(S:CSc X scope cl ts fr ix)(hi:PI X tg iter wi)
  (hg:∀ C fp s H,PG (cxC X (ts++fr) scope cl C fp s H) tg g) (he:∀ C fp s H,PE (cxC X (ts++fr) scope cl C fp s H) elt te) (hs:∀ x,foldedSetIterable iter X.env x=pure x)
  (use:Option (Value->Sem Unit)) {pins:List (Addr × Obj)} {s:Shared} {σ:St} {H:Hp} {Q:VK} {Qf:Value->Shared->Prop} (I:Inv X pins σ H s) (h:acq wi (vz ts.length ix) g te σ H Q) (fin:a74 X pins σ use Q Qf) :
  wpAny (model X.prog X.w) X.A (comprehension (.ListComp elt [⟨tg,iter,[],0⟩] scope pos) scope X.env ppos (newList []) false (eval iter X.env) use) Qf X.xe s:=by
 refine wpAny_comprehension_free (use:=use) rfl hs S.clos S.kind S.names (thn (hi pins s σ H _ I h) λv s1 h1=>thn h1 λitv s2 h2=>?_);obtain ⟨it,fp,tn,J,H2,e,I2,T,st2,f2,W,⟨m0,w0⟩,turn⟩:=h2;subst e;have hob:∀ b∈fp,b<s2.heap.objs.size:=λb hb=>let ⟨o,e,_⟩:=T.obj _ _ st2 b hb;Heap.lt_size e;refine wpAny_newObj_type (wpAny_newFunctionEnv S.nocell (by intro y hy;simp at hy) (λh4 hns4 hsb4=>?_) S.kind)
 dsimp only at hns4 hsb4 ⊢
 generalize hH2:s2.heap.push { cls:=.type "list",dict:=none,data:=.seq ([]:List Value).toArray }=G at hns4 hsb4 ⊢
 have hCs:G.objs.size=s2.heap.objs.size+1:=by rw [<-hH2,Heap.size_push]
 have hCle:s2.heap.objs.size<=G.objs.size:=by omega
 have hne:G.objs.size≠s2.heap.objs.size:=by omega
 have old:∀ b o,s2.heap.get? b=some o->h4.get? b=some o:=λb o e=>by
  have hlt:=Heap.lt_size e;exact hsb4.extBut b o (Nat.ne_of_lt (Nat.lt_of_lt_of_le hlt hCle)) (Heap.get?_push_of_some _ (hH2 ▸ Heap.get?_push_of_some _ e))
 have hacc:h4.get? s2.heap.objs.size=some { cls:=.type "list",data:=.seq ([]:List Value).toArray 0 } :=
  hsb4.extBut _ _ (Ne.symm hne) (Heap.get?_push_of_some _ (hH2 ▸ Heap.get?_push_size _ rfl))
 have K0:Inv (cxC X (ts++fr) scope cl G.objs.size fp s2 H2) [] (vz ts.length ix σ) H2 { s2 with heap:=h4,toks:=s2.toks+([]:List (Str × Value)).length } :=
  ag6 S I2 f2 hob hCle old hns4 rfl rfl
 have st4:tn 0 h4:=T.keep _ _ _ st2 λb _ o e=>old b o e;have accF:s2.heap.objs.size ∉ fp:=λz=>Nat.lt_irrefl _ (hob _ z);have stat:∀ {H':Hp},(∀ b∈fp,H' b=none)->∀ b∈fp,a7q (cxC X (ts++fr) scope cl G.objs.size fp s2 H2) [] H' b:=λhn b hb =>
  ⟨hn b hb,λz=>by have h1:=hob b hb;have z':b=G.objs.size:=z;exact Nat.ne_of_lt (Nat.lt_of_lt_of_le h1 hCle) z',λz=>(aag S I2 f2 hob hCle).exfs b hb z, .inl hb,λx c e=>(f2 b hb).2.2.2.2.1 x c (S.sub x c e),λp hp=>absurd (show p∈([]:List (Addr × Obj)) from hp) (by simp)⟩
 have statA:∀ {H':Hp},H' s2.heap.objs.size=none->a7q (cxC X (ts++fr) scope cl G.objs.size fp s2 H2) [] H' s2.heap.objs.size:=λhn =>
  ⟨hn,λz=>hne (show G.objs.size=s2.heap.objs.size from z.symm),λz=>by
   obtain ⟨_,o,ho,_⟩:=(aag S I2 f2 hob hCle).funs.mem z;exact Nat.lt_irrefl _ (Heap.lt_size ho), .inr (Nat.le_refl _),λx c e z=>by
   obtain ⟨v,o,ho,_⟩:=I2.cell x c (S.sub x c e);rw [z] at ho;exact Nat.lt_irrefl _ (Heap.lt_size ho),λp hp=>absurd (show p∈([]:List (Addr × Obj)) from hp) (by simp)⟩
 have loop:∀ s4:Shared,s4={ s2 with heap:=h4,toks:=s2.toks+([]:List (Str × Value)).length }->
   codeAny (model X.prog X.w) X.A (.compLoop (.ListComp elt [⟨tg,iter,[],0⟩] scope pos) 0 (.ref it) (.ref s2.heap.objs.size) (compEnvC scope cl G.objs.size X.env))
    (compPost (model X.prog X.w) X.A X.xe use Qf (.ref s2.heap.objs.size) G.objs.size) s4:=by
  rintro s4 rfl
  refine aaf (λn s'=>∃ i σ' H' ys its k,Inv (cxC X (ts++fr) scope cl G.objs.size fp s2 H2) [] σ' H' s'/\Ext (vz ts.length ix σ) σ'/\tn i s'.heap/\(∀ b∈fp,H' b=none)/\H' s2.heap.objs.size=none /\
   s'.heap.get? s2.heap.objs.size=some { cls:=.type "list",data:=.seq its.toArray k }/\Vals ys its/\ys.length<=sizeLine/\W i n ys H') ?_ m0
   ⟨0,_,H2,[],[],0,K0,⟨rfl,λ_ _ z=>z⟩,st4,λb hb=>(f2 b hb).1,I2.hok.fresh (Nat.le_refl _),hacc, .nil,Nat.zero_le _,w0⟩
  rintro n s5 ⟨i,σ5,H5,ys,its,k5,I5,x5,st5,fr5,fa5,ac5,rv5,hz5,w5⟩
  have I5':Inv (cxC X (ts++fr) scope cl G.objs.size fp s2 H2) [] (vz ts.length ix σ) H5 s5:=I5.weak x5.1.symm x5.2
  rcases turn i n ys H5 w5 with ⟨stop,qn⟩ | ⟨go,hlt,step⟩
  ·refine thn (T.done (cxC X (ts++fr) scope cl G.objs.size fp s2 H2) rfl rfl rfl hc i [(s2.heap.objs.size,{ cls:=.type "list",data:=.seq its.toArray k5 })] s5 _ H5 _ (I5'.pins_of λp hp=>?_) (λb hb=>?_) st5 stop) λr s6 ⟨hr,I6⟩=>?_
   ·have e:p=(s2.heap.objs.size,{ cls:=.type "list",data:=.seq its.toArray k5 }):=by simpa using hp
    subst e;obtain ⟨a0,a1,a2,_⟩:=statA fa5;exact ⟨ac5,a0,a1,a2,λv z=>by cases z⟩
   ·obtain ⟨b0,b1,b2,b3,b4,b5⟩:=stat fr5 b hb;refine ⟨b0,b1,b2,b3,b4,λp hp=>?_⟩;have e:p=(s2.heap.objs.size,{ cls:=.type "list",data:=.seq its.toArray k5 }):=by
     have hp':p∈[(s2.heap.objs.size,_)]:=hp;simpa using hp'
    subst e;exact λz=>accF (by have z':s2.heap.objs.size=b:=z;rw [z'];exact hb)
   ·subst hr;have e6:=(I6.pin (s2.heap.objs.size,{ cls:=.type "list",data:=.seq its.toArray k5 }) (by show _∈[]++[_];simp)).1
    obtain ⟨m6,hn6,_⟩:=I6.loc;exact fin _ _ s6 _ m6 hn6 (I2.fpOk hCle (by rw [jm hne];exact I6.free)) (λh' sb=>comp_back I2 f2 hCle (Nat.le_refl _) hne I6.unpinned' fa5 e6 rv5 hz5 sb) (qn _ fa5)
  ·refine thn (T.item (cxC X (ts++fr) scope cl G.objs.size fp s2 H2) rfl rfl rfl hc i [(s2.heap.objs.size,{ cls:=.type "list",data:=.seq its.toArray k5 })] s5 _ H5 _ (I5'.pins_of λp hp=>?_) (λb hb=>?_) st5 go) λr s6 ⟨u,hr,h6⟩=>?_
   ·have e:p=(s2.heap.objs.size,{ cls:=.type "list",data:=.seq its.toArray k5 }):=by simpa using hp
    subst e;obtain ⟨a0,a1,a2,_⟩:=statA fa5;exact ⟨ac5,a0,a1,a2,λv z=>by cases z⟩
   ·obtain ⟨b0,b1,b2,b3,b4,b5⟩:=stat fr5 b hb;refine ⟨b0,b1,b2,b3,b4,λp hp=>?_⟩;have e:p=(s2.heap.objs.size,{ cls:=.type "list",data:=.seq its.toArray k5 }):=by
     have hp':p∈[(s2.heap.objs.size,_)]:=hp;simpa using hp'
    subst e;exact λz=>accF (by have z':s2.heap.objs.size=b:=z;rw [z'];exact hb)
   ·subst hr;refine thn h6 λ_ s7 ⟨x,H7,I7,r7,y7,st7,fr7⟩=>?_;have fa7:H7 s2.heap.objs.size=none:=(I7.pin (s2.heap.objs.size,{ cls:=.type "list",data:=.seq its.toArray k5 }) (by show _∈[]++[_];simp)).2.1
    have ac7:=(I7.pin (s2.heap.objs.size,{ cls:=.type "list",data:=.seq its.toArray k5 }) (by show _∈[]++[_];simp)).1
    have I7':Inv (cxC X (ts++fr) scope cl G.objs.size fp s2 H2) ([]++a5t (s2.heap.objs.size::fp) s7.heap) (vz ts.length ix σ) H7 s7:=by
     refine Inv.pinned I7.unpinned' (λb hb=>?_) λb hb=>?_
     ·rcases List.mem_cons.mp hb with e | e
      ·subst e;exact statA fa7
      ·exact stat fr7 b e
     ·rcases List.mem_cons.mp hb with e | e
      ·subst e;exact ⟨_,ac7,λv z=>by cases z⟩
      ·exact T.obj _ _ st7 b e
    refine thn (hg G.objs.size fp s2 H2 _ s7 _ H7 x u _ I7' r7 (step x H7 y7)) λ_ s8 ⟨σ8,H8,I8,x8,q8⟩=>?_;refine thn (he G.objs.size fp s2 H2 _ s8 _ H8 _ I8 q8) λyv s9 ⟨y,H9,I9,r9,m',hm',w9⟩=>?_;obtain ⟨ac9,fa9,_⟩:=I9.pin (s2.heap.objs.size,{ cls:=.type "list",data:=.seq its.toArray k5 }) (by show _∈[]++([]++_);simp;exact yt List.mem_cons_self ac7)
    have keep9:∀ b∈fp,∀ o,s7.heap.get? b=some o->s9.heap.get? b=some o/\H9 b=none:=λb hb o e=>by
     obtain ⟨z1,z2,_⟩:=I9.pin (b,o) (by show _∈[]++([]++_);simp;exact yt (List.mem_cons_of_mem _ hb) e)
     exact ⟨z1,z2⟩
    have hl:=rv5.length;refine call_meets F.slot_list_append ⟨_,ac9,rfl⟩ F.entry_list_append (F.args_list_append_2 _ _) (PySem.list_append s2.heap.objs.size its.toArray k5 yv (by rw [List.size_toArray];omega)) ⟨ac9,?_⟩
    have q:=PySem.IsL.update ac9 (λa=>a.push yv);have qo:∀ b o,b≠s2.heap.objs.size->s9.heap.get? b=some o->(s9.heap.update s2.heap.objs.size (Obj.mapSeq (λa=>a.push yv))).get? b=some o:=λb o hb e=>(Heap.get?_update_other s9.heap _ (Ne.symm hb)).trans e;have q':∃ k,(s9.heap.update s2.heap.objs.size (Obj.mapSeq (λa=>a.push yv))).get? s2.heap.objs.size=some { cls:=.type "list",data:=.seq (its++[yv]).toArray k }:=⟨_,by rw [q];simp;rfl⟩
    obtain ⟨k9,q9⟩:=q';obtain ⟨a0,a1,a2,a3,a4,a5⟩:=statA (show H9 s2.heap.objs.size=none from fa9)
    refine ⟨m',hm',i+1,σ8,H9,ys++[y],its++[yv],k9,(I9.unpinned').turned qo a0 a1 a3 a4 a5,x8,?_,?_,fa9,q9,rv5.append (.cons r9 .nil),?_,w9⟩
    ·refine T.keep _ _ _ st7 λb hb o e=>qo b o (λz=>accF (z ▸ hb)) (keep9 b hb o e).1
    ·intro b hb
     obtain ⟨o,e,_⟩:=T.obj _ _ st7 b hb;exact (keep9 b hb o e).2
    ·rw [List.length_append,List.length_singleton];omega
 exact codeAny_compStart_list (loop _ rfl) (T.self _ 0 _ _ _ st4 (loop _ rfl))
theorem acu{elt tg iter:Expr}{scope:Scope}{pos:Pos}{cl:List (Str × Addr)}{ts fr:List Str}{ix:List Nat}{wi:TI}{g:TG}{te:TE}(hc:X.calm=true)(S:CSc X scope cl ts fr ix)(hi:PI X tg iter wi)
  (hg:∀ C fp s H,PG (cxC X (ts++fr) scope cl C fp s H) tg g) (he:∀ C fp s H,PE (cxC X (ts++fr) scope cl C fp s H) elt te)
  (hs:∀ x,foldedSetIterable iter X.env x=pure x:=by intro _;rfl) :
  PE X (.ListComp elt [⟨tg,iter,[],0⟩] scope pos) (acq wi (vz ts.length ix) g te):=by
 intro pins s σ H Q I h
 rw [eval_ListComp];exact a66 hc S hi hg he hs none I h acr
theorem acv{elt tg iter:Expr}{scope:Scope}{pos:Pos}{cl:List (Str × Addr)}{ts fr:List Str}{ix:List Nat}{wi:TI}{g:TG}{te:TE}{i:Nat}{x:Str}{pos' spos:Pos}(hN:X.N.Nodup)(hi':X.N[i]? = some x)(hx:Loc X.env.scope x)(hc:X.calm=true)(S:CSc X scope cl ts fr ix)(hi:PI X tg iter wi)
  (hg:∀ C fp s H,PG (cxC X (ts++fr) scope cl C fp s H) tg g) (he:∀ C fp s H,PE (cxC X (ts++fr) scope cl C fp s H) elt te)
  (hs:∀ x,foldedSetIterable iter X.env x=pure x:=by intro _;rfl) (hsw:swapsWith (.ListComp elt [⟨tg,iter,[],0⟩] scope pos) (some (.Name x pos')) spos.line X.env=pure true:=by rfl) (hf:X.fn x=true\/X.env.scope.names.lookup x=some .local:=by first | exact .inl rfl | exact .inr rfl | assumption) :
  PS X (.Assign [.Name x pos'] (.ListComp elt [⟨tg,iter,[],0⟩] scope pos) spos) (am8 (acq wi (vz ts.length ix) g te) (a6y i)):=by
 intro pins s σ H D I h
 rw [exec_Assign_Name_used _ _ _ _ hsw];refine wpAny_bind (wpAny_standAt (wpAny_bind ?_));refine wpAny_bind (wpAny_mono (a66 hc S hi hg he hs (some (assign (.Name x pos') X.env)) I h (acs hN hi' hx hf)) (λ_ s' hq=>wpAny_pure (wpAny_pure hq)) λ_ _ e=>e)
end
end L2
namespace L2
open PySem PySem.Spec
theorem mq:bootBuiltins "len" = some (.builtin "len"):=PySem.boot_len
theorem iu:bootBuiltins "isinstance" = some (.builtin "isinstance"):=by first | exact PySem.boot_isinstance | exact PyProof.Rows.boot_isinstance
theorem a7w:bootBuiltins "str" = some (.type "str"):=by first | exact PySem.boot_str | exact PyProof.Rows.boot_str
theorem aeo:bootBuiltins "abs" = some (.builtin "abs"):=by first | exact PySem.boot_abs | exact PyProof.Rows.boot_abs
theorem a7x:bootBuiltins "int" = some (.type "int"):=by first | exact PySem.boot_int | exact PyProof.Rows.boot_int
theorem aah:bootBuiltins "list" = some (.type "list"):=by first | exact PySem.boot_list | exact PyProof.Rows.boot_list
theorem uh:bootBuiltins "tuple" = some (.type "tuple"):=by first | exact PySem.boot_tuple | exact PyProof.Rows.boot_tuple
structure Dn (P:Program) (w:World) (K:PySem.W.Frag) (mg:Str->Option Value) (base:Heap) (k:Nat) (x:Str) (ps:List Str) (sp:Sp) (f:Addr) (fd:FuncData):Prop where
 ok:FnOk P w K mg base CX0 k f fd ps sp
 m:mg x=some (.ref f)
 kp:PySem.W.keepIn K (.ref f)=true
 b:Binds K fd ps []
theorem amo:sizeLine=16777216:=sizeLine_eq
theorem ag7{n:Nat}(h:n<=16777216):n<=sizeLine:=by rw [sizeLine_eq];exact h
theorem CSc.noFree{X:Cx}{scope:Scope}{ts:List Str}(kind:scope.kind = .function)(h:∀ y∈scope.names,y.2≠.cell/\y.2≠.free)(names:∀ y∈scope.names,y.2 = .local->scope.names.lookup y.1=some .local)
  (ht:∀ y∈ts,scope.names.lookup y=some .local):CSc X scope [] ts [] []:=by
 have e:(relabel scope X.env).names=scope.names:=by
  show scope.names.map _=_;refine map_eq_self λy hy=>?_;obtain ⟨n,k⟩:=y;have:(k == NameKind.free)=false:=by simpa using (h _ hy).2
  simp [this]
 refine ⟨closureFor_none λy hy=>(h y hy).2,kind,λy hy=>(h y hy).1,names,(λ_ _ z=>nomatch z),λy z=>?_,λy hy=>by rw [e];exact ht y hy,rfl,(λ_ _ z=>by simp at z)⟩
 rw [e] at z
 rcases z with z | z
 ·exact absurd rfl (h _ (PySem.mem_of_lookup z)).1
 ·exact absurd rfl (h _ (PySem.mem_of_lookup z)).2
theorem amq(x y:Str):(x++y).cps.toList=x.cps.toList++y.cps.toList:=by
 show (x.cps++y.cps).toList=_;simp
theorem a75{α:Type}(xs:List α)(k:Nat):a1n xs none (some (k:Int))=xs.take k:=by
 unfold a1n;rw [HT.a3x,HT.a3y,List.drop_zero,Nat.sub_zero]
 by_cases h:k<=xs.length
 ·rw [Nat.min_eq_left h]
 ·rw [Nat.min_eq_right (by omega),List.take_of_length_le (Nat.le_refl _),List.take_of_length_le (by omega)]
theorem a67{α:Type}(xs:List α)(k:Nat):a1n xs (some (k:Int)) none=xs.drop k:=by
 unfold a1n;rw [HT.a3x,HT.a3y]
 by_cases h:k<=xs.length
 ·rw [Nat.min_eq_left h,List.take_of_length_le (by rw [List.length_drop];omega)]
 ·rw [Nat.min_eq_right (by omega),List.drop_eq_nil_of_le (Nat.le_refl _),List.drop_eq_nil_of_le (by omega),List.take_nil]
theorem ag8{α:Type}(xs:List α)(j k:Nat):a1n xs (some (j:Int)) (some (k:Int))=(xs.drop j).take (k - j):=by
 unfold a1n;rw [HT.a3y,HT.a3y]
 by_cases h:j<=xs.length
 ·rw [Nat.min_eq_left h]
  by_cases h2:k<=xs.length
  ·rw [Nat.min_eq_left h2]
  ·rw [Nat.min_eq_right (by omega),List.take_of_length_le (by rw [List.length_drop];omega),List.take_of_length_le (by rw [List.length_drop];omega)]
 ·rw [Nat.min_eq_right (show xs.length<=j by omega),List.drop_eq_nil_of_le (Nat.le_refl _),List.drop_eq_nil_of_le (by omega),List.take_nil,List.take_nil]
end L2
namespace L2
open PySem PySem.Spec PyProof.Rows
section
variable{X:Cx}
theorem a76:OpR X (compareOp .In) (λx y H Q=>∃ c T,x = .str ⟨#[c]⟩/\y = .str T/\Q (.bl (decide (c∈T.cps.toList))) H):=by
 intro pins s σ H x y v u Q I rx ry h
 obtain ⟨c,T,rfl,rfl,q⟩:=h;exact a9z pins s σ H _ _ v u Q I rx ry ⟨_,_,rfl,rfl,by rw [StrLaws.found_one];exact q⟩
theorem ag9{zs:List Str}:∀ {us:List Value},Vals (zs.map V.str) us->StrsAre us zs:=by
 induction zs with
 | nil=>intro us r;rw [List.map_nil] at r;cases r;exact .nil
 | cons z zs ih =>
  intro us r
  rw [List.map_cons] at r
  cases r with
  | cons r1 r2 =>
   obtain ⟨t,e⟩:=r1;subst e;exact .cons z t (ih r2)
theorem aai:MtR X "str.join" (λx xs H Q=>∃ sep p zs,x = .str sep/\xs=[.ref p]/\SqL X.K H p (zs.map V.str)/\(zs.map (·.length)).sum+zs.length*sep.length<=16777216/\Q (.str (Txt.join sep zs)) H):=by
 intro pins s σ H x xs v us Q I rx rs h
 obtain ⟨sep,p,zs,rfl,rfl,hp,hz,q⟩:=h;obtain ⟨t,rfl⟩:=rx;obtain ⟨u,rfl,ru⟩:=vals1 rs;cases ru
 obtain ⟨its,r,pl,_⟩:=I.list hp;exact join_list pl.isList (by simpa using ag9 r) hz λt' k=>⟨.str _,H,I.tok _,⟨_,rfl⟩,q⟩
end
theorem CSc.of{X:Cx}{scope:Scope}{cl:List (Str × Addr)}{ts fr:List Str}{ix:List Nat}(clos:closureFor scope X.env=pure cl)(kind:scope.kind = .function)
  (nocell:(scope.names.all λp=>p.2 != .cell)=true) (names:(scope.names.all λp=>p.2 != .local || scope.names.lookup p.1 == some .local)=true) (sub:∀ p∈cl,X.env.cells.lookup p.1=some p.2)
  (has:((relabel scope X.env).names.all λp => !(p.2 == .cell || p.2 == .free) || (cl.lookup p.1).isSome)=true) (nofn:(ts.all λy=>(relabel scope X.env).names.lookup y == some .local)=true)
  (len:ix.length=fr.length) (vis:((fr.zip ix).all λp=>X.N[p.2]? == some p.1 && (X.env.kindOf p.1 == some .cell || X.env.kindOf p.1 == some .free) && ((relabel scope X.env).names.lookup p.1 == some .cell || (relabel scope X.env).names.lookup p.1 == some .free))=true) :
  CSc X scope cl ts fr ix:=by
 refine ⟨clos,kind,λy hy=>?_,λy hy e=>?_,λy c e=>sub _ (PySem.mem_of_lookup e),λy z=>?_,λy hy=>?_,len,λj y e=>?_⟩
 ·have:=List.all_eq_true.mp nocell y hy
  simpa using this
 ·have:=List.all_eq_true.mp names y hy
  rw [e] at this;simpa using this
 ·have key:∀ k,(relabel scope X.env).names.lookup y=some k->(k == .cell || k == .free)=true->∃ c,cl.lookup y=some c:=λk e hk=>by
   have:=List.all_eq_true.mp has _ (PySem.mem_of_lookup e)
   rw [hk] at this;exact Option.isSome_iff_exists.mp (by simpa using this)
  rcases z with z | z
  ·exact key _ z rfl
  ·exact key _ z rfl
 ·have:=List.all_eq_true.mp nofn y hy
  simpa using this
 ·obtain ⟨hj,_⟩:=List.getElem?_eq_some_iff.mp e;have hj2:j<ix.length:=by omega
  have hm:(y,ix[j])∈fr.zip ix:=by
   rw [List.mem_iff_getElem?];exact ⟨j,by rw [List.getElem?_zip_eq_some];exact ⟨e,List.getElem?_eq_getElem hj2⟩⟩
  have:=List.all_eq_true.mp vis _ hm
  simp only [Bool.and_eq_true,Bool.or_eq_true,beq_iff_eq] at this;exact ⟨ix[j],List.getElem?_eq_getElem hj2,this.1.1,this.1.2,this.2⟩
end L2
namespace HT
open PySem PySem.Spec PyProof.Rows
end HT
namespace L2
open PySem PySem.Spec PyProof.Rows
def tSM(r:V->List V->Hp->VK->Prop)(to:TE)(t:TA):TE:=λσ H Q=>to σ H λx H1=>(∃ z,x = .str z)/\t σ H1 λxs H2=>r x xs H2 Q
theorem amr{X:Cx}{o e:Expr}{es:List Expr}{to:TE}{t:TA}{name:Str}{apos cpos:Pos}{id:String}{r:V->List V->Hp->VK->Prop}(slot:Slot "str" name id)(hty:typeOf (.builtin id)=pure (.type "method_descriptor"))(hm:MtR X id r)(ho:PE X o to)(ha:PA X (e::es) t)
  (hbase:attributeBase o name X.env (eval o X.env)=eval o X.env:=by rfl)
  (hfew:((backTo cpos (starEach (e::es) X.env)).all (λx => !x.1) && (backToKw cpos (keywordEach [] X.env)).all (λx=>x.1.isSome)
   && decide ((e::es).length+([]:List Keyword).length+(if ([]:List Keyword).isEmpty then 0 else 1)<30))=true:=by rfl)
  (hline:(apos.endLine == cpos.line)=true:=by rfl) (hs:starEach (e::es) X.env=(false,eval e X.env)::starEach es X.env:=by rfl) (hplain:(backTo cpos (starEach es X.env)).any (·.1)=false:=by rfl) :
  PE X (.Call (.Attribute o name apos) (e::es) [] cpos) (tSM r to t):=by
 intro pins s σ H Q I h
 refine wpAny_Call_method_late hbase hfew hline rfl (thn (ho pins s σ H _ I h) λv s1 ⟨x,H1,I1,r1,⟨z,hz⟩,q1⟩=>?_);subst hz;obtain ⟨h1,h2⟩:=aem (T := "str") I1 r1 rfl;refine ⟨"str",id,PySem.F.plainAttrs_str,slot,hty,h1,h2,?_⟩;have hA:=ha cpos pins s1 σ H1 _ I1 q1;rw [hs] at hA ⊢;refine Calls.callWith_builtin (by show (false || (backTo cpos (starEach es X.env)).any (·.1))=false;rw [hplain]<;>rfl) (Calls.evalArgs_plain ?_)
 exact thn hA λus s2 ⟨vs,H2,I2,r2,q2⟩=>hm pins s2 σ H2 _ vs v us Q I2 r1 r2 q2
end L2
namespace SHP
open PySem L2
end SHP
namespace L2
open PySem PySem.Spec PyProof.Rows
end L2
namespace SHP
open PySem L2
end SHP
namespace MI
open PySem L2
inductive D where
 | non | bl (b:Bool) | int (i:Int) | str (x:Str) | ty (n:String) | tup (xs:List D) | rol (xs:List D) | ref (i:Nat) | scr (xs:List D) | rod (ks:List Key) (xs:List D) | rdT (ks:List (List Key)) (xs:List D) | exc (c:Str)
inductive O where
 | lst (xs:List D) | dK (kvs:List (Key × D)) | dT (kvs:List (List Key × D))
abbrev Hd:=List O
abbrev Sd:=List (Option D)
inductive R (α:Type) where
 | ok (a:α) (h:Hd) | ex (c:Str) (h:Hd) | no
def R.bind{α β:Type}:R α->(α->Hd->R β)->R β
 | .ok a h,k=>k a h
 | .ex c h,_=>.ex c h
 | .no,_=>.no
inductive Fl where
 | nx (σ:Sd) (h:Hd) | rt (d:D) (h:Hd) | bk (σ:Sd) (h:Hd) | ct (σ:Sd) (h:Hd) | ex (c:Str) (h:Hd) | no
def R.fl{α:Type}:R α->(α->Hd->Fl)->Fl
 | .ok a h,k=>k a h
 | .ex c h,_=>.ex c h
 | .no,_=>.no
abbrev SE:=Sd->Hd->R D
abbrev ST:=Sd->Hd->R Bool
abbrev SA:=Sd->Hd->R (List D)
abbrev SS:=Sd->Hd->Fl
def SqF(K:PySem.W.Frag)(H:Hp)(a:Addr)(vs:List V):Prop:=(∃ o,H a=some (.frz o (.lst vs)))\/SqL K (λ_=>none) a vs
theorem SqF.l{K:PySem.W.Frag}{H:Hp}{a:Addr}{vs:List V}(h:SqF K H a vs):SqL K H a vs:=by
 rcases h with ⟨o,h⟩ | h
 ·exact .inl (.inr ⟨o,h⟩)
 ·rcases h with (h | ⟨o,h⟩) | h
  ·cases h
  ·cases h
  ·exact .inr h
def SqZ(H:Hp)(a:Addr)(vs:List V):Prop:=∃ o,H a=some (.frz o (.lst vs))
theorem SqZ.l{K:PySem.W.Frag}{H:Hp}{a:Addr}{vs:List V}(h:SqZ H a vs):SqL K H a vs:=let ⟨o,e⟩:=h; .inl (.inr ⟨o,e⟩)
def exO(a:Addr):HO:=.ext λh=>∃ o,h.get? a=some o
mutual
inductive Rep (K:PySem.W.Frag) (ι:List Addr) (H:Hp):V->D->Prop
 | non:Rep K ι H .non .non
 | bl (b:Bool):Rep K ι H (.bl b) (.bl b)
 | int (i:Int):Rep K ι H (.int i) (.int i)
 | str (x:Str):Rep K ι H (.str x) (.str x)
 | ty (n:String):Rep K ι H (.ty n) (.ty n)
 | tup {a:Addr} {vs:List V} {xs:List D} (h:H a=some (.tup vs)) (r:Reps K ι H vs xs):Rep K ι H (.ref a) (.tup xs)
 | rol {a:Addr} {vs:List V} {xs:List D} (h:SqZ H a vs) (r:Reps K ι H vs xs):Rep K ι H (.ref a) (.rol xs)
 | scr {a:Addr} {vs:List V} {xs:List D} (h:SqF K H a vs) (r:Reps K ι H vs xs):Rep K ι H (.ref a) (.scr xs)
 | ref {a:Addr} {i:Nat} (h:ι[i]? = some a):Rep K ι H (.ref a) (.ref i)
 | rod {a:Addr} {o:Obj} {us:List (Key × V)} {ks:List Key} {xs:List D} (h:H a=some (.frz o (.dK us))) (e:us.map (·.1)=ks) (r:Reps K ι H (us.map (·.2)) xs):Rep K ι H (.ref a) (.rod ks xs)
 | rdT {a:Addr} {o:Obj} {us:List (List Key × V)} {ks:List (List Key)} {xs:List D} (h:H a=some (.frz o (.dT us))) (e:us.map (·.1)=ks) (r:Reps K ι H (us.map (·.2)) xs):Rep K ι H (.ref a) (.rdT ks xs)
 | exc {a C:Addr} {o:Obj} {c:Str} (h:H a=some (.frz o (exO a))) (hc:o.cls = .ref C) (hn:PySem.W.nsIn K mainGlobals c=some (some (.ref C))):Rep K ι H (.ref a) (.exc c)
inductive Reps (K:PySem.W.Frag) (ι:List Addr) (H:Hp):List V->List D->Prop
 | nil:Reps K ι H [] []
 | cons {v:V} {d:D} {vs:List V} {ds:List D} (r:Rep K ι H v d) (rs:Reps K ι H vs ds):Reps K ι H (v::vs) (d::ds)
end
structure Gw (ι:List Addr) (H:Hp) (ι':List Addr) (H':Hp):Prop where
 pre:∃ m,ι'=ι++m
 tup:∀ a vs,H a=some (.tup vs)->H' a=some (.tup vs)
 frz:∀ a o u,H a=some (.frz o u)->H' a=some (.frz o u)
structure Gr (ι:List Addr) (H:Hp) (ι':List Addr) (H':Hp):Prop where
 pre:∃ m,ι'=ι++m/\∀ a∈m,H a=none
 tup:∀ a vs,H a=some (.tup vs)->H' a=some (.tup vs)
 frz:∀ a o u,H a=some (.frz o u)->H' a=some (.frz o u)
 oth:∀ a u,H a=some u->a ∉ ι->H' a=some u
 kp:∀ a u,H a=some u->∃ u',H' a=some u'
theorem Gr.w{ι ι':List Addr}{H H':Hp}(g:Gr ι H ι' H'):Gw ι H ι' H':=⟨let ⟨m,e,_⟩:=g.pre; ⟨m,e⟩,g.tup,g.frz⟩
theorem Gr.refl(ι:List Addr)(H:Hp):Gr ι H ι H:=⟨⟨[],by simp,by simp⟩,λ_ _ h=>h,λ_ _ _ h=>h,λ_ _ h _=>h,λ_ u h=>⟨u,h⟩⟩
theorem Gr.trans{ι ι1 ι2:List Addr}{H H1 H2:Hp}(a:Gr ι H ι1 H1)(b:Gr ι1 H1 ι2 H2):Gr ι H ι2 H2:=by
 obtain ⟨m,rfl,hm⟩:=a.pre;obtain ⟨n,rfl,hn⟩:=b.pre;refine ⟨⟨m++n,by simp,λx hx=>?_⟩,λx vs h=>b.tup x vs (a.tup x vs h),λx o u h=>b.frz x o u (a.frz x o u h),λx u h hx=>?_,λx u h=>?_⟩
 ·rcases List.mem_append.mp hx with hx | hx
  ·exact hm x hx
  ·cases e:H x with
   | none=>rfl
   | some u =>
    obtain ⟨u',e'⟩:=a.kp x u e;rw [hn x hx] at e';cases e'
 ·refine b.oth x u (a.oth x u h hx) λz=>?_
  rcases List.mem_append.mp z with z | z
  ·exact hx z
  ·rw [hm x z] at h;cases h
 ·obtain ⟨u',e⟩:=a.kp x u h;exact b.kp x u' e
theorem Gw.at{ι ι':List Addr}{H H':Hp}(g:Gw ι H ι' H'){i:Nat}{a:Addr}(h:ι[i]? = some a):ι'[i]? = some a:=by
 obtain ⟨m,rfl⟩:=g.pre;rw [List.getElem?_append_left (List.getElem?_eq_some_iff.mp h).1];exact h
theorem Gr.at{ι ι':List Addr}{H H':Hp}(g:Gr ι H ι' H'){i:Nat}{a:Addr}(h:ι[i]? = some a):ι'[i]? = some a:=g.w.at h
theorem SqF.monoW{K:PySem.W.Frag}{ι ι':List Addr}{H H':Hp}(g:Gw ι H ι' H'){a:Addr}{vs:List V}(h:SqF K H a vs):SqF K H' a vs:=by
 rcases h with ⟨o,h⟩ | h
 ·exact .inl ⟨o,g.frz _ _ _ h⟩
 ·exact .inr h
theorem SqZ.monoW{ι ι':List Addr}{H H':Hp}(g:Gw ι H ι' H'){a:Addr}{vs:List V}(h:SqZ H a vs):SqZ H' a vs:=let ⟨o,e⟩:=h; ⟨o,g.frz _ _ _ e⟩
theorem SqZ.mono{ι ι':List Addr}{H H':Hp}(g:Gr ι H ι' H'){a:Addr}{vs:List V}(h:SqZ H a vs):SqZ H' a vs:=h.monoW g.w
mutual
theorem Rep.monoW{K:PySem.W.Frag}{ι ι':List Addr}{H H':Hp}(g:Gw ι H ι' H'):∀ {v:V} {d:D},Rep K ι H v d->Rep K ι' H' v d
 | _,_, .non=>.non
 | _,_, .bl b=>.bl b
 | _,_, .int i=>.int i
 | _,_, .str x=>.str x
 | _,_, .ty n=>.ty n
 | _,_, .tup h r=>.tup (g.tup _ _ h) (Reps.monoW g r)
 | _,_, .rol h r=>.rol (h.monoW g) (Reps.monoW g r)
 | _,_, .scr h r=>.scr (h.monoW g) (Reps.monoW g r)
 | _,_, .ref h=>.ref (g.at h)
 | _,_, .rod h e r=>.rod (g.frz _ _ _ h) e (Reps.monoW g r)
 | _,_, .rdT h e r=>.rdT (g.frz _ _ _ h) e (Reps.monoW g r)
 | _,_, .exc h hc hn=>.exc (g.frz _ _ _ h) hc hn
theorem Reps.monoW{K:PySem.W.Frag}{ι ι':List Addr}{H H':Hp}(g:Gw ι H ι' H'):∀ {vs:List V} {ds:List D},Reps K ι H vs ds->Reps K ι' H' vs ds
 | _,_, .nil=>.nil
 | _,_, .cons r rs=>.cons (Rep.monoW g r) (Reps.monoW g rs)
end
theorem Rep.mono{K:PySem.W.Frag}{ι ι':List Addr}{H H':Hp}(g:Gr ι H ι' H'){v:V}{d:D}(r:Rep K ι H v d):Rep K ι' H' v d:=r.monoW g.w
theorem Reps.mono{K:PySem.W.Frag}{ι ι':List Addr}{H H':Hp}(g:Gr ι H ι' H'){vs:List V}{ds:List D}(r:Reps K ι H vs ds):Reps K ι' H' vs ds:=r.monoW g.w
section
variable{K:PySem.W.Frag}{ι:List Addr}{H:Hp}
theorem Reps.len{vs:List V}{ds:List D}:Reps K ι H vs ds->vs.length=ds.length
 | .nil=>rfl
 | .cons _ rs=>by rw [List.length_cons,List.length_cons,rs.len]
theorem Reps.get:∀ {vs:List V} {ds:List D} {i:Nat} {d:D},Reps K ι H vs ds->ds[i]? = some d->∃ v,vs[i]? = some v/\Rep K ι H v d
 | _,_,_,_, .nil,e=>by simp at e
 | _,_,0,_, .cons r _,e=>by simp at e;subst e;exact ⟨_,rfl,r⟩
 | _,_,i+1,d, .cons _ rs,e=>by
  obtain ⟨u,h1,h2⟩:=Reps.get (i:=i) (d:=d) rs (by simpa using e)
  exact ⟨u,by simpa using h1,h2⟩
theorem Reps.app:∀ {vs us:List V} {ds es:List D},Reps K ι H vs ds->Reps K ι H us es->Reps K ι H (vs++us) (ds++es)
 | _,_,_,_, .nil,s=>s
 | _,_,_,_, .cons r rs,s=>.cons r (Reps.app rs s)
theorem Reps.set{v:V}{d:D}(q:Rep K ι H v d):∀ {vs:List V} {ds:List D} (i:Nat),Reps K ι H vs ds->Reps K ι H (vs.set i v) (ds.set i d)
 | _,_,_, .nil=>.nil
 | _,_,0, .cons _ rs=>.cons q rs
 | _,_,i+1, .cons r rs=>.cons r (Reps.set q i rs)
theorem Reps.take:∀ {vs:List V} {ds:List D} (n:Nat),Reps K ι H vs ds->Reps K ι H (vs.take n) (ds.take n)
 | _,_,0,_=>.nil
 | _,_,_+1, .nil=>.nil
 | _,_,n+1, .cons r rs=>.cons r (Reps.take n rs)
theorem Reps.drop:∀ {vs:List V} {ds:List D} (n:Nat),Reps K ι H vs ds->Reps K ι H (vs.drop n) (ds.drop n)
 | _,_,0,r=>r
 | _,_,_+1, .nil=>.nil
 | _,_,n+1, .cons _ rs=>Reps.drop n rs
theorem Reps.snoc{vs:List V}{ds:List D}{v:V}{d:D}(r:Reps K ι H vs ds)(q:Rep K ι H v d):Reps K ι H (vs++[v]) (ds++[d]):=r.app (.cons q .nil)
theorem Reps.flat:∀ {vs:List V} {ds:List D} (k:Nat),Reps K ι H vs ds->Reps K ι H (List.replicate k vs).flatten (List.replicate k ds).flatten
 | _,_,0,_=>.nil
 | vs,ds,k+1,r=>by
  rw [List.replicate_succ,List.replicate_succ,List.flatten_cons,List.flatten_cons];exact r.app (Reps.flat k r)
end
def KRep{κ:Type}(K:PySem.W.Frag)(ι:List Addr)(H:Hp)(us:List (κ × V))(kvs:List (κ × D)):Prop:=us.map (·.1)=kvs.map (·.1)/\Reps K ι H (us.map (·.2)) (kvs.map (·.2))
def ORep(K:PySem.W.Frag)(ι:List Addr)(H:Hp)(a:Addr):O->Prop
 | .lst xs=>∃ vs,H a=some (.lst vs)/\Reps K ι H vs xs
 | .dK kvs=>∃ us,H a=some (.dK us)/\KRep K ι H us kvs
 | .dT kvs=>∃ us,H a=some (.dT us)/\KRep K ι H us kvs
structure HRep (K:PySem.W.Frag) (ι:List Addr) (H:Hp) (h:Hd):Prop where
 nd:ι.Nodup
 len:ι.length=h.length
 obj:∀ (i:Nat) (a:Addr) (o:O),ι[i]? = some a->h[i]? = some o->ORep K ι H a o
section
variable{K:PySem.W.Frag}{ι:List Addr}{H:Hp}{h:Hd}
theorem ORep.some{a:Addr}{o:O}(r:ORep K ι H a o):∃ u,H a=some u/\(∀ vs,u≠.tup vs)/\(∀ o' u',u≠.frz o' u'):=by
 cases o with
 | lst xs=>obtain ⟨vs,e,_⟩:=r;exact ⟨_,e,λ_ z=>(by cases z),λ_ _ z=>(by cases z)⟩
 | dK kvs=>obtain ⟨us,e,_⟩:=r;exact ⟨_,e,λ_ z=>(by cases z),λ_ _ z=>(by cases z)⟩
 | dT kvs=>obtain ⟨us,e,_⟩:=r;exact ⟨_,e,λ_ z=>(by cases z),λ_ _ z=>(by cases z)⟩
theorem HRep.at(r:HRep K ι H h){i:Nat}{a:Addr}(e:ι[i]? = some a):∃ o,h[i]? = some o/\ORep K ι H a o:=by
 have hi:i<h.length:=by rw [<-r.len];exact (List.getElem?_eq_some_iff.mp e).1
 exact ⟨h[i],List.getElem?_eq_getElem hi,r.obj i a _ e (List.getElem?_eq_getElem hi)⟩
theorem HRep.addr(r:HRep K ι H h){i:Nat}{o:O}(e:h[i]? = some o):∃ a,ι[i]? = some a/\ORep K ι H a o:=by
 have hi:i<ι.length:=by rw [r.len];exact (List.getElem?_eq_some_iff.mp e).1
 exact ⟨ι[i],List.getElem?_eq_getElem hi,r.obj i _ o (List.getElem?_eq_getElem hi) e⟩
theorem HRep.notin(r:HRep K ι H h){p:Addr}(e:H p=none):p ∉ ι:=λz=>by
 obtain ⟨i,hi⟩:=List.getElem?_of_mem z;obtain ⟨o,_,q⟩:=r.at hi;obtain ⟨u,q,_⟩:=q.some;rw [e] at q;cases q
theorem ORep.monoW{ι':List Addr}{H':Hp}{a:Addr}{o:O}(g:Gw ι H ι' H')(e:H' a=H a)(r:ORep K ι H a o):ORep K ι' H' a o:=by
 cases o with
 | lst xs=>obtain ⟨vs,h1,h2⟩:=r;exact ⟨vs,by rw [e];exact h1,h2.monoW g⟩
 | dK kvs=>obtain ⟨us,h1,h2,h3⟩:=r;exact ⟨us,by rw [e];exact h1,h2,h3.monoW g⟩
 | dT kvs=>obtain ⟨us,h1,h2,h3⟩:=r;exact ⟨us,by rw [e];exact h1,h2,h3.monoW g⟩
theorem ORep.mono{ι':List Addr}{H':Hp}{a:Addr}{o:O}(g:Gr ι H ι' H')(e:H' a=H a)(r:ORep K ι H a o):ORep K ι' H' a o:=r.monoW g.w e
theorem zg{p:Addr}(e:H p=none)(o:HO):Gr ι H ι (upd H p o) :=
 ⟨⟨[],by simp,by simp⟩,λa vs h=>by rw [jm (jc h e)];exact h,λa o u h=>by rw [jm (jc h e)];exact h,λa u h _=>by rw [jm (jc h e)];exact h,λa u h=>⟨u,by rw [jm (jc h e)];exact h⟩⟩
theorem HRep.aside(r:HRep K ι H h){p:Addr}(e:H p=none)(o:HO):HRep K ι (upd H p o) h:=by
 refine ⟨r.nd,r.len,λi a o' e1 e2=>?_⟩;have q:=r.obj i a o' e1 e2;obtain ⟨u,hu,_⟩:=q.some;exact q.mono (zg e o) (jm (jc hu e))
theorem aaj{p:Addr}(e:H p=none)(o:HO):Gr ι H (ι++[p]) (upd H p o) :=
 ⟨⟨[p],rfl,by simpa using e⟩,(zg (ι:=ι) e o).tup,(zg (ι:=ι) e o).frz,(zg (ι:=ι) e o).oth,(zg (ι:=ι) e o).kp⟩
theorem HRep.add(r:HRep K ι H h){p:Addr}(e:H p=none){o:HO}{ob:O}(q:ORep K (ι++[p]) (upd H p o) p ob):HRep K (ι++[p]) (upd H p o) (h++[ob]):=by
 refine ⟨?_,by simp [r.len],λi a o' e1 e2=>?_⟩
 ·rw [List.nodup_append];exact ⟨r.nd,by simp,λa ha b hb z=>r.notin e (by rw [List.mem_singleton.mp hb] at z;rw [<-z];exact ha)⟩
 ·by_cases hi:i<ι.length
  ·rw [List.getElem?_append_left hi] at e1;rw [List.getElem?_append_left (by rw [<-r.len];exact hi)] at e2
   have q:=r.obj i a o' e1 e2;obtain ⟨u,hu,_⟩:=q.some;exact q.mono (aaj e o) (jm (jc hu e))
  ·have hi2:i<(ι++[p]).length:=(List.getElem?_eq_some_iff.mp e1).1;have:i=ι.length:=by simp at hi2;omega
   subst this;rw [List.getElem?_append_right (Nat.le_refl _)] at e1;rw [r.len,List.getElem?_append_right (Nat.le_refl _)] at e2;simp at e1 e2;subst e1 e2;exact q
theorem a3k{a:Addr}{i:Nat}(r:HRep K ι H h)(e:ι[i]? = some a)(o:HO):Gr ι H ι (upd H a o):=by
 obtain ⟨_,_,q⟩:=r.at e;obtain ⟨u,hu,n1,n2⟩:=q.some;refine ⟨⟨[],by simp,by simp⟩,λb vs hb=>?_,λb o' u' hb=>?_,λb u' hb hn=>?_,λb u' hb=>?_⟩
 ·rw [jm (λz=>by subst z;rw [hu] at hb;exact n1 _ (Option.some.inj hb))];exact hb
 ·rw [jm (λz=>by subst z;rw [hu] at hb;exact n2 _ _ (Option.some.inj hb))];exact hb
 ·rw [jm (λz=>hn (by subst z;exact List.mem_of_getElem? e))];exact hb
 ·by_cases z:b=a
  ·subst z;exact ⟨o,uf⟩
  ·exact ⟨u',by rw [jm z];exact hb⟩
theorem HRep.put(r:HRep K ι H h){a:Addr}{i:Nat}(e:ι[i]? = some a){o:HO}{ob:O}(q:ORep K ι (upd H a o) a ob):HRep K ι (upd H a o) (h.set i ob):=by
 refine ⟨r.nd,by rw [List.length_set];exact r.len,λj b o' e1 e2=>?_⟩
 by_cases hj:i=j
 ·subst hj;rw [e] at e1;cases e1
  have hi:i<h.length:=by rw [<-r.len];exact (List.getElem?_eq_some_iff.mp e).1
  rw [List.getElem?_set_self hi] at e2;cases e2
  exact q
 ·rw [List.getElem?_set_ne hj] at e2;have hne:b≠a:=λz=>by
   subst z;obtain ⟨h1,g1⟩:=List.getElem?_eq_some_iff.mp e;obtain ⟨h2,g2⟩:=List.getElem?_eq_some_iff.mp e1;have np:=List.pairwise_iff_getElem.mp r.nd
   rcases Nat.lt_or_gt_of_ne hj with l | l
   ·exact np i j h1 h2 l (g1.trans g2.symm)
   ·exact np j i h2 h1 l (g2.trans g1.symm)
  exact (r.obj j b o' e1 e2).mono (a3k r e o) (jm hne)
end
structure SRep (K:PySem.W.Frag) (ι:List Addr) (H:Hp) (σ:St) (τ:Sd):Prop where
 len:σ.length=τ.length
 val:∀ (i:Nat) (d:D),τ[i]? = some (some d)->∃ v,σ[i]? = some (some v)/\Rep K ι H v d
theorem SRep.mono{K:PySem.W.Frag}{ι ι':List Addr}{H H':Hp}{σ:St}{τ:Sd}(g:Gr ι H ι' H')(s:SRep K ι H σ τ):SRep K ι' H' σ τ :=
 ⟨s.len,λi d e=>let ⟨v,h1,h2⟩:=s.val i d e; ⟨v,h1,h2.mono g⟩⟩
theorem SRep.set{K:PySem.W.Frag}{ι:List Addr}{H:Hp}{σ:St}{τ:Sd}(s:SRep K ι H σ τ){v:V}{d:D}(r:Rep K ι H v d)(i:Nat):SRep K ι H (σ.set i (some v)) (τ.set i (some d)):=by
 refine ⟨by simp [s.len],λj d' e=>?_⟩
 by_cases hj:i=j
 ·subst hj;have hi:i<τ.length:=by
   have:=(List.getElem?_eq_some_iff.mp e).1
   simpa using this
  rw [List.getElem?_set_self hi] at e;cases e
  exact ⟨v,by rw [List.getElem?_set_self (by rw [s.len];exact hi)],r⟩
 ·rw [List.getElem?_set_ne hj] at e ⊢;exact s.val j d' e
abbrev XD:=Str->List Addr->Hp->Hd->Prop
def out{α β:Type}(K:PySem.W.Frag)(E:XD)(Rp:List Addr->Hp->β->α->Prop)(ι:List Addr)(H:Hp)(r:R α)(Q:β->Hp->Prop):Prop :=
 match r with
 | .ok a h=>∀ ι' H' b,Gr ι H ι' H'->Rp ι' H' b a->HRep K ι' H' h->Q b H'
 | .ex c h=>∀ ι' H',Gr ι H ι' H'->HRep K ι' H' h->E c ι' H' h
 | .no=>False
theorem a7y{α β:Type}{K:PySem.W.Frag}{E:XD}{Rp:List Addr->Hp->β->α->Prop}{ι ι1:List Addr}{H H1:Hp}{r:R α}{Q:β->Hp->Prop}(o:out K E Rp ι H r Q)(g:Gr ι H ι1 H1):out K E Rp ι1 H1 r Q:=by
 cases r with
 | ok a h=>exact λι' H' b g'=>o ι' H' b (g.trans g')
 | ex c h=>exact λι' H' g'=>o ι' H' (g.trans g')
 | no=>exact o
theorem fj{α β γ δ:Type}{K:PySem.W.Frag}{E:XD}{Rp:List Addr->Hp->β->α->Prop}{Sp:List Addr->Hp->δ->γ->Prop}{ι:List Addr}{H:Hp}{r:R α}{k:α->Hd->R γ}{Q:δ->Hp->Prop}{P:β->Hp->Prop}
  (o:out K E Sp ι H (r.bind k) Q) (hP:∀ a h ι1 H1 b,Gr ι H ι1 H1->Rp ι1 H1 b a->HRep K ι1 H1 h->out K E Sp ι1 H1 (k a h) Q->P b H1):out K E Rp ι H r P:=by
 cases r with
 | ok a h=>exact λι' H' b g r' hr=>hP a h ι' H' b g r' hr (a7y o g)
 | ex c h=>exact o
 | no=>exact o
abbrev yu(K:PySem.W.Frag):List Addr->Hp->V->D->Prop:=λι H v d=>Rep K ι H v d
abbrev aoq(K:PySem.W.Frag):List Addr->Hp->List V->List D->Prop:=λι H v d=>Reps K ι H v d
abbrev alg:List Addr->Hp->Bool->Bool->Prop:=λ_ _ a b=>a=b
abbrev aor:List Addr->Hp->Option Int->Option Int->Prop:=λ_ _ a b=>a=b
def ac1(K:PySem.W.Frag)(E:XD)(ι:List Addr)(H:Hp)(r:Fl)(N:Ends):Prop :=
 match r with
 | .nx τ h=>∀ ι' H' σ,Gr ι H ι' H'->SRep K ι' H' σ τ->HRep K ι' H' h->N.nx σ H'
 | .bk τ h=>∀ ι' H' σ,Gr ι H ι' H'->SRep K ι' H' σ τ->HRep K ι' H' h->N.bk σ H'
 | .ct τ h=>∀ ι' H' σ,Gr ι H ι' H'->SRep K ι' H' σ τ->HRep K ι' H' h->N.ct σ H'
 | .rt d h=>∀ ι' H' v,Gr ι H ι' H'->Rep K ι' H' v d->HRep K ι' H' h->N.rt v H'
 | .ex c h=>∀ ι' H',Gr ι H ι' H'->HRep K ι' H' h->E c ι' H' h
 | .no=>False
theorem uq{K:PySem.W.Frag}{E:XD}{ι ι1:List Addr}{H H1:Hp}{r:Fl}{N:Ends}(o:ac1 K E ι H r N)(g:Gr ι H ι1 H1):ac1 K E ι1 H1 r N:=by
 cases r with
 | nx τ h=>exact λι' H' b g'=>o ι' H' b (g.trans g')
 | bk τ h=>exact λι' H' b g'=>o ι' H' b (g.trans g')
 | ct τ h=>exact λι' H' b g'=>o ι' H' b (g.trans g')
 | rt d h=>exact λι' H' b g'=>o ι' H' b (g.trans g')
 | ex c h=>exact λι' H' g'=>o ι' H' (g.trans g')
 | no=>exact o
theorem a03{α β:Type}{K:PySem.W.Frag}{E:XD}{Rp:List Addr->Hp->β->α->Prop}{ι:List Addr}{H:Hp}{r:R α}{k:α->Hd->Fl}{N:Ends}{P:β->Hp->Prop}
  (o:ac1 K E ι H (r.fl k) N) (hP:∀ a h ι1 H1 b,Gr ι H ι1 H1->Rp ι1 H1 b a->HRep K ι1 H1 h->ac1 K E ι1 H1 (k a h) N->P b H1):out K E Rp ι H r P:=by
 cases r with
 | ok a h=>exact λι' H' b g r' hr=>hP a h ι' H' b g r' hr (uq o g)
 | ex c h=>exact o
 | no=>exact o
def lift{α β:Type}(K:PySem.W.Frag)(E:XD)(Rp:List Addr->Hp->β->α->Prop)(f:Sd->Hd->R α):St->Hp->(β->Hp->Prop)->Prop:=λσ H Q =>
 ∃ ι τ h,SRep K ι H σ τ/\HRep K ι H h/\out K E Rp ι H (f τ h) Q
def a77(K:PySem.W.Frag)(E:XD)(f:SS):TS:=λN σ H=>∃ ι τ h,SRep K ι H σ τ/\HRep K ι H h/\ac1 K E ι H (f τ h) N
abbrev ME(X:Cx)(E:XD)(e:Expr)(f:SE):Prop:=PE X e (lift X.K E (yu X.K) f)
abbrev MT(X:Cx)(E:XD)(e:Expr)(f:ST):Prop:=PT X e (lift X.K E alg f)
abbrev MW(X:Cx)(E:XD)(e:Expr)(f:ST):Prop:=PW X e (lift X.K E alg f)
abbrev MA(X:Cx)(E:XD)(es:List Expr)(f:SA):Prop:=PA X es (lift X.K E (aoq X.K) f)
abbrev MS(X:Cx)(E:XD)(st:Stmt)(f:SS):Prop:=PS X st (a77 X.K E f)
abbrev MSs(X:Cx)(E:XD)(st:List Stmt)(f:SS):Prop:=PSs X st (a77 X.K E f)
theorem PE.weak{X:Cx}{e:Expr}{t t':TE}(h:PE X e t)(i:∀ σ H Q,t' σ H Q->t σ H Q):PE X e t':=λpins s σ H Q I q=>h pins s σ H Q I (i _ _ _ q)
theorem PT.weak{X:Cx}{e:Expr}{t t':TT}(h:PT X e t)(i:∀ σ H Q,t' σ H Q->t σ H Q):PT X e t':=λpins s σ H Q I q=>h pins s σ H Q I (i _ _ _ q)
theorem PW.weak{X:Cx}{e:Expr}{t t':TT}(h:PW X e t)(i:∀ σ H Q,t' σ H Q->t σ H Q):PW X e t':=λwh pins s σ H Q I q=>h wh pins s σ H Q I (i _ _ _ q)
theorem PA.weak{X:Cx}{e:List Expr}{t t':TA}(h:PA X e t)(i:∀ σ H Q,t' σ H Q->t σ H Q):PA X e t':=λpos pins s σ H Q I q=>h pos pins s σ H Q I (i _ _ _ q)
theorem PS.weak{X:Cx}{e:Stmt}{t t':TS}(h:PS X e t)(i:∀ N σ H,t' N σ H->t N σ H):PS X e t':=λpins s σ H N I q=>h pins s σ H N I (i _ _ _ q)
theorem PSs.weak{X:Cx}{e:List Stmt}{t t':TS}(h:PSs X e t)(i:∀ N σ H,t' N σ H->t N σ H):PSs X e t':=λpins s σ H N I q=>h pins s σ H N I (i _ _ _ q)
abbrev LINE:Nat:=16777216
theorem ll{n:Nat}(h:n<=LINE):n<=sizeLine:=ag7 h
def sV(i:Nat):SE:=λτ h=>match τ[i]? with | some (some d)=>.ok d h | _=>.no
def sC(d:D):SE:=λ_ h=>.ok d h
section
variable{X:Cx}{E:XD}{a b c e:Expr}{fa fb fc:SE}{pos:Pos}
theorem bh(i:Nat){x:Str}{pos:Pos}(hN:X.N[i]? = some x:=by rfl)(hv:Vis X.env.scope x:=by first | exact Or.inl rfl | exact Or.inr (Or.inl rfl) | exact Or.inr (Or.inr rfl))(hd:(x == ("__debug__" : Str))=false:=by decide)
  (hcd:(x == ("__classdict__" : Str))=false:=by decide):ME X E (.Name x pos) (sV i):=by
 refine PE.weak (ai8 hN hv hd hcd) λσ H Q ⟨ι,τ,h,S,Rh,o⟩=>?_;unfold sV at o
 split at o
 ·rename_i d e;obtain ⟨v,h1,h2⟩:=S.val i d e;exact ⟨v,h1,o ι H v (.refl _ _) h2 Rh⟩
 ·exact o.elim
theorem aj9{v:V}{d:D}(h:PE X e (tC v))(r:∀ ι H,Rep X.K ι H v d):ME X E e (sC d) :=
 PE.weak h λσ H Q ⟨ι,τ,h,S,Rh,o⟩=>o ι H v (.refl _ _) (r ι H) Rh
theorem ak{i j pos}:ME X E (.Constant (.int i) j pos) (sC (.int i)):=aj9 ai9 λ_ _=>.int i
theorem aga{i j pos}:ME X E (.Constant (.bool i) j pos) (sC (.bl i)):=aj9 am0 λ_ _=>.bl i
theorem ik{i j pos}:ME X E (.Constant (.str i) j pos) (sC (.str i)):=aj9 aib λ_ _=>.str i
theorem m9{j pos}:ME X E (.Constant .none j pos) (sC .non):=aj9 aia λ_ _=>.non
theorem a04{x:Str}{n:String}{pos:Pos}(hg:Gl X x)(hm:X.mg x=none)(hv:bootBuiltins x=some (.type n))(hn:x ≠ "__name__":=by decide)(hd:(x == ("__debug__" : Str))=false:=by decide):ME X E (.Name x pos) (sC (.ty n)) :=
 aj9 (afm (v:=.ty n) hg hm hv rfl hn hd) λ_ _=>.ty n
def s2(g:D->D->Hd->R D)(fa fb:SE):SE:=λτ h=>(fa τ h).bind λx h1=>(fb τ h1).bind λy h2=>g x y h2
def s1(g:D->Hd->R D)(fa:SE):SE:=λτ h=>(fa τ h).bind g
def a0m(K:PySem.W.Frag)(g:D->D->Hd->R D)(r:R2):Prop:=∀ (E:XD) ι H h x y dx dy Q,Rep K ι H x dx->Rep K ι H y dy->HRep K ι H h->out K E (yu K) ι H (g dx dy h) Q->r x y H Q
def aos(K:PySem.W.Frag)(g:D->Hd->R D)(r:V->Hp->VK->Prop):Prop:=∀ (E:XD) ι H h x dx Q,Rep K ι H x dx->HRep K ι H h->out K E (yu K) ι H (g dx h) Q->r x H Q
def a9q(K:PySem.W.Frag)(g:List D->Hd->R D)(r:List V->Hp->VK->Prop):Prop:=∀ (E:XD) ι H h xs ds Q,Reps K ι H xs ds->HRep K ι H h->out K E (yu K) ι H (g ds h) Q->r xs H Q
theorem alh{g:D->D->Hd->R D}{r:R2}{K:PySem.W.Frag}(hs:a0m K g r){σ:St}{H:Hp}{Q:VK}(q:lift K E (yu K) (s2 g fa fb) σ H Q):tOp r (lift K E (yu K) fa) (lift K E (yu K) fb) σ H Q:=by
 obtain ⟨ι,τ,h,S,Rh,o⟩:=q;refine ⟨ι,τ,h,S,Rh,fj o λd h1 ι1 H1 v g1 r1 hr1 o1=>?_⟩;refine ⟨ι1,τ,h1,S.mono g1,hr1,fj o1 λd2 h2 ι2 H2 u g2 r2 hr2 o2=>?_⟩;exact hs E ι2 H2 h2 v u d d2 Q (r1.mono g2) r2 hr2 o2
theorem a95{op:Operator}{r:R2}{g:D->D->Hd->R D}(ho:OpR X (binaryOp op) r)(hs:a0m X.K g r)(ha:ME X E a fa)(hb:ME X E b fb):ME X E (.BinOp a op b pos) (s2 g fa fb) :=
 PE.weak (amc ho ha hb) λσ H Q q=>alh hs q
theorem a0p{op:CmpOp}{r:R2}{g:D->D->Hd->R D}(ho:OpR X (compareOp op) r)(hs:a0m X.K g r)(ha:ME X E a fa)(hb:ME X E b fb)(hm:behindInMarks op b=false):ME X E (.Compare a [op] [b] pos) (s2 g fa fb) :=
 PE.weak (aft ho ha hb hm) λσ H Q q=>alh hs q
theorem ams{op:UnaryOp}{r:V->Hp->VK->Prop}{g:D->Hd->R D}(ho:UnR X (unaryOp op) r)(hs:aos X.K g r)(ha:ME X E a fa):ME X E (.UnaryOp op a pos) (s1 g fa):=by
 refine PE.weak (amd ho ha) λσ H Q ⟨ι,τ,h,S,Rh,o⟩=>?_;exact ⟨ι,τ,h,S,Rh,fj o λd h1 ι1 H1 v g1 r1 hr1 o1=>hs E ι1 H1 h1 v d Q r1 hr1 o1⟩
theorem amt{r:R2}{g:D->D->Hd->R D}(ho:IxR X r)(hs:a0m X.K g r)(ha:ME X E a fa)(hb:ME X E b fb)(hp:a71 b):ME X E (.Subscript a b pos) (s2 g fa fb) :=
 PE.weak (amk ho ha hb hp) λσ H Q q=>alh hs q
def asB(d:D)(h:Hd):R Bool:=match d with | .bl b=>.ok b h | _=>.no
def sT(f:SE):ST:=λτ h=>(f τ h).bind asB
theorem aak{K:PySem.W.Frag}{t:TE}{f:SE}(hi:∀ σ H Q,lift K E (yu K) f σ H Q->t σ H Q){σ:St}{H:Hp}{Q:Bool->Hp->Prop}(q:lift K E alg (sT f) σ H Q):afu t σ H Q:=by
 refine hi σ H _ ?_;obtain ⟨ι,τ,h,S,Rh,o⟩:=q;refine ⟨ι,τ,h,S,Rh,fj o λd h1 ι1 H1 v g1 r1 hr1 o1=>?_⟩
 cases r1 with
 | bl b=>exact ⟨b,rfl,o1 ι1 H1 b (.refl _ _) rfl hr1⟩
 | _=>exact o1.elim
theorem di{op:CmpOp}{r:R2}{g:D->D->Hd->R D}(ho:OpR X (compareOp op) r)(hs:a0m X.K g r)(ha:ME X E a fa)(hb:ME X E b fb)(hm:behindInMarks op b=false):MT X E (.Compare a [op] [b] pos) (sT (s2 g fa fb)) :=
 PT.weak (afv ho ha hb hm) λσ H Q q=>aak (λ_ _ _=>alh hs) q
def sCh(g g':D->D->Hd->R D)(fa fb fc:SE):SE:=λτ h=>(fa τ h).bind λx h1=>(fb τ h1).bind λy h2=>(g x y h2).bind λz h3=>match z with
 | .bl true=>(fc τ h3).bind λw h4=>g' y w h4
 | .bl false=>.ok (.bl false) h3
 | _=>.no
theorem aep{K:PySem.W.Frag}{g g':D->D->Hd->R D}{r r':R2}(hs:a0m K g r)(hs':a0m K g' r'){σ:St}{H:Hp}{Q:VK}(q:lift K E (yu K) (sCh g g' fa fb fc) σ H Q) :
  aa0 r r' (lift K E (yu K) fa) (lift K E (yu K) fb) (lift K E (yu K) fc) σ H Q:=by
 obtain ⟨ι,τ,h,S,Rh,o⟩:=q;refine ⟨ι,τ,h,S,Rh,fj o λd h1 ι1 H1 v g1 r1 hr1 o1=>?_⟩;refine ⟨ι1,τ,h1,S.mono g1,hr1,fj o1 λd2 h2 ι2 H2 u g2 r2 hr2 o2=>?_⟩;refine hs E ι2 H2 h2 v u d d2 _ (r1.mono g2) r2 hr2 (fj o2 λd3 h3 ι3 H3 z g3 r3 hr3 o3=>?_)
 cases r3 with
 | bl k =>
  refine ⟨k,rfl,?_⟩
  cases k with
  | true =>
   rw [if_pos rfl];refine ⟨ι3,τ,h3,((S.mono g1).mono g2).mono g3,hr3,fj o3 λd4 h4 ι4 H4 w g4 r4 hr4 o4=>?_⟩;exact hs' E ι4 H4 h4 u w d2 d4 Q ((r2.mono g3).mono g4) r4 hr4 o4
  | false =>
   rw [if_neg Bool.false_ne_true];exact o3 ι3 H3 (.bl false) (.refl _ _) (.bl false) hr3
 | _=>exact o3.elim
theorem a7z{op op':CmpOp}{r r':R2}{g g':D->D->Hd->R D}(ho:OpR X (compareOp op) r)(ho':OpR X (compareOp op') r')(hs:a0m X.K g r)(hs':a0m X.K g' r')(ha:ME X E a fa)(hb:ME X E b fb)(hc:ME X E c fc)
  (hm:lastMarks [op,op'] [b,c]=false:=by with_unfolding_all rfl):ME X E (.Compare a [op,op'] [b,c] pos) (sCh g g' fa fb fc) :=
 PE.weak (acg ho ho' ha hb hc hm) λσ H Q q=>aep hs hs' q
theorem a4b{op op':CmpOp}{r r':R2}{g g':D->D->Hd->R D}(ho:OpR X (compareOp op) r)(ho':OpR X (compareOp op') r')(hs:a0m X.K g r)(hs':a0m X.K g' r')(ha:ME X E a fa)(hb:ME X E b fb)(hc:ME X E c fc)
  (hm:lastMarks [op,op'] [b,c]=false:=by with_unfolding_all rfl):MT X E (.Compare a [op,op'] [b,c] pos) (sT (sCh g g' fa fb fc)) :=
 PT.weak (ach ho ho' ha hb hc hm) λσ H Q q=>aak (λ_ _ _=>aep hs hs') q
def tru(d:D)(h:Hd):R Bool:=match d with
 | .non=>.ok false h
 | .bl b=>.ok b h
 | .int i=>.ok (i != 0) h
 | .str x=>if x.length<=LINE then .ok ((x.length:Int) != 0) h else .no
 | .tup xs=>.ok (!xs.isEmpty) h
 | .rol xs=>.ok (!xs.isEmpty) h
 | .ref i=>match h[i]? with
  | some (.lst xs)=>.ok (!xs.isEmpty) h
  | some (.dK kvs)=>.ok (!kvs.isEmpty) h
  | _=>.no
 | _=>.no
theorem Reps.emp{K:PySem.W.Frag}{ι:List Addr}{H:Hp}{vs:List V}{ds:List D}(r:Reps K ι H vs ds):vs.isEmpty=ds.isEmpty:=by cases r<;>rfl
theorem KRep.emp{κ:Type}{K:PySem.W.Frag}{ι:List Addr}{H:Hp}{us:List (κ × V)}{kvs:List (κ × D)}(r:KRep K ι H us kvs):us.isEmpty=kvs.isEmpty:=by
 have:=congrArg List.length r.1
 cases us<;>cases kvs<;>simp at this ⊢
theorem agb{K:PySem.W.Frag}{ι:List Addr}{H:Hp}{h:Hd}{x:V}{d:D}{Q:Bool->Hp->Prop}(r:Rep K ι H x d)(hr:HRep K ι H h)(o:out K E alg ι H (tru d h) Q):∃ k,amf K x H k/\Q k H:=by
 cases r with
 | non=>exact ⟨false,rfl,o ι H _ (.refl _ _) rfl hr⟩
 | bl b=>exact ⟨b,rfl,o ι H _ (.refl _ _) rfl hr⟩
 | int i=>exact ⟨_,rfl,o ι H _ (.refl _ _) rfl hr⟩
 | str x =>
  by_cases hl:x.length<=LINE
  ·simp only [tru,if_pos hl] at o;exact ⟨_,⟨ll hl,rfl⟩,o ι H _ (.refl _ _) rfl hr⟩
  ·simp only [tru,if_neg hl] at o;exact o.elim
 | ty n=>exact o.elim
 | rod _ _ _=>exact o.elim
 | scr _ _=>exact o.elim
 | rdT _ _ _=>exact o.elim
 | exc _ _ _=>exact o.elim
 | tup e rs=>exact ⟨_, .inr (.inl ⟨_,SqT.of e,rfl⟩),by rw [rs.emp];exact o ι H _ (.refl _ _) rfl hr⟩
 | rol e rs=>exact ⟨_, .inl ⟨_,e.l,rfl⟩,by rw [rs.emp];exact o ι H _ (.refl _ _) rfl hr⟩
 | @ref a i e =>
  obtain ⟨ob,h1,h2⟩:=hr.at e;simp only [tru,h1] at o
  cases ob with
  | lst xs =>
   obtain ⟨vs,h3,h4⟩:=h2;exact ⟨_, .inl ⟨_,SqL.of h3,rfl⟩,by rw [h4.emp];exact o ι H _ (.refl _ _) rfl hr⟩
  | dK kvs =>
   obtain ⟨us,h3,h4⟩:=h2;exact ⟨_, .inr (.inr ⟨_,h3,rfl⟩),by rw [h4.emp];exact o ι H _ (.refl _ _) rfl hr⟩
  | dT kvs=>exact o.elim
def zj(f:SE):ST:=λτ h=>(f τ h).bind tru
theorem ur(ha:ME X E a fa)(he:∀ whole,isTrue a X.env whole=(do let v <-whole;standAt a.pos;holding [v] (truthy v)):=by intro _;rfl):MT X E a (zj fa):=by
 refine PT.weak (aci ha he) λσ H Q ⟨ι,τ,h,S,Rh,o⟩=>?_;exact ⟨ι,τ,h,S,Rh,fj o λd h1 ι1 H1 v g1 r1 hr1 o1=>agb r1 hr1 o1⟩
def a2y(f g:ST):ST:=λτ h=>(f τ h).bind λb h1=>if b=true then g τ h1 else .ok false h1
def sOr(f g:ST):ST:=λτ h=>(f τ h).bind λb h1=>if b=true then .ok true h1 else g τ h1
def yf(f:ST):ST:=λτ h=>(f τ h).bind λb h1=>.ok (!b) h1
variable{ga gb:ST}
theorem xf(ha:MT X E a ga):MW X E (.BoolOp .And [a] pos) ga:=afn ha
theorem a05(ha:MT X E a ga):MW X E (.BoolOp .Or [a] pos) ga:=aic ha
theorem yg{rest:List Expr}(ha:MT X E a ga)(hb:MW X E (.BoolOp .And (b::rest) pos) gb):MW X E (.BoolOp .And (a::b::rest) pos) (a2y ga gb):=by
 refine PW.weak (aid ha hb) λσ H Q ⟨ι,τ,h,S,Rh,o⟩=>?_;refine ⟨ι,τ,h,S,Rh,fj o λd h1 ι1 H1 v g1 r1 hr1 o1=>?_⟩;cases r1
 cases d with
 | true=>exact ⟨ι1,τ,h1,S.mono g1,hr1,o1⟩
 | false=>exact o1 ι1 H1 false (.refl _ _) rfl hr1
theorem a06{rest:List Expr}(ha:MT X E a ga)(hb:MW X E (.BoolOp .Or (b::rest) pos) gb):MW X E (.BoolOp .Or (a::b::rest) pos) (sOr ga gb):=by
 refine PW.weak (am1 ha hb) λσ H Q ⟨ι,τ,h,S,Rh,o⟩=>?_;refine ⟨ι,τ,h,S,Rh,fj o λd h1 ι1 H1 v g1 r1 hr1 o1=>?_⟩;cases r1
 cases d with
 | true=>exact o1 ι1 H1 true (.refl _ _) rfl hr1
 | false=>exact ⟨ι1,τ,h1,S.mono g1,hr1,o1⟩
theorem sr(ha:MT X E a ga):MT X E (.UnaryOp .Not a pos) (yf ga):=by
 refine PT.weak (aie ha) λσ H Q ⟨ι,τ,h,S,Rh,o⟩=>?_;refine ⟨ι,τ,h,S,Rh,fj o λd h1 ι1 H1 v g1 r1 hr1 o1=>?_⟩;cases r1
 exact o1 ι1 H1 _ (.refl _ _) rfl hr1
def zx(f g:SE):SE:=λτ h=>(f τ h).bind λd h1=>match d with | .bl true=>g τ h1 | .bl false=>.ok (.bl false) h1 | _=>.no
def ali(f g:SE):SE:=λτ h=>(f τ h).bind λd h1=>match d with | .bl true=>.ok (.bl true) h1 | .bl false=>g τ h1 | _=>.no
def a4c(f:SE):SE:=λτ h=>(f τ h).bind λd h1=>match d with | .bl b=>.ok (.bl (!b)) h1 | _=>.no
theorem a3l{op}(ha:ME X E a fa):ME X E (.BoolOp op [a] pos) fa:=aif ha
theorem a3m{rest:List Expr}(ha:ME X E a fa)(hb:ME X E (.BoolOp .And (b::rest) pos) fb):ME X E (.BoolOp .And (a::b::rest) pos) (zx fa fb):=by
 refine PE.weak (aig ha hb) λσ H Q ⟨ι,τ,h,S,Rh,o⟩=>?_;refine ⟨ι,τ,h,S,Rh,fj o λd h1 ι1 H1 v g1 r1 hr1 o1=>?_⟩
 cases r1 with
 | bl k =>
  refine ⟨k,rfl,?_⟩
  cases k with
  | true=>exact ⟨ι1,τ,h1,S.mono g1,hr1,o1⟩
  | false=>exact o1 ι1 H1 _ (.refl _ _) (.bl _) hr1
 | _=>exact o1.elim
theorem aeq(ha:ME X E a fa):ME X E (.UnaryOp .Not a pos) (a4c fa):=by
 refine PE.weak (aih ha) λσ H Q ⟨ι,τ,h,S,Rh,o⟩=>?_;refine ⟨ι,τ,h,S,Rh,fj o λd h1 ι1 H1 v g1 r1 hr1 o1=>?_⟩
 cases r1 with
 | bl k=>exact ⟨k,rfl,o1 ι1 H1 _ (.refl _ _) (.bl _) hr1⟩
 | _=>exact o1.elim
def a96(c:ST)(f g:SE):SE:=λτ h=>(c τ h).bind λb h1=>if b=true then f τ h1 else g τ h1
theorem aal(hc:MT X E c ga)(ha:ME X E a fa)(hb:ME X E b fb):ME X E (.IfExp c a b pos) (a96 ga fa fb):=by
 refine PE.weak (aca hc ha hb) λσ H Q ⟨ι,τ,h,S,Rh,o⟩=>?_;refine ⟨ι,τ,h,S,Rh,fj o λd h1 ι1 H1 v g1 r1 hr1 o1=>?_⟩;cases r1
 cases d with
 | true=>exact ⟨ι1,τ,h1,S.mono g1,hr1,o1⟩
 | false=>exact ⟨ι1,τ,h1,S.mono g1,hr1,o1⟩
def cu:SA:=λ_ h=>.ok [] h
def aj(f:SE)(g:SA):SA:=λτ h=>(f τ h).bind λd h1=>(g τ h1).bind λds h2=>.ok (d::ds) h2
variable{es:List Expr}{ka:SA}
theorem aq:MA X E [] cu:=PA.weak aei λσ H Q ⟨ι,τ,h,S,Rh,o⟩=>o ι H [] (.refl _ _) .nil Rh
theorem aa(ha:ME X E e fa)(hr:MA X E es ka)(hs:starEach (e::es) X.env=(false,eval e X.env)::starEach es X.env:=by rfl):MA X E (e::es) (aj fa ka):=by
 refine PA.weak (a6z ha hr hs) λσ H Q ⟨ι,τ,h,S,Rh,o⟩=>?_;refine ⟨ι,τ,h,S,Rh,fj o λd h1 ι1 H1 v g1 r1 hr1 o1=>?_⟩;refine ⟨ι1,τ,h1,S.mono g1,hr1,fj o1 λd2 h2 ι2 H2 u g2 r2 hr2 o2=>?_⟩;exact o2 ι2 H2 _ (.refl _ _) (.cons (r1.mono g2) r2) hr2
def qb(ds:List D)(h:Hd):R D:=if ds.length<=LINE then .ok (.tup ds) h else .no
def w6(ds:List D)(h:Hd):R D:=if ds.length<=LINE then .ok (.ref h.length) (h++[.lst ds]) else .no
def sA(g:List D->Hd->R D)(k:SA):SE:=λτ h=>(k τ h).bind g
theorem yh{K:PySem.W.Frag}{ι:List Addr}{H:Hp}{h:Hd}{vs:List V}{ds:List D}{Q:VK}(r:Reps K ι H vs ds)(hr:HRep K ι H h)(o:out K E (yu K) ι H (.ok (.tup ds) h) Q):∀ p,H p=none->Q (.ref p) (upd H p (.tup vs)):=λp hp =>
 o ι _ _ (zg hp _) (.tup uf (r.mono (zg hp _))) (hr.aside hp _)
theorem ut{K:PySem.W.Frag}{ι:List Addr}{H:Hp}{h:Hd}{vs:List V}{ds:List D}{Q:VK}(r:Reps K ι H vs ds)(hr:HRep K ι H h)(o:out K E (yu K) ι H (.ok (.ref h.length) (h++[.lst ds])) Q):∀ p,H p=none->Q (.ref p) (upd H p (.lst vs)):=λp hp =>
 o (ι++[p]) _ _ (aaj hp _) (.ref (by rw [List.getElem?_append_right (by rw [hr.len];exact Nat.le_refl _),hr.len];simp)) (hr.add hp ⟨_,uf,r.mono (aaj hp _)⟩)
theorem agc{K:PySem.W.Frag}{ι:List Addr}{H:Hp}{h:Hd}{i:Nat}{a:Addr}{vs:List V}{ds:List D}{d:D}{v:V}{Q:VK}(r:Reps K ι H vs ds)(hr:HRep K ι H h)(hi:ι[i]? = some a)(rd:Rep K ι H v d)(o:out K E (yu K) ι H (.ok d (h.set i (.lst ds))) Q):Q v (upd H a (.lst vs)) :=
 o ι _ _ (a3k hr hi _) (rd.mono (a3k hr hi _)) (hr.put hi ⟨_,uf,r.mono (a3k hr hi _)⟩)
theorem lr{x1}(h:MA X E es ka):ME X E (.Tuple es x1 pos) (sA qb ka):=by
 refine PE.weak (aiv h) λσ H Q ⟨ι,τ,h,S,Rh,o⟩=>?_;refine ⟨ι,τ,h,S,Rh,fj o λd h1 ι1 H1 v g1 r1 hr1 o1=>?_⟩;unfold qb at o1
 split at o1
 ·rename_i hl;exact ⟨ll (by rw [r1.len];exact hl),yh r1 hr1 o1⟩
 ·exact o1.elim
theorem ue(h:MA X E es ka):ME X E (.List es pos) (sA w6 ka):=by
 refine PE.weak (aiw h) λσ H Q ⟨ι,τ,h,S,Rh,o⟩=>?_;refine ⟨ι,τ,h,S,Rh,fj o λd h1 ι1 H1 v g1 r1 hr1 o1=>?_⟩;unfold w6 at o1
 split at o1
 ·rename_i hl;exact ⟨ll (by rw [r1.len];exact hl),ut r1 hr1 o1⟩
 ·exact o1.elim
theorem kj{x:Str}{p:Pos}{id:String}{r:List V->Hp->VK->Prop}{g:List D->Hd->R D}(hc:CallR X (.builtin id) r)(hs:a9q X.K g r)(hg:Gl X x)(hm:X.mg x=none)(hv:bootBuiltins x=some (.builtin id))(ha:MA X E (e::es) ka)(hn:x ≠ "__name__":=by decide)(hdb:(x == ("__debug__" : Str))=false:=by decide)
  (he:starEach (e::es) X.env=(false,eval e X.env)::starEach es X.env:=by rfl) (hpl:(backTo pos (starEach es X.env)).any (·.1)=false:=by rfl):ME X E (.Call (.Name x p) (e::es) [] pos) (sA g ka):=by
 refine PE.weak (ack hc hg hm hv ha hn hdb he hpl) λσ H Q ⟨ι,τ,h,S,Rh,o⟩=>?_;exact ⟨ι,τ,h,S,Rh,fj o λd h1 ι1 H1 v g1 r1 hr1 o1=>hs E ι1 H1 h1 v d Q r1 hr1 o1⟩
theorem xg{x:Str}{p:Pos}{id:String}{r:List V->Hp->VK->Prop}{g:List D->Hd->R D}(hc:CallR X (.type id) r)(hs:a9q X.K g r)(hg:Gl X x)(hm:X.mg x=none)(hv:bootBuiltins x=some (.type id))(ha:MA X E (e::es) ka)(hn:x ≠ "__name__":=by decide)(hdb:(x == ("__debug__" : Str))=false:=by decide)
  (he:starEach (e::es) X.env=(false,eval e X.env)::starEach es X.env:=by rfl) (hpl:(backTo pos (starEach es X.env)).any (·.1)=false:=by rfl):ME X E (.Call (.Name x p) (e::es) [] pos) (sA g ka):=by
 refine PE.weak (aa6 hc hg hm hv ha hn hdb he hpl) λσ H Q ⟨ι,τ,h,S,Rh,o⟩=>?_;exact ⟨ι,τ,h,S,Rh,fj o λd h1 ι1 H1 v g1 r1 hr1 o1=>hs E ι1 H1 h1 v d Q r1 hr1 o1⟩
end
def jh(f g:SS):SS:=λτ h=>match f τ h with | .nx τ1 h1=>g τ1 h1 | r=>r
def sNx:SS:=λτ h=>.nx τ h
def mz(f:SE):SS:=λτ h=>(f τ h).fl λd h1=>.rt d h1
def a68(f:SE):SS:=λτ h=>(f τ h).fl λ_ h1=>.nx τ h1
def sIf(c:ST)(f g:SS):SS:=λτ h=>(c τ h).fl λb h1=>if b=true then f τ h1 else g τ h1
def p7(i:Nat)(f:SE):SS:=λτ h=>(f τ h).fl λd h1=>.nx (τ.set i (some d)) h1
def alj(i:Nat)(g:D->D->Hd->R D)(f:SE):SS:=λτ h=>match τ[i]? with
 | some (some x)=>(f τ h).fl λy h1=>(g x y h1).fl λz h2=>.nx (τ.set i (some z)) h2
 | _=>.no
section
variable{X:Cx}{E:XD}{e o:Expr}{es:List Expr}{fa fb fc:SE}{ga:ST}{st:Stmt}{sts a b:List Stmt}{f g:SS}{pos:Pos}
theorem fu:MSs X E [] sNx:=PSs.weak afo λN σ H ⟨ι,τ,h,S,Rh,o⟩=>o ι H σ (.refl _ _) S Rh
theorem aja{K:PySem.W.Frag}{N:Ends}{σ:St}{H:Hp}(q:a77 K E (jh f g) N σ H):a77 K E f { N with nx:=a77 K E g N } σ H:=by
 obtain ⟨ι,τ,h,S,Rh,o⟩:=q;refine ⟨ι,τ,h,S,Rh,?_⟩;unfold jh at o
 cases hf:f τ h with
 | nx τ1 h1 =>
  rw [hf] at o;exact λι1 H1 σ1 g1 S1 R1=>⟨ι1,τ1,h1,S1,R1,uq o g1⟩
 | _=>rw [hf] at o;exact o
theorem au(h1:MS X E st f)(h2:MSs X E sts g):MSs X E (st::sts) (jh f g):=PSs.weak (acb h1 h2) λN σ H q=>aja q
theorem bx(h1:MS X E st f):MSs X E [st] f:=afp h1
theorem g8(he:ME X E e fa):MS X E (.Return (some e) pos) (mz fa):=by
 refine PS.weak (aii he) λN σ H ⟨ι,τ,h,S,Rh,o⟩=>?_;exact ⟨ι,τ,h,S,Rh,a03 o λd h1 ι1 H1 v g1 r1 hr1 o1=>o1 ι1 H1 v (.refl _ _) r1 hr1⟩
theorem agd(he:ME X E e fa)(hs:swapsWith e none pos.line X.env=pure false:=by rfl):MS X E (.Expr e pos) (a68 fa):=by
 refine PS.weak (afq he hs) λN σ H ⟨ι,τ,h,S,Rh,o⟩=>?_;exact ⟨ι,τ,h,S,Rh,a03 o λd h1 ι1 H1 v g1 r1 hr1 o1=>o1 ι1 H1 σ (.refl _ _) (S.mono g1) hr1⟩
theorem jy{c:Expr}(hc:MT X E c ga)(ha:MSs X E a f)(hb:MSs X E b g):MS X E (.If c a b pos) (sIf ga f g):=by
 refine PS.weak (am6 hc ha hb) λN σ H ⟨ι,τ,h,S,Rh,o⟩=>?_;refine ⟨ι,τ,h,S,Rh,a03 o λd h1 ι1 H1 v g1 r1 hr1 o1=>?_⟩;cases r1
 cases d with
 | true=>exact ⟨ι1,τ,h1,S.mono g1,hr1,o1⟩
 | false=>exact ⟨ι1,τ,h1,S.mono g1,hr1,o1⟩
theorem il{i:Nat}{x:Str}{pos':Pos}(hN:X.N.Nodup)(hi:X.N[i]? = some x)(hx:Loc X.env.scope x)(he:ME X E e fa)(hs:swapsWith e (some (.Name x pos')) pos.line X.env=pure false:=by rfl)(hf:X.fn x=true\/X.env.scope.names.lookup x=some .local:=by first | exact .inl rfl | exact .inr rfl | assumption) :
  MS X E (.Assign [.Name x pos'] e pos) (p7 i fa):=by
 refine PS.weak (ail hN hi hx he hs hf) λN σ H ⟨ι,τ,h,S,Rh,o⟩=>?_;exact ⟨ι,τ,h,S,Rh,a03 o λd h1 ι1 H1 v g1 r1 hr1 o1=>o1 ι1 H1 _ (.refl _ _) ((S.mono g1).set r1 i) hr1⟩
def put(o k v:D)(h:Hd):Option Hd:=match o,k with
 | .ref i, .int j=>match h[i]? with
  | some (.lst xs)=>match ixN xs.length j with
   | some m=>some (h.set i (.lst (xs.set m v)))
   | none=>none
  | _=>none
 | _,_=>none
theorem age{K:PySem.W.Frag}{ι:List Addr}{H:Hp}{h h':Hd}{o k v:V}{od kd vd:D}{Q:Hp->Prop}(r1:Rep K ι H o od)(r2:Rep K ι H k kd)(r3:Rep K ι H v vd)(hr:HRep K ι H h)(e:put od kd vd h=some h')
  (q:∀ H',Gr ι H ι H'->HRep K ι H' h'->Q H'):aj2 o k v H Q:=by
 cases r1 with
 | @ref a i ha =>
  cases r2 with
  | int j =>
   obtain ⟨ob,h1,h2⟩:=hr.at ha
   cases ob with
   | lst xs =>
    obtain ⟨vs,h3,h4⟩:=h2;simp only [put,h1] at e
    cases hm:ixN xs.length j with
    | none=>rw [hm] at e;cases e
    | some m =>
     rw [hm] at e;cases e
     exact ⟨a,vs,j,m,rfl,rfl,h3,by rw [h4.len];exact hm,q _ (a3k hr ha _) (hr.put ha ⟨_,uf,(h4.set r3 m).mono (a3k hr ha _)⟩)⟩
   | dK _=>simp only [put,h1] at e;cases e
   | dT _=>simp only [put,h1] at e;cases e
  | _=>cases e
 | _=>cases e
def a97(fe fo fi:SE):SS:=λτ h=>(fe τ h).fl λv h1=>(fo τ h1).fl λo h2=>(fi τ h2).fl λk h3=>match put o k v h3 with | some h4=>.nx τ h4 | none=>.no
theorem a3n{i:Expr}{pos':Pos}(he:ME X E e fa)(ho:ME X E o fb)(hi:ME X E i fc)
  (hs:swapsWithSole [.Subscript o i pos'] e pos.line X.env=pure false:=by rfl) (hw:swappedStores [.Subscript o i pos'] e X.env=pure none:=by rfl)
  (h1:(assignEach [.Subscript o i pos'] X.env).map (·.2)=[assign (.Subscript o i pos') X.env]:=by rfl)
  (ha:∀ v,assign (.Subscript o i pos') X.env v=(do
   let ov <-holding [v] (eval o X.env)
   let iv <-holding [v,ov] (eval i X.env)
   standAt pos'
   holding [v,ov,iv] (setItem ov iv v)
   release [v,ov,iv] []):=by intro _;rfl):MS X E (.Assign [.Subscript o i pos'] e pos) (a97 fa fb fc):=by
 refine PS.weak (aik he (aij ho hi set_list ha) hs hw h1) λN σ H ⟨ι,τ,h,S,Rh,oo⟩=>?_;refine ⟨ι,τ,h,S,Rh,a03 oo λd h1 ι1 H1 v g1 r1 hr1 o1=>?_⟩;refine ⟨ι1,τ,h1,S.mono g1,hr1,a03 o1 λd2 h2 ι2 H2 u g2 r2 hr2 o2=>?_⟩;refine ⟨ι2,τ,h2,(S.mono g1).mono g2,hr2,a03 o2 λd3 h3 ι3 H3 w g3 r3 hr3 o3=>?_⟩
 cases hp:put d2 d3 d h3 with
 | none=>rw [hp] at o3;exact o3.elim
 | some h4 =>
  rw [hp] at o3;exact age (r2.mono g3) r3 ((r1.mono g2).mono g3) hr3 hp λH' g4 hr4=>o3 ι3 H' σ g4 ((((S.mono g1).mono g2).mono g3).mono g4) hr4
def sWh(c:ST)(f:SS):Nat->SS
 | 0,_,_=>.no
 | n+1,τ,h=>(c τ h).fl λb h1=>if b=true then (match f τ h1 with | .nx τ2 h2=>sWh c f n τ2 h2 | .ct τ2 h2=>sWh c f n τ2 h2 | .bk τ2 h2=>.nx τ2 h2 | r=>r) else .nx τ h1
end
abbrev SG:=D->Sd->Hd->Fl
def agf(K:PySem.W.Frag)(E:XD)(g:SG):TG:=λv σ H Q=>∃ ι τ h d,Rep K ι H v d/\SRep K ι H σ τ/\HRep K ι H h/\ac1 K E ι H (g d τ h) { nx:=Q,rt:=λ_ _=>False }
abbrev MG(X:Cx)(E:XD)(tg:Expr)(g:SG):Prop:=PG X tg (agf X.K E g)
abbrev SGs:=List D->Sd->Hd->Fl
def aam(K:PySem.W.Frag)(E:XD)(g:SGs):TGs:=λvs σ H Q=>∃ ι τ h ds,Reps K ι H vs ds/\SRep K ι H σ τ/\HRep K ι H h/\ac1 K E ι H (g ds τ h) { nx:=Q,rt:=λ_ _=>False }
abbrev MGs(X:Cx)(E:XD)(tg:List Expr)(g:SGs):Prop:=PGs X tg (aam X.K E g)
theorem PG.weak{X:Cx}{e:Expr}{t t':TG}(h:PG X e t)(i:∀ v σ H Q,t' v σ H Q->t v σ H Q):PG X e t':=λpins s σ H v u Q I r q=>h pins s σ H v u Q I r (i _ _ _ _ q)
theorem PGs.weak{X:Cx}{e:List Expr}{t t':TGs}(h:PGs X e t)(i:∀ v σ H Q,t' v σ H Q->t v σ H Q):PGs X e t':=λpins s σ H v u Q I r q=>h pins s σ H v u Q I r (i _ _ _ _ q)
def kN(i:Nat):SG:=λd τ h=>.nx (τ.set i (some d)) h
def agg:SGs:=λds τ h=>match ds with | []=>.nx τ h | _=>.no
def a2d(g:SG)(k:SGs):SGs:=λds τ h=>match ds with | d::r=>(match g d τ h with | .nx τ1 h1=>k r τ1 h1 | _=>.no) | []=>.no
def aer(n:Nat)(k:SGs):SG:=λd τ h=>match d with | .tup ds=>if ds.length=n then k ds τ h else .no | _=>.no
section
variable{X:Cx}{E:XD}{e:Expr}{es:List Expr}{fa:SE}{pos:Pos}{g:SG}{ks:SGs}
theorem a2e{i:Nat}{x:Str}(hN:X.N.Nodup)(hi:X.N[i]? = some x)(hx:Loc X.env.scope x)(hf:X.fn x=true\/X.env.scope.names.lookup x=some .local:=by first | exact .inl rfl | exact .inr rfl | assumption):MG X E (.Name x pos) (kN i) :=
 PG.weak (ye hN hi hx hf) λv σ H Q ⟨ι,τ,h,d,r,S,Rh,o⟩=>o ι H _ (.refl _ _) (S.set r i) Rh
theorem agh:MGs X E [] agg:=by
 refine PGs.weak a9u λvs σ H Q ⟨ι,τ,h,ds,r,S,Rh,o⟩=>?_
 cases r with
 | nil=>exact ⟨rfl,o ι H σ (.refl _ _) S Rh⟩
 | cons _ _=>exact o.elim
theorem acw{K:PySem.W.Frag}{vs:List V}{σ:St}{H:Hp}{Q:St->Hp->Prop}(q:aam K E (a2d g ks) vs σ H Q):acd (agf K E g) (aam K E ks) vs σ H Q:=by
 obtain ⟨ι,τ,h,ds,r,S,Rh,o⟩:=q
 cases r with
 | nil=>exact o.elim
 | @cons v d vs ds r rs =>
  refine ⟨v,vs,rfl,ι,τ,h,d,r,S,Rh,?_⟩;simp only [a2d] at o
  cases hg:g d τ h with
  | nx τ1 h1 =>
   rw [hg] at o;exact λι1 H1 σ1 g1 S1 R1=>⟨ι1,τ1,h1,ds,rs.mono g1,S1,R1,uq o g1⟩
  | _=>rw [hg] at o;exact o.elim
theorem ajb{k n:Nat}(hc:X.calm=true)(h:MGs X E es ks)(hn:(assignEach es X.env).length=n:=by rfl)(hst:(assignEach es X.env).findIdx? (·.1)=none:=by rfl):MG X E (.Tuple es k pos) (aer n ks):=by
 refine PG.weak (aeg hc h hn hst) λv σ H Q ⟨ι,τ,h,d,r,S,Rh,o⟩=>?_
 cases r with
 | @tup a vs xs e rs =>
  simp only [aer] at o
  by_cases hl:xs.length=n
  ·rw [if_pos hl] at o;exact ⟨a,vs,rfl,SqT.of e,by rw [rs.len];exact hl,ι,τ,h,xs,rs,S,Rh,o⟩
  ·rw [if_neg hl] at o;exact o.elim
 | _=>exact o.elim
def alk(f:SE)(g:SG):SS:=λτ h=>(f τ h).fl λd h1=>match g d τ h1 with | .nx τ2 h2=>.nx τ2 h2 | _=>.no
end
structure Itm where
 xs:List D
 ck:Hd->Prop
def ajc(K:PySem.W.Frag)(ι0:List Addr)(H0:Hp)(J:It)(it:Itm):Prop:=∀ ι H h,Gr ι0 H0 ι H->HRep K ι H h->it.ck h->
 (∀ (i:Nat) (d:D),it.xs[i]? = some d->J.go i H/\∀ x H',J.yld i H x H'->Gr ι H ι H'/\Rep K ι H' x d/\HRep K ι H' h)/\J.stop it.xs.length H
abbrev anq(K:PySem.W.Frag):List Addr->Hp->It->Itm->Prop:=λι H J it=>ajc K ι H J it
abbrev SI:=Sd->Hd->R Itm
abbrev MI(X:Cx)(E:XD)(tg iter:Expr)(f:SI):Prop:=PI X tg iter (lift X.K E (anq X.K) f)
def yj(x:Str):List D:=x.cps.toList.map λc=>D.str ⟨#[c]⟩
def agi(d:D)(h:Hd):R Itm:=match d with
 | .tup xs=>.ok ⟨xs,λ_=>True⟩ h
 | .rol xs=>.ok ⟨xs,λ_=>True⟩ h
 | .str x=>.ok ⟨yj x,λ_=>True⟩ h
 | .ref i=>match h[i]? with
  | some (.lst xs)=>.ok ⟨xs,λh=>h[i]? = some (.lst xs)⟩ h
  | _=>.no
 | _=>.no
def sIt(f:SE):SI:=λτ h=>(f τ h).bind agi
theorem aes{K:PySem.W.Frag}{ι0:List Addr}{H0:Hp}{a:Addr}{xs:List D}{ck:Hd->Prop}(hl:∀ ι H h,Gr ι0 H0 ι H->HRep K ι H h->ck h->∃ vs,SqL K H a vs/\Reps K ι H vs xs):ajc K ι0 H0 (Itl K a) ⟨xs,ck⟩:=by
 intro ι H h g hr c
 obtain ⟨vs,h1,h2⟩:=hl ι H h g hr c;refine ⟨λi d e=>?_,⟨vs,h1,by rw [h2.len];exact Nat.le_refl _⟩⟩
 obtain ⟨v,e1,r⟩:=h2.get e;refine ⟨⟨vs,v,h1,e1⟩,λx H' y=>?_⟩;obtain ⟨rfl,y⟩:=y;have:=y vs h1;rw [e1] at this;cases this
 exact ⟨.refl _ _,r,hr⟩
theorem aan{X:Cx}{E:XD}{tg l:Expr}{f:SE}(hl:ME X E l f):MI X E tg l (sIt f):=by
 intro pins s σ H Rr I ⟨ι,τ,h,S,Rh,o⟩
 unfold sIt at o
 cases hf:f τ h with
 | no=>rw [hf] at o;exact o.elim
 | ex c h1 =>
  rw [hf] at o;exact aen hl pins s σ H Rr I ⟨ι,τ,h,S,Rh,by rw [hf];exact o⟩
 | ok d h1 =>
  rw [hf] at o
  cases d with
  | tup xs =>
   refine aim hl pins s σ H Rr I ⟨ι,τ,h,S,Rh,?_⟩;rw [hf]
   intro ι1 H1 v g1 r1 hr1
   cases r1 with
   | @tup a vs _ e rs =>
    refine ⟨a,rfl,⟨vs,SqT.of e⟩,o ι1 H1 _ g1 ?_ hr1⟩
    intro ι2 H2 h2 g2 hr2 _
    have e2:=g2.tup _ _ e;have rs2:=rs.mono g2;refine ⟨λi d ed=>?_,⟨vs,SqT.of e2,by rw [rs2.len];exact Nat.le_refl _⟩⟩
    obtain ⟨v,e1,r⟩:=rs2.get ed;refine ⟨⟨vs,v,SqT.of e2,e1⟩,λx H' y=>?_⟩;obtain ⟨rfl,y⟩:=y;have:=y vs (SqT.of e2);rw [e1] at this;cases this
    exact ⟨.refl _ _,r,hr2⟩
  | rol xs =>
   refine a9w hl pins s σ H Rr I ⟨ι,τ,h,S,Rh,?_⟩;rw [hf]
   intro ι1 H1 v g1 r1 hr1
   cases r1 with
   | @rol a vs _ e rs =>
    refine ⟨a,rfl,⟨vs,e.l⟩,o ι1 H1 _ g1 ?_ hr1⟩;exact aes (λι2 H2 h2 g2 hr2 _=>⟨vs,(e.mono g2).l,rs.mono g2⟩)
  | str x =>
   refine aen hl pins s σ H Rr I ⟨ι,τ,h,S,Rh,?_⟩;rw [hf]
   intro ι1 H1 v g1 r1 hr1
   cases r1
   refine ⟨x,rfl,o ι1 H1 _ g1 ?_ hr1⟩
   intro ι2 H2 h2 g2 hr2 _
   refine ⟨λi d ed=>?_,by show (yj x).length=_;simp [yj]⟩
   simp only [yj,List.getElem?_map,Option.map_eq_some_iff] at ed;obtain ⟨c,ec,rfl⟩:=ed;refine ⟨by show i<x.cps.size;have:=(List.getElem?_eq_some_iff.mp ec).1;simpa using this,λy H' q=>?_⟩
   obtain ⟨rfl,c',ec',rfl⟩:=q;rw [ec] at ec';cases ec'
   exact ⟨.refl _ _, .str _,hr2⟩
  | ref i =>
   simp only [R.bind,agi] at o
   cases ho:h1[i]? with
   | none=>rw [ho] at o;exact o.elim
   | some ob =>
    rw [ho] at o
    cases ob with
    | dK _=>exact o.elim
    | dT _=>exact o.elim
    | lst xs =>
     refine a9w hl pins s σ H Rr I ⟨ι,τ,h,S,Rh,?_⟩;rw [hf]
     intro ι1 H1 v g1 r1 hr1
     cases r1 with
     | @ref a _ e =>
      obtain ⟨vs,e1,rs⟩:=hr1.obj i a _ e ho;refine ⟨a,rfl,⟨vs,SqL.of e1⟩,o ι1 H1 _ g1 ?_ hr1⟩;refine aes (λι2 H2 h2 g2 hr2 c=>?_);obtain ⟨us,e3,rs3⟩:=hr2.obj i a _ (g2.at e) c;exact ⟨us,SqL.of e3,rs3⟩
  | _=>exact o.elim
def rng(lo:Int)(n:Nat):List D:=(List.range n).map λi=>D.int (lo+(i:Nat))
def B62(j:Int):Prop := -(2 ^ 62)<=j/\j<2 ^ 62
instance (j:Int):Decidable (B62 j):=by unfold B62;exact inferInstance
def zy(ds:List D)(h:Hd):R Itm:=match ds with
 | [.int j]=>if B62 j then .ok ⟨rng 0 j.toNat,λ_=>True⟩ h else .no
 | _=>.no
def ajd(ds:List D)(h:Hd):R Itm:=match ds with
 | [.int i, .int j]=>if B62 i/\B62 j then .ok ⟨rng i (j - i).toNat,λ_=>True⟩ h else .no
 | _=>.no
def sRg(g:List D->Hd->R Itm)(k:SA):SI:=λτ h=>(k τ h).bind g
theorem aje{K:PySem.W.Frag}{ι0:List Addr}{H0:Hp}(lo:Int)(n:Nat):ajc K ι0 H0 (Itr lo n) ⟨rng lo n,λ_=>True⟩:=by
 intro ι H h g hr _
 refine ⟨λi d ed=>?_,by show n<=(rng lo n).length;simp [rng]⟩
 simp only [rng,List.getElem?_map,Option.map_eq_some_iff] at ed;obtain ⟨j,ej,rfl⟩:=ed;obtain ⟨hj,e⟩:=List.getElem?_eq_some_iff.mp ej;simp at e hj;subst e;refine ⟨hj,λy H' q=>?_⟩;obtain ⟨rfl,rfl⟩:=q;exact ⟨.refl _ _, .int _,hr⟩
theorem a2f{X:Cx}{E:XD}{tg a:Expr}{k:SA}{p pos:Pos}(hg:Gl X "range")(hm:X.mg "range" = none)(ha:MA X E [a] k)(hs:starEach [a] X.env=[(false,eval a X.env)]:=by rfl):MI X E tg (.Call (.Name "range" p) [a] [] pos) (sRg zy k):=by
 intro pins s σ H Rr I ⟨ι,τ,h,S,Rh,o⟩
 refine a9x hg hm ha hs pins s σ H Rr I ⟨ι,τ,h,S,Rh,fj o λds h1 ι1 H1 vs g1 r1 hr1 o1=>?_⟩;unfold zy at o1
 split at o1
 ·rename_i j
  cases r1 with
  | cons r rs =>
   cases r;cases rs
   by_cases hb:B62 j
   ·rw [if_pos hb] at o1;exact ⟨j,rfl,hb.1,hb.2,o1 ι1 H1 _ (.refl _ _) (aje 0 j.toNat) hr1⟩
   ·rw [if_neg hb] at o1;exact o1.elim
 ·exact o1.elim
open Classical in
noncomputable def forL(ck:Hd->Prop)(g:SG)(b:SS):List D->Sd->Hd->Fl
 | [],τ,h=>if ck h then .nx τ h else .no
 | x::xs,τ,h=>if ck h then (match g x τ h with
   | .nx τ1 h1=>(match b τ1 h1 with
    | .nx τ2 h2=>forL ck g b xs τ2 h2
    | .ct τ2 h2=>forL ck g b xs τ2 h2
    | .bk τ2 h2=>.nx τ2 h2
    | r=>r)
   | _=>.no) else .no
noncomputable def acx(f:SI)(g:SG)(b:SS):SS:=λτ h=>(f τ h).fl λit h1=>forL it.ck g b it.xs τ h1
theorem agj{K:PySem.W.Frag}{E:XD}{ι0:List Addr}{H0:Hp}{J:It}{it:Itm}{g:SG}{b:SS}{N:Ends}{σ0:St}{τ0:Sd}{h0:Hd}(ir:ajc K ι0 H0 J it)(S:SRep K ι0 H0 σ0 τ0)(Rh:HRep K ι0 H0 h0)(o:ac1 K E ι0 H0 (forL it.ck g b it.xs τ0 h0) N) :
  ∃ W:Nat->Nat->St->Hp->Prop,(∃ m,W 0 m σ0 H0)/\∀ i m σ H,W i m σ H->
   (J.stop i H/\N.nx σ H)\/(J.go i H/\∃ M:St->Hp->Prop,(∀ σ' H',M σ' H'->∃ m',m'<m/\W (i+1) m' σ' H')/\∀ x H',J.yld i H x H'->agf K E g x σ H' λσ2 H2=>a77 K E b { N with nx:=M,ct:=M,bk:=N.nx } σ2 H2):=by
 refine ⟨λi m σ H=>m=it.xs.length - i/\i<=it.xs.length/\∃ ι τ h,Gr ι0 H0 ι H/\SRep K ι H σ τ/\HRep K ι H h/\ac1 K E ι H (forL it.ck g b (it.xs.drop i) τ h) N,⟨_,rfl,Nat.zero_le _,ι0,τ0,h0, .refl _ _,S,Rh,o⟩,?_⟩
 rintro i m σ H ⟨rfl,hi,ι,τ,h,g0,S,Rh,o⟩
 by_cases hlt:i<it.xs.length
 ·rw [List.drop_eq_getElem_cons hlt,forL] at o
  by_cases hc:it.ck h
  ·rw [if_pos hc] at o;obtain ⟨go,yl⟩:=(ir ι H h g0 Rh hc).1 i _ (List.getElem?_eq_getElem hlt);refine .inr ⟨go,λσ' H'=>it.xs.length - (i+1)<it.xs.length - i/\∃ ι τ h,Gr ι0 H0 ι H'/\SRep K ι H' σ' τ/\HRep K ι H' h/\ac1 K E ι H' (forL it.ck g b (it.xs.drop (i+1)) τ h) N,λσ' H' q=>⟨_,q.1,rfl,hlt,q.2⟩,λx H' y=>?_⟩;obtain ⟨g1,r1,hr1⟩:=yl x H' y;refine ⟨ι,τ,h,_,r1,S.mono g1,hr1,?_⟩;have o':=uq o g1
   cases hg:g it.xs[i] τ h with
   | nx τ1 h1 =>
    rw [hg] at o';dsimp only at o'
    intro ι2 H2 σ2 g2 S2 R2
    refine ⟨ι2,τ1,h1,S2,R2,?_⟩;have o2:=uq o' g2;have gg:=(g0.trans g1).trans g2
    cases hb:b τ1 h1 with
    | nx τ2 h2=>rw [hb] at o2;exact λι3 H3 σ3 g3 S3 R3=>⟨by omega,ι3,τ2,h2,gg.trans g3,S3,R3,uq o2 g3⟩
    | ct τ2 h2=>rw [hb] at o2;exact λι3 H3 σ3 g3 S3 R3=>⟨by omega,ι3,τ2,h2,gg.trans g3,S3,R3,uq o2 g3⟩
    | bk τ2 h2=>rw [hb] at o2;exact o2
    | rt d h2=>rw [hb] at o2;exact o2
    | ex c h2=>rw [hb] at o2;exact o2
    | no=>rw [hb] at o2;exact o2.elim
   | _=>rw [hg] at o';exact o'.elim
  ·rw [if_neg hc] at o;exact o.elim
 ·have e:i=it.xs.length:=by omega
  subst e;rw [List.drop_eq_nil_of_le (Nat.le_refl _),forL] at o
  by_cases hc:it.ck h
  ·rw [if_pos hc] at o;exact .inl ⟨(ir ι H h g0 Rh hc).2,o ι H σ (.refl _ _) S Rh⟩
  ·rw [if_neg hc] at o;exact o.elim
theorem a80{X:Cx}{E:XD}{tg iter:Expr}{body:List Stmt}{f:SI}{g:SG}{b:SS}{pos:Pos}(hp:PassesOwn (model X.prog X.w) X.A X.env X.xe)(hc:X.calm=true)(hi:MI X E tg iter f)(hg:MG X E tg g)(hb:MSs X E body b)(hs:∀ x,foldedSetIterable iter X.env x=pure x:=by intro _;rfl):MS X E (.For tg iter body [] pos) (acx f g b):=by
 refine PS.weak (ain hp hc hi hg hb hs) λN σ H ⟨ι,τ,h,S,Rh,o⟩=>?_;exact ⟨ι,τ,h,S,Rh,a03 o λit h1 ι1 H1 J g1 r1 hr1 o1=>agj r1 (S.mono g1) hr1 o1⟩
end MI
namespace MI
open PySem PySem.Spec L2
open Classical in
noncomputable def mapR(ck:Hd->Prop)(f:D->Hd->R D):List D->Hd->R (List D)
 | [],h=>if ck h then .ok [] h else .no
 | x::xs,h=>if ck h then (f x h).bind λy h1=>(mapR ck f xs h1).bind λys h2=>.ok (y::ys) h2 else .no
def frs'(ix:List Nat)(τ:Sd):Sd:=ix.map λi=>(τ[i]?).join
def t1(d:D):Option Sd:=some [some d]
def tN(n:Nat)(d:D):Option Sd:=match d with | .tup ds=>if ds.length=n then some (ds.map some) else none | _=>none
def a2g(t:D->Option Sd)(fe:SE)(rest:Sd)(x:D)(h:Hd):R D:=match t x with | some ts=>fe (ts++rest) h | none=>.no
def agk(yd zs:List D)(h:Hd):R D:=.ok (.ref h.length) (h++[.lst (yd++zs)])
theorem ajf(r:R D)(m:Hd->R (List D))(yd:List D):(r.bind λy h1=>(m h1).bind λys h2=>.ok (y::ys) h2).bind (agk yd)=r.bind λy h1=>(m h1).bind (agk (yd++[y])):=by
 cases r with
 | ok y h1 =>
  show ((m h1).bind _).bind _=(m h1).bind _
  cases m h1 with
  | ok ys h2=>simp [R.bind,agk]
  | _=>rfl
 | _=>rfl
noncomputable def xj(fi:SI)(t:D->Option Sd)(fe:SE)(ix:List Nat):SE:=λτ h=>(fi τ h).bind λit h1=>if it.xs.length<=LINE then (mapR it.ck (a2g t fe (frs' ix τ)) it.xs h1).bind (agk []) else .no
def ahx(K:PySem.W.Frag)(n:Nat)(g:TG)(t:D->Option Sd):Prop:=∀ ι H v d ts (r:St) (Q:St->Hp->Prop),Rep K ι H v d->t d=some ts->(∀ us:St,us.length=n->SRep K ι H us ts->Q (us++r) H)->g v (List.replicate n none++r) H Q
theorem a4d{K:PySem.W.Frag}{ι:List Addr}{H:Hp}:SRep K ι H [] []:=⟨rfl,λi d e=>by simp at e⟩
theorem a07{K:PySem.W.Frag}{ι:List Addr}{H:Hp}{v:V}{d:D}{σ:St}{τ:Sd}(r:Rep K ι H v d)(s:SRep K ι H σ τ):SRep K ι H (some v::σ) (some d::τ):=by
 refine ⟨by simp [s.len],λi d' e=>?_⟩
 cases i with
 | zero=>simp at e;subst e;exact ⟨v,rfl,r⟩
 | succ i=>simpa using s.val i d' (by simpa using e)
theorem a81{K:PySem.W.Frag}{ι:List Addr}{H:Hp}{σ σ':St}{τ τ':Sd}(s:SRep K ι H σ τ)(s':SRep K ι H σ' τ'):SRep K ι H (σ++σ') (τ++τ'):=by
 refine ⟨by simp [s.len,s'.len],λi d e=>?_⟩
 by_cases hi:i<τ.length
 ·rw [List.getElem?_append_left hi] at e;rw [List.getElem?_append_left (by rw [s.len];exact hi)]
  exact s.val i d e
 ·rw [List.getElem?_append_right (by omega)] at e
  rw [List.getElem?_append_right (by rw [s.len];omega),s.len]
  exact s'.val _ d e
theorem a82{K:PySem.W.Frag}{ι:List Addr}{H:Hp}{σ:St}{τ:Sd}(s:SRep K ι H σ τ)(ix:List Nat):SRep K ι H (ix.map λi=>(σ[i]?).join) (frs' ix τ):=by
 refine ⟨by simp [frs'],λj d e=>?_⟩
 simp only [frs',List.getElem?_map,Option.map_eq_some_iff] at e;obtain ⟨i,hi,e⟩:=e;have:τ[i]? = some (some d):=by
  cases q:τ[i]? with
  | none=>rw [q] at e;cases e
  | some o=>rw [q] at e;simp at e;rw [e]
 obtain ⟨v,h1,h2⟩:=s.val i d this;exact ⟨v,by simp [hi,h1],h2⟩
theorem a69{K:PySem.W.Frag}:ahx K 1 (a6y 0) t1:=λι H v d ts r Q hr e q=>by
 cases e
 exact q [some v] rfl (a07 hr a4d)
theorem ajg{K:PySem.W.Frag}:ahx K 2 (L2.qb K 2 (acd (a6y 0) (acd (a6y 1) anh))) (tN 2):=λι H v d ts r Q hr e q=>by
 unfold tN at e
 cases hr with
 | @tup a vs xs h rs =>
  simp only at e
  split at e
  ·rename_i hl;cases e
   match xs,hl,rs with
   | [_,_],_, .cons r1 (.cons r2 .nil)=>exact ⟨a,_,rfl,SqT.of h,rfl,_,_,rfl,_,_,rfl,rfl,q [some _,some _] rfl (a07 r1 (a07 r2 a4d))⟩
  ·cases e
 | _=>cases e
theorem agl{n:Nat}{us r:St}(h:us.length=n):L2.Ext (List.replicate n none++r) (us++r):=by
 refine ⟨by simp [h],λi v e=>?_⟩
 by_cases hi:i<n
 ·rw [List.getElem?_append_left (by simpa using hi),List.getElem?_replicate,if_pos hi] at e
  cases e
 ·rw [List.getElem?_append_right (by simpa using hi),List.length_replicate] at e
  rw [List.getElem?_append_right (by omega),h]
  exact e
theorem a83{K:PySem.W.Frag}{E:XD}{ι0:List Addr}{H0:Hp}{J:It}{it:Itm}{g:TG}{t:D->Option Sd}{fe:SE}{n:Nat}{r:St}{rd:Sd}{h0:Hd}{Q:VK}(ir:ajc K ι0 H0 J it)(tg:ahx K n g t)(S:SRep K ι0 H0 r rd)(Rh:HRep K ι0 H0 h0)(hl:it.xs.length<=LINE)
  (o:out K E (yu K) ι0 H0 ((mapR it.ck (a2g t fe rd) it.xs h0).bind (agk [])) Q):aj8 J (List.replicate n none++r) g (lift K E (yu K) fe) Q H0:=by
 refine ⟨λi m ys H=>m=it.xs.length - i/\i<=it.xs.length/\ys.length<=i/\∃ ι h yd,Gr ι0 H0 ι H/\HRep K ι H h/\Reps K ι H ys yd/\out K E (yu K) ι H ((mapR it.ck (a2g t fe rd) (it.xs.drop i) h).bind (agk yd)) Q,
  ⟨_,rfl,Nat.zero_le _,Nat.zero_le _,ι0,h0,[], .refl _ _,Rh, .nil,o⟩,?_⟩
 rintro i m ys H ⟨rfl,hi,hy,ι,h,yd,g0,Rh,ry,o⟩
 by_cases hlt:i<it.xs.length
 ·rw [List.drop_eq_getElem_cons hlt,mapR] at o
  by_cases hc:it.ck h
  ·rw [if_pos hc,ajf] at o;obtain ⟨go,yl⟩:=(ir ι H h g0 Rh hc).1 i _ (List.getElem?_eq_getElem hlt);refine .inr ⟨go,Nat.lt_of_le_of_lt hy (Nat.lt_of_lt_of_le hlt (ll hl)),λx H' y=>?_⟩;obtain ⟨g1,r1,hr1⟩:=yl x H' y;have o':=a7y o g1
   cases ht:t it.xs[i] with
   | none=>simp only [a2g,ht] at o';exact o'.elim
   | some ts =>
    simp only [a2g,ht] at o';refine tg ι H' x _ ts r _ r1 ht λus hus su=>⟨agl hus,ι,ts++rd,h,a81 su (S.mono (g0.trans g1)),hr1,fj o' λd2 h2 ι2 H2 u g2 r2 hr2 o2=>?_⟩;refine ⟨it.xs.length - (i+1),by omega,rfl,hlt,by simp;omega,ι2,h2,yd++[d2],(g0.trans g1).trans g2,hr2,((ry.mono g1).mono g2).snoc r2,o2⟩
  ·rw [if_neg hc] at o;exact o.elim
 ·have e:i=it.xs.length:=by omega
  subst e;rw [List.drop_eq_nil_of_le (Nat.le_refl _),mapR] at o
  by_cases hc:it.ck h
  ·rw [if_pos hc] at o;refine .inl ⟨(ir ι H h g0 Rh hc).2,ut (E:=E) ry Rh ?_⟩;simpa [R.bind,agk] using o
  ·rw [if_neg hc] at o;exact o.elim
section
variable{X:Cx}{E:XD}{elt tg iter cnd:Expr}{scope:Scope}{pos:Pos}{cl:List (Str × Addr)}{ts fr:List Str}{ix:List Nat}{fi:SI}{g:TG}{t:D->Option Sd}{fe:SE}{fc:ST}
theorem a2h(hc:X.calm=true)(S:CSc X scope cl ts fr ix)(hi:MI X E tg iter fi)(hg:∀ C fp s H,PG (cxC X (ts++fr) scope cl C fp s H) tg g)(ht:ahx X.K ts.length g t)(he:∀ C fp s H,ME (cxC X (ts++fr) scope cl C fp s H) E elt fe)
  (hs:∀ x,foldedSetIterable iter X.env x=pure x:=by intro _;rfl):ME X E (.ListComp elt [⟨tg,iter,[],0⟩] scope pos) (xj fi t fe ix):=by
 refine PE.weak (acu (te:=lift X.K E (yu X.K) fe) hc S hi hg he hs) λσ H Q ⟨ι,τ,h,Sr,Rh,o⟩=>?_;refine ⟨ι,τ,h,Sr,Rh,fj o λit h1 ι1 H1 J g1 r1 hr1 o1=>?_⟩
 by_cases hl:it.xs.length<=LINE
 ·rw [if_pos hl] at o1;exact a83 r1 ht (a82 (Sr.mono g1) ix) hr1 hl o1
 ·rw [if_neg hl] at o1;exact o1.elim
end
mutual
def clo(n:Nat):D->Prop
 | .tup xs=>clos n xs
 | .rol xs=>clos n xs
 | .rod _ xs=>clos n xs
 | .scr xs=>clos n xs
 | .rdT _ xs=>clos n xs
 | .ref i=>i<n
 | _=>True
def clos(n:Nat):List D->Prop
 | []=>True
 | x::xs=>clo n x/\clos n xs
end
mutual
theorem Rep.clo{K:PySem.W.Frag}{ι:List Addr}{H:Hp}:∀ {v:V} {d:D},Rep K ι H v d->clo ι.length d
 | _,_, .non=>by simp [MI.clo]
 | _,_, .bl b=>by simp [MI.clo]
 | _,_, .int i=>by simp [MI.clo]
 | _,_, .str x=>by simp [MI.clo]
 | _,_, .ty n=>by simp [MI.clo]
 | _,_, .tup h r=>by simp only [MI.clo];exact Reps.clo r
 | _,_, .rol h r=>by simp only [MI.clo];exact Reps.clo r
 | _,_, .ref h=>by simp only [MI.clo];exact (List.getElem?_eq_some_iff.mp h).1
 | _,_, .rod h e r=>by simp only [MI.clo];exact Reps.clo r
 | _,_, .scr h r=>by simp only [MI.clo];exact Reps.clo r
 | _,_, .rdT h e r=>by simp only [MI.clo];exact Reps.clo r
 | _,_, .exc h hc hn=>by simp [MI.clo]
theorem Reps.clo{K:PySem.W.Frag}{ι:List Addr}{H:Hp}:∀ {vs:List V} {ds:List D},Reps K ι H vs ds->clos ι.length ds
 | _,_, .nil=>by simp [MI.clos]
 | _,_, .cons r rs=>by simp only [MI.clos];exact ⟨Rep.clo r,Reps.clo rs⟩
end
mutual
theorem Rep.cut{K:PySem.W.Frag}{ι:List Addr}{H:Hp}{n:Nat}:∀ {v:V} {d:D},Rep K ι H v d->clo n d->Rep K (ι.take n) H v d
 | _,_, .non,_=>.non
 | _,_, .bl b,_=>.bl b
 | _,_, .int i,_=>.int i
 | _,_, .str x,_=>.str x
 | _,_, .ty n,_=>.ty n
 | _,_, .tup h r,c=>.tup h (Reps.cut r (by simpa only [MI.clo] using c))
 | _,_, .rol h r,c=>.rol h (Reps.cut r (by simpa only [MI.clo] using c))
 | _,_, .ref h,c=>.ref (by simp only [MI.clo] at c;rw [List.getElem?_take,if_pos c];exact h)
 | _,_, .rod h e r,c=>.rod h e (Reps.cut r (by simpa only [MI.clo] using c))
 | _,_, .scr h r,c=>.scr h (Reps.cut r (by simpa only [MI.clo] using c))
 | _,_, .rdT h e r,c=>.rdT h e (Reps.cut r (by simpa only [MI.clo] using c))
 | _,_, .exc h hc hn,_=>.exc h hc hn
theorem Reps.cut{K:PySem.W.Frag}{ι:List Addr}{H:Hp}{n:Nat}:∀ {vs:List V} {ds:List D},Reps K ι H vs ds->clos n ds->Reps K (ι.take n) H vs ds
 | _,_, .nil,_=>.nil
 | _,_, .cons r rs,c=>by simp only [MI.clos] at c;exact .cons (Rep.cut r c.1) (Reps.cut rs c.2)
end
def qp(n:Nat):O->Prop
 | .lst xs=>clos n xs
 | .dK kvs=>clos n (kvs.map (·.2))
 | .dT kvs=>clos n (kvs.map (·.2))
def ajh(n:Nat)(h:Hd):Prop:=∀ o∈h,qp n o
theorem ORep.clo{K:PySem.W.Frag}{ι:List Addr}{H:Hp}{a:Addr}{o:O}(r:ORep K ι H a o):qp ι.length o:=by
 cases o with
 | lst xs=>obtain ⟨vs,_,r⟩:=r;exact r.clo
 | dK kvs=>obtain ⟨us,_,_,r⟩:=r;exact r.clo
 | dT kvs=>obtain ⟨us,_,_,r⟩:=r;exact r.clo
theorem ORep.cut{K:PySem.W.Frag}{ι:List Addr}{H:Hp}{a:Addr}{o:O}{n:Nat}(r:ORep K ι H a o)(c:qp n o):ORep K (ι.take n) H a o:=by
 cases o with
 | lst xs=>obtain ⟨vs,h,r⟩:=r;exact ⟨vs,h,r.cut c⟩
 | dK kvs=>obtain ⟨us,h,e,r⟩:=r;exact ⟨us,h,e,r.cut c⟩
 | dT kvs=>obtain ⟨us,h,e,r⟩:=r;exact ⟨us,h,e,r.cut c⟩
theorem HRep.clo{K:PySem.W.Frag}{ι:List Addr}{H:Hp}{h:Hd}(r:HRep K ι H h):ajh h.length h:=λo ho=>by
 obtain ⟨i,hi⟩:=List.getElem?_of_mem ho;obtain ⟨a,_,q⟩:=r.addr hi;rw [<-r.len];exact q.clo
theorem HRep.cut{K:PySem.W.Frag}{ι:List Addr}{H:Hp}{h g:Hd}(r:HRep K ι H (h++g))(c:ajh h.length h):HRep K (ι.take h.length) H h:=by
 refine ⟨r.nd.sublist (List.take_sublist _ _),?_,λi a o e1 e2=>?_⟩
 ·have:=r.len
  rw [List.length_append] at this;rw [List.length_take];omega
 ·have hi:i<h.length:=(List.getElem?_eq_some_iff.mp e2).1;rw [List.getElem?_take,if_pos hi] at e1;exact (r.obj i a o e1 (by rw [List.getElem?_append_left hi];exact e2)).cut (c o (List.mem_of_getElem? e2))
def X0:XD:=λ_ _ _ _=>False
abbrev SF:=List D->Hd->R D
def nj(K:PySem.W.Frag)(n:Nat)(F:SF):Sp:=λvs H Q _=>vs.length=n/\∃ ι ds h,Reps K ι H vs ds/\HRep K ι H h/\out K X0 (yu K) ι H (F ds h) Q
def a08(n:Nat)(ds:List D):Sd:=ds.map some++List.replicate (n - ds.length) none
def ou(b:SS)(n:Nat)(ds:List D)(h:Hd):R D:=match b (a08 n ds) h with
 | .rt d h1=>.ok d h1
 | .nx _ h1=>.ok .non h1
 | .ex c h1=>.ex c h1
 | _=>.no
def Rf(n:Nat)(r' r:R D):Prop:=match r with
 | .no=>True
 | .ok d h1=>∃ g,r' = .ok d (h1++g)/\(g=[]\/(n<=h1.length/\clo h1.length d/\ajh h1.length h1))
 | .ex c h1=>∃ g,r' = .ex c (h1++g)/\(g=[]\/(n<=h1.length/\ajh h1.length h1))
theorem Rf.same{n:Nat}{r' r:R D}(h:r'=r):Rf n r' r:=by
 subst h
 cases r' with
 | ok d h1=>exact ⟨[],by simp, .inl rfl⟩
 | ex c h1=>exact ⟨[],by simp, .inl rfl⟩
 | no=>exact True.intro
theorem a98{K:PySem.W.Frag}{ι:List Addr}{H:Hp}{vs:List V}{ds:List D}{N:List Str}(r:Reps K ι H vs ds):SRep K ι H (start N vs) (a08 N.length ds):=by
 refine a81 ?_ ?_
 ·clear N
  induction r using Reps.rec (motive_1:=λ_ _ _=>True) with
  | nil=>exact a4d
  | cons r rs _ ih=>exact a07 r ih
  | _=>trivial
 ·rw [r.len];exact ⟨by simp,λi d e=>by rw [List.getElem?_replicate] at e;split at e<;>cases e⟩
theorem aet{ι ι':List Addr}{H H':Hp}{n:Nat}(g:Gr ι H ι' H')(hn:ι.length<=n):Gr ι H (ι'.take n) H':=by
 obtain ⟨m,rfl,hm⟩:=g.pre;exact ⟨⟨m.take (n - ι.length),by rw [List.take_append,List.take_of_length_le hn],λa ha=>hm a (List.mem_of_mem_take ha)⟩,g.tup,g.frz,g.oth,g.kp⟩
section
variable{P:Program}{w:World}{K:PySem.W.Frag}{mg:Str->Option Value}{base:Heap}
theorem aji{x qual:Str}{st:Stmt}{f:Addr}{fd:FuncData}{N ps:List Str}{k:Nat}{b:SS}{F:SF}(Fu:Fun K x qual st f fd)(S:FnScope N ps (bc st))
  (hb:∀ (cdv:Value) (A:Around) (outer:List Env) (s:Shared) (H:Hp) (E:XK),Room k (A.deeper (PyProof.Rows.envOfC qual (bc st) s.heap.objs.size f cdv))->MSs (zr CX0 P w K mg base N qual (bc st) f cdv A outer s H E).nox X0 (jd st) b)
  (hF:∀ ds h,ds.length=ps.length->clos h.length ds->ajh h.length h->Rf h.length (ou b N.length ds h) (F ds h)):FnOk P w K mg base CX0 (k+1) f fd ps (nj K ps.length F):=by
 refine Fu.ok S (λvs H Q E h=>h.1) λcdv A outer s H vs Q E hr h=>⟨_,hb cdv A outer s H E hr,?_⟩;obtain ⟨hl,ι,ds,h,r,hr',o⟩:=h;refine ⟨ι,a08 N.length ds,h,a98 r,hr',?_⟩;have q:=hF ds h (by rw [<-r.len];exact hl) (by rw [<-hr'.len];exact r.clo) hr'.clo
 unfold ou at q
 cases hFd:F ds h with
 | no=>rw [hFd] at o;exact o.elim
 | ex c h1 =>
  rw [hFd] at q o;obtain ⟨g,e,cl⟩:=q;have fin:∀ ι' H',Gr ι H ι' H'->HRep K ι' H' (h1++g)->X0 c ι' H' (h1++g):=λι' H' g1 hr1=>by
   rcases cl with rfl | ⟨hn,c2⟩
   ·rw [List.append_nil] at hr1;exact o ι' H' g1 hr1
   ·exact o (ι'.take h1.length) H' (aet g1 (by rw [hr'.len];exact hn)) (hr1.cut c2)
  cases hbd:b (a08 N.length ds) h with
  | ex c' h' =>
   rw [hbd] at e
   injection e with e1 e2
   subst e1 e2;exact fin
  | _=>rw [hbd] at e;cases e
 | ok d h1 =>
  rw [hFd] at q o;obtain ⟨g,e,cl⟩:=q;have fin:∀ ι' H' v,Gr ι H ι' H'->Rep K ι' H' v d->HRep K ι' H' (h1++g)->Q v H':=λι' H' v g1 r1 hr1=>by
   rcases cl with rfl | ⟨hn,c1,c2⟩
   ·rw [List.append_nil] at hr1;exact o ι' H' v g1 r1 hr1
   ·exact o (ι'.take h1.length) H' v (aet g1 (by rw [hr'.len];exact hn)) (r1.cut c1) (hr1.cut c2)
  cases hbd:b (a08 N.length ds) h with
  | rt d' h' =>
   rw [hbd] at e
   injection e with e1 e2
   subst e1 e2;exact fin
  | nx τ' h' =>
   rw [hbd] at e
   injection e with e1 e2
   subst e1 e2;exact λι' H' σ' g1 S1 hr1=>fin ι' H' .non g1 .non hr1
  | _=>rw [hbd] at e;cases e
end
section
variable{K:PySem.W.Frag}{E:XD}{ι:List Addr}{H:Hp}{h:Hd}{Q:VK}
theorem ans{d:D}{v:V}(o:out K E (yu K) ι H (.ok d h) Q)(r:Rep K ι H v d)(hr:HRep K ι H h):Q v H:=o ι H v (.refl _ _) r hr
theorem HRep.lst(hr:HRep K ι H h){i:Nat}{a:Addr}{xs:List D}(e:ι[i]? = some a)(hi:h[i]? = some (.lst xs)):∃ vs,H a=some (.lst vs)/\Reps K ι H vs xs:=hr.obj i a _ e hi
end
def a3d:D->D->Hd->R D
 | .int i, .int j,h=>.ok (.int (i - j)) h
 | _,_,_=>.no
def a78:D->D->Hd->R D
 | .int i, .int j,h=>if 0<j then .ok (.int (i % j)) h else .no
 | _,_,_=>.no
def aao:D->D->Hd->R D
 | .int i, .int j,h=>if 0<j/\j<1073741824 then .ok (.int (i / j)) h else .no
 | _,_,_=>.no
def aap:D->D->Hd->R D
 | .int i, .int j,h=>if 0<=j/\j<=1000000/\i.natAbs<2 ^ 64 then .ok (.int (i ^ j.toNat)) h else .no
 | _,_,_=>.no
section
variable{X:Cx}{K:PySem.W.Frag}
theorem agm:a0m K a3d (rI0 λi j=>.int (i - j)):=by
 intro E ι H h x y dx dy Q rx ry hr o
 cases rx with
 | int i =>
  cases ry with
  | int j=>exact ⟨i,j,rfl,rfl,ans o (.int _) hr⟩
  | _=>exact o.elim
 | _=>exact o.elim
theorem agn:a0m K a78 (rI (λ_ j=>0<j) λi j=>.int (i % j)):=by
 intro E ι H h x y dx dy Q rx ry hr o
 cases rx with
 | int i =>
  cases ry with
  | int j =>
   by_cases hc:0<j
   ·simp only [a78,if_pos hc] at o;exact ⟨i,j,rfl,rfl,hc,ans o (.int _) hr⟩
   ·simp only [a78,if_neg hc] at o;exact o.elim
  | _=>exact o.elim
 | _=>exact o.elim
theorem ago:a0m K aao (rI anj λi j=>.int (i / j)):=by
 intro E ι H h x y dx dy Q rx ry hr o
 cases rx with
 | int i =>
  cases ry with
  | int j =>
   by_cases hc:0<j/\j<1073741824
   ·simp only [aao,if_pos hc] at o;exact ⟨i,j,rfl,rfl,hc,ans o (.int _) hr⟩
   ·simp only [aao,if_neg hc] at o;exact o.elim
  | _=>exact o.elim
 | _=>exact o.elim
theorem agp:a0m K aap (rI ank λi j=>.int (i ^ j.toNat)):=by
 intro E ι H h x y dx dy Q rx ry hr o
 cases rx with
 | int i =>
  cases ry with
  | int j =>
   by_cases hc:0<=j/\j<=1000000/\i.natAbs<2 ^ 64
   ·simp only [aap,if_pos hc] at o;exact ⟨i,j,rfl,rfl,hc,ans o (.int _) hr⟩
   ·simp only [aap,if_neg hc] at o;exact o.elim
  | _=>exact o.elim
 | _=>exact o.elim
variable{E:XD}{a b e:Expr}{es:List Expr}{fa fb:SE}{ka:SA}{pos:Pos}
theorem a1g(ha:ME X E a fa)(hb:ME X E b fb):ME X E (.BinOp a .Sub b pos) (s2 a3d fa fb):=a95 aip agm ha hb
theorem a2i(ha:ME X E a fa)(hb:ME X E b fb):ME X E (.BinOp a .Mod b pos) (s2 a78 fa fb):=a95 air agn ha hb
theorem aaq(ha:ME X E a fa)(hb:ME X E b fb):ME X E (.BinOp a .FloorDiv b pos) (s2 aao fa fb):=a95 afr ago ha hb
theorem aeu(ha:ME X E a fa)(hb:ME X E b fb):ME X E (.BinOp a .Pow b pos) (s2 aap fa fb):=a95 ais agp ha hb
def a9r:D->Hd->R D
 | .int i,h=>.ok (.int (-i)) h
 | _,_=>.no
theorem aar(ha:ME X E a fa):ME X E (.UnaryOp .USub a pos) (s1 a9r fa):=ams ait (λE ι H h x dx Q rx hr o=>by
 cases rx with
 | int i=>exact ⟨i,rfl,ans o (.int _) hr⟩
 | _=>exact o.elim) ha
def gLt:D->D->Hd->R D
 | .int i, .int j,h=>.ok (.bl (decide (i<j))) h
 | .str i, .str j,h=>.ok (.bl (decide (i.cps.toList<j.cps.toList))) h
 | _,_,_=>.no
def gLe:D->D->Hd->R D
 | .int i, .int j,h=>.ok (.bl (decide (i<=j))) h
 | .str i, .str j,h=>.ok (.bl (!decide (j.cps.toList<i.cps.toList))) h
 | _,_,_=>.no
def gGt:D->D->Hd->R D
 | .int i, .int j,h=>.ok (.bl (decide (j<i))) h
 | _,_,_=>.no
def gGe:D->D->Hd->R D
 | .int i, .int j,h=>.ok (.bl (decide (j<=i))) h
 | _,_,_=>.no
theorem zm:a0m K gLt (λx y H Q=>rI0 (λi j=>.bl (decide (i<j))) x y H Q\/∃ i j,x = .str i/\y = .str j/\Q (.bl (decide (i.cps.toList<j.cps.toList))) H):=by
 intro E ι H h x y dx dy Q rx ry hr o
 cases rx with
 | int i =>
  cases ry with
  | int j=>exact .inl ⟨i,j,rfl,rfl,ans o (.bl _) hr⟩
  | _=>exact o.elim
 | str i =>
  cases ry with
  | str j=>exact .inr ⟨i,j,rfl,rfl,ans o (.bl _) hr⟩
  | _=>exact o.elim
 | _=>exact o.elim
theorem a09:a0m K gLe (λx y H Q=>rI0 (λi j=>.bl (decide (i<=j))) x y H Q\/∃ i j,x = .str i/\y = .str j/\Q (.bl (!decide (j.cps.toList<i.cps.toList))) H):=by
 intro E ι H h x y dx dy Q rx ry hr o
 cases rx with
 | int i =>
  cases ry with
  | int j=>exact .inl ⟨i,j,rfl,rfl,ans o (.bl _) hr⟩
  | _=>exact o.elim
 | str i =>
  cases ry with
  | str j=>exact .inr ⟨i,j,rfl,rfl,ans o (.bl _) hr⟩
  | _=>exact o.elim
 | _=>exact o.elim
theorem aas:a0m K gGt (rI0 λi j=>.bl (decide (j<i))):=by
 intro E ι H h x y dx dy Q rx ry hr o
 cases rx with
 | int i =>
  cases ry with
  | int j=>exact ⟨i,j,rfl,rfl,ans o (.bl _) hr⟩
  | _=>exact o.elim
 | _=>exact o.elim
theorem ajj:a0m K gGe (rI0 λi j=>.bl (decide (j<=i))):=by
 intro E ι H h x y dx dy Q rx ry hr o
 cases rx with
 | int i =>
  cases ry with
  | int j=>exact ⟨i,j,rfl,rfl,ans o (.bl _) hr⟩
  | _=>exact o.elim
 | _=>exact o.elim
def a3f:D->Bool
 | .non=>true
 | _=>false
theorem a84{ι:List Addr}{H:Hp}{x:V}{d:D}(r:Rep K ι H x d):decide (x = .non)=a3f d:=by cases r<;>simp [a3f]
def gIs:D->D->Hd->R D
 | x, .non,h=>.ok (.bl (a3f x)) h
 | .bl i, .bl j,h=>.ok (.bl (i == j)) h
 | _,_,_=>.no
def a1h:D->D->Hd->R D
 | x, .non,h=>.ok (.bl (!a3f x)) h
 | .bl i, .bl j,h=>.ok (.bl (i != j)) h
 | _,_,_=>.no
theorem aev:a0m K gIs (λx y H Q=>(y = .non/\Q (.bl (decide (x = .non))) H)\/∃ i j,x = .bl i/\y = .bl j/\Q (.bl (i == j)) H):=by
 intro E ι H h x y dx dy Q rx ry hr o
 cases ry with
 | non=>exact .inl ⟨rfl,by rw [a84 rx];simp only [gIs] at o;exact ans o (.bl _) hr⟩
 | bl j =>
  cases rx with
  | bl i=>exact .inr ⟨i,j,rfl,rfl,ans o (.bl _) hr⟩
  | _=>exact o.elim
 | _=>cases rx<;>exact o.elim
theorem a0a:a0m K a1h (λx y H Q=>(y = .non/\Q (.bl (!decide (x = .non))) H)\/∃ i j,x = .bl i/\y = .bl j/\Q (.bl (i != j)) H):=by
 intro E ι H h x y dx dy Q rx ry hr o
 cases ry with
 | non=>exact .inl ⟨rfl,by rw [a84 rx];simp only [a1h] at o;exact ans o (.bl _) hr⟩
 | bl j =>
  cases rx with
  | bl i=>exact .inr ⟨i,j,rfl,rfl,ans o (.bl _) hr⟩
  | _=>exact o.elim
 | _=>cases rx<;>exact o.elim
def a00:D->Bool
 | .non=>true | .bl _=>true | .int _=>true | .str _=>true
 | _=>false
def eqF:D->D->Bool
 | .non, .non=>true
 | .bl i, .bl j=>i == j
 | .int i, .int j=>i == j
 | .str i, .str j=>i == j
 | .int i, .bl j=>i == (if j then 1 else 0)
 | .bl i, .int j=>(if i then 1 else 0) == j
 | _,_=>false
end
section
variable{X:Cx}{K:PySem.W.Frag}{E:XD}{a b e o:Expr}{es:List Expr}{fa fb:SE}{ka:SA}{pos:Pos}
def xm(d:D)(h:Hd):Option (List D):=match d with
 | .tup xs=>some xs
 | .rol xs=>some xs
 | .ref i=>match h[i]? with | some (.lst xs)=>some xs | _=>none
 | _=>none
def gIx(x y:D)(h:Hd):R D:=match y with
 | .int i=>(match x with
  | .str z=>if z.length<=LINE then (match atI z.cps.toList i with | some c=>.ok (.str ⟨#[c]⟩) h | none=>.no) else .no
  | x=>match xm x h with
   | some xs=>(match atI xs i with | some d=>.ok d h | none=>.no)
   | none=>.no)
 | _=>.no
theorem acy{ι:List Addr}{H:Hp}{vs:List V}{xs:List D}{i:Int}{d:D}(r:Reps K ι H vs xs)(e:atI xs i=some d):∃ v,atI vs i=some v/\Rep K ι H v d:=by
 unfold atI at e ⊢;rw [r.len]
 cases hx:ixN xs.length i with
 | none=>rw [hx] at e;cases e
 | some j=>rw [hx] at e;exact r.get e
theorem ajk:a0m K gIx (rIx K):=by
 intro E ι H h x y dx dy Q rx ry hr o
 cases ry with
 | int i =>
  have go:∀ {p:Addr} {vs:List V} {xs:List D},Reps K ι H vs xs->out K E (yu K) ι H (match atI xs i with | some d=>.ok d h | none=>.no) Q->∃ v,atI vs i=some v/\Q v H:=λ{p vs xs} r o=>by
   cases he:atI xs i with
   | none=>rw [he] at o;exact o.elim
   | some d =>
    rw [he] at o;obtain ⟨v,h1,h2⟩:=acy r he;exact ⟨v,h1,ans o h2 hr⟩
  cases rx with
  | str z =>
   by_cases hc:z.length<=LINE
   ·simp only [gIx,if_pos hc] at o
    cases he:atI z.cps.toList i with
    | none=>rw [he] at o;exact o.elim
    | some c=>rw [he] at o;exact .inr (.inr ⟨z,i,c,rfl,rfl,ll hc,he,ans o (.str _) hr⟩)
   ·simp only [gIx,if_neg hc] at o;exact o.elim
  | @tup p vs xs hp r =>
   simp only [gIx,xm] at o;obtain ⟨v,h1,h2⟩:=go (p:=p) r o;exact .inr (.inl ⟨p,vs,i,v,rfl,rfl,SqT.of hp,h1,h2⟩)
  | @rol p vs xs hp r =>
   simp only [gIx,xm] at o;obtain ⟨v,h1,h2⟩:=go (p:=p) r o;exact .inl ⟨p,vs,i,v,rfl,rfl,hp.l,h1,h2⟩
  | @ref p j hp =>
   obtain ⟨ob,e1,e2⟩:=hr.at hp
   cases ob with
   | lst xs =>
    simp only [gIx,xm,e1] at o;obtain ⟨vs,h3,h4⟩:=e2;obtain ⟨v,h1,h2⟩:=go (p:=p) h4 o;exact .inl ⟨p,vs,i,v,rfl,rfl,SqL.of h3,h1,h2⟩
   | dK _=>simp only [gIx,xm,e1] at o;exact o.elim
   | dT _=>simp only [gIx,xm,e1] at o;exact o.elim
  | _=>exact o.elim
 | _=>exact o.elim
theorem az(ha:ME X E a fa)(hb:ME X E b fb)(hp:a71 b):ME X E (.Subscript a b pos) (s2 gIx fa fb):=amt aj1 ajk ha hb hp
abbrev SO:=Sd->Hd->R (Option Int)
abbrev MO(X:Cx)(E:XD)(e:Option Expr)(f:SO):Prop:=PO X e (lift X.K E aor f)
def oN:SO:=λ_ h=>.ok none h
def oS(f:SE):SO:=λτ h=>(f τ h).bind λd h1=>match d with | .int i=>.ok (some i) h1 | _=>.no
theorem PO.weak{e:Option Expr}{t t':St->Hp->(Option Int->Hp->Prop)->Prop}(h:PO X e t)(i:∀ σ H Q,t' σ H Q->t σ H Q):PO X e t':=λpins s σ H Q I q=>h pins s σ H Q I (i _ _ _ q)
theorem ql:MO X E none oN:=PO.weak ag0 λσ H Q ⟨ι,τ,h,S,Rh,o⟩=>o ι H none (.refl _ _) rfl Rh
theorem p6(he:ME X E e fa):MO X E (some e) (oS fa):=by
 refine PO.weak (ag1 he) λσ H Q ⟨ι,τ,h,S,Rh,o⟩=>?_;refine ⟨ι,τ,h,S,Rh,fj o λd h1 ι1 H1 v g1 r1 hr1 o1=>?_⟩
 cases r1 with
 | int i=>exact ⟨i,rfl,o1 ι1 H1 _ (.refl _ _) rfl hr1⟩
 | _=>exact o1.elim
def whole(n:Nat)(lo hi:Option Int):Prop:=HT.sIx n 0 lo=0/\HT.sIx n n hi=n
instance (n:Nat) (lo hi:Option Int):Decidable (whole n lo hi):=by unfold whole;exact inferInstance
def gSl(d:D)(lo hi:Option Int)(h:Hd):R D:=match d with
 | .str z=>if z.length<=LINE then .ok (.str ⟨(a1n z.cps.toList lo hi).toArray⟩) h else .no
 | .tup xs=>if ¬ whole xs.length lo hi then .ok (.tup (a1n xs lo hi)) h else .no
 | .rol xs=>.ok (.ref h.length) (h++[.lst (a1n xs lo hi)])
 | .scr xs=>.ok (.ref h.length) (h++[.lst (a1n xs lo hi)])
 | .ref i=>match h[i]? with | some (.lst xs)=>.ok (.ref h.length) (h++[.lst (a1n xs lo hi)]) | _=>.no
 | _=>.no
theorem a0b{ι:List Addr}{H:Hp}{vs:List V}{xs:List D}(r:Reps K ι H vs xs)(lo hi:Option Int):Reps K ι H (aek vs lo hi) (a1n xs lo hi):=by
 unfold aek a1n;rw [r.len];exact (r.drop _).take _
theorem a85{ι:List Addr}{H:Hp}{h:Hd}{x:V}{d:D}{lo hi:Option Int}{Q:VK}(rx:Rep K ι H x d)(hr:HRep K ι H h)(o:out K E (yu K) ι H (gSl d lo hi h) Q):amn x lo hi H Q\/amj K x lo hi H Q\/aml K x lo hi H Q:=by
 cases rx with
 | str z =>
  by_cases hc:z.length<=LINE
  ·simp only [gSl,if_pos hc] at o;exact .inl ⟨z,rfl,ll hc,ans o (.str _) hr⟩
  ·simp only [gSl,if_neg hc] at o;exact o.elim
 | @tup p vs xs hp r =>
  by_cases hc:¬ whole xs.length lo hi
  ·simp only [gSl,if_pos hc] at o;exact .inr (.inl ⟨p,vs,rfl,SqT.of hp,by rw [r.len];exact hc,yh (a0b r lo hi) hr o⟩)
  ·simp only [gSl,if_neg hc] at o;exact o.elim
 | @rol p vs xs hp r=>exact .inr (.inr ⟨p,vs,rfl,hp.l,ut (a0b r lo hi) hr o⟩)
 | @scr p vs xs hp r=>exact .inr (.inr ⟨p,vs,rfl,hp.l,ut (a0b r lo hi) hr o⟩)
 | @ref p j hp =>
  obtain ⟨ob,e1,e2⟩:=hr.at hp
  cases ob with
  | lst xs =>
   simp only [gSl,e1] at o;obtain ⟨vs,h3,h4⟩:=e2;exact .inr (.inr ⟨p,vs,rfl,SqL.of h3,ut (a0b h4 lo hi) hr o⟩)
  | dK _=>simp only [gSl,e1] at o;exact o.elim
  | dT _=>simp only [gSl,e1] at o;exact o.elim
 | _=>exact o.elim
theorem aat{ι:List Addr}{H:Hp}{x:V}{d:D}(r:Rep K ι H x d)(f:a00 d=true):zu x=true:=by cases r<;>first | rfl | cases f
theorem ajl{ι:List Addr}{H:Hp}{x y:V}{d c:D}(r:Rep K ι H x d)(q:Rep K ι H y c):a00 d=true->a00 c=true->eqV x y=eqF d c:=λf g=>by
 cases r<;>cases q<;>first | rfl | (cases f;done) | (cases g;done)
def inD(x:D)(xs:List D):Bool:=xs.any λy=>eqF y x
theorem acz{ι:List Addr}{H:Hp}{vs:List V}{xs:List D}(r:Reps K ι H vs xs)(f:xs.all a00=true):vs.all zu=true:=by
 induction r using Reps.rec (motive_1:=λ_ _ _=>True) with
 | nil=>rfl
 | cons r rs _ ih =>
  rw [List.all_cons,Bool.and_eq_true] at f ⊢;exact ⟨aat r f.1,ih f.2⟩
 | _=>trivial
theorem ajm{ι:List Addr}{H:Hp}{x:V}{d:D}{vs:List V}{xs:List D}(rx:Rep K ι H x d)(fx:a00 d=true)(r:Reps K ι H vs xs)(f:xs.all a00=true):inV x vs=inD d xs:=by
 unfold inV inD
 induction r using Reps.rec (motive_1:=λ_ _ _=>True) with
 | nil=>rfl
 | cons r rs _ ih =>
  rw [List.all_cons,Bool.and_eq_true] at f;rw [List.any_cons,List.any_cons,ih f.2,ajl r rx f.1 fx]
 | _=>trivial
def gIn(neg:Bool)(x y:D)(h:Hd):R D:=match y with
 | .str T=>(match x with
  | .str z=>(match z.cps.toList with | [c]=>.ok (.bl (if neg then !decide (c∈T.cps.toList) else decide (c∈T.cps.toList))) h | _=>.no)
  | _=>.no)
 | y=>match xm y h with
  | some xs=>if a00 x=true/\xs.all a00=true then .ok (.bl (if neg then !inD x xs else inD x xs)) h else .no
  | none=>.no
theorem one_sign{z:Str}{c:Nat}(h:z.cps.toList=[c]):z=⟨#[c]⟩:=by
 obtain ⟨cps⟩:=z
 congr
 exact Array.ext' (by simpa using h)
theorem ajn(neg:Bool){r1:R2}(h1:∀ c T H (Q:VK),Q (.bl (if neg then !decide (c∈T.cps.toList) else decide (c∈T.cps.toList))) H->r1 (.str ⟨#[c]⟩) (.str T) H Q):a0m K (gIn neg) (λx y H Q=>r1 x y H Q\/rIn K neg x y H Q):=by
 intro E ι H h x y dx dy Q rx ry hr o
 have go:∀ {p:Addr} {vs:List V} {xs:List D},(SqL K H p vs\/SqT K H p vs)->Reps K ι H vs xs->out K E (yu K) ι H (if a00 dx=true/\xs.all a00=true then .ok (.bl (if neg then !inD dx xs else inD dx xs)) h else .no) Q->rIn K neg x (.ref p) H Q:=λ{p vs xs} sq r o=>by
  split at o
  ·rename_i hc;exact ⟨p,vs,rfl,sq,aat rx hc.1,acz r hc.2,by rw [ajm rx hc.1 r hc.2];exact ans o (.bl _) hr⟩
  ·exact o.elim
 cases ry with
 | str T =>
  cases rx with
  | str z =>
   simp only [gIn] at o
   split at o
   ·rename_i c hz;rw [one_sign hz];exact .inl (h1 c T H Q (ans o (.bl _) hr))
   ·exact o.elim
  | _=>exact o.elim
 | @tup p vs xs hp r=>simp only [gIn,xm] at o;exact .inr (go (.inr (SqT.of hp)) r o)
 | @rol p vs xs hp r=>simp only [gIn,xm] at o;exact .inr (go (.inl hp.l) r o)
 | @ref p j hp =>
  obtain ⟨ob,e1,e2⟩:=hr.at hp
  cases ob with
  | lst xs =>
   simp only [gIn,xm,e1] at o;obtain ⟨vs,h3,h4⟩:=e2;exact .inr (go (.inl (SqL.of h3)) h4 o)
  | dK _=>simp only [gIn,xm,e1] at o;exact o.elim
  | dT _=>simp only [gIn,xm,e1] at o;exact o.elim
 | _=>exact o.elim
theorem a79:a0m K (gIn false) (λx y H Q=>(∃ c T,x = .str ⟨#[c]⟩/\y = .str T/\Q (.bl (decide (c∈T.cps.toList))) H)\/rIn K false x y H Q):=ajn false λc T H Q q=>⟨c,T,rfl,rfl,q⟩
def qg:List D->Hd->R D
 | [.str z],h=>if z.length<=LINE then .ok (.int z.length) h else .no
 | [x],h=>(match xm x h with | some xs=>.ok (.int xs.length) h | none=>.no)
 | _,_=>.no
theorem jk:a9q K qg (λxs H Q=>(∃ p ys,xs=[.ref p]/\(SqL K H p ys\/SqT K H p ys)/\Q (.int ys.length) H)\/∃ z,xs=[.str z]/\z.length<=sizeLine/\Q (.int z.length) H):=by
 intro E ι H h xs ds Q r hr o
 cases r with
 | nil=>exact o.elim
 | cons r rs =>
  cases rs with
  | cons _ _=>exact (show False by cases r<;>exact o).elim
  | nil =>
   cases r with
   | str z =>
    by_cases hc:z.length<=LINE
    ·simp only [qg,if_pos hc] at o;exact .inr ⟨z,rfl,ll hc,ans o (.int _) hr⟩
    ·simp only [qg,if_neg hc] at o;exact o.elim
   | @tup p vs xs hp r=>simp only [qg,xm] at o;exact .inl ⟨p,vs,rfl, .inr (SqT.of hp),by rw [r.len];exact ans o (.int _) hr⟩
   | @rol p vs xs hp r=>simp only [qg,xm] at o;exact .inl ⟨p,vs,rfl, .inl hp.l,by rw [r.len];exact ans o (.int _) hr⟩
   | @ref p j hp =>
    obtain ⟨ob,e1,e2⟩:=hr.at hp
    cases ob with
    | lst xs =>
     simp only [qg,xm,e1] at o;obtain ⟨vs,h3,h4⟩:=e2;exact .inl ⟨p,vs,rfl, .inl (SqL.of h3),by rw [h4.len];exact ans o (.int _) hr⟩
    | dK _=>simp only [qg,xm,e1] at o;exact o.elim
    | dT _=>simp only [qg,xm,e1] at o;exact o.elim
   | _=>exact o.elim
def ajo:List D->Hd->R D
 | [.int i],h=>.ok (.int (if i<0 then -i else i)) h
 | _,_=>.no
theorem aau:a9q K ajo (λxs H Q=>∃ i,xs=[.int i]/\Q (.int (if i<0 then -i else i)) H):=by
 intro E ι H h xs ds Q r hr o
 unfold ajo at o
 split at o
 ·cases r with | cons r rs=>cases r;cases rs;exact ⟨_,rfl,ans o (.int _) hr⟩
 ·exact o.elim
def a6a:List D->Hd->R D
 | [.int i, .int j],h=>.ok (.int (if j > i then j else i)) h
 | _,_=>.no
def a6b:List D->Hd->R D
 | [.int i, .int j],h=>.ok (.int (if j<i then j else i)) h
 | _,_=>.no
theorem ad0:a9q K a6a (λxs H Q=>∃ i j,xs=[.int i, .int j]/\Q (.int (if j > i then j else i)) H):=by
 intro E ι H h xs ds Q r hr o
 unfold a6a at o
 split at o
 ·cases r with | cons r rs=>cases rs with | cons q rs=>cases r;cases q;cases rs;exact ⟨_,_,rfl,ans o (.int _) hr⟩
 ·exact o.elim
theorem ad1:a9q K a6b (λxs H Q=>∃ i j,xs=[.int i, .int j]/\Q (.int (if j<i then j else i)) H):=by
 intro E ι H h xs ds Q r hr o
 unfold a6b at o
 split at o
 ·cases r with | cons r rs=>cases rs with | cons q rs=>cases r;cases q;cases rs;exact ⟨_,_,rfl,ans o (.int _) hr⟩
 ·exact o.elim
def ac2:List D->Hd->R D
 | [.int i],h=>.ok (.int i) h
 | [.bl k],h=>.ok (.int (if k then 1 else 0)) h
 | _,_=>.no
theorem aav:a9q K ac2 (λxs H Q=>(∃ i,xs=[.int i]/\Q (.int i) H)\/∃ k,xs=[.bl k]/\Q (.int (if k then 1 else 0)) H):=by
 intro E ι H h xs ds Q r hr o
 unfold ac2 at o
 split at o
 ·cases r with | cons r rs=>cases r;cases rs;exact .inl ⟨_,rfl,ans o (.int _) hr⟩
 ·cases r with | cons r rs=>cases r;cases rs;exact .inr ⟨_,rfl,ans o (.int _) hr⟩
 ·exact o.elim
def tyD(d:D)(h:Hd):Option String:=match d with
 | .non=>some "NoneType" | .bl _=>some "bool" | .int _=>some "int" | .str _=>some "str" | .tup _=>some "tuple" | .rol _=>some "list"
 | .ref i=>(match h[i]? with | some (.lst _)=>some "list" | some (.dK _)=>some "dict" | _=>none)
 | _=>none
def a99(t T:String):Option Bool :=
 if t∈["NoneType", "bool", "int", "str", "tuple", "list", "dict"]/\T∈["bool", "int", "str", "tuple", "list", "dict"] then some (t == T || (t == "bool" && T == "int")) else none
theorem aaw{t T:String}{b:Bool}(e:a99 t T=some b):PySem.W.kitOne K (.type t) (.type T)=some b:=by
 unfold a99 at e
 split at e
 ·rename_i h;obtain ⟨h1,h2⟩:=h;simp only [List.mem_cons,List.not_mem_nil,or_false] at h1 h2
  rcases h1 with rfl | rfl | rfl | rfl | rfl | rfl | rfl<;>rcases h2 with rfl | rfl | rfl | rfl | rfl | rfl<;>(cases e;rfl)
 ·cases e
def aax:List D->Hd->R D
 | [x, .ty T],h=>(match tyD x h with | some t=>(match a99 t T with | some b=>.ok (.bl b) h | none=>.no) | none=>.no)
 | _,_=>.no
theorem ajp{ι:List Addr}{H:Hp}{h:Hd}{x:V}{d:D}{t:String}(r:Rep K ι H x d)(hr:HRep K ι H h)(e:tyD d h=some t):TyOf K H x (.type t):=by
 cases r with
 | non=>cases e;exact .non
 | bl b=>cases e;exact .bl b
 | int b=>cases e;exact .int b
 | str b=>cases e;exact .str b
 | ty _=>cases e
 | tup hp r=>cases e;exact .tup hp
 | rol hp r=>cases e;obtain ⟨o,hp⟩:=hp;exact .frz hp
 | scr _ _=>cases e
 | rod _ _ _=>cases e
 | rdT _ _ _=>cases e
 | exc _ _ _=>cases e
 | ref hp =>
  obtain ⟨ob,e1,e2⟩:=hr.at hp
  cases ob with
  | lst xs=>simp only [tyD,e1] at e;cases e;obtain ⟨vs,h3,h4⟩:=e2;exact .lst h3
  | dK _=>simp only [tyD,e1] at e;cases e;obtain ⟨vs,h3,h4⟩:=e2;exact .dK h3
  | dT _=>simp only [tyD,e1] at e;cases e
theorem agq:a9q K aax (λxs H Q=>∃ x T t b,xs=[x, .ty T]/\TyOf K H x t/\PySem.W.kitOne K t (.type T)=some b/\Q (.bl b) H):=by
 intro E ι H h xs ds Q r hr o
 unfold aax at o
 split at o
 ·rename_i d T
  cases r with
  | cons r rs =>
   cases rs with
   | cons q rs =>
    cases q;cases rs
    cases ht:tyD d h with
    | none=>rw [ht] at o;exact o.elim
    | some t =>
     rw [ht] at o
     cases hb:a99 t T with
     | none=>simp only [hb] at o;exact o.elim
     | some b =>
      simp only [hb] at o;exact ⟨_,T, .type t,b,rfl,ajp r hr ht,aaw hb,ans o (.bl _) hr⟩
 ·exact o.elim
end
section
variable{X:Cx}{K:PySem.W.Frag}{E:XD}{a b e o:Expr}{es:List Expr}{fa fb fo:SE}{ka:SA}{pos apos cpos:Pos}{name:Str}{idn:String}
def alm(K:PySem.W.Frag)(g:D->List D->Hd->R D)(r:V->List V->Hp->VK->Prop):Prop:=∀ (E:XD) ι H h x dx xs ds Q,Rep K ι H x dx->Reps K ι H xs ds->HRep K ι H h->out K E (yu K) ι H (g dx ds h) Q->r x xs H Q
def isL(d:D)(h:Hd):Bool:=match d with | .ref i=>(match h[i]? with | some (.lst _)=>true | _=>false) | .rol _=>true | _=>false
def sML(g:D->List D->Hd->R D)(f:SE)(k:SA):SE:=λτ h=>(f τ h).bind λd h1=>if isL d h1=true then (k τ h1).bind λds h2=>g d ds h2 else .no
theorem ajq{ι:List Addr}{H:Hp}{h:Hd}{x:V}{d:D}(r:Rep K ι H x d)(hr:HRep K ι H h)(e:isL d h=true):tyV K "list" x H:=by
 cases r with
 | rol hp _=>exact .inl ⟨rfl,_,hp.l⟩
 | ref hp =>
  obtain ⟨ob,e1,e2⟩:=hr.at hp
  cases ob with
  | lst xs=>obtain ⟨vs,h3,_⟩:=e2;exact .inl ⟨rfl,_,SqL.of h3⟩
  | dK _=>simp [isL,e1] at e
  | dT _=>simp [isL,e1] at e
 | _=>cases e
theorem amu{r:V->List V->Hp->VK->Prop}{g:D->List D->Hd->R D}(slot:Slot "list" name idn)(hty:typeOf (.builtin idn)=pure (.type "method_descriptor"))(hm:MtR X idn r)(hs:alm X.K g r)(ho:ME X E o fo)(ha:MA X E (e::es) ka)
  (hbase:attributeBase o name X.env (eval o X.env)=eval o X.env:=by rfl)
  (hfew:((backTo cpos (starEach (e::es) X.env)).all (λx => !x.1) && (backToKw cpos (keywordEach [] X.env)).all (λx=>x.1.isSome)
   && decide ((e::es).length+([]:List Keyword).length+(if ([]:List Keyword).isEmpty then 0 else 1)<30))=true:=by rfl)
  (hline:(apos.endLine == cpos.line)=true:=by rfl) (hst:starEach (e::es) X.env=(false,eval e X.env)::starEach es X.env:=by rfl) (hplain:(backTo cpos (starEach es X.env)).any (·.1)=false:=by rfl) :
  ME X E (.Call (.Attribute o name apos) (e::es) [] cpos) (sML g fo ka):=by
 refine PE.weak (amm PySem.F.plainAttrs_list slot hty hm ho ha hbase hfew hline hst hplain) λσ H Q ⟨ι,τ,h,S,Rh,o⟩=>?_;refine ⟨ι,τ,h,S,Rh,fj o λd h1 ι1 H1 v g1 r1 hr1 o1=>?_⟩
 by_cases hc:isL d h1=true
 ·rw [if_pos hc] at o1;refine ⟨ajq r1 hr1 hc,ι1,τ,h1,S.mono g1,hr1,fj o1 λds h2 ι2 H2 vs g2 r2 hr2 o2=>?_⟩;exact hs E ι2 H2 h2 v d vs ds Q (r1.mono g2) r2 hr2 o2
 ·rw [if_neg hc] at o1;exact o1.elim
def ad2:D->List D->Hd->R D
 | .ref i,[y],h=>(match h[i]? with | some (.lst xs)=>if xs.length<LINE then .ok .non (h.set i (.lst (xs++[y]))) else .no | _=>.no)
 | _,_,_=>.no
theorem agr:alm K ad2 aab:=by
 intro E ι H h x dx xs ds Q rx r hr o
 unfold ad2 at o
 split at o
 ·rename_i i y
  cases rx with
  | @ref p _ hp =>
   cases r with
   | cons r1 rs =>
    cases rs
    split at o
    ·rename_i xs hx;obtain ⟨vs,h3,h4⟩:=hr.lst hp hx
     split at o
     ·rename_i hc;exact ⟨p,vs,_,rfl,rfl,h3,by rw [h4.len,amo];exact hc,agc (h4.snoc r1) hr hp .non o⟩
     ·exact o.elim
    ·exact o.elim
 ·exact o.elim
def sMS(g:D->List D->Hd->R D)(f:SE)(k:SA):SE:=λτ h=>(f τ h).bind λd h1=>match d with | .str z=>(k τ h1).bind λds h2=>g (.str z) ds h2 | _=>.no
theorem ajr{r:V->List V->Hp->VK->Prop}{g:D->List D->Hd->R D}(slot:Slot "str" name idn)(hty:typeOf (.builtin idn)=pure (.type "method_descriptor"))(hm:MtR X idn r)(hs:alm X.K g r)(ho:ME X E o fo)(ha:MA X E (e::es) ka)
  (hbase:attributeBase o name X.env (eval o X.env)=eval o X.env:=by rfl)
  (hfew:((backTo cpos (starEach (e::es) X.env)).all (λx => !x.1) && (backToKw cpos (keywordEach [] X.env)).all (λx=>x.1.isSome)
   && decide ((e::es).length+([]:List Keyword).length+(if ([]:List Keyword).isEmpty then 0 else 1)<30))=true:=by rfl)
  (hline:(apos.endLine == cpos.line)=true:=by rfl) (hst:starEach (e::es) X.env=(false,eval e X.env)::starEach es X.env:=by rfl) (hplain:(backTo cpos (starEach es X.env)).any (·.1)=false:=by rfl) :
  ME X E (.Call (.Attribute o name apos) (e::es) [] cpos) (sMS g fo ka):=by
 refine PE.weak (amr slot hty hm ho ha hbase hfew hline hst hplain) λσ H Q ⟨ι,τ,h,S,Rh,o⟩=>?_;refine ⟨ι,τ,h,S,Rh,fj o λd h1 ι1 H1 v g1 r1 hr1 o1=>?_⟩
 cases r1 with
 | str z=>exact ⟨⟨z,rfl⟩,ι1,τ,h1,S.mono g1,hr1,fj o1 λds h2 ι2 H2 vs g2 r2 hr2 o2=>hs E ι2 H2 h2 _ _ vs ds Q (.str z) r2 hr2 o2⟩
 | _=>exact o1.elim
def a7a:List D->Option (List Str)
 | []=>some []
 | .str z::r=>(a7a r).map (z::·)
 | _::_=>none
theorem a4e{ι:List Addr}{H:Hp}:∀ {vs:List V} {xs:List D} {zs:List Str},Reps K ι H vs xs->a7a xs=some zs->vs=zs.map V.str
 | _,_,_, .nil,e=>by cases e;rfl
 | _,_,zs, .cons (d:=d) r rs,e=>by
  cases r with
  | str z =>
   simp only [a7a,Option.map_eq_some_iff] at e;obtain ⟨ws,h1,rfl⟩:=e;rw [a4e rs h1];rfl
  | _=>cases e
def a9a:D->List D->Hd->R D
 | .str sep,[.ref i],h=>(match h[i]? with | some (.lst xs)=>(match a7a xs with | some zs=>if (zs.map (·.length)).sum+zs.length*sep.length<=16777216 then .ok (.str (Txt.join sep zs)) h else .no | none=>.no) | _=>.no)
 | .str sep,[.rol xs],h=>(match a7a xs with | some zs=>if (zs.map (·.length)).sum+zs.length*sep.length<=16777216 then .ok (.str (Txt.join sep zs)) h else .no | none=>.no)
 | _,_,_=>.no
theorem a86:alm K a9a (λx xs H Q=>∃ sep p zs,x = .str sep/\xs=[.ref p]/\SqL K H p (zs.map V.str)/\(zs.map (·.length)).sum+zs.length*sep.length<=16777216/\Q (.str (Txt.join sep zs)) H):=by
 intro E ι H h x dx xs ds Q rx r hr o
 unfold a9a at o
 split at o
 ·rename_i sep i;cases rx
  cases r with
  | cons r1 rs =>
   cases rs
   cases r1 with
   | @ref p _ hp =>
    split at o
    ·rename_i xs hx;obtain ⟨vs,h3,h4⟩:=hr.lst hp hx
     split at o
     ·rename_i zs hz
      split at o
      ·rename_i hc;exact ⟨sep,p,zs,rfl,rfl,SqL.of (by rw [h3,a4e h4 hz]),hc,ans o (.str _) hr⟩
      ·exact o.elim
     ·exact o.elim
    ·exact o.elim
 ·rename_i sep xs;cases rx
  cases r with
  | cons r1 rs =>
   cases rs
   cases r1 with
   | @rol p vs xs hp r =>
    split at o
    ·rename_i zs hz
     split at o
     ·rename_i hc;exact ⟨sep,p,zs,rfl,rfl,by rw [<-a4e r hz];exact hp.l,hc,ans o (.str _) hr⟩
     ·exact o.elim
    ·exact o.elim
 ·exact o.elim
def a0c:List D->Hd->R D
 | [.str z],h=>if z.length<=LINE then .ok (.ref h.length) (h++[.lst (yj z)]) else .no
 | [x],h=>(match xm x h with | some xs=>.ok (.ref h.length) (h++[.lst xs]) | none=>.no)
 | _,_=>.no
theorem a0q{ι:List Addr}{H:Hp}(z:Str):Reps K ι H (ud z) (yj z):=by
 unfold ud yj
 induction z.cps.toList with
 | nil=>exact .nil
 | cons c cs ih=>exact .cons (.str _) ih
theorem a87:a9q K a0c (λxs H Q=>(∃ p ys,xs=[.ref p]/\(SqL K H p ys\/SqT K H p ys)/\∀ l,H l=none->Q (.ref l) (upd H l (.lst ys)))\/∃ z,xs=[.str z]/\z.length<=sizeLine/\∀ l,H l=none->Q (.ref l) (upd H l (.lst (ud z)))):=by
 intro E ι H h xs ds Q r hr o
 cases r with
 | nil=>exact o.elim
 | cons r rs =>
  cases rs with
  | cons _ _=>exact (show False by cases r<;>exact o).elim
  | nil =>
   cases r with
   | str z =>
    by_cases hc:z.length<=LINE
    ·simp only [a0c,if_pos hc] at o;exact .inr ⟨z,rfl,ll hc,ut (a0q z) hr o⟩
    ·simp only [a0c,if_neg hc] at o;exact o.elim
   | @tup p vs xs hp r=>simp only [a0c,xm] at o;exact .inl ⟨p,vs,rfl, .inr (SqT.of hp),ut r hr o⟩
   | @rol p vs xs hp r=>simp only [a0c,xm] at o;exact .inl ⟨p,vs,rfl, .inl hp.l,ut r hr o⟩
   | @ref p j hp =>
    obtain ⟨ob,e1,e2⟩:=hr.at hp
    cases ob with
    | lst xs =>
     simp only [a0c,xm,e1] at o;obtain ⟨vs,h3,h4⟩:=e2;exact .inl ⟨p,vs,rfl, .inl (SqL.of h3),ut h4 hr o⟩
    | dK _=>simp only [a0c,xm,e1] at o;exact o.elim
    | dT _=>simp only [a0c,xm,e1] at o;exact o.elim
   | _=>exact o.elim
def uv:List D->Hd->R D
 | [.str z],h=>if z.length<=LINE then .ok (.tup (yj z)) h else .no
 | [x],h=>(match xm x h with | some xs=>.ok (.tup xs) h | none=>.no)
 | _,_=>.no
theorem a0d:a9q K uv (λxs H Q=>(∃ p ys,xs=[.ref p]/\((SqL K H p ys/\∀ l,H l=none->Q (.ref l) (upd H l (.tup ys)))\/(SqT K H p ys/\Q (.ref p) H)))\/∃ z,xs=[.str z]/\z.length<=sizeLine/\∀ l,H l=none->Q (.ref l) (upd H l (.tup (ud z)))):=by
 intro E ι H h xs ds Q r hr o
 cases r with
 | nil=>exact o.elim
 | cons r rs =>
  cases rs with
  | cons _ _=>exact (show False by cases r<;>exact o).elim
  | nil =>
   cases r with
   | str z =>
    by_cases hc:z.length<=LINE
    ·simp only [uv,if_pos hc] at o;exact .inr ⟨z,rfl,ll hc,yh (a0q z) hr o⟩
    ·simp only [uv,if_neg hc] at o;exact o.elim
   | @tup p vs xs hp r=>simp only [uv,xm] at o;exact .inl ⟨p,vs,rfl, .inr ⟨SqT.of hp,ans o (.tup hp r) hr⟩⟩
   | @rol p vs xs hp r=>simp only [uv,xm] at o;exact .inl ⟨p,vs,rfl, .inl ⟨hp.l,yh r hr o⟩⟩
   | @ref p j hp =>
    obtain ⟨ob,e1,e2⟩:=hr.at hp
    cases ob with
    | lst xs =>
     simp only [uv,xm,e1] at o;obtain ⟨vs,h3,h4⟩:=e2;exact .inl ⟨p,vs,rfl, .inl ⟨SqL.of h3,yh h4 hr o⟩⟩
    | dK _=>simp only [uv,xm,e1] at o;exact o.elim
    | dT _=>simp only [uv,xm,e1] at o;exact o.elim
   | _=>exact o.elim
end
end MI
theorem L2.Room.u{k:Nat}{A:PySem.Around}(r:L2.Room k A):A.units+64<PySem.cLine:=r.units
namespace MI
open PySem PySem.Spec L2
mutual
def eqD:D->D->Bool
 | .non, .non=>true
 | .bl a, .bl b=>a == b
 | .bl a, .int b=>(if a then 1 else 0) == b
 | .int a, .bl b=>a == (if b then 1 else 0)
 | .int a, .int b=>a == b
 | .str a, .str b=>a == b
 | .tup xs, .tup ys=>aew xs ys
 | _,_=>false
def aew:List D->List D->Bool
 | [],[]=>true
 | x::xs,y::ys=>eqD x y && aew xs ys
 | _,_=>false
end
def pur:Nat->D->Bool
 | _, .non=>true
 | _, .bl _=>true
 | _, .int _=>true
 | _, .str _=>true
 | n+1, .tup xs=>xs.all (pur n)
 | _,_=>false
theorem aex{n:Nat}:∀ {m:Nat} {d:D},n<=m->pur n d=true->pur m d=true:=by
 induction n with
 | zero=>intro m d _ h;cases d<;>first | (cases m<;>rfl) | (cases h;done)
 | succ n ih =>
  intro m d hm h
  cases m with
  | zero=>omega
  | succ m =>
   cases d with
   | tup xs =>
    simp only [pur,List.all_eq_true] at h ⊢;exact λx hx=>ih (by omega) (h x hx)
   | _=>first | rfl | (cases h;done)
def pairE(xs ys:List D)(j:Nat):Bool:=match xs[j]?,ys[j]? with | some x,some y=>eqD x y | _,_=>false
theorem a4f:∀ xs ys:List D,((List.range (min xs.length ys.length)).all (pairE xs ys) && xs.length == ys.length)=aew xs ys
 | [],[]=>by simp [aew]
 | [],_::_=>by simp [aew]
 | _::_,[]=>by simp [aew]
 | x::xs,y::ys=>by
  have ih:=a4f xs ys;rw [show min (x::xs).length (y::ys).length=min xs.length ys.length+1 by simp only [List.length_cons];omega,List.range_succ_eq_map]
  rw [List.all_cons,List.all_map];have e:(pairE (x::xs) (y::ys) ∘ Nat.succ)=pairE xs ys:=by funext j;simp [pairE]
  rw [e];simp only [aew];rw [<-ih];have e2:((x::xs).length == (y::ys).length)=(xs.length == ys.length):=by simp
  rw [e2,Bool.and_assoc];rfl
section
variable{K:PySem.W.Frag}{ι:List Addr}{H:Hp}
theorem ad3:∀ (n:Nat) {v:V} {d e:D},Rep K ι H v d->Rep K ι H v e->pur n d=true->pur n e=true->eqD d e=true:=by
 intro n
 induction n with
 | zero=>intro v d e r q p1 p2;cases r<;>cases q<;>first | (simp [eqD];done) | (cases p1;done) | (cases p2;done)
 | succ n ih =>
  intro v d e r q p1 p2
  cases r with
  | @tup a vs xs h rs =>
   cases q with
   | @tup _ us ys h' qs =>
    rw [h] at h';cases h'
    simp only [eqD];simp only [pur,List.all_eq_true] at p1 p2
    clear h
    induction rs using Reps.rec (motive_1:=λ_ _ _=>True) generalizing ys with
    | nil=>cases qs;rfl
    | cons r rs _ ih2 =>
     cases qs with
     | cons q qs =>
      simp only [aew,Bool.and_eq_true];exact ⟨ih r q (p1 _ (List.mem_cons_self ..)) (p2 _ (List.mem_cons_self ..)),ih2 qs (λx hx=>p1 x (List.mem_cons_of_mem _ hx)) (λx hx=>p2 x (List.mem_cons_of_mem _ hx))⟩
    | _=>trivial
   | _=>cases p2
  | _=>cases q<;>first | (simp [eqD];done) | (cases p1;done) | (cases p2;done)
theorem a1i{n:Nat}{v:V}{d:D}(r:Rep K ι H v d)(p:pur n d=true):(∃ xs,d = .tup xs)\/(zu v=true/\a00 d=true):=by
 cases r<;>first | exact .inr ⟨rfl,rfl⟩ | exact .inl ⟨_,rfl⟩ | (cases n<;>cases p)
theorem a4g{x y:V}{d e:D}(r:Rep K ι H x d)(q:Rep K ι H y e)(f:a00 d=true)(g:a00 e=true):eqV x y=eqD d e:=by
 cases r<;>cases q<;>first | rfl | (simp [eqV,eqD];done) | (cases f;done) | (cases g;done)
open SeqAt in
theorem ajs{P:Program}{w:World}{s:Shared}(hok:HOk P w H s.heap):∀ (n:Nat) (A:Around) {x y:V} {u v:Value} {d e:D},Rep K ι H x d->Rep K ι H y e->RelV x u->RelV y v->pur n d=true->pur n e=true->A.units+n<cLine->EqAt A s u v (eqD d e):=by
 intro n
 induction n with
 | zero =>
  intro A x y u v d e r q rx ry p1 p2 hu
  rcases a1i r p1 with ⟨xs,rfl⟩ | ⟨f1,f2⟩
  ·cases p1
  ·rcases a1i q p2 with ⟨xs,rfl⟩ | ⟨g1,g2⟩
   ·cases p2
   ·rw [<-a4g r q f2 g2];exact aaa rx ry f1 g1
 | succ n ih =>
  intro A x y u v d e r q rx ry p1 p2 hu
  rcases a1i r p1 with ⟨xs,rfl⟩ | ⟨f1,f2⟩
  ·cases r with
   | @tup a vs _ ha rs =>
    cases rx
    obtain ⟨_,its,r1,t1⟩:=(Rd.of ha).ok hok
    rcases a1i q p2 with ⟨ys,rfl⟩ | ⟨g1,g2⟩
    ·cases q with
     | @tup b us _ hb qs =>
      cases ry
      obtain ⟨_,its2,r2,t2⟩:=(Rd.of hb).ok hok
      by_cases hab:a=b
      ·subst hab;rw [ad3 (n+1) (.tup ha rs) (.tup hb qs) p1 p2];exact EqAt.same _
      ·have l1:its.toArray.size=xs.length:=by rw [List.size_toArray,<-r1.length,rs.len]
       have l2:its2.toArray.size=ys.length:=by rw [List.size_toArray,<-r2.length,qs.len]
       have:=RcAt.tuples (A:=A) (s:=s) (e:=pairE xs ys) t1 t2 (by omega) (λj h1 h2=>by
        have j1:j<xs.length:=by omega
        have j2:j<ys.length:=by omega
        obtain ⟨v1,e1,q1⟩:=rs.get (List.getElem?_eq_getElem j1);obtain ⟨v2,e2,q2⟩:=qs.get (List.getElem?_eq_getElem j2);obtain ⟨u1,e3,q3⟩:=r1.get e1;obtain ⟨u2,e4,q4⟩:=r2.get e2;have f1:its.toArray[j]=u1:=by simpa using (List.getElem?_eq_some_iff.mp e3).2
        have f2:its2.toArray[j]=u2:=by simpa using (List.getElem?_eq_some_iff.mp e4).2
        have pe:pairE xs ys j=eqD xs[j] ys[j]:=by simp [pairE,List.getElem?_eq_getElem j1,List.getElem?_eq_getElem j2]
        rw [f1,f2,pe];simp only [pur,List.all_eq_true] at p1 p2;exact ih A.in1 q1 q2 q3 q4 (p1 _ (List.getElem_mem j1)) (p2 _ (List.getElem_mem j2)) (by rw [Around.in1_units];omega))
       rw [l1,l2,a4f] at this;exact EqAt.of_refs hab this
    ·have e0:eqD (.tup xs) e=false:=by cases e<;>first | rfl | (cases g2;done)
     rw [e0]
     cases y with
     | non=>cases ry;exact EqAt.tuple_none t1 (by omega)
     | bl b=>cases ry;exact EqAt.tuple_bool b t1 (by omega)
     | int b=>obtain ⟨t,rfl⟩:=ry;exact EqAt.tuple_int b t t1 (by omega)
     | str b=>obtain ⟨t,rfl⟩:=ry;exact EqAt.tuple_str b t t1 (by omega)
     | _=>cases g1
  ·rcases a1i q p2 with ⟨ys,rfl⟩ | ⟨g1,g2⟩
   ·cases q with
    | @tup b us _ hb qs =>
     cases ry
     obtain ⟨_,its2,r2,t2⟩:=(Rd.of hb).ok hok;have e0:eqD d (.tup ys)=false:=by cases d<;>first | rfl | (cases f2;done)
     rw [e0]
     cases x with
     | non=>cases rx;exact EqAt.none_tuple t2 (by omega)
     | bl b=>cases rx;exact EqAt.bool_tuple b t2 (by omega)
     | int b=>obtain ⟨t,rfl⟩:=rx;exact EqAt.int_tuple b t t2 (by omega)
     | str b=>obtain ⟨t,rfl⟩:=rx;exact EqAt.str_tuple b t t2 (by omega)
     | _=>cases f1
   ·rw [<-a4g r q f2 g2];exact aaa rx ry f1 g1
open SeqAt in
theorem ajt{A:Around}{s:Shared}{y x:V}{u v:Value}(ry:RelV y u)(rx:RelV x v)(fy:zu y=true)(fx:zu x=true):RcAt A s u v (eqV y x):=by
 cases y with
 | non =>
  cases ry
  cases x with
  | non=>cases rx;exact RcAt.none_none
  | bl b=>cases rx;exact RcAt.none_bool b
  | int b=>obtain ⟨t,rfl⟩:=rx;exact RcAt.none_int b t
  | str b=>obtain ⟨t,rfl⟩:=rx;exact RcAt.none_str b t
  | _=>cases fx
 | bl a =>
  cases ry
  cases x with
  | non=>cases rx;exact RcAt.bool_none a
  | bl b=>cases rx;exact RcAt.bool_bool a b
  | int b=>obtain ⟨t,rfl⟩:=rx;exact RcAt.bool_int a b t
  | str b=>obtain ⟨t,rfl⟩:=rx;exact RcAt.bool_str a b t
  | _=>cases fx
 | int a =>
  obtain ⟨t',rfl⟩:=ry
  cases x with
  | non=>cases rx;exact RcAt.int_none a t'
  | bl b=>cases rx;exact RcAt.int_bool a t' b
  | int b=>obtain ⟨t,rfl⟩:=rx;exact RcAt.int_int a t' b t
  | str b=>obtain ⟨t,rfl⟩:=rx;exact RcAt.int_str a t' b t
  | _=>cases fx
 | str a =>
  obtain ⟨t',rfl⟩:=ry
  cases x with
  | non=>cases rx;exact RcAt.str_none a t'
  | bl b=>cases rx;exact RcAt.str_bool a t' b
  | int b=>obtain ⟨t,rfl⟩:=rx;exact RcAt.str_int a t' b t
  | str b=>obtain ⟨t,rfl⟩:=rx;exact RcAt.str_str a t' b t
  | _=>cases fx
 | _=>cases fy
open SeqAt in
theorem ad4{A:Around}{s:Shared}{y x:V}{u v:Value}(ry:RelV y u)(rx:RelV x v)(fy:zu y=true)(fx:zu x=true):RcNeAt A s u v (!eqV y x):=by
 cases y with
 | non =>
  cases ry
  cases x with
  | non=>cases rx;exact RcNeAt.none_none
  | bl b=>cases rx;exact RcNeAt.none_bool b
  | int b=>obtain ⟨t,rfl⟩:=rx;exact RcNeAt.none_int b t
  | str b=>obtain ⟨t,rfl⟩:=rx;exact RcNeAt.none_str b t
  | _=>cases fx
 | bl a =>
  cases ry
  cases x with
  | non=>cases rx;exact RcNeAt.bool_none a
  | bl b=>cases rx;exact RcNeAt.bool_bool a b
  | int b=>obtain ⟨t,rfl⟩:=rx;exact RcNeAt.bool_int a b t
  | str b=>obtain ⟨t,rfl⟩:=rx;exact RcNeAt.bool_str a b t
  | _=>cases fx
 | int a =>
  obtain ⟨t',rfl⟩:=ry
  cases x with
  | non=>cases rx;exact RcNeAt.int_none a t'
  | bl b=>cases rx;exact RcNeAt.int_bool a t' b
  | int b=>obtain ⟨t,rfl⟩:=rx;exact RcNeAt.int_int a t' b t
  | str b=>obtain ⟨t,rfl⟩:=rx;exact RcNeAt.int_str a t' b t
  | _=>cases fx
 | str a =>
  obtain ⟨t',rfl⟩:=ry
  cases x with
  | non=>cases rx;exact RcNeAt.str_none a t'
  | bl b=>cases rx;exact RcNeAt.str_bool a t' b
  | int b=>obtain ⟨t,rfl⟩:=rx;exact RcNeAt.str_int a t' b t
  | str b=>obtain ⟨t,rfl⟩:=rx;exact RcNeAt.str_str a t' b t
  | _=>cases fx
 | _=>cases fy
open SeqAt in
theorem tops{P:Program}{w:World}{s:Shared}{A:Around}(hok:HOk P w H s.heap){x y:V}{u v:Value}{d e:D}(r:Rep K ι H x d)(q:Rep K ι H y e)(rx:RelV x u)(ry:RelV y v)(p1:pur 60 d=true)(p2:pur 60 e=true)(hu:A.units+64<cLine) :
  RcAt A s u v (eqD d e)/\RcNeAt A s u v (!eqD d e):=by
 rcases a1i r p1 with ⟨xs,rfl⟩ | ⟨f1,f2⟩
 ·cases r with
  | @tup a vs _ ha rs =>
   cases rx
   obtain ⟨_,its,r1,t1⟩:=(Rd.of ha).ok hok
   rcases a1i q p2 with ⟨ys,rfl⟩ | ⟨g1,g2⟩
   ·cases q with
    | @tup b us _ hb qs =>
     cases ry
     obtain ⟨_,its2,r2,t2⟩:=(Rd.of hb).ok hok;have l1:its.toArray.size=xs.length:=by rw [List.size_toArray,<-r1.length,rs.len]
     have l2:its2.toArray.size=ys.length:=by rw [List.size_toArray,<-r2.length,qs.len]
     have step:∀ j (h1:j<its.toArray.size) (h2:j<its2.toArray.size),EqAt A.in1 s its.toArray[j] its2.toArray[j] (pairE xs ys j):=λj h1 h2=>by
      have j1:j<xs.length:=by omega
      have j2:j<ys.length:=by omega
      obtain ⟨v1,e1,q1⟩:=rs.get (List.getElem?_eq_getElem j1);obtain ⟨v2,e2,q2⟩:=qs.get (List.getElem?_eq_getElem j2);obtain ⟨u1,e3,q3⟩:=r1.get e1;obtain ⟨u2,e4,q4⟩:=r2.get e2;have f1:its.toArray[j]=u1:=by simpa using (List.getElem?_eq_some_iff.mp e3).2
      have f2:its2.toArray[j]=u2:=by simpa using (List.getElem?_eq_some_iff.mp e4).2
      have pe:pairE xs ys j=eqD xs[j] ys[j]:=by simp [pairE,List.getElem?_eq_getElem j1,List.getElem?_eq_getElem j2]
      rw [f1,f2,pe];simp only [pur,List.all_eq_true] at p1 p2;exact ajs hok 59 A.in1 q1 q2 q3 q4 (p1 _ (List.getElem_mem j1)) (p2 _ (List.getElem_mem j2)) (by rw [Around.in1_units];omega)
     have c1:=RcAt.tuples (A:=A) (s:=s) (e:=pairE xs ys) t1 t2 (by omega) step
     have c2:=RcNeAt.tuples (A:=A) (s:=s) (e:=pairE xs ys) t1 t2 (by omega) step
     rw [l1,l2,a4f] at c1 c2;exact ⟨c1,c2⟩
   ·have e0:eqD (.tup xs) e=false:=by cases e<;>first | rfl | (cases g2;done)
    rw [e0]
    cases y with
    | non=>cases ry;exact ⟨RcAt.tuple_none t1 (by omega),RcNeAt.tuple_none t1 (by omega)⟩
    | bl b=>cases ry;exact ⟨RcAt.tuple_bool b t1 (by omega),RcNeAt.tuple_bool b t1 (by omega)⟩
    | int b=>obtain ⟨t,rfl⟩:=ry;exact ⟨RcAt.tuple_int b t t1 (by omega),RcNeAt.tuple_int b t t1 (by omega)⟩
    | str b=>obtain ⟨t,rfl⟩:=ry;exact ⟨RcAt.tuple_str b t t1 (by omega),RcNeAt.tuple_str b t t1 (by omega)⟩
    | _=>cases g1
 ·rcases a1i q p2 with ⟨ys,rfl⟩ | ⟨g1,g2⟩
  ·cases q with
   | @tup b us _ hb qs =>
    cases ry
    obtain ⟨_,its2,r2,t2⟩:=(Rd.of hb).ok hok;have e0:eqD d (.tup ys)=false:=by cases d<;>first | rfl | (cases f2;done)
    rw [e0]
    cases x with
    | non=>cases rx;exact ⟨RcAt.none_tuple t2 (by omega),RcNeAt.none_tuple t2 (by omega)⟩
    | bl b=>cases rx;exact ⟨RcAt.bool_tuple b t2 (by omega),RcNeAt.bool_tuple b t2 (by omega)⟩
    | int b=>obtain ⟨t,rfl⟩:=rx;exact ⟨RcAt.int_tuple b t t2 (by omega),RcNeAt.int_tuple b t t2 (by omega)⟩
    | str b=>obtain ⟨t,rfl⟩:=rx;exact ⟨RcAt.str_tuple b t t2 (by omega),RcNeAt.str_tuple b t t2 (by omega)⟩
    | _=>cases f1
  ·rw [<-a4g r q f2 g2];exact ⟨ajt rx ry f1 g1,ad4 rx ry f1 g1⟩
def anr(K:PySem.W.Frag):R2:=λx y H Q=>∃ ι d e,Rep K ι H x d/\Rep K ι H y e/\pur 60 d=true/\pur 60 e=true/\Q (.bl (eqD d e)) H
def ant(K:PySem.W.Frag):R2:=λx y H Q=>∃ ι d e,Rep K ι H x d/\Rep K ι H y e/\pur 60 d=true/\pur 60 e=true/\Q (.bl (!eqD d e)) H
theorem jn{X:Cx}(hu:X.A.units+64<cLine):OpR X (compareOp .Eq) (anr X.K):=by
 intro pins s σ H x y v u Q I rx ry h
 obtain ⟨ι,d,e,r,q,p1,p2,hq⟩:=h;exact (tops (A:=X.A) I.hok r q rx ry p1 p2 hu).1 X.prog X.w X.xe _ ⟨.bl _,H,I,rfl,hq⟩
theorem a3o{X:Cx}(hu:X.A.units+64<cLine):OpR X (compareOp .NotEq) (ant X.K):=by
 intro pins s σ H x y v u Q I rx ry h
 obtain ⟨ι,d,e,r,q,p1,p2,hq⟩:=h;exact (tops (A:=X.A) I.hok r q rx ry p1 p2 hu).2 X.prog X.w X.xe _ ⟨.bl _,H,I,rfl,hq⟩
def hEq(x y:D)(h:Hd):R D:=if pur 60 x=true/\pur 60 y=true then .ok (.bl (eqD x y)) h else .no
def hNe(x y:D)(h:Hd):R D:=if pur 60 x=true/\pur 60 y=true then .ok (.bl (!eqD x y)) h else .no
theorem iz:a0m K hEq (anr K):=by
 intro E ι H h x y dx dy Q rx ry hr o
 unfold hEq at o
 split at o
 ·rename_i hc;exact ⟨ι,dx,dy,rx,ry,hc.1,hc.2,ans o (.bl _) hr⟩
 ·exact o.elim
theorem a0r:a0m K hNe (ant K):=by
 intro E ι H h x y dx dy Q rx ry hr o
 unfold hNe at o
 split at o
 ·rename_i hc;exact ⟨ι,dx,dy,rx,ry,hc.1,hc.2,ans o (.bl _) hr⟩
 ·exact o.elim
end
section
variable{X:Cx}{E:XD}{K:PySem.W.Frag}
def ags:SE:=λ_ h=>.ok (.ref h.length) (h++[.dK []])
def amv:D->D->Hd->R D
 | .int i, .int j,h=>.ok (.int (i+j)) h
 | .str x, .str y,h=>if x.length+y.length<=LINE then .ok (.str (x++y)) h else .no
 | _,_,_=>.no
theorem aju:bootBuiltins "max" = some (.builtin "max"):=by first | exact PySem.boot_max | exact PyProof.Rows.boot_max
theorem ajv:bootBuiltins "min" = some (.builtin "min"):=by first | exact PySem.boot_min | exact PyProof.Rows.boot_min
theorem a4h:bootBuiltins "bool" = some (.type "bool"):=by first | exact PySem.boot_bool | exact PyProof.Rows.boot_bool
theorem a88{e:Expr}{es:List Expr}{g:SG}{ks:SGs}(h1:MG X E e g)(h2:MGs X E es ks)(hs:(assignEach (e::es) X.env).map (·.2)=assign e X.env::(assignEach es X.env).map (·.2):=by rfl):MGs X E (e::es) (a2d g ks) :=
 PGs.weak (a3u h1 h2 hs) λvs σ H Q q=>acw q
end
end MI
namespace ZP
open PySem PySem.Spec PySem.Builtin PySem.Builtin.SmallTypes
section
variable{prog:Program}{w:World}{A:Around}{E:Value->Shared->Prop}{s:Shared}
theorem agt{α:Type}{Q:α->Shared->Prop}(hh:A.handled=none)(q:∀ h' e,(∀ b o,s.heap.get? b=some o->h'.get? b=some o)->(∃ o,h'.get? e=some o/\o.cls = .type "StopIteration")->E (.ref e) { s with heap:=h' }) :
  wpAny (model prog w) A (stopIteration:Sem α) Q E s:=by
 have none_first:firstArgMember (.type "StopIteration") []=pure Value.none:=by first | rfl | (simp only [firstArgMember];rfl)
 rw [stopIteration]
 apply wpAny_bind
 rw [newExc,newTuple]
 apply wpAny_bind
 apply wpAny_newObj_type _ (by size_fits)
 rw [none_first,pure_bind]
 apply wpAny_newObj_type _ (by size_fits)
 apply wpAny_raiseNew_none hh
 exact q _ _ (λb o z=>Heap.get?_push_of_some _ (Heap.get?_push_of_some _ z)) ⟨_,Heap.get?_push_size _ rfl,rfl⟩
theorem ad5{it t:Addr}{i:Nat}{items:Array Value}{x:Value}{Q:Value->Shared->Prop}(hi:s.heap.IsTupleIter it t i)(ht:s.heap.IsTuple t items)(hx:items[i]? = some x)
  (q:∀ h',h'.IsTupleIter it t (i+1)->Heap.SameBut it s.heap h'->Q x { s with heap:=h' }):wpAny (model prog w) A (nextOf (.ref it)) Q E s:=by
 have ty:=hi.typeIs;obtain ⟨o,e1,e2,e3⟩:=id hi;obtain ⟨p,f1,f2,n,f3⟩:=ht;rw [nextOf]
 apply wpAny_bind
 apply wpAny_callSpecial?_slot (name:=Str.ofString "__next__") ty F.slot_tuple_iterator_next
 apply wpAny_call_entry F.slot_tuple_iterator_next ty F.entry_tuple_iterator_next _ (F.args_tuple_iterator_next_1 _)
 change wpAny (model prog w) A.in1 (field (.ref it) 0>>=_) _ _ _
 apply wpAny_bind;apply wpAny_field e1 e3 (x:=.ref t) rfl
 change wpAny (model prog w) A.in1 (field (.ref it) 1>>=_) _ _ _
 apply wpAny_bind;apply wpAny_field e1 e3 (x:=.int i 0) rfl
 change wpAny (model prog w) A.in1 (seqItems? (.ref t)>>=_) _ _ _
 apply wpAny_bind;apply wpAny_seqItems f1 f3
 dsimp only;rw [Int.toNat_natCast,hx]
 apply wpAny_bind
 obtain ⟨c,dd,dt,sl⟩:=o;simp only at e2 e3;subst e2 e3
 apply wpAny_setField e1 rfl (Nat.lt_succ_self 1)
 apply wpAny_pure
 exact ⟨x,rfl,wpAny_pure (q _ ⟨_,Heap.get?_update_self _ e1 rfl,rfl,rfl⟩ (Heap.SameBut.update ..))⟩
theorem agu{it t:Addr}{i:Nat}{items:Array Value}{Q:Value->Shared->Prop}(hh:A.handled=none)(hi:s.heap.IsTupleIter it t i)(ht:s.heap.IsTuple t items)(hx:items[i]? = none)
  (q:∀ h' e,Heap.ExtBut it s.heap h'->(∃ o,h'.get? e=some o/\o.cls = .type "StopIteration")->E (.ref e) { s with heap:=h' }):wpAny (model prog w) A (nextOf (.ref it)) Q E s:=by
 have ty:=hi.typeIs;obtain ⟨o,e1,e2,e3⟩:=id hi;obtain ⟨p,f1,f2,n,f3⟩:=ht;rw [nextOf]
 apply wpAny_bind
 apply wpAny_callSpecial?_slot (name:=Str.ofString "__next__") ty F.slot_tuple_iterator_next
 apply wpAny_call_entry F.slot_tuple_iterator_next ty F.entry_tuple_iterator_next _ (F.args_tuple_iterator_next_1 _)
 change wpAny (model prog w) A.in1 (field (.ref it) 0>>=_) _ _ _
 apply wpAny_bind;apply wpAny_field e1 e3 (x:=.ref t) rfl
 change wpAny (model prog w) A.in1 (field (.ref it) 1>>=_) _ _ _
 apply wpAny_bind;apply wpAny_field e1 e3 (x:=.int i 0) rfl
 change wpAny (model prog w) A.in1 (seqItems? (.ref t)>>=_) _ _ _
 apply wpAny_bind;apply wpAny_seqItems f1 f3
 dsimp only;rw [Int.toNat_natCast,hx];dsimp only;obtain ⟨c,dd,dt,sl⟩:=o;simp only at e2 e3;subst e2 e3
 apply wpAny_bind;apply wpAny_rule
 apply wpAny_bind;apply wpAny_setField e1 rfl (Nat.succ_pos 1)
 apply agt (show A.in1.handled=none from hh)
 exact λh' e k z=>q h' e (λb o nb eb=>k b o ((Heap.SameBut.update ..).extBut b o nb eb)) z
theorem aay{prog:Program}{w:World}{A:Around}(hh:A.handled=none)(it t:Addr)(ne:t≠it)(items:Array Value):Draws prog w A it [it,t] items.size (λi v=>items[i]? = some v) (λi h=>h.IsTupleIter it t i/\h.IsTuple t items) where
 live:=λ_ _ st=>let ⟨o,e,_⟩:=st.1; ⟨o,e⟩
 frame:=λ_ _ _ st k=>⟨let ⟨o,e,r⟩:=st.1; ⟨o,k it (by simp) o e,r⟩,let ⟨o,e,r⟩:=st.2; ⟨o,k t (by simp) o e,r⟩⟩
 item:=λi s Q E hi st q=>ad5 st.1 st.2 (Array.getElem?_eq_getElem hi) λh' a b=>q _ h' s.toks (Array.getElem?_eq_getElem hi) ⟨a,st.2.extBut b.extBut ne⟩ b
 done:=λs Q E st q=>agu hh st.1 st.2 (by simp) q
end
structure Ap (z TI TO i1 i2:Addr) (p q:List Addr):Prop where
 m1:i1∈p
 m2:i2∈q
 z1:z ∉ p
 z2:z ∉ q
 o1:TO ∉ p
 o2:TO ∉ q
 oz:TO≠z
 x1:i1 ∉ q
 x2:i2 ∉ p
section
variable{prog:Program}{w:World}{A:Around}{E:Value->Shared->Prop}{s:Shared}{z TI TO i1 i2:Addr}{p q:List Addr}{n1 n2 k:Nat}{P1 P2:Nat->Value->Prop}{S1 S2:Nat->Heap->Prop}{a b:Value}
theorem far{D:Draws prog w A i1 p n1 P1 S1}{h h':Heap}{c:Addr}(sb:Heap.SameBut c h h')(nc:c ∉ p)(st:S1 k h):S1 k h':=D.frame _ _ _ st λx hx o e=>sb.extBut x o (λy=>nc (y ▸ hx)) e
theorem aaz{Q:Fin->Shared->Prop}(hz:IsZip s.heap z TI TO .none)(hi:IsPair s.heap TI (.ref i1) (.ref i2))(ho:IsPair s.heap TO a b)(oz:TO≠z)
  (go:∀ h1,IsZip h1 z TI TO .ellipsis->Heap.SameBut z s.heap h1->wpAny (model prog w) A (nextOf (.ref i1))
   (λx s2=>IsPair s2.heap TO a b/\∀ h3,IsPair h3 TO x b->Heap.SameBut TO s2.heap h3->wpAny (model prog w) A (nextOf (.ref i2))
    (λy s4=>IsPair s4.heap TO x b/\∀ h5,IsPair h5 TO x y->Heap.SameBut TO s4.heap h5->IsZip h5 z TI TO .ellipsis/\∀ h8,IsZip h8 z TI TO (rawInt h5.objs.size)->IsPair h8 h5.objs.size x y->h8.objs.size=h5.objs.size+1->
     (∀ c o,c≠z->h5.get? c=some o->h8.get? c=some o)->Q (.done (.ret (.ref h5.objs.size))) { s4 with heap:=h8 })
    (λe s4=>wpAny (model prog w) A (setField (.ref z) 0 .none) (λ_ s5=>E e s5) E s4) { s2 with heap:=h3 })
   (λe s2=>wpAny (model prog w) A (setField (.ref z) 0 .none) (λ_ s3=>E e s3) E s2) { s with heap:=h1 }) :
  wpAny (model prog w) A (Builtin.«zip.__next__» ⟨[.ref z],[]⟩) Q E s:=by
 change wpAny (model prog w) A (field (.ref z) 2>>=_) _ _ _
 apply wpAny_bind;apply wpAny_field hz rfl (x:=.bool false) rfl
 change wpAny (model prog w) A (field (.ref z) 3>>=_) _ _ _
 apply wpAny_bind;apply wpAny_field hz rfl (x:=.ref TI) rfl
 apply wpAny_bind;apply wpAny_seqItems hi rfl
 change wpAny (model prog w) A (ownedTupleIsFree (.ref z)>>=_) _ _ _
 apply wpAny_bind
 rw [ownedTupleIsFree]
 apply wpAny_bind;apply wpAny_field hz rfl (x:=.none) rfl
 apply wpAny_pure
 rw [if_pos rfl]
 apply wpAny_bind;apply wpAny_rule
 apply wpAny_bind;apply wpAny_field hz rfl (x:=.ref TO) rfl
 apply wpAny_bind;apply wpAny_setField_rec hz (Nat.succ_pos _)
 intro h1 z1 b1
 apply wpAny_bind
 simp only [List.zipIdx_cons,List.zipIdx_nil,List.forIn_cons,List.forIn_nil]
 apply wpAny_bind;apply wpAny_bind;apply wpAny_onRaise
 change wpAny (model prog w) A (nextOf (.ref i1)>>=_) _ _ _
 apply wpAny_bind
 apply wpAny_mono (go h1 z1 b1) _ λ_ _ r=>r
 rintro x s2 ⟨o2,g2⟩
 apply wpAny_pure
 apply wpAny_bind;apply wpAny_seqItems o2 rfl
 apply wpAny_bind;apply wpAny_updateSeq_pair o2
 intro h3 o3 b3
 apply wpAny_bind;apply wpAny_letGo;apply wpAny_pure
 apply wpAny_bind;apply wpAny_bind;apply wpAny_onRaise
 change wpAny (model prog w) A (nextOf (.ref i2)>>=_) _ _ _
 apply wpAny_bind
 apply wpAny_mono (g2 h3 o3 b3) _ λ_ _ r=>r
 rintro y s4 ⟨o4,g4⟩
 apply wpAny_pure
 apply wpAny_bind;apply wpAny_seqItems o4 rfl
 apply wpAny_bind;apply wpAny_updateSeq_pair o4
 intro h5 o5 b5
 obtain ⟨z5,g5⟩:=g4 h5 o5 b5
 apply wpAny_bind;apply wpAny_letGo;apply wpAny_pure;apply wpAny_pure
 apply wpAny_bind;apply wpAny_seqItems o5 rfl
 apply wpAny_bind;refine wpAny_newTuple ?_ (by show 2<=sizeLine;decide)
 change wpAny (model prog w) A (ownedTupleHandOut (.ref z) (.ref h5.objs.size)>>=_) _ _ _
 apply wpAny_bind
 rw [ownedTupleHandOut];have z6:IsZip (h5.push { cls:=.type "tuple",data:=.seq #[x,y] }) z TI TO .ellipsis:=Heap.get?_push_of_some _ z5;have lt:z<h5.objs.size:=Heap.lt_size z5
 apply wpAny_bind;apply wpAny_setField_rec z6 (Nat.succ_pos _)
 intro h7 z7 b7
 apply wpAny_setField_rec z7 (by show 1<5;decide)
 intro h8 z8 b8
 apply wpAny_pure
 refine g5 h8 z8 (b8.extBut _ _ (Nat.ne_of_gt lt) (b7.extBut _ _ (Nat.ne_of_gt lt) (Heap.get?_push_size _ rfl))) ?_ λc o nc e=>b8.extBut _ _ nc (b7.extBut _ _ nc (Heap.get?_push_of_some _ e));rw [b8.1,b7.1,Heap.size_push]
theorem ad6{Q:Value->Shared->Prop}(D1:Draws prog w A i1 p n1 P1 S1)(D2:Draws prog w A i2 q n2 P2 S2)(ap:Ap z TI TO i1 i2 p q)(hz:IsZip s.heap z TI TO .none)(hi:IsPair s.heap TI (.ref i1) (.ref i2))(ho:IsPair s.heap TO a b)
  (s1:S1 k s.heap) (s2:S2 k s.heap) (k1:k<n1) (k2:k<n2)
  (hQ:∀ x y h' tk,P1 k x->P2 k y->IsZip h' z TI TO (rawInt s.heap.objs.size)->IsPair h' TO x y->S1 (k+1) h'->S2 (k+1) h'->IsPair h' s.heap.objs.size x y->h'.objs.size=s.heap.objs.size+1->
   (∀ c o,c≠z->c≠TO->c≠i1->c≠i2->s.heap.get? c=some o->h'.get? c=some o)->Q (.ref s.heap.objs.size) { s with heap:=h',toks:=tk }) :
  wpAny (model prog w) A (Builtin.«zip.__next__» ⟨[.ref z],[]⟩) (λfin s'=>∃ v,fin = .done (.ret v)/\Q v s') E s:=by
 have ni1:i1≠z:=λe=>ap.z1 (e ▸ ap.m1);have ni2:i2≠z:=λe=>ap.z2 (e ▸ ap.m2);have no1:TO≠i1:=λe=>ap.o1 (e ▸ ap.m1);have no2:TO≠i2:=λe=>ap.o2 (e ▸ ap.m2);refine aaz hz hi ho ap.oz λh1 z1 b1=>?_;refine D1.item k _ _ _ k1 (far (D:=D1) b1 ap.z1 s1) λx h2 t2 px st2 b2=>?_;refine ⟨b2.extBut _ _ no1 (b1.extBut _ _ ap.oz ho),λh3 o3 b3=>?_⟩;refine D2.item k _ _ _ k2 (far (D:=D2) b3 ap.o2 (far (D:=D2) b2 ap.x1 (far (D:=D2) b1 ap.z2 s2))) λy h4 t4 py st4 b4=>?_;refine ⟨b4.extBut _ _ no2 o3,λh5 o5 b5=>⟨b5.extBut _ _ ap.oz.symm (b4.extBut _ _ ni2.symm (b3.extBut _ _ ap.oz.symm (b2.extBut _ _ ni1.symm z1))),λh8 z8 t8 l8 k8=>⟨_,rfl,?_⟩⟩⟩
 have sz:h5.objs.size=s.heap.objs.size:=by rw [b5.1,b4.1,b3.1,b2.1,b1.1]
 have g1:S1 (k+1) h8:=D1.frame _ _ _ (far (D:=D1) b5 ap.o1 (far (D:=D1) b4 ap.x2 (far (D:=D1) b3 ap.o1 st2))) λc hc o e=>k8 c o (λy=>ap.z1 (y ▸ hc)) e;have g2:S2 (k+1) h8:=D2.frame _ _ _ (far (D:=D2) b5 ap.o2 st4) λc hc o e=>k8 c o (λy=>ap.z2 (y ▸ hc)) e;rw [sz] at z8 t8 l8 ⊢;exact hQ x y h8 t4 px py z8 (k8 _ _ ap.oz o5) g1 g2 t8 l8 λc o c1 c2 c3 c4 e=>k8 c o c1 (b5.extBut _ _ c2 (b4.extBut _ _ c4 (b3.extBut _ _ c2 (b2.extBut _ _ c3 (b1.extBut _ _ c1 e)))))
theorem agv{Q:Fin->Shared->Prop}(D1:Draws prog w A i1 p n1 P1 S1)(D2:Draws prog w A i2 q n2 P2 S2)(ap:Ap z TI TO i1 i2 p q)(hz:IsZip s.heap z TI TO .none)(hi:IsPair s.heap TI (.ref i1) (.ref i2))(ho:IsPair s.heap TO a b)
  (s1:S1 k s.heap) (s2:S2 k s.heap) (kk:k=n1\/(k<n1/\k=n2))
  (hE:∀ h' tk e,(∀ c o,c≠z->c≠TO->c≠i1->c≠i2->s.heap.get? c=some o->h'.get? c=some o)->(∃ o,h'.get? e=some o/\o.cls = .type "StopIteration")->E (.ref e) { s with heap:=h',toks:=tk }) :
  wpAny (model prog w) A (Builtin.«zip.__next__» ⟨[.ref z],[]⟩) Q E s:=by
 have ni1:i1≠z:=λe=>ap.z1 (e ▸ ap.m1);have ni2:i2≠z:=λe=>ap.z2 (e ▸ ap.m2);have no1:TO≠i1:=λe=>ap.o1 (e ▸ ap.m1);have stop:∀ {h:Heap} {e:Addr},(∃ o,h.get? e=some o/\o.cls = .type "StopIteration")->IsZip h z TI TO .ellipsis->e≠z:=λ{h e} ⟨o,eo,ec⟩ zz y=>by
  subst y;rw [zz] at eo;cases eo;simp at ec
 refine aaz hz hi ho ap.oz λh1 z1 b1=>?_
 rcases kk with rfl | ⟨k1,rfl⟩
 ·refine D1.done _ _ _ (far (D:=D1) b1 ap.z1 s1) λh2 e x2 st=>?_;have z2:IsZip h2 z TI TO .ellipsis:=x2 _ _ ni1.symm z1;have ne:=stop st z2;obtain ⟨oe,f1,f2⟩:=st;refine wpAny_setField_rec z2 (Nat.succ_pos _) λh3 _ b3=>?_;exact hE h3 _ e (λc o c1 _ c3 _ y=>b3.extBut _ _ c1 (x2 _ _ c3 (b1.extBut _ _ c1 y))) ⟨oe,b3.extBut _ _ ne f1,f2⟩
 ·refine D1.item k _ _ _ k1 (far (D:=D1) b1 ap.z1 s1) λx h2 t2 px st2 b2=>?_;refine ⟨b2.extBut _ _ no1 (b1.extBut _ _ ap.oz ho),λh3 o3 b3=>?_⟩;refine D2.done _ _ _ (far (D:=D2) b3 ap.o2 (far (D:=D2) b2 ap.x1 (far (D:=D2) b1 ap.z2 s2))) λh4 e x4 st=>?_;have z4:IsZip h4 z TI TO .ellipsis:=x4 _ _ ni2.symm (b3.extBut _ _ ap.oz.symm (b2.extBut _ _ ni1.symm z1));have ne:=stop st z4;obtain ⟨oe,f1,f2⟩:=st;refine wpAny_setField_rec z4 (Nat.succ_pos _) λh5 _ b5=>?_;exact hE h5 _ e (λc o c1 c2 c3 c4 y=>b5.extBut _ _ c1 (x4 _ _ c4 (b3.extBut _ _ c2 (b2.extBut _ _ c3 (b1.extBut _ _ c1 y))))) ⟨oe,b5.extBut _ _ ne f1,f2⟩
theorem next_item{Q:Option Value->Shared->Prop}(D1:Draws prog w A.in1 i1 p n1 P1 S1)(D2:Draws prog w A.in1 i2 q n2 P2 S2)(ap:Ap z TI TO i1 i2 p q)(hz:IsZip s.heap z TI TO .none)(hi:IsPair s.heap TI (.ref i1) (.ref i2))(ho:IsPair s.heap TO a b)
  (s1:S1 k s.heap) (s2:S2 k s.heap) (k1:k<n1) (k2:k<n2)
  (hQ:∀ x y h' tk,P1 k x->P2 k y->IsZip h' z TI TO (rawInt s.heap.objs.size)->IsPair h' TO x y->S1 (k+1) h'->S2 (k+1) h'->IsPair h' s.heap.objs.size x y->h'.objs.size=s.heap.objs.size+1->
   (∀ c o,c≠z->c≠TO->c≠i1->c≠i2->s.heap.get? c=some o->h'.get? c=some o)->Q (some (.ref s.heap.objs.size)) { s with heap:=h',toks:=tk }):wpAny (model prog w) A (pyNext (.ref z)) Q E s:=by
 have ty:s.TypeIs (.ref z) "zip":=⟨_,hz,rfl⟩;rw [pyNext]
 apply wpAny_bind;apply wpAny_attempt
 apply wpAny_callSpecial?_slot (name:=Str.ofString "__next__") ty F.slot_zip_next
 apply wpAny_call_entry F.slot_zip_next ty F.entry_zip_next _ (F.args_zip_next_1 _)
 exact ad6 D1 D2 ap hz hi ho s1 s2 k1 k2 λx y h' tk c1 c2 c3 c4 c5 c6 c7 c8 c9=>wpAny_pure (hQ x y h' tk c1 c2 c3 c4 c5 c6 c7 c8 c9)
theorem next_end{Q:Option Value->Shared->Prop}(D1:Draws prog w A.in1 i1 p n1 P1 S1)(D2:Draws prog w A.in1 i2 q n2 P2 S2)(ap:Ap z TI TO i1 i2 p q)(hz:IsZip s.heap z TI TO .none)(hi:IsPair s.heap TI (.ref i1) (.ref i2))(ho:IsPair s.heap TO a b)
  (s1:S1 k s.heap) (s2:S2 k s.heap) (kk:k=n1\/(k<n1/\k=n2))
  (hQ:∀ h' tk,(∀ c o,c≠z->c≠TO->c≠i1->c≠i2->s.heap.get? c=some o->h'.get? c=some o)->Q none { s with heap:=h',toks:=tk }):wpAny (model prog w) A (pyNext (.ref z)) Q E s:=by
 have ty:s.TypeIs (.ref z) "zip":=⟨_,hz,rfl⟩;rw [pyNext]
 apply wpAny_bind;apply wpAny_attempt
 apply wpAny_callSpecial?_slot (name:=Str.ofString "__next__") ty F.slot_zip_next
 apply wpAny_call_entry F.slot_zip_next ty F.entry_zip_next _ (F.args_zip_next_1 _)
 refine agv D1 D2 ap hz hi ho s1 s2 kk λh' tk e kp ⟨o,f1,f2⟩=>?_;refine wpAny_bind (wpAny_isInstance (b:=true) (T := "StopIteration") ⟨o,f1,f2⟩ isSubtype_stop (wpAny_pure (hQ h' tk kp)))
end
end ZP
namespace ZP
open PySem PySem.Spec PySem.Builtin PySem.Builtin.SmallTypes L2
inductive Srk where
 | tup (a:Addr) | lst (a:Addr) | str (x:Str)
def Srk.v:Srk->V
 | .tup a=>.ref a
 | .lst a=>.ref a
 | .str x=>.str x
def its(H:Hp):Srk->Option (List V)
 | .tup a=>match H a with | some (.tup vs)=>some vs | _=>none
 | .lst a=>match H a with | some (.lst vs)=>some vs | some (.frz _ (.lst vs))=>some vs | _=>none
 | .str x=>some (ud x)
def own(it:Addr)(t:Tok):Srk->Nat->Heap->Prop
 | .tup a,i,h=>h.IsTupleIter it a i
 | .lst a,i,h=>h.IsListIter it a i
 | .str x,i,h=>h.IsStrIter it (strIterType x) x t i
def iob(t:Tok):Srk->Obj
 | .tup a=>{ cls:=.type "tuple_iterator",data:=.fields #[.ref a, .int 0 0] }
 | .lst a=>{ cls:=.type "list_iterator",data:=.fields #[.ref a, .int 0 0] }
 | .str x=>{ cls:=.type (strIterType x),data:=.fields #[.str x t, .int 0 0] }
def val(t:Tok):Srk->Value
 | .tup a=>.ref a
 | .lst a=>.ref a
 | .str x=>.str x t
def cont(h:Heap):Srk->List Value->Prop
 | .tup a,us=>h.IsTuple a us.toArray
 | .lst a,us=>h.IsList a us.toArray
 | .str x,us=>True
theorem anu{it:Addr}{t:Tok}{k:Srk}{h:Heap}(e:h.get? it=some (iob t k)):own it t k 0 h:=by
 cases k with
 | tup a=>exact ⟨_,e,rfl,rfl⟩
 | lst a=>exact ⟨_,e,rfl,rfl⟩
 | str x=>exact ⟨_,e,rfl,rfl⟩
theorem a4i{it:Addr}{t:Tok}{k:Srk}{i:Nat}{h:Heap}(o:own it t k i h):∃ ob,h.get? it=some ob/\∀ v,ob.data≠.cell v:=by
 cases k with
 | tup a=>obtain ⟨ob,e,_,d⟩:=o;exact ⟨ob,e,λv z=>by rw [d] at z;cases z⟩
 | lst a=>obtain ⟨ob,e,_,d⟩:=o;exact ⟨ob,e,λv z=>by rw [d] at z;cases z⟩
 | str x=>obtain ⟨ob,e,_,d⟩:=o;exact ⟨ob,e,λv z=>by rw [d] at z;cases z⟩
theorem a1q{it:Addr}{t:Tok}{k:Srk}{i:Nat}{h h':Heap}(o:own it t k i h)(kk:∀ ob,h.get? it=some ob->h'.get? it=some ob):own it t k i h':=by
 cases k with
 | tup a=>obtain ⟨ob,e,r⟩:=o;exact ⟨ob,kk _ e,r⟩
 | lst a=>obtain ⟨ob,e,r⟩:=o;exact ⟨ob,kk _ e,r⟩
 | str x=>obtain ⟨ob,e,r⟩:=o;exact ⟨ob,kk _ e,r⟩
section
variable{P:Program}{w:World}{H:Hp}{s:Shared}
theorem a4j{X:Cx}{pins:List (Addr × Obj)}{σ:St}(I:Inv X pins σ H s){k:Srk}{xs:List V}(e:its H k=some xs):∃ us,cont s.heap k us/\((∀ x,k≠.str x)->Vals xs us):=by
 cases k with
 | tup a =>
  cases q:H a with
  | none=>simp [its,q] at e
  | some o =>
   cases o with
   | tup vs =>
    simp [its,q] at e;subst e
    obtain ⟨us,r,t,_⟩:=I.tuple (SqT.of q);exact ⟨us,t,λ_=>r⟩
   | _=>simp [its,q] at e
 | lst a =>
  cases q:H a with
  | none=>simp [its,q] at e
  | some o =>
   cases o with
   | lst vs =>
    simp [its,q] at e;subst e
    obtain ⟨us,r,t,_⟩:=I.list (SqL.of q);exact ⟨us,t.isList,λ_=>r⟩
   | frz ob u =>
    cases u with
    | lst vs =>
     simp [its,q] at e;subst e
     obtain ⟨us,r,t,_⟩:=I.list (.inl (.inr ⟨_,q⟩));exact ⟨us,t.isList,λ_=>r⟩
    | _=>simp [its,q] at e
   | _=>simp [its,q] at e
 | str x=>exact ⟨[],True.intro,λn=>absurd rfl (n x)⟩
theorem a4k{X:Cx}{pins:List (Addr × Obj)}{σ:St}(I:Inv X pins σ H s){k:Srk}{xs:List V}{it:Addr}{t:Tok}(e:its H k=some xs)(hn:H it=none) :
  ∃ (cs:List Addr) (P1:Nat->Value->Prop) (S1:Nat->Heap->Prop),(∀ A:Around,A.handled=none->Draws X.prog X.w A it (it::cs) xs.length P1 S1)/\(∀ i,own it t k i s.heap->S1 i s.heap)/\(∀ i h,S1 i h->own it t k i h)/\(∀ c∈cs,H c≠none) /\
   ∀ i v,P1 i v->∃ x,xs[i]? = some x/\RelV x v:=by
 cases k with
 | tup a =>
  obtain ⟨us,c,r⟩:=a4j I e;have r:=r (by intro x z;cases z)
  have ha:H a≠none:=λz=>by simp [its,z] at e
  have l:us.toArray.size=xs.length:=by rw [List.size_toArray,r.length]
  refine ⟨[a],λi v=>us.toArray[i]? = some v,λi h=>h.IsTupleIter it a i/\h.IsTuple a us.toArray,λA hA=>?_,λi o=>⟨o,c⟩,λi h z=>z.1,λc hc=>by rw [List.mem_singleton.mp hc];exact ha,λi v z=>?_⟩
  ·have:=aay (prog:=X.prog) (w:=X.w) hA it a (λy=>ha (y ▸ hn)) us.toArray
   rw [l] at this;exact this
  ·have z':us[i]? = some v:=by simpa using z
   have hi:i<xs.length:=by rw [r.length];exact (List.getElem?_eq_some_iff.mp z').1
   obtain ⟨u,e1,e2⟩:=r.get (List.getElem?_eq_getElem hi);rw [z'] at e1;cases e1
   exact ⟨_,List.getElem?_eq_getElem hi,e2⟩
 | lst a =>
  obtain ⟨us,c,r⟩:=a4j I e;have r:=r (by intro x z;cases z)
  have ha:H a≠none:=λz=>by simp [its,z] at e
  have l:us.toArray.size=xs.length:=by rw [List.size_toArray,r.length]
  refine ⟨[a],λi v=>us.toArray[i]? = some v,λi h=>h.IsListIter it a i/\h.IsList a us.toArray,λA hA=>?_,λi o=>⟨o,c⟩,λi h z=>z.1,λc hc=>by rw [List.mem_singleton.mp hc];exact ha,λi v z=>?_⟩
  ·have:=Draws.list (prog:=X.prog) (w:=X.w) hA it a (λy=>ha (y ▸ hn)) us.toArray
   rw [l] at this;exact this
  ·have z':us[i]? = some v:=by simpa using z
   have hi:i<xs.length:=by rw [r.length];exact (List.getElem?_eq_some_iff.mp z').1
   obtain ⟨u,e1,e2⟩:=r.get (List.getElem?_eq_getElem hi);rw [z'] at e1;cases e1
   exact ⟨_,List.getElem?_eq_getElem hi,e2⟩
 | str x =>
  cases e
  have l:(ud x).length=x.cps.size:=by simp [ud]
  refine ⟨[],λi v=>∃ c u,x.cps[i]? = some c/\v = .str ⟨#[c]⟩ u,λi h=>h.IsStrIter it (strIterType x) x t i,λA hA=>?_,λi o=>o,λi h z=>z,λc hc=>(by cases hc),λi v z=>?_⟩
  ·rw [l]
   cases ha:x.cps.all (· < 128)
   ·have:=Draws.strWide (prog:=X.prog) (w:=X.w) hA it x t
    simpa [strIterType,ha] using this
   ·have:=Draws.strAscii (prog:=X.prog) (w:=X.w) hA it x t
    simpa [strIterType,ha] using this
  ·obtain ⟨c,u,e1,rfl⟩:=z;exact ⟨.str ⟨#[c]⟩,by simp [ud,e1],⟨_,rfl⟩⟩
end
def ItZ(k1 k2:Srk):It where
 go:=λi H=>∃ xs ys x y,its H k1=some xs/\its H k2=some ys/\xs[i]? = some x/\ys[i]? = some y
 yld:=λi H v H'=>∃ xs ys x y p,its H k1=some xs/\its H k2=some ys/\xs[i]? = some x/\ys[i]? = some y/\H p=none/\v = .ref p/\H'=upd H p (.tup [x,y])
 stop:=λi H=>∃ xs ys,its H k1=some xs/\its H k2=some ys/\(i=xs.length\/(i<xs.length/\i=ys.length))
def tnZ(z TI TO i1 i2:Addr)(t1 t2:Tok)(k1 k2:Srk)(i:Nat)(h:Heap):Prop :=
 IsZip h z TI TO .none/\IsPair h TI (.ref i1) (.ref i2)/\(∃ a b,IsPair h TO a b)/\own i1 t1 k1 i h/\own i2 t2 k2 i h
structure Far (z TI TO i1 i2:Addr):Prop where
 a:TI≠z
 b:TO≠z
 c:i1≠z
 d:i2≠z
 e:TI≠TO
 f:TI≠i1
 g:TI≠i2
 h:TO≠i1
 i:TO≠i2
 j:i1≠i2
theorem ab0{X:Cx}{pins:List (Addr × Obj)}{σ:St}{H:Hp}{s:Shared}{h':Heap}{t':Nat}{ch:List Addr}(I:Inv X pins σ H s)(hf:∀ b∈ch,a7q X pins H b)(k:∀ b o,b ∉ ch->s.heap.get? b=some o->h'.get? b=some o) :
  Inv X pins σ H { s with heap:=h',toks:=t' }:=by
 have nit:∀ b u,H b=some u->b ∉ ch:=λb u e z=>by rw [(hf b z).1] at e;cases e
 refine I.step (g':=s.gens) (d':=s.drawn) (ch:=ch) (λb hb=>?_) (λb o _ _ hc e _=>k b o hc e) (λb o _ _ hc e _=>⟨o.slots,k b o hc e⟩) (λ_ _ _ _ n=>n) (λb o hc e=>⟨o,k b o hc e⟩) (λ_ _ e=>e) (λ_ _ _ e=>e)
  (λb ps e=>⟨#[],by rw [e];simp⟩) (λm hm=>?_) (λb u e=>?_) I.bare
 ·obtain ⟨_,f1,_,f3,f4,f5⟩:=hf b hb;exact ⟨f3,f1,f4,f5⟩
 ·obtain ⟨o,es,ep,ho,r⟩:=hm;exact ⟨o,es,ep,k _ o (λz=>(hf _ z).2.1 rfl) ho,r⟩
 ·refine (I.hok b u e).stay (λc v hc q=>k c v ?_ q) (λ_ q=>q) λ_ _ q=>q
  rcases hc with z | z
  ·rw [z];exact nit b u e
  ·exact nit c _ z
theorem ad7{P:Program}{w:World}{K:PySem.W.Frag}{elts:List Expr}{x1:Nat}{pos:Pos}{z TI TO i1 i2:Addr}{t1 t2:Tok}{k1 k2:Srk}(f:Far z TI TO i1 i2):Turn P w K (.Tuple elts x1 pos) (ItZ k1 k2) [z,TI,TO,i1,i2] z (tnZ z TI TO i1 i2 t1 t2 k1 k2) where
 mem:=by simp
 obj:=λi h st b hb=>by
  obtain ⟨h1,h2,⟨a,b',h3⟩,h4,h5⟩:=st;simp only [List.mem_cons,List.not_mem_nil,or_false] at hb
  rcases hb with rfl | rfl | rfl | rfl | rfl
  ·exact ⟨_,h1,λv z=>(by cases z)⟩
  ·exact ⟨_,h2,λv z=>(by cases z)⟩
  ·exact ⟨_,h3,λv z=>(by cases z)⟩
  ·exact a4i h4
  ·exact a4i h5
 keep:=λi h h' st k=>by
  obtain ⟨h1,h2,⟨a,b',h3⟩,h4,h5⟩:=st;exact ⟨k z (by simp) _ h1,k TI (by simp) _ h2,⟨a,b',k TO (by simp) _ h3⟩,a1q h4 λob e=>k i1 (by simp) ob e,a1q h5 λob e=>k i2 (by simp) ob e⟩
 item:=by
  intro X hP hw hK hc i pins s σ H E I hf st hg
  subst hP hw hK;obtain ⟨xs,ys,x,y,e1,e2,g1,g2⟩:=hg;obtain ⟨h1,h2,⟨a,b,h3⟩,h4,h5⟩:=st;have n:∀ c∈[z,TI,TO,i1,i2],H c=none:=λc hc=>(hf c hc).1;obtain ⟨cs,P1,S1,D1,a1,b1,c1,d1⟩:=a4k I (t:=t1) e1 (n i1 (by simp))
  obtain ⟨ds,P2,S2,D2,a2,b2,c2,d2⟩:=a4k I (t:=t2) e2 (n i2 (by simp))
  have hd:=I.ok.hd hc;have out1:∀ c,H c=none->c ∉ cs:=λc e z=>c1 c z e;have out2:∀ c,H c=none->c ∉ ds:=λc e z=>c2 c z e;have ap:Ap z TI TO i1 i2 (i1::cs) (i2::ds):=⟨by simp,by simp,by simp [f.c.symm,out1 z (n z (by simp))],by simp [f.d.symm,out2 z (n z (by simp))],by simp [f.h,out1 TO (n TO (by simp))],by simp [f.i,out2 TO (n TO (by simp))],f.b,by simp [f.j,out2 i1 (n i1 (by simp))],by simp [f.j.symm,out1 i2 (n i2 (by simp))]⟩
  refine next_item (D1 X.A.in1 hd) (D2 X.A.in1 hd) ap h1 h2 h3 (a1 i h4) (a2 i h5) (List.getElem?_eq_some_iff.mp g1).1 (List.getElem?_eq_some_iff.mp g2).1 λu v h' tk pu pv z' to' s1' s2' pr sz kp=>?_;obtain ⟨x',q1,r1⟩:=d1 i u pu;obtain ⟨y',q2,r2⟩:=d2 i v pv;rw [g1] at q1;cases q1
  rw [g2] at q2;cases q2
  refine ⟨_,rfl,wpAny_letOwnedTupleGo_zip z' λh2' z2' sb=>?_⟩;have hp:H s.heap.objs.size=none:=I.hok.fresh (Nat.le_refl _);have lt:∀ c∈[z,TI,TO,i1,i2],c<s.heap.objs.size:=λc hc=>by
   simp only [List.mem_cons,List.not_mem_nil,or_false] at hc
   rcases hc with rfl | rfl | rfl | rfl | rfl
   ·exact Heap.lt_size h1
   ·exact Heap.lt_size h2
   ·exact Heap.lt_size h3
   ·obtain ⟨_,e,_⟩:=a4i h4;exact Heap.lt_size e
   ·obtain ⟨_,e,_⟩:=a4i h5;exact Heap.lt_size e
  have all:∀ c o,c ∉ [z,TI,TO,i1,i2]->s.heap.get? c=some o->h2'.get? c=some o:=λc o nc e=>by
   simp only [List.mem_cons,List.not_mem_nil,or_false,not_or] at nc;exact (sb.2 c nc.1).trans (kp c o nc.1 nc.2.2.1 nc.2.2.2.1 nc.2.2.2.2 e)
  have nT:∀ c∈[z,TI,TO,i1,i2],c≠s.heap.objs.size:=λc hc=>Nat.ne_of_lt (lt c hc);have I0:Inv X pins σ (upd H s.heap.objs.size (.tup [x,y])) { s with heap:=s.heap.push { cls:=.type "tuple",data:=.seq #[u,v] } } :=
   I.laid (t':=s.toks) (o:=.tup [x,y]) (λb o e=>Heap.get?_push_of_some _ e) (Nat.le_refl _) ⟨by show 2<=sizeLine;decide,[u,v], .cons r1 (.cons r2 .nil),⟨_,Heap.get?_push_size _ rfl,rfl,_,rfl⟩⟩
  have I1:Inv X pins σ (upd H s.heap.objs.size (.tup [x,y])) { s with heap:=h2',toks:=tk }:=by
   refine ab0 (s:={ s with heap:=s.heap.push { cls:=.type "tuple",data:=.seq #[u,v] } }) (ch:=[z,TI,TO,i1,i2]) I0 (λb hb=>?_) λc o nc e=>?_
   ·obtain ⟨f0,f1⟩:=hf b hb;exact ⟨by rw [jm (nT b hb)];exact f0,f1⟩
   ·rcases Heap.get?_push_cases e with ⟨rfl,rfl⟩ | e
    ·exact (sb.2 _ (nT z (by simp)).symm).trans pr
    ·exact all c o nc e
  refine ⟨.ref s.heap.objs.size,_,I1,rfl,⟨xs,ys,x,y,_,e1,e2,g1,g2,hp,rfl,rfl⟩,⟨z2',?_,⟨u,v,(sb.2 _ f.b).trans to'⟩,a1q (b1 _ _ s1') λob e=>(sb.2 _ f.c).trans e,a1q (b2 _ _ s2') λob e=>(sb.2 _ f.d).trans e⟩,λb hb=>?_⟩
  ·exact (sb.2 _ f.a).trans (kp TI _ f.a f.e f.f f.g h2)
  ·rw [jm (nT b hb)];exact n b hb
 done:=by
  intro X hP hw hK hc i pins s σ H E I hf st hg
  subst hP hw hK;obtain ⟨xs,ys,e1,e2,g⟩:=hg;obtain ⟨h1,h2,⟨a,b,h3⟩,h4,h5⟩:=st;have n:∀ c∈[z,TI,TO,i1,i2],H c=none:=λc hc=>(hf c hc).1;obtain ⟨cs,P1,S1,D1,a1,b1,c1,d1⟩:=a4k I (t:=t1) e1 (n i1 (by simp))
  obtain ⟨ds,P2,S2,D2,a2,b2,c2,d2⟩:=a4k I (t:=t2) e2 (n i2 (by simp))
  have hd:=I.ok.hd hc;have out1:∀ c,H c=none->c ∉ cs:=λc e z=>c1 c z e;have out2:∀ c,H c=none->c ∉ ds:=λc e z=>c2 c z e;have ap:Ap z TI TO i1 i2 (i1::cs) (i2::ds):=⟨by simp,by simp,by simp [f.c.symm,out1 z (n z (by simp))],by simp [f.d.symm,out2 z (n z (by simp))],by simp [f.h,out1 TO (n TO (by simp))],by simp [f.i,out2 TO (n TO (by simp))],f.b,by simp [f.j,out2 i1 (n i1 (by simp))],by simp [f.j.symm,out1 i2 (n i2 (by simp))]⟩
  refine next_end (D1 X.A.in1 hd) (D2 X.A.in1 hd) ap h1 h2 h3 (a1 i h4) (a2 i h5) g λh' tk kp=>⟨rfl,ab0 I hf λc o nc e=>?_⟩;simp only [List.mem_cons,List.not_mem_nil,or_false,not_or] at nc;exact kp c o nc.1 nc.2.2.1 nc.2.2.2.1 nc.2.2.2.2 e
 self:=λ_ _ _ _ _ st h=>wpAny_pyIter_zip st.1 h
theorem ab1{h:Heap}{k:Srk}{us:List Value}(c:cont h k us)(o:Obj):cont (h.push o) k us:=by
 cases k with
 | tup a=>obtain ⟨ob,e,r⟩:=c;exact ⟨ob,Heap.get?_push_of_some _ e,r⟩
 | lst a=>obtain ⟨ob,e,r⟩:=c;exact ⟨ob,Heap.get?_push_of_some _ e,r⟩
 | str x=>trivial
theorem a89{prog:Program}{w:World}{A:Around}{E:Value->Shared->Prop}{s:Shared}{k:Srk}{t:Tok}{us:List Value}{Q:Value->Shared->Prop}(c:cont s.heap k us)(q:Q (.ref s.heap.objs.size) { s with heap:=s.heap.push (iob t k) }) :
  wpAny (model prog w) A (pyIter (val t k)) Q E s:=by
 cases k with
 | tup a=>exact wpAny_pyIter_tuple c q
 | lst a=>exact wpAny_pyIter_list c q
 | str x=>exact wpAny_pyIter_strU q
def mk2(h:Heap)(t1 t2:Tok)(k1 k2:Srk):Heap:=(h.push (iob t1 k1)).push (iob t2 k2)
def mk5(h:Heap)(t1 t2:Tok)(k1 k2:Srk):Heap :=
 (((mk2 h t1 t2 k1 k2).push { cls:=.type "tuple",data:=.seq #[.ref h.objs.size, .ref (h.objs.size+1)] }).push { cls:=.type "tuple",data:=.seq #[.none, .none] }).push
  { cls:=.type "zip",data:=.fields #[.none, .bool false, .bool false, .ref (h.objs.size+2), .ref (h.objs.size+3)] }
theorem ad8(t1 t2:Tok)(k1 k2:Srk)(us1 us2:List Value):Meets (Builtin.«zip.__new__» ⟨[.type "zip",val t1 k1,val t2 k2],[]⟩)
  (λ_ R s=>cont s.heap k1 us1/\cont s.heap k2 us2/\R (.ok (.ret (.ref (s.heap.objs.size+4)))) { s with heap:=mk5 s.heap t1 t2 k1 k2 }) :=
 .of_wp λprog w A R s h=>by
  obtain ⟨hp,g,d,tk,os⟩:=s;obtain ⟨c1,c2,h⟩:=h;have sub:=sub_zip;have c1':cont (Shared.heap ⟨hp,g,d,tk,os⟩) k1 us1:=c1;have c2':cont (Shared.heap ⟨hp.push (iob t1 k1),g,d,tk,os⟩) k2 us2:=ab1 c2 _
  wp_walk using a89 (t:=t1) c1',a89 (t:=t2) c2'
  refine ⟨_,rfl,?_⟩;simpa [mk5,mk2,Heap.size_push,ownedTupleFields,Nat.add_assoc] using h
theorem amw(n:Nat):Far (n+4) (n+2) (n+3) n (n+1):=by
 refine ⟨?_,?_,?_,?_,?_,?_,?_,?_,?_,?_⟩<;>(intro z;have z:(_:Nat)=_:=z;omega)
theorem aot(n b:Nat)(h:b∈[n+4,n+2,n+3,n,n+1]):n<=b:=by
 simp only [List.mem_cons,List.not_mem_nil,or_false] at h;omega
section
variable{X:Cx}{elts:List Expr}{x1:Nat}{tpos:Pos}
def aou(ta:TA):TI:=λσ H R=>ta σ H λvs H1=>∃ k1 k2 xs ys,vs=[Srk.v k1,Srk.v k2]/\its H1 k1=some xs/\its H1 k2=some ys/\R (ItZ k1 k2) H1
theorem aey{k:Srk}{u:Value}(r:RelV k.v u):∃ t,u=val t k:=by
 cases k with
 | tup a=>cases r;exact ⟨0,rfl⟩
 | lst a=>cases r;exact ⟨0,rfl⟩
 | str x=>obtain ⟨t,rfl⟩:=r;exact ⟨t,rfl⟩
theorem ajw{e1 e2:Expr}{ta:TA}{p pos:Pos}(hg:Gl X "zip")(hm:X.mg "zip" = none)(hb:bootBuiltins "zip" = some (.type "zip"))(ha:PA X [e1,e2] ta)
  (h1:starEach [e1,e2] X.env=[(false,eval e1 X.env),(false,eval e2 X.env)]:=by rfl) (h2:starEach [e2] X.env=[(false,eval e2 X.env)]:=by rfl):PI X (.Tuple elts x1 tpos) (.Call (.Name "zip" p) [e1,e2] [] pos) (aou ta):=by
 intro pins s σ H R I h
 refine wpAny_Call_Name_kw (a5s I hg hm hb ?_ (by decide) (by decide))
 refine PyProof.Rows.callWith_type1 (thn (ha pos pins s σ H _ I h) λus s1 ⟨vs,H1,I1,r1,q1⟩=>?_) (by rw [h1,h2]) (by rw [h2];rfl)
 obtain ⟨k1,k2,xs,ys,rfl,e1,e2,q⟩:=q1;obtain ⟨v1,v2,rfl,rv1,rv2⟩:=vals2 r1;obtain ⟨t1,rfl⟩:=aey rv1;obtain ⟨t2,rfl⟩:=aey rv2;obtain ⟨us1,c1,_⟩:=a4j I1 e1;obtain ⟨us2,c2,_⟩:=a4j I1 e2;refine callType_new F.called_zip (by decide) (F.typeCall_zip_2 _ _) (F.newCall_zip_2 _ _) (λobj=>F.args_object_init_3 obj _ _) F.entry_zip_new (ad8 t1 t2 k1 k2 us1 us2) ⟨c1,c2,?_⟩
 have z2:(mk2 s1.heap t1 t2 k1 k2).objs.size=s1.heap.objs.size+2:=by simp [mk2,Heap.size_push]
 have at0:(mk5 s1.heap t1 t2 k1 k2).get? s1.heap.objs.size=some (iob t1 k1):=by
  unfold mk5 mk2;exact Heap.get?_push_of_some _ (Heap.get?_push_of_some _ (Heap.get?_push_of_some _ (Heap.get?_push_of_some _ (Heap.get?_push_size _ (by cases k1<;>rfl)))))
 have at1:(mk5 s1.heap t1 t2 k1 k2).get? (s1.heap.objs.size+1)=some (iob t2 k2):=by
  unfold mk5 mk2;have:=Heap.get?_push_size (o:=iob t2 k2) (s1.heap.push (iob t1 k1)) (by cases k2<;>rfl)
  rw [Heap.size_push] at this;exact Heap.get?_push_of_some _ (Heap.get?_push_of_some _ (Heap.get?_push_of_some _ this))
 have at2:IsPair (mk5 s1.heap t1 t2 k1 k2) (s1.heap.objs.size+2) (.ref s1.heap.objs.size) (.ref (s1.heap.objs.size+1)):=by
  unfold mk5;rw [<-z2];exact Heap.get?_push_of_some _ (Heap.get?_push_of_some _ (Heap.get?_push_size _ rfl))
 have at3:IsPair (mk5 s1.heap t1 t2 k1 k2) (s1.heap.objs.size+3) .none .none:=by
  unfold mk5;have:=Heap.get?_push_size (o:={ cls:=.type "tuple",data:=.seq #[.none, .none] }) ((mk2 s1.heap t1 t2 k1 k2).push { cls:=.type "tuple",data:=.seq #[.ref s1.heap.objs.size, .ref (s1.heap.objs.size+1)] }) rfl;rw [Heap.size_push,z2] at this;exact Heap.get?_push_of_some _ this
 have at4:IsZip (mk5 s1.heap t1 t2 k1 k2) (s1.heap.objs.size+4) (s1.heap.objs.size+2) (s1.heap.objs.size+3) .none:=by
  unfold mk5;have:=Heap.get?_push_size (o:={ cls:=.type "zip",data:=.fields #[.none, .bool false, .bool false, .ref (s1.heap.objs.size+2), .ref (s1.heap.objs.size+3)] }) (((mk2 s1.heap t1 t2 k1 k2).push { cls:=.type "tuple",data:=.seq #[.ref s1.heap.objs.size, .ref (s1.heap.objs.size+1)] }).push { cls:=.type "tuple",data:=.seq #[.none, .none] }) rfl;rw [Heap.size_push,Heap.size_push,z2] at this;exact this
 have keepA:∀ b o,s1.heap.get? b=some o->(mk5 s1.heap t1 t2 k1 k2).get? b=some o:=λb o e=>by
  unfold mk5 mk2;exact Heap.get?_push_of_some _ (Heap.get?_push_of_some _ (Heap.get?_push_of_some _ (Heap.get?_push_of_some _ (Heap.get?_push_of_some _ e))))
 have I2:Inv X pins σ H1 { s1 with heap:=mk5 s1.heap t1 t2 k1 k2 }:=I1.kept (t':=s1.toks) keepA
 refine ⟨⟨_,at4,rfl⟩,?_⟩;refine wpAny_pyIter_zip (s:={ s1 with heap:=mk5 s1.heap t1 t2 k1 k2 }) at4 ?_
 refine ⟨s1.heap.objs.size+4,[s1.heap.objs.size+4,s1.heap.objs.size+2,s1.heap.objs.size+3,s1.heap.objs.size,s1.heap.objs.size+1],tnZ _ _ _ _ _ t1 t2 k1 k2,ItZ k1 k2,H1,rfl,I2,ad7 (amw s1.heap.objs.size),
  ⟨at4,at2,⟨_,_,at3⟩,anu at0,anu at1⟩,λb hb=>?_,q⟩
 have:s1.heap.objs.size<=b:=aot _ b hb
 exact I1.fpOk this (I1.hok.fresh this)
end
end ZP
namespace MI
open PySem PySem.Spec L2 ZP
def srcOf(d:D)(h:Hd):Option (List D × (Hd->Prop)):=match d with
 | .tup xs=>some (xs,λ_=>True)
 | .rol xs=>some (xs,λ_=>True)
 | .str x=>some (yj x,λ_=>True)
 | .ref i=>(match h[i]? with | some (.lst xs)=>some (xs,λh=>h[i]? = some (.lst xs)) | _=>none)
 | _=>none
def aln(x y:D)(h:Hd):R Itm:=match srcOf x h,srcOf y h with
 | some (xs,c1),some (ys,c2)=>.ok ⟨(xs.zip ys).map λp=>.tup [p.1,p.2],λh=>c1 h/\c2 h⟩ h
 | _,_=>.no
def ac3(f g:SE):SI:=λτ h=>(f τ h).bind λx h1=>(g τ h1).bind λy h2=>aln x y h2
theorem aez{K:PySem.W.Frag}{ι:List Addr}{H:Hp}{h:Hd}{v:V}{d:D}{xs:List D}{ck:Hd->Prop}(r:Rep K ι H v d)(hr:HRep K ι H h)(e:srcOf d h=some (xs,ck)) :
  ∃ k:Srk,v=k.v/\ck h/\∀ ι' H' h',Gr ι H ι' H'->HRep K ι' H' h'->ck h'->∃ vs,its H' k=some vs/\Reps K ι' H' vs xs:=by
 cases r with
 | @tup a vs ys ha rs =>
  cases e
  exact ⟨.tup a,rfl,True.intro,λι' H' h' g _ _=>⟨vs,by simp [its,g.tup _ _ ha],rs.mono g⟩⟩
 | @rol a vs ys ha rs =>
  cases e
  refine ⟨.lst a,rfl,True.intro,λι' H' h' g _ _=>⟨vs,?_,rs.mono g⟩⟩;obtain ⟨o,q⟩:=ha.mono g;simp [its,q]
 | str x =>
  cases e
  exact ⟨.str x,rfl,True.intro,λι' H' h' g _ _=>⟨_,rfl,a0q x⟩⟩
 | @ref a i ha =>
  obtain ⟨ob,e1,e2⟩:=hr.at ha
  cases ob with
  | lst zs =>
   simp only [srcOf,e1] at e;cases e
   refine ⟨.lst a,rfl,e1,λι' H' h' g hr' c=>?_⟩;obtain ⟨us,q1,q2⟩:=hr'.obj i a _ (g.at ha) c;exact ⟨us,by simp [its,q1],q2⟩
  | dK _=>simp only [srcOf,e1] at e;cases e
  | dT _=>simp only [srcOf,e1] at e;cases e
 | _=>cases e
theorem af0{X:Cx}{E:XD}{elts:List Expr}{x1:Nat}{tpos:Pos}{e1 e2:Expr}{f g:SE}{p pos:Pos}(hg:Gl X "zip")(hm:X.mg "zip" = none)(hb:bootBuiltins "zip" = some (.type "zip"))(ha:ME X E e1 f)(hb':ME X E e2 g)
  (h1:starEach [e1,e2] X.env=[(false,eval e1 X.env),(false,eval e2 X.env)]:=by rfl) (h2:starEach [e2] X.env=[(false,eval e2 X.env)]:=by rfl) :
  MI X E (.Tuple elts x1 tpos) (.Call (.Name "zip" p) [e1,e2] [] pos) (ac3 f g):=by
 intro pins s σ H Rr I ⟨ι,τ,h,S,Rh,o⟩
 refine ajw hg hm hb (a6z ha (a6z hb' aei (by rw [h2];rfl)) (by rw [h1,h2])) h1 h2 pins s σ H Rr I ?_
 refine ⟨ι,τ,h,S,Rh,fj o λd h1 ι1 H1 v g1 r1 hr1 o1=>?_⟩;refine ⟨ι1,τ,h1,S.mono g1,hr1,fj o1 λd2 h2 ι2 H2 u g2 r2 hr2 o2=>?_⟩;unfold aln at o2
 split at o2
 ·rename_i xs c1 ys c2 q1 q2;obtain ⟨k1,rfl,k1c,k1f⟩:=aez (r1.mono g2) hr2 q1;obtain ⟨k2,rfl,k2c,k2f⟩:=aez r2 hr2 q2;obtain ⟨vs1,w1,w2⟩:=k1f ι2 H2 h2 (.refl _ _) hr2 k1c;obtain ⟨vs2,w3,w4⟩:=k2f ι2 H2 h2 (.refl _ _) hr2 k2c;refine ⟨k1,k2,vs1,vs2,rfl,w1,w3,o2 ι2 H2 _ (.refl _ _) ?_ hr2⟩
  intro ι3 H3 h3 g3 hr3 c
  obtain ⟨us1,a1,a2⟩:=k1f ι3 H3 h3 g3 hr3 c.1;obtain ⟨us2,a3,a4⟩:=k2f ι3 H3 h3 g3 hr3 c.2;refine ⟨λi d ed=>?_,us1,us2,a1,a3,?_⟩
  ·simp only [List.getElem?_map,Option.map_eq_some_iff] at ed;obtain ⟨⟨x,y⟩,ez,rfl⟩:=ed;obtain ⟨ex,ey⟩:=List.getElem?_zip_eq_some.mp ez;obtain ⟨v1,b1,b2⟩:=a2.get ex;obtain ⟨v2,b3,b4⟩:=a4.get ey;refine ⟨⟨us1,us2,v1,v2,a1,a3,b1,b3⟩,λx H' yl=>?_⟩;obtain ⟨xs',ys',x',y',p,c1,c2,c3,c4,c5,rfl,rfl⟩:=yl;rw [a1] at c1;cases c1
   rw [a3] at c2;cases c2
   rw [b1] at c3;cases c3
   rw [b3] at c4;cases c4
   exact ⟨zg c5 _, .tup uf (.cons (b2.mono (zg c5 _)) (.cons (b4.mono (zg c5 _)) .nil)),hr3.aside c5 _⟩
  ·rw [List.length_map,List.length_zip,a2.len,a4.len];omega
 ·exact o2.elim
theorem af1:bootBuiltins "zip" = some (.type "zip"):=by first | exact PySem.boot_zip | exact PyProof.Rows.boot_zip | rfl
end MI
namespace MI
open PySem PySem.Spec L2
section
variable{P:Program}{w:World}{K:PySem.W.Frag}{mg:Str->Option Value}{base:Heap}
theorem a6c{k:Nat}{f:Addr}{fd:FuncData}{ps:List Str}:FnOk P w K mg base CX0 k f fd ps (nj K ps.length λ_ _=>.no) :=
 ⟨λvs H Q E h=>h.1,λA outer s H args us vs Q E hr he hb hv hs=>by obtain ⟨_,ι,ds,h,_,_,o⟩:=hs;exact o.elim⟩
end
def FrzOf(L:List Addr)(H H2:Hp):Prop:=∀ a,(a ∉ L->H2 a=H a)/\(a∈L->∃ o u,H a=some u/\H2 a=some (.frz o u))
def a9b(H:Hp)(L:List Addr):Prop:=∀ a∈L,(∃ xs,H a=some (.lst xs))\/(∃ kvs,H a=some (.dK kvs))\/∃ kvs,H a=some (.dT kvs)
def still:HO->Prop
 | .lst _=>False | .dK _=>False | .dT _=>False
 | _=>True
theorem FrzOf.still{L:List Addr}{H H2:Hp}(f:FrzOf L H H2)(ab:a9b H L){a:Addr}{u:HO}(e:H a=some u)(st:MI.still u):H2 a=some u:=by
 rw [(f a).1 λz=>?_]
 ·exact e
 ·rcases ab a z with ⟨_,q⟩ | ⟨_,q⟩ | ⟨_,q⟩<;>(rw [e] at q;cases q;exact st)
theorem Inv.frz{X:Cx}{pins:List (Addr × Obj)}{σ:St}{H:Hp}{s:Shared}{L:List Addr}(I:Inv X pins σ H s)(ab:a9b H L):∃ H2,FrzOf L H H2/\Inv X pins σ H2 s:=by
 have obj:∀ a∈L,∀ u,H a=some u->∃ o,s.heap.get? a=some o:=λa ha u e=>by
  rcases ab a ha with ⟨_,q⟩ | ⟨_,q⟩ | ⟨_,q⟩
  ·obtain ⟨_,_,_,_,z⟩:=I.hok a _ q;exact ⟨_,z⟩
  ·obtain ⟨_,_,_,_,z⟩:=I.hok a _ q;obtain ⟨o,_,_,z,_⟩:=z;exact ⟨o,z⟩
  ·obtain ⟨_,_,_,_,o,_,_,z,_⟩:=I.hok a _ q;exact ⟨o,z⟩
 let H2:Hp:=λa=>if a∈L then (match s.heap.get? a,H a with | some o,some u=>some (.frz o u) | _,w=>w) else H a
 have f:FrzOf L H H2:=λa=>⟨λh=>by simp [H2,h],λh=>by
  obtain ⟨u,e⟩:∃ u,H a=some u:=by
   rcases ab a h with ⟨_,q⟩ | ⟨_,q⟩ | ⟨_,q⟩<;>exact ⟨_,q⟩
  obtain ⟨o,eo⟩:=obj a h u e;exact ⟨o,u,e,by simp [H2,h,e,eo]⟩⟩
 refine ⟨H2,f,?_⟩;have mv:∀ a u,ObjOk X.prog X.w H s.heap a u->ObjOk X.prog X.w H2 s.heap a u:=λa u x=>x.stay (λb v _ q=>q) (λc q=>f.still ab q True.intro) λc xs q=>f.still ab q True.intro;have ok:HOk X.prog X.w H2 s.heap:=λa u e=>by
  by_cases hl:a∈L
  ·obtain ⟨u0,e0⟩:∃ u,H a=some u:=by
    rcases ab a hl with ⟨_,q⟩ | ⟨_,q⟩ | ⟨_,q⟩<;>exact ⟨_,q⟩
   obtain ⟨o,eo⟩:=obj a hl u0 e0;have e':H2 a=some (.frz o u0):=by simp [H2,hl,e0,eo]
   rw [e'] at e;cases e
   exact ⟨eo,mv a u0 (I.hok a u0 e0)⟩
  ·rw [(f a).1 hl] at e;exact mv a u (I.hok a u e)
 have fn:∀ b,H b=none->H2 b=none:=λb n=>by
  rw [(f b).1 λz=>?_]
  ·exact n
  ·rcases ab b z with ⟨_,q⟩ | ⟨_,q⟩ | ⟨_,q⟩<;>(rw [n] at q;cases q)
 have un:Un X.fs [] H H2 s.heap s.heap:=⟨λb o q _ _ _=>q,λb o q _ _ _=>⟨o.slots,q⟩,λb o _ n _=>fn b n,λb o q _=>⟨o,q⟩,λb xs q=>f.still ab q True.intro,λb o u q=>f.still ab q True.intro,λb ps q=>⟨#[],by rw [f.still ab q True.intro];simp⟩⟩
 exact I.un (t':=s.toks) un ok
theorem ab2{X:Cx}{e:Expr}{t:TE}(h:PE X e t):PE X e (λσ H Q=>t σ H λv H1=>∃ L,a9b H1 L/\∀ H2,FrzOf L H1 H2->Q v H2):=λpins s σ H Q I q =>
 thn (h pins s σ H _ I q) λu s' ⟨v,H1,I1,r,L,ab,k⟩=>let ⟨H2,f,I2⟩:=Inv.frz I1 ab; ⟨v,H2,I2,r,k H2 f⟩
def zc{α β:Type}(f:α->Option β):List α->Option (List β)
 | []=>some []
 | x::xs=>match f x,zc f xs with | some y,some ys=>some (y::ys) | _,_=>none
open Classical in
noncomputable def a2z(n:Nat)(h:Hd):Nat->D->Option D
 | 0,_=>none
 | k+1,d=>if clo n d then some d else match d with
  | .tup xs=>(zc (a2z n h k) xs).map .tup
  | .rol xs=>(zc (a2z n h k) xs).map .rol
  | .scr xs=>(zc (a2z n h k) xs).map .scr
  | .rod ks xs=>(zc (a2z n h k) xs).map (.rod ks)
  | .rdT ks xs=>(zc (a2z n h k) xs).map (.rdT ks)
  | .ref i=>match h[i]? with
   | some (.lst xs)=>(zc (a2z n h k) xs).map .rol
   | some (.dK kvs)=>(zc (a2z n h k) (kvs.map (·.2))).map (.rod (kvs.map (·.1)))
   | some (.dT kvs)=>(zc (a2z n h k) (kvs.map (·.2))).map (.rdT (kvs.map (·.1)))
   | none=>none
  | _=>none
open Classical in
noncomputable def ajx(n:Nat)(h:Hd)(k:Nat)(o:O):Option O:=if qp n o then some o else match o with
 | .lst xs=>(zc (a2z n h k) xs).map .lst
 | .dK kvs=>(zc (a2z n h k) (kvs.map (·.2))).map λys=>.dK ((kvs.map (·.1)).zip ys)
 | .dT kvs=>(zc (a2z n h k) (kvs.map (·.2))).map λys=>.dT ((kvs.map (·.1)).zip ys)
abbrev FU:Nat:=20
noncomputable def a3p(n:Nat):R D->R D
 | .ok d h1=>match a2z n h1 FU d,zc (ajx n h1 FU) (h1.take n) with | some d',some g=>.ok d' g | _,_=>.no
 | _=>.no
open Classical in
noncomputable def ahy(n:Nat):R D->R D
 | .ok (.ref i) h1=>(match h1[i]? with
   | some o=>if n<=i/\qp n o/\∀ u∈h1.take n,qp n u then .ok (.ref n) (h1.take n++[o]) else .no
   | none=>.no)
 | _=>.no
section
variable{K:PySem.W.Frag}{ι ι':List Addr}{H H' H2:Hp}{h1:Hd}{n:Nat}{L:List Addr}
theorem a8a(f:FrzOf L H' H2)(ab:a9b H' L)(κ:List Addr):Gw κ H' κ H2:=⟨⟨[],by simp⟩,λa vs e=>f.still ab e True.intro,λa o u e=>f.still ab e True.intro⟩
theorem nu{K:PySem.W.Frag}{ι κ:List Addr}{H H2:Hp}{f:D->Option D}(ih:∀ {v d d'},Rep K ι H v d->f d=some d'->Rep K κ H2 v d'):∀ {vs:List V} {ds ds':List D},Reps K ι H vs ds->zc f ds=some ds'->Reps K κ H2 vs ds'
 | _,_,_, .nil,e=>by cases e;exact .nil
 | _,x::xs,_, .cons r rs,e=>by
  unfold zc at e
  split at e
  ·rename_i y ys h1 h2;cases e
   exact .cons (ih r h1) (nu ih rs h2)
  ·cases e
theorem a4l(hr:HRep K ι' H' h1)(hL:∀ (i:Nat) a,ι'[i]? = some a->n<=i->a∈L)(f:FrzOf L H' H2)(ab:a9b H' L):∀ (k:Nat) {v:V} {d d':D},Rep K ι' H' v d->a2z n h1 k d=some d'->Rep K (ι'.take n) H2 v d':=by
 intro k
 induction k with
 | zero=>intro v d d' r e;cases e
 | succ k ih =>
  intro v d d' r e
  unfold a2z at e
  split at e
  ·rename_i c;cases e
   exact (r.cut c).monoW (a8a f ab _)
  ·rename_i c
   cases r with
   | tup h rs =>
    simp only [Option.map_eq_some_iff] at e;obtain ⟨ys,e1,rfl⟩:=e;exact .tup (f.still ab h True.intro) (nu (λr e=>ih r e) rs e1)
   | rol h rs =>
    simp only [Option.map_eq_some_iff] at e;obtain ⟨ys,e1,rfl⟩:=e;exact .rol (h.monoW (a8a f ab ι')) (nu (λr e=>ih r e) rs e1)
   | scr h rs =>
    simp only [Option.map_eq_some_iff] at e;obtain ⟨ys,e1,rfl⟩:=e;exact .scr (h.monoW (a8a f ab ι')) (nu (λr e=>ih r e) rs e1)
   | rod h ek rs =>
    simp only [Option.map_eq_some_iff] at e;obtain ⟨ys,e1,rfl⟩:=e;exact .rod (f.still ab h True.intro) ek (nu (λr e=>ih r e) rs e1)
   | rdT h ek rs =>
    simp only [Option.map_eq_some_iff] at e;obtain ⟨ys,e1,rfl⟩:=e;exact .rdT (f.still ab h True.intro) ek (nu (λr e=>ih r e) rs e1)
   | @ref a i ha =>
    have hi:n<=i:=by
     simp only [clo] at c;omega
    obtain ⟨o,u,e1,e2⟩:=(f a).2 (hL i a ha hi);obtain ⟨ob,h3,h4⟩:=hr.at ha;simp only [h3] at e
    cases ob with
    | lst xs =>
     simp only [Option.map_eq_some_iff] at e;obtain ⟨ys,e3,rfl⟩:=e;obtain ⟨vs,h5,h6⟩:=h4;rw [e1] at h5;cases h5
     exact .rol ⟨o,e2⟩ (nu (λr e=>ih r e) h6 e3)
    | dK kvs =>
     simp only [Option.map_eq_some_iff] at e;obtain ⟨ys,e3,rfl⟩:=e;obtain ⟨us,h5,h6,h7⟩:=h4;rw [e1] at h5;cases h5
     exact .rod e2 h6 (nu (λr e=>ih r e) h7 e3)
    | dT kvs =>
     simp only [Option.map_eq_some_iff] at e;obtain ⟨ys,e3,rfl⟩:=e;obtain ⟨us,h5,h6,h7⟩:=h4;rw [e1] at h5;cases h5
     exact .rdT e2 h6 (nu (λr e=>ih r e) h7 e3)
   | non=>simp only [clo,not_true_eq_false] at c
   | exc _ _ _=>simp only [clo,not_true_eq_false] at c
   | bl b=>simp only [clo,not_true_eq_false] at c
   | int b=>simp only [clo,not_true_eq_false] at c
   | str b=>simp only [clo,not_true_eq_false] at c
   | ty b=>simp only [clo,not_true_eq_false] at c
theorem a8b{κ:Type}{H:Hp}{us:List (κ × V)}{ks:List κ}{ys:List D}(e:us.map (·.1)=ks)(r:Reps K ι H (us.map (·.2)) ys):KRep K ι H us (ks.zip ys):=by
 have l:ks.length=ys.length:=by rw [<-e,List.length_map,<-r.len,List.length_map]
 refine ⟨?_,?_⟩
 ·rw [List.map_fst_zip (by omega)];exact e
 ·rw [List.map_snd_zip (by omega)];exact r
theorem agw(hr:HRep K ι' H' h1)(hL:∀ (i:Nat) a,ι'[i]? = some a->n<=i->a∈L)(f:FrzOf L H' H2)(ab:a9b H' L){k:Nat}{a:Addr}{o o':O}(na:a ∉ L)(r:ORep K ι' H' a o)(e:ajx n h1 k o=some o'):ORep K (ι'.take n) H2 a o':=by
 have same:H2 a=H' a:=(f a).1 na;unfold ajx at e
 split at e
 ·rename_i c;cases e
  exact (r.cut c).monoW (a8a f ab _) same
 ·cases o with
  | lst xs =>
   simp only [Option.map_eq_some_iff] at e;obtain ⟨ys,e1,rfl⟩:=e;obtain ⟨vs,h3,h4⟩:=r;exact ⟨vs,by rw [same];exact h3,nu (λr e=>a4l hr hL f ab k r e) h4 e1⟩
  | dK kvs =>
   simp only [Option.map_eq_some_iff] at e;obtain ⟨ys,e1,rfl⟩:=e;obtain ⟨us,h3,h4,h5⟩:=r;exact ⟨us,by rw [same];exact h3,a8b h4 (nu (λr e=>a4l hr hL f ab k r e) h5 e1)⟩
  | dT kvs =>
   simp only [Option.map_eq_some_iff] at e;obtain ⟨ys,e1,rfl⟩:=e;obtain ⟨us,h3,h4,h5⟩:=r;exact ⟨us,by rw [same];exact h3,a8b h4 (nu (λr e=>a4l hr hL f ab k r e) h5 e1)⟩
theorem yw{α β:Type}{f:α->Option β}:∀ {xs:List α} {ys:List β},zc f xs=some ys->xs.length=ys.length/\∀ (i:Nat) y,ys[i]? = some y->∃ x,xs[i]? = some x/\f x=some y
 | [],_,e=>by cases e;exact ⟨rfl,λi y e=>by simp at e⟩
 | x::xs,ys,e=>by
  unfold zc at e
  split at e
  ·rename_i y ys h1 h2;cases e
   obtain ⟨l,g⟩:=yw h2;refine ⟨by simp [l],λi z e=>?_⟩
   cases i with
   | zero=>simp at e;subst e;exact ⟨x,rfl,h1⟩
   | succ i=>simpa using g i z (by simpa using e)
  ·cases e
theorem ab3(hr:HRep K ι' H' h1)(M:List Addr)(hM:∀ a∈M,a∈ι'):a9b H' M:=λa ha=>by
 obtain ⟨i,hi⟩:=List.getElem?_of_mem (hM a ha);obtain ⟨o,_,q⟩:=hr.at hi
 cases o with
 | lst xs=>obtain ⟨vs,h,_⟩:=q;exact .inl ⟨_,h⟩
 | dK xs=>obtain ⟨vs,h,_⟩:=q;exact .inr (.inl ⟨_,h⟩)
 | dT xs=>obtain ⟨vs,h,_⟩:=q;exact .inr (.inr ⟨_,h⟩)
theorem a2j{α:Type}{l:List α}(nd:l.Nodup){i j:Nat}{a:α}(h1:l[i]? = some a)(h2:l[j]? = some a):i=j:=by
 obtain ⟨l1,e1⟩:=List.getElem?_eq_some_iff.mp h1;obtain ⟨l2,e2⟩:=List.getElem?_eq_some_iff.mp h2
 rcases Nat.lt_trichotomy i j with l | l | l
 ·exact absurd (e1.trans e2.symm) (List.pairwise_iff_getElem.mp nd i j l1 l2 l)
 ·exact l
 ·exact absurd (e2.trans e1.symm) (List.pairwise_iff_getElem.mp nd j i l2 l1 l)
theorem ajy(g:Gr ι H ι' H')(f:FrzOf L H' H2)(ab:a9b H' L)(hL:∀ a∈L,H a=none){m:List Addr}(hm:∀ a∈m,H a=none):Gr ι H (ι++m) H2:=by
 refine ⟨⟨m,rfl,hm⟩,λa vs e=>f.still ab (g.tup a vs e) True.intro,λa o u e=>f.still ab (g.frz a o u e) True.intro,λa u e hn=>?_,λa u e=>?_⟩
 ·rw [(f a).1 λz=>by rw [hL a z] at e;cases e]
  exact g.oth a u e hn
 ·obtain ⟨u',e'⟩:=g.kp a u e;rw [(f a).1 λz=>by rw [hL a z] at e;cases e]
  exact ⟨u',e'⟩
theorem ab4{d d':D}{v:V}{g':Hd}(g:Gr ι H ι' H')(rb:Rep K ι' H' v d)(hr:HRep K ι' H' h1)(e:a3p ι.length (.ok d h1) = .ok d' g') :
  ∃ L,a9b H' L/\∀ H2,FrzOf L H' H2->Gr ι H ι H2/\Rep K ι H2 v d'/\HRep K ι H2 g':=by
 obtain ⟨m,rfl,hm⟩:=g.pre;have tk:(ι++m).take ι.length=ι:=by simp
 have ab:a9b H' m:=ab3 hr m λa ha=>List.mem_append_right _ ha;have hL:∀ (i:Nat) a,(ι++m)[i]? = some a->ι.length<=i->a∈m:=λi a e hi=>by
  rw [List.getElem?_append_right hi] at e;exact List.mem_of_getElem? e
 refine ⟨m,ab,λH2 f=>?_⟩;unfold a3p at e;simp only at e
 split at e
 ·rename_i dd gg e1 e2;cases e
  refine ⟨by simpa using ajy g f ab hm (m:=[]) (by simp),by have:=a4l hr hL f ab FU rb e1;rwa [tk] at this,?_⟩
  obtain ⟨l,gt⟩:=yw e2;have hl:=hr.len;have ln:ι.length<=h1.length:=by rw [<-hl];simp
  refine ⟨(List.nodup_append.mp hr.nd).1,by rw [<-l,List.length_take];omega,λi a o q1 q2=>?_⟩
  obtain ⟨x,hx,fx⟩:=gt i o q2;have hi:i<ι.length:=(List.getElem?_eq_some_iff.mp q1).1;rw [List.getElem?_take,if_pos hi] at hx;have q3:(ι++m)[i]? = some a:=by rw [List.getElem?_append_left hi];exact q1
  have na:a ∉ m:=λz=>(List.nodup_append.mp hr.nd).2.2 a (List.mem_of_getElem? q1) a z rfl;have:=agw hr hL f ab na (hr.obj i a x q3 hx) fx
  rwa [tk] at this
 ·cases e
theorem ad9{d d':D}{v:V}{g':Hd}(g:Gr ι H ι' H')(rb:Rep K ι' H' v d)(hr:HRep K ι' H' h1)(e:ahy ι.length (.ok d h1) = .ok d' g') :
  ∃ b,H b=none/\Gr ι H (ι++[b]) H'/\Rep K (ι++[b]) H' v d'/\HRep K (ι++[b]) H' g':=by
 obtain ⟨m,rfl,hm⟩:=g.pre;have tk:(ι++m).take ι.length=ι:=by simp
 have up:∀ b,Gw ι H' (ι++[b]) H':=λb=>⟨⟨[b],rfl⟩,λ_ _ h=>h,λ_ _ _ h=>h⟩
 cases rb with
 | @ref b i hb =>
  unfold ahy at e;simp only at e
  split at e
  ·rename_i ob ho
   split at e
   ·rename_i hc;obtain ⟨hi,c1,c2⟩:=hc;cases e
    have hb':=hb;rw [List.getElem?_append_right hi] at hb';have bm:b∈m:=List.mem_of_getElem? hb';obtain ⟨nd1,nd2,nd3⟩:=List.nodup_append.mp hr.nd;have hl:=hr.len;have ln:ι.length<=h1.length:=by rw [<-hl];simp
    have lt:(h1.take ι.length).length=ι.length:=by rw [List.length_take];omega
    refine ⟨b,hm b bm,⟨⟨[b],rfl,by simpa using hm b bm⟩,g.tup,g.frz,g.oth,g.kp⟩, .ref (by simp),?_⟩
    refine ⟨List.nodup_append.mpr ⟨nd1,by simp,λa ha c hc z=>nd3 a ha c (by rw [List.mem_singleton.mp hc];exact bm) z⟩,by simp [lt],λj a o q1 q2=>?_⟩
    by_cases hj:j<ι.length
    ·rw [List.getElem?_append_left hj] at q1;rw [List.getElem?_append_left (by omega)] at q2
     have q2':=q2;rw [List.getElem?_take,if_pos hj] at q2';have:=(hr.obj j a o (by rw [List.getElem?_append_left hj];exact q1) q2').cut (c2 o (List.mem_of_getElem? q2))
     rw [tk] at this;exact this.monoW (up b) rfl
    ·have hj2:j<(ι++[b]).length:=(List.getElem?_eq_some_iff.mp q1).1;have:j=ι.length:=by simp at hj2;omega
     subst this;rw [List.getElem?_append_right (Nat.le_refl _)] at q1;rw [List.getElem?_append_right (by omega),lt] at q2
     simp at q1 q2
     subst q1 q2;have:=(hr.obj i b ob hb ho).cut c1;rw [tk] at this;exact this.monoW (up b) rfl
   ·cases e
  ·cases e
 | _=>cases e
end
noncomputable def sZ(f:SE):SE:=λτ h=>a3p h.length (f τ h)
abbrev aov(Q:VK):VK:=λv H1=>∃ L,a9b H1 L/\∀ H2,FrzOf L H1 H2->Q v H2
theorem anv{K:PySem.W.Frag}{E:XD}{fa:SE}{σ:St}{H:Hp}{Q:VK}(q:lift K E (yu K) (sZ fa) σ H Q):lift K E (yu K) fa σ H (aov Q):=by
 obtain ⟨ι,τ,h,S,Rh,o⟩:=q;refine ⟨ι,τ,h,S,Rh,?_⟩;unfold sZ at o;rw [<-Rh.len] at o
 cases hf:fa τ h with
 | ok d h1 =>
  rw [hf] at o
  intro ι' H' v g r hr
  cases hz:a3p ι.length (.ok d h1) with
  | ok d' g' =>
   rw [hz] at o;obtain ⟨L,ab,k⟩:=ab4 g r hr hz;refine ⟨L,ab,λH2 f=>?_⟩;obtain ⟨k1,k2,k3⟩:=k H2 f;exact o ι H2 v k1 k2 k3
  | ex c hx=>unfold a3p at hz;simp only at hz;split at hz<;>cases hz
  | no=>rw [hz] at o;exact o.elim
 | ex c h1=>rw [hf] at o;exact o.elim
 | no=>rw [hf] at o;exact o.elim
theorem a3a{X:Cx}{E:XD}{e:Expr}{fa:SE}(ha:ME X E e fa):ME X E e (sZ fa):=PE.weak (ab2 ha) λσ H Q q=>anv q
def refOf:D->Option Nat
 | .ref i=>some i
 | _=>none
def yc(ds:List D):List Nat:=ds.filterMap refOf
def wg:Nat->List D->List D
 | _,[]=>[]
 | k,d::ds=>match d with
  | .ref _=>.ref k::wg (k+1) ds
  | d=>d::wg k ds
def qm:Hd->List Nat->List O->Hd
 | h,i::is,o::os=>qm (h.set i o) is os
 | h,_,_=>h
def isRef(d:D):Prop:=∃ i,d = .ref i
open Classical in
noncomputable def ahz(m:Bool)(F:SF)(ds:List D)(h:Hd):R D:=match zc (λi=>h[i]?) (yc ds) with
 | none=>.no
 | some os=>if (yc ds).Nodup/\(∀ d∈ds,clo 0 d\/isRef d)/\(∀ o∈os,qp 0 o) then
   (match (if m then ahy os.length (F (wg 0 ds) os) else a3p os.length (F (wg 0 ds) os)) with
   | .ok d h1=>if ∀ o∈h1,qp 0 o then
     (if m then .ok (.ref h.length) (qm h (yc ds) h1++h1.drop os.length)
      else if clo 0 d then .ok d (qm h (yc ds) h1) else .no) else .no
   | _=>.no)
  else .no
noncomputable def jt(m:Bool)(n:Nat)(F:SF):SF:=λds h=>if ds.length=n then ahz m F ds h else .no
section
variable{K:PySem.W.Frag}{ι ι':List Addr}{H H' H2:Hp}{h h1:Hd}{n:Nat}
theorem af2(κ:List Addr):Gw [] H κ H:=⟨⟨κ,rfl⟩,λ_ _ h=>h,λ_ _ _ h=>h⟩
theorem Rep.any{v:V}{d:D}(r:Rep K ι H v d)(c:MI.clo 0 d)(κ:List Addr):Rep K κ H v d:=by
 have:=r.cut c
 rw [List.take_zero] at this;exact this.monoW (af2 κ)
theorem ORep.any{a:Addr}{o:O}(r:ORep K ι H a o)(c:qp 0 o)(κ:List Addr):ORep K κ H a o:=by
 have:=r.cut c
 rw [List.take_zero] at this;exact this.monoW (af2 κ) rfl
theorem a6d{α:Type}(l:List α):∀ {is:List Nat},(∀ i∈is,i<l.length)->∃ ys,zc (λi=>l[i]?) is=some ys
 | [],_=>⟨[],rfl⟩
 | i::is,hi=>by
  obtain ⟨ys,e⟩:=a6d l (is:=is) λj hj=>hi j (List.mem_cons_of_mem _ hj);have:=hi i List.mem_cons_self;exact ⟨l[i]::ys,by unfold zc;rw [e,List.getElem?_eq_getElem this]⟩
theorem a0s:∀ {ds:List D} {vs:List V} {pre κ:List Addr},Reps K ι H vs ds->(∀ d∈ds,clo 0 d\/isRef d)->zc (λi=>ι[i]?) (yc ds)=some κ->Reps K (pre++κ) H vs (wg pre.length ds)
 | [],_,_,_, .nil,_,_=>.nil
 | d::ds,_,pre,κ, .cons r rs,hc,e=>by
  have hc':∀ d∈ds,clo 0 d\/isRef d:=λx hx=>hc x (List.mem_cons_of_mem _ hx)
  by_cases hd:isRef d
  ·obtain ⟨i,rfl⟩:=hd;have e':zc (λi=>ι[i]?) (i::yc ds)=some κ:=e;unfold zc at e'
   split at e'
   ·rename_i a κ' h1 h2
    cases e'
    cases r with
    | ref ha =>
     rw [ha] at h1;cases h1
     have:=a0s (pre:=pre++[a]) rs hc' h2
     simp only [List.append_assoc,List.singleton_append,List.length_append,List.length_singleton] at this;refine .cons (.ref ?_) this;rw [List.getElem?_append_right (Nat.le_refl _)];simp
   ·cases e'
  ·have c:=(hc d List.mem_cons_self).resolve_right hd;have e1:yc (d::ds)=yc ds:=by
    unfold yc
    cases d<;>first | rfl | exact absurd ⟨_,rfl⟩ hd
   have e2:wg pre.length (d::ds)=d::wg pre.length ds:=by
    cases d<;>first | rfl | exact absurd ⟨_,rfl⟩ hd
   rw [e1] at e;rw [e2];exact .cons (r.any c _) (a0s rs hc' e)
theorem wj:∀ {is:List Nat} {os:List O} {h:Hd},(qm h is os).length=h.length
 | [],_,_=>by simp [qm]
 | _::_,[],_=>by simp [qm]
 | i::is,o::os,h=>by rw [qm,wj,List.length_set]
theorem a0t{i:Nat}:∀ {is:List Nat} {os:List O} {h:Hd},i ∉ is->(qm h is os)[i]? = h[i]?
 | [],_,_,_=>by simp [qm]
 | _::_,[],_,_=>by simp [qm]
 | j::is,o::os,h,n=>by
  rw [qm,a0t λz=>n (List.mem_cons_of_mem _ z),List.getElem?_set_ne λz=>n (by rw [z];exact List.mem_cons_self)]
theorem a6e{i:Nat}{o:O}:∀ {is:List Nat} {os:List O} {h:Hd} {j:Nat},is.Nodup->is[j]? = some i->os[j]? = some o->i<h.length->(qm h is os)[i]? = some o
 | [],_,_,_,_,e,_,_=>by simp at e
 | _::_,[],_,_,_,_,e,_=>by simp at e
 | k::is,o'::os,h,j,nd,e1,e2,hl=>by
  cases j with
  | zero =>
   simp at e1 e2
   subst e1 e2;rw [qm,a0t (List.nodup_cons.mp nd).1,List.getElem?_set_self hl]
  | succ j =>
   rw [qm];exact a6e (j:=j) (List.nodup_cons.mp nd).2 (by simpa using e1) (by simpa using e2) (by simpa using hl)
theorem a6f{α:Type}{l:List α}(nl:l.Nodup){is:List Nat}{ys:List α}(e:zc (λi=>l[i]?) is=some ys)(ni:is.Nodup):ys.Nodup:=by
 obtain ⟨le,g⟩:=yw e;refine List.pairwise_iff_getElem.mpr λi j hi hj lt z=>?_;obtain ⟨x,h1,h2⟩:=g i _ (List.getElem?_eq_getElem hi);obtain ⟨y,h3,h4⟩:=g j _ (List.getElem?_eq_getElem hj);rw [<-z] at h4;have:=a2j nl h2 h4;subst this;have:=a2j ni h1 h3;omega
theorem a8c{is:List Nat}{κ m:List Addr}{g:Hd}(hr:HRep K ι H h)(e1:zc (λi=>ι[i]?) is=some κ)(nd:is.Nodup)(gr:Gr κ H (κ++m) H2)(hg:HRep K (κ++m) H2 g)(cg:∀ o∈g,qp 0 o)(hm:m.length<=1) :
  Gr ι H (ι++m) H2/\HRep K (ι++m) H2 (qm h is g++g.drop κ.length):=by
 obtain ⟨l1,g1⟩:=yw e1;have mn:∀ a∈m,H a=none:=by
  obtain ⟨m',e,hm'⟩:=gr.pre;rw [List.append_cancel_left e];exact hm'
 have sub:∀ a∈κ,a∈ι:=λa ha=>by
  obtain ⟨j,hj⟩:=List.getElem?_of_mem ha;obtain ⟨i,_,q⟩:=g1 j a hj;exact List.mem_of_getElem? q
 have some_of:∀ a∈ι,∃ u,H a=some u:=λa ha=>by
  obtain ⟨i,hi⟩:=List.getElem?_of_mem ha;obtain ⟨o,_,q⟩:=hr.at hi;obtain ⟨u,q,_⟩:=q.some;exact ⟨u,q⟩
 have G:Gr ι H (ι++m) H2:=⟨⟨m,rfl,mn⟩,gr.tup,gr.frz,λa u e n=>gr.oth a u e λz=>n (sub a z),gr.kp⟩;have lg:=hg.len;rw [List.length_append] at lg;refine ⟨G,?_,?_,λj a o q1 q2=>?_⟩
 ·refine List.nodup_append.mpr ⟨hr.nd,(List.nodup_append.mp hg.nd).2.1,λa ha b hb z=>?_⟩;obtain ⟨u,q⟩:=some_of a ha;rw [z,mn b hb] at q;cases q
 ·rw [List.length_append,List.length_append,wj,List.length_drop,hr.len];omega
 ·by_cases hj:j<ι.length
  ·rw [List.getElem?_append_left hj] at q1;rw [List.getElem?_append_left (by rw [wj,<-hr.len];exact hj)] at q2
   by_cases hp:j∈is
   ·obtain ⟨k,hk⟩:=List.getElem?_of_mem hp;have hkl:k<κ.length:=by rw [<-l1];exact (List.getElem?_eq_some_iff.mp hk).1
    obtain ⟨i,h3,h4⟩:=g1 k _ (List.getElem?_eq_getElem hkl);rw [hk] at h3;cases h3
    rw [q1] at h4;have hkg:k<g.length:=by omega
    have e5:=a6e (h:=h) nd hk (List.getElem?_eq_getElem hkg) (by rw [<-hr.len];exact hj)
    rw [e5] at q2;cases q2
    have ea:(κ++m)[k]? = some a:=by rw [List.getElem?_append_left hkl,List.getElem?_eq_getElem hkl];exact h4.symm
    exact (hg.obj k a _ ea (List.getElem?_eq_getElem hkg)).any (cg _ (List.getElem_mem hkg)) _
   ·rw [a0t hp] at q2;have r:=hr.obj j a o q1 q2;obtain ⟨u,hu,_⟩:=r.some;have na:a ∉ κ:=λz=>by
     obtain ⟨k,hk⟩:=List.getElem?_of_mem z;obtain ⟨i,h3,h4⟩:=g1 k a hk;have:=a2j hr.nd q1 h4;subst this;exact hp (List.mem_of_getElem? h3)
    exact r.mono G (by rw [hu];exact gr.oth a u hu na)
  ·have q1':=q1;rw [List.getElem?_append_right (by omega)] at q1
   rw [List.getElem?_append_right (by rw [wj,<-hr.len];omega),wj,<-hr.len,List.getElem?_drop] at q2
   have ea:(κ++m)[κ.length+(j - ι.length)]? = some a:=by rw [List.getElem?_append_right (by omega)];simpa using q1
   exact (hg.obj _ a o ea q2).any (cg o (List.mem_of_getElem? q2)) _
theorem ab5{m:Bool}{F:SF}{vs:List V}{ds:List D}{Q:VK}(r:Reps K ι H vs ds)(hr:HRep K ι H h)(o:out K X0 (yu K) ι H (jt m n F ds h) Q)(E:XK) :
  nj K n F vs H (λv H1=>∃ L,a9b H1 L/\∀ H2,FrzOf L H1 H2->Q v H2) E:=by
 unfold jt at o
 split at o
 ·rename_i hl;refine ⟨by rw [r.len];exact hl,?_⟩
  unfold ahz at o
  split at o
  ·exact o.elim
  ·rename_i os hos
   split at o
   ·rename_i hc;obtain ⟨nd,hd,hcl⟩:=hc;obtain ⟨l0,g0⟩:=yw hos;obtain ⟨κ,e1⟩:=a6d ι (is:=yc ds) λi hi=>by
     obtain ⟨j,hj⟩:=List.getElem?_of_mem hi;have hjl:j<os.length:=by rw [<-l0];exact (List.getElem?_eq_some_iff.mp hj).1
     obtain ⟨x,h3,h4⟩:=g0 j _ (List.getElem?_eq_getElem hjl);rw [hj] at h3;cases h3
     rw [hr.len];exact (List.getElem?_eq_some_iff.mp h4).1
    obtain ⟨l1,g1⟩:=yw e1;have lk:κ.length=os.length:=by omega
    have R0:Reps K κ H vs (wg 0 ds):=by simpa using a0s (pre:=[]) r hd e1
    have H0:HRep K κ H os:=by
     refine ⟨a6f hr.nd e1 nd,lk,λj a ob q1 q2=>?_⟩;obtain ⟨i,h3,h4⟩:=g1 j a q1;obtain ⟨i',h5,h6⟩:=g0 j ob q2;rw [h3] at h5;cases h5
     exact (hr.obj i a ob h4 h6).any (hcl ob (List.mem_of_getElem? q2)) _
    refine ⟨κ,wg 0 ds,os,R0,H0,?_⟩
    cases hF:F (wg 0 ds) os with
    | no=>rw [hF] at o;cases m<;>exact o.elim
    | ex c hx=>rw [hF] at o;cases m<;>exact o.elim
    | ok d h1 =>
     rw [hF] at o
     intro ι' H' v g rb hr1
     rw [<-lk] at o
     cases m with
     | false =>
      simp only [Bool.false_eq_true,if_false] at o
      cases hz:a3p κ.length (.ok d h1) with
      | ok d' g' =>
       rw [hz] at o;simp only at o;obtain ⟨L,ab,k⟩:=ab4 g rb hr1 hz;refine ⟨L,ab,λH2 f=>?_⟩;obtain ⟨k1,k2,k3⟩:=k H2 f
       split at o
       ·rename_i cg
        split at o
        ·rename_i cd;have q:=a8c (m:=[]) hr e1 nd (by simpa using k1) (by simpa using k3) cg (by simp)
         have lg:=k3.len;have dr:g'.drop κ.length=[]:=List.drop_eq_nil_of_le (by omega)
         rw [dr,List.append_nil,List.append_nil] at q;exact o ι H2 v q.1 (k2.any cd _) q.2
        ·exact o.elim
       ·exact o.elim
      | ex c hx=>rw [hz] at o;exact o.elim
      | no=>rw [hz] at o;exact o.elim
     | true =>
      simp only [if_true] at o
      cases hz:ahy κ.length (.ok d h1) with
      | ok d' g' =>
       rw [hz] at o;simp only at o;obtain ⟨b,hb,k1,k2,k3⟩:=ad9 g rb hr1 hz;refine ⟨[],λa ha=>(by simp at ha),λH2 f=>?_⟩
       have e2:H2=H':=by funext a;exact (f a).1 (by simp)
       subst e2
       split at o
       ·rename_i cg;have q:=a8c (m:=[b]) hr e1 nd k1 k3 cg (by simp)
        refine o (ι++[b]) H2 v q.1 ?_ q.2;have hd':d' = .ref κ.length:=by
         unfold ahy at hz
         split at hz
         ·rename_i i h2 hh
          injection hh with z1 z2
          split at hz
          ·split at hz
           ·injection hz with z3 z4;exact z3.symm
           ·cases hz
          ·cases hz
         ·cases hz
        subst hd'
        cases k2 with
        | ref hk =>
         rw [List.getElem?_append_right (Nat.le_refl _)] at hk;simp at hk;subst hk;exact .ref (by rw [<-hr.len];simp)
       ·exact o.elim
      | ex c hx=>rw [hz] at o;exact o.elim
      | no=>rw [hz] at o;exact o.elim
   ·exact o.elim
 ·exact o.elim
end
theorem bj(m:Bool){X:Cx}{k n:Nat}{f:Addr}{fd:FuncData}{ps:List Str}{x:Str}{F:SF}{ka:SA}{e:Expr}{es:List Expr}{p pos:Pos}(G:Dn X.prog X.w X.K X.mg X.base k x ps (nj X.K n F) f fd)(hr:Room k X.A)(hg:Gl X x)(ha:MA X X0 (e::es) ka)
  (hdb:(x == ("__debug__" : Str))=false:=by decide) (he:starEach (e::es) X.env=(false,eval e X.env)::starEach es X.env:=by rfl) (hpl:(backTo pos (starEach es X.env)).any (·.1)=false:=by rfl):ME X X0 (.Call (.Name x p) (e::es) [] pos) (sA (jt m n F) ka):=by
 refine PE.weak (ab2 (afx G.ok hr hg G.m G.kp G.b .nil aj3 ha hdb he hpl)) λσ H Q ⟨ι,τ,h,S,Rh,o⟩=>?_;refine ⟨ι,τ,h,S,Rh,fj o λds h1 ι1 H1 vs g1 r1 hr1 o1=>?_⟩;rw [List.append_nil];exact ab5 r1 hr1 o1 _
theorem ab6(m:Bool){X:Cx}{k n:Nat}{f:Addr}{fd:FuncData}{ps:List Str}{x:Str}{F:SF}{p pos:Pos}(G:Dn X.prog X.w X.K X.mg X.base k x ps (nj X.K n F) f fd)(hr:Room k X.A)(hg:Gl X x)(hdb:(x == ("__debug__" : Str))=false:=by decide) :
  ME X X0 (.Call (.Name x p) [] [] pos) (sA (jt m n F) cu):=by
 refine PE.weak (ab2 (acj G.ok hr hg G.m G.kp G.b .nil aj3 hdb)) λσ H Q ⟨ι,τ,h,S,Rh,o⟩=>?_;exact ab5 (vs:=[]) .nil Rh o E0
def ai0:SS:=λ_ _=>.no
section
variable{X:Cx}{E:XD}
theorem a8d{st:List Stmt}:MSs X E st ai0:=λ_ _ _ _ _ _ ⟨_,_,_,_,_,o⟩=>o.elim
end
theorem ajz{X:Cx}{st:Stmt}{t:TS}(h:PS X st t):PS X st (λD σ H=>t { D with nx:=λσ' H1=>∃ L,a9b H1 L/\∀ H2,FrzOf L H1 H2->D.nx σ' H2 } σ H):=λpins s σ H D I q =>
 thn (h pins s σ H _ I q) λf s' k=>by
  cases f with
  | next =>
   obtain ⟨σ',H1,I1,L,ab,k⟩:=k;obtain ⟨H2,f,I2⟩:=Inv.frz I1 ab;exact ⟨σ',H2,I2,k H2 f⟩
  | brk=>exact k
  | cont=>exact k
  | ret u=>exact k
theorem ak0{K:PySem.W.Frag}{E:XD}{f:SE}{i:Nat}{N:Ends}{σ:St}{H:Hp}(q:a77 K E (p7 i f) N σ H):lift K E (yu K) f σ H (λv H1=>N.nx (σ.set i (some v)) H1):=by
 obtain ⟨ι,τ,h,S,Rh,o⟩:=q;exact ⟨ι,τ,h,S,Rh,a03 o λd h1 ι1 H1 v g1 r1 hr1 o1=>o1 ι1 H1 _ (.refl _ _) ((S.mono g1).set r1 i) hr1⟩
theorem agx{K:PySem.W.Frag}{E:XD}{fi:SI}{t:D->Option Sd}{fe:SE}{ix:List Nat}{n:Nat}{g:TG}{σ:St}{H:Hp}{Q:VK}(ht:ahx K n g t)(q:lift K E (yu K) (xj fi t fe ix) σ H Q):acq (lift K E (anq K) fi) (vz n ix) g (lift K E (yu K) fe) σ H Q:=by
 obtain ⟨ι,τ,h,Sr,Rh,o⟩:=q;refine ⟨ι,τ,h,Sr,Rh,fj o λit h1 ι1 H1 J g1 r1 hr1 o1=>?_⟩
 by_cases hl:it.xs.length<=LINE
 ·rw [if_pos hl] at o1;exact a83 r1 ht (a82 (Sr.mono g1) ix) hr1 hl o1
 ·rw [if_neg hl] at o1;exact o1.elim
section
variable{X:Cx}{E:XD}{elt tg iter cnd:Expr}{scope:Scope}{pos spos pos':Pos}{cl:List (Str × Addr)}{ts fr:List Str}{ix:List Nat}{fi:SI}{g:TG}{t:D->Option Sd}{fe:SE}{fc:ST}{i:Nat}{x:Str}
theorem ada(hN:X.N.Nodup)(hi':X.N[i]? = some x)(hx:Loc X.env.scope x)(hc:X.calm=true)(S:CSc X scope cl ts fr ix)(hi:MI X E tg iter fi)(hg:∀ C fp s H,PG (cxC X (ts++fr) scope cl C fp s H) tg g)(ht:ahx X.K ts.length g t)(he:∀ C fp s H,ME (cxC X (ts++fr) scope cl C fp s H) E elt fe)
  (hs:∀ x,foldedSetIterable iter X.env x=pure x:=by intro _;rfl) (hsw:swapsWith (.ListComp elt [⟨tg,iter,[],0⟩] scope pos) (some (.Name x pos')) spos.line X.env=pure true:=by rfl) (hf:X.fn x=true\/X.env.scope.names.lookup x=some .local:=by first | exact .inl rfl | exact .inr rfl | assumption) :
  MS X E (.Assign [.Name x pos'] (.ListComp elt [⟨tg,iter,[],0⟩] scope pos) spos) (p7 i (sZ (xj fi t fe ix))) :=
 PS.weak (ajz (acv (te:=lift X.K E (yu X.K) fe) hN hi' hx hc S hi hg he hs hsw hf)) λN σ H q=>agx ht (anv (ak0 q))
end
theorem o8{P:Program}{w:World}{K:PySem.W.Frag}{mg:Str->Option Value}{base:Heap}{x qual:Str}{st:Stmt}{f:Addr}{fd:FuncData}{N ps:List Str}{k:Nat}{b:SS}(Fu:Fun K x qual st f fd)(S:FnScope N ps (bc st))
  (hb:∀ (cdv:Value) (A:Around) (outer:List Env) (s:Shared) (H:Hp) (E:XK),Room k (A.deeper (PyProof.Rows.envOfC qual (bc st) s.heap.objs.size f cdv))->MSs (zr CX0 P w K mg base N qual (bc st) f cdv A outer s H E).nox X0 (jd st) b) :
  FnOk P w K mg base CX0 (k+1) f fd ps (nj K ps.length (ou b N.length)):=aji Fu S hb λds h _ _ _=>Rf.same rfl
end MI
namespace MI
open PySem PySem.Spec L2 HT
theorem a9c{prog:Program}{w:World}{A:Around}{E:Value->Shared->Prop}{s:Shared}{t sl:Addr}{items:Array Value}{vl vu:Value}{lo hi:Option Int}{Q:Value->Shared->Prop}(ht:PyProof.Rows.IsTup s.heap t items)(hs:s.heap.IsSliceOf sl vl vu .none)(pl:IsPart vl lo)(pu:IsPart vu hi)
  (hw:HT.sIx items.size 0 lo=0/\HT.sIx items.size items.size hi=items.size) (h:Q (.ref t) s):wpAny (model prog w) A (getItem (.ref t) (.ref sl)) Q E s:=by
 obtain ⟨os,f1,f2,f3⟩:=id hs;have ty:s.TypeIs (.ref sl) "slice":=⟨os,f1,f2⟩;have tt:s.TypeIs (.ref t) "tuple":=ht.typeIs;rw [getItem]
 try apply wpAny_holding
 first | (apply wpAny_bind;apply wpAny_pure) | skip
 apply wpAny_bind;apply wpAny_sequenceKey tt (by decide)
 apply wpAny_bind
 apply wpAny_callSpecial?_slot (name:=Str.ofString "__getitem__") tt PyProof.Rows.slot_tuple_getitem
 apply wpAny_call_entry PyProof.Rows.slot_tuple_getitem tt PyProof.Rows.entry_tuple_getitem _ (PyProof.Rows.args_tuple_getitem _ _)
 change wpAny (model prog w) A.in1 (Builtin.Tuple.tupleItemsOf (.ref t)>>=_) _ _ s
 apply wpAny_bind;apply PyProof.Rows.tupleItemsOf_ ht
 apply wpAny_bind;apply wpAny_typeOf ty
 rw [if_pos (by decide)]
 apply wpAny_bind;apply HT.xu hs pl pu
 rw [hw.1,hw.2];dsimp only;rw [if_pos (by simp)]
 apply wpAny_bind
 rw [Builtin.Tuple.tupleIsExact]
 apply wpAny_bind;apply wpAny_typeOf tt
 apply wpAny_pure
 rw [if_pos (by decide)]
 apply wpAny_bind;apply wpAny_rule
 apply wpAny_pure
 exact ⟨_,rfl,wpAny_pure h⟩
def anw(K:PySem.W.Frag):V->Option Int->Option Int->Hp->VK->Prop:=λx lo hi H Q=>∃ a xs,x = .ref a/\SqT K H a xs/\whole xs.length lo hi/\Q (.ref a) H
theorem adb{X:Cx}:SlR X (anw X.K):=by
 intro pins s σ H x v vl vu lo hi sl Q I rx hs pl pu h
 obtain ⟨a,xs,rfl,hx,hw,q⟩:=h;cases rx
 obtain ⟨its,r,ht,hz⟩:=I.tuple hx;have hlen:its.toArray.size=xs.length:=by rw [List.size_toArray];exact r.length.symm
 exact ⟨"tuple",_,PyProof.Rows.slot_tuple_getitem.lookup,ht.typeIs,a9c ht hs pl pu (by rw [hlen];exact hw) ⟨.ref a,H,I,rfl,q⟩⟩
def a3b(d:D)(lo hi:Option Int)(h:Hd):R D:=match d with
 | .tup xs=>if whole xs.length lo hi then .ok (.tup xs) h else .ok (.tup (a1n xs lo hi)) h
 | d=>gSl d lo hi h
def a1j(f:SE)(l u:SO):SE:=λτ h=>(f τ h).bind λd h1=>(l τ h1).bind λlo h2=>(u τ h2).bind λhi h3=>a3b d lo hi h3
theorem agy{K:PySem.W.Frag}{E:XD}{ι:List Addr}{H:Hp}{h:Hd}{x:V}{d:D}{lo hi:Option Int}{Q:VK}(rx:Rep K ι H x d)(hr:HRep K ι H h)(o:out K E (yu K) ι H (a3b d lo hi h) Q):(amn x lo hi H Q\/amj K x lo hi H Q\/aml K x lo hi H Q)\/anw K x lo hi H Q:=by
 cases rx with
 | @tup p vs xs hp r =>
  by_cases hc:whole xs.length lo hi
  ·simp only [a3b,if_pos hc] at o;exact .inr ⟨p,vs,rfl,SqT.of hp,by rw [r.len];exact hc,ans o (.tup hp r) hr⟩
  ·simp only [a3b,if_neg hc] at o;exact .inl (.inr (.inl ⟨p,vs,rfl,SqT.of hp,by rw [r.len];exact hc,yh (a0b r lo hi) hr o⟩))
 | non=>exact o.elim
 | bl _=>exact o.elim
 | int _=>exact o.elim
 | ty _=>exact o.elim
 | str z=>exact .inl (a85 (.str z) hr o)
 | rol a b=>exact .inl (a85 (.rol a b) hr o)
 | scr a b=>exact .inl (a85 (.scr a b) hr o)
 | rod a b c=>exact o.elim
 | rdT a b c=>exact o.elim
 | exc a b c=>exact o.elim
 | ref a=>exact .inl (a85 (.ref a) hr o)
theorem jz{X:Cx}{E:XD}{e:Expr}{fa:SE}{lo hi:Option Expr}{l u:SO}{p2 pos:Pos}(he:ME X E e fa)(hl:MO X E lo l)(hu:MO X E hi u):ME X E (.Subscript e (.Slice lo hi none p2) pos) (a1j fa l u):=by
 refine PE.weak (acn ((aj7.or (aiy.or ag4)).or adb) he hl hu) λσ H Q ⟨ι,τ,h,S,Rh,o⟩=>?_;refine ⟨ι,τ,h,S,Rh,fj o λd h1 ι1 H1 v g1 r1 hr1 o1=>?_⟩;refine ⟨ι1,τ,h1,S.mono g1,hr1,fj o1 λlo h2 ι2 H2 lv g2 r2 hr2 o2=>?_⟩;refine ⟨ι2,τ,h2,(S.mono g1).mono g2,hr2,fj o2 λhi h3 ι3 H3 hv g3 r3 hr3 o3=>?_⟩
 cases r2;cases r3
 exact agy ((r1.mono g2).mono g3) hr3 o3
end MI
namespace TPM
open PySem PySem.Spec PySem.W L2 HT MI
end TPM
namespace MI
open PySem PySem.Spec L2 TPM
end MI
namespace L2
open PySem PySem.Spec PyProof.Rows
end L2
namespace MI
open PySem PySem.Spec L2
def ak1(x y:D)(h:Hd):R D:=match x,y with
 | .ref p, .int i=>(match h[p]? with | some (.lst xs)=>(match atI xs i with | some d=>.ok d h | none=>.no) | _=>.no)
 | _,_=>.no
def adc(g:D->D->Hd->R D)(fo fi fe:SE):SS:=λτ h=>(fo τ h).fl λo h1=>(fi τ h1).fl λi h2=>(ak1 o i h2).fl λx h3=>(fe τ h3).fl λy h4=>(g x y h4).fl λz h5=>match put o i z h5 with | some h6=>.nx τ h6 | none=>.no
def ab7:List D->Hd->R D
 | [.int i],h=>.ok (.bl (i != 0)) h
 | [.bl k],h=>.ok (.bl k) h
 | _,_=>.no
theorem ade{K:PySem.W.Frag}:a9q K ab7 (λxs H Q=>(∃ i,xs=[.int i]/\Q (.bl (i != 0)) H)\/∃ k,xs=[.bl k]/\Q (.bl k) H):=by
 intro E ι H h xs ds Q r hr o
 unfold ab7 at o
 split at o
 ·cases r with
  | cons r rs =>
   cases rs
   cases r
   exact .inl ⟨_,rfl,ans o (.bl _) hr⟩
 ·cases r with
  | cons r rs =>
   cases rs
   cases r
   exact .inr ⟨_,rfl,ans o (.bl _) hr⟩
 ·exact o.elim
end MI
namespace TPM
open PySem PySem.Spec PySem.W L2 HT MI
theorem a9d(t b:Addr)(items2:Array Value)(n n2:Nat)(dd dd2:Option Addr)(sl sl2:Array (Option Value)) :
  Meets (Builtin.«tuple.__add__» ⟨[.ref t, .ref b],[]⟩) (λ_ R s=>s.heap.get? t=some { cls:=.type "tuple",dict:=dd,data:=.seq #[] n,slots:=sl }/\s.heap.get? b=some { cls:=.type "tuple",dict:=dd2,data:=.seq items2 n2,slots:=sl2 }/\R (.ok (.ret (.ref b))) s):=by
 refine .of_wp λprog w A R s h=>?_;obtain ⟨hp,g,d,tk,os⟩:=s;obtain ⟨hl,hb,h⟩:=h
 wp_walk
 refine wpAny_of_eq sub_tuple_self ?_
 wp_walk
 exact ⟨_,rfl,h⟩
def ak2(K:PySem.W.Frag):R2:=λx y H Q=>∃ a b ys,x = .ref a/\y = .ref b/\SqT K H a []/\SqT K H b ys/\Q (.ref b) H
theorem agz{X:Cx}:OpR X (binaryOp .Add) (ak2 X.K):=by
 intro pins s σ H x y v u Q I rx ry h
 obtain ⟨a,b,ys,rfl,rfl,ha,hb,q⟩:=h;cases rx
 cases ry
 obtain ⟨its,r1,p1,_⟩:=I.tuple ha;obtain ⟨its2,r2,p2,_⟩:=I.tuple hb;cases r1
 obtain ⟨⟨cls,dd,data,sl⟩,ho,hc,n,hd⟩:=id p1;obtain ⟨⟨cls2,dd2,data2,sl2⟩,ho2,hc2,n2,hd2⟩:=id p2;simp only at hc hd hc2 hd2;subst hc hd hc2 hd2;exact concat_meets ⟨_,ho,rfl⟩ ⟨_,ho2,rfl⟩ noFill_tuple_add seq_tuple_add F.slot_tuple_add F.entry_tuple_add (F.args_tuple_add_2 _ _) (a9d a b its2.toArray n n2 dd dd2 sl sl2) ⟨ho,ho2,⟨.ref b,H,I,rfl,q⟩⟩
end TPM
namespace MI
open PySem PySem.Spec L2 TPM
end MI
namespace TPM
open PySem PySem.Spec PySem.W L2 HT MI PyProof.Rows
theorem a7b(n:Nat):Builtin.Slice.sliceAdjust none none (-1) (n:Int)=((n:Int) - 1, -1):=by
 unfold Builtin.Slice.sliceAdjust;simp
theorem a7c(n:Nat):Builtin.Slice.slicePlaces ((n:Int) - 1) (-1) (-1)=n:=by
 unfold Builtin.Slice.slicePlaces;rw [if_neg (by decide)]
 by_cases z:n=0
 ·subst z;rfl
 ·rw [if_pos (by omega),show (- -1:Int)=1 from rfl,Int.ediv_one];omega
theorem a6g{prog:Program}{w:World}{A:Around}{E:Value->Shared->Prop}{s:Shared}{sl:Addr}{t:Tok}{n:Nat}{Q:Int × Int × Nat->Shared->Prop}(hs:s.heap.IsSliceOf sl .none .none (.int (-1) t))
  (h:Q ((n:Int) - 1, -1,n) s):wpAny (model prog w) A (Builtin.Slice.sliceApplied (.ref sl) (pure (n:Int))) Q E s:=by
 obtain ⟨os,hos,hcs,hds⟩:=id hs;rw [Builtin.Slice.sliceApplied,Builtin.Slice.sliceFields]
 apply wpAny_bind;apply wpAny_bind
 apply wpAny_field hos hds (x:=.none) rfl
 apply wpAny_bind;apply wpAny_field hos hds (x:=.none) rfl
 apply wpAny_bind;apply wpAny_field hos hds (x:=.int (-1) t) rfl
 apply wpAny_pure
 apply wpAny_bind;apply vy (.int (-1) t)
 dsimp only [Option.getD];rw [if_neg (by decide)]
 apply wpAny_bind;apply vy .none
 apply wpAny_bind;apply vy .none
 apply wpAny_bind;apply wpAny_pure
 rw [a7b];dsimp only;rw [a7c];exact wpAny_pure h
theorem af3{α β:Type}{f:α->Option β}{g:α->β}:∀ {l:List α},(∀ k∈l,f k=some (g k))->l.filterMap f=l.map g
 | [],_=>rfl
 | x::l,h=>by rw [List.filterMap_cons,h x (List.mem_cons_self ..),List.map_cons,af3 λk hk=>h k (List.mem_cons_of_mem _ hk)]
theorem ab8(xs:Array Value):((List.range xs.size).filterMap λ(k:Nat)=>xs[(((xs.size:Nat):Int) - 1+(k:Int) * -1).toNat]?).toArray=xs.toList.reverse.toArray:=by
 congr 1
 apply List.ext_getElem?
 intro i
 have e:(List.range xs.size).filterMap (λ(k:Nat)=>xs[(((xs.size:Nat):Int) - 1+(k:Int) * -1).toNat]?)=(List.range xs.size).map λk=>xs[xs.size - 1 - k]?.getD default:=by
  apply af3
  intro k hk
  rw [List.mem_range] at hk;have:(((xs.size:Nat):Int) - 1+(k:Int) * -1).toNat=xs.size - 1 - k:=by omega
  rw [this,Array.getElem?_eq_getElem (by omega)]
  rfl
 rw [e]
 by_cases hi:i<xs.size
 ·rw [List.getElem?_map,List.getElem?_range hi,List.getElem?_reverse (by simpa using hi)]
  simp
  rw [Array.getElem?_eq_getElem (by omega)]
  rfl
 ·rw [List.getElem?_eq_none (by simp;omega),List.getElem?_eq_none (by simp;omega)]
theorem ab9{prog:Program}{w:World}{A:Around}{E:Value->Shared->Prop}{s:Shared}{t sl:Addr}{u:Tok}{items:Array Value}{Q:Value->Shared->Prop}(ht:PyProof.Rows.IsTup s.heap t items)(hs:s.heap.IsSliceOf sl .none .none (.int (-1) u))
  (h:Q (.ref s.heap.objs.size) { s with heap:=s.heap.push { cls:=.type "tuple",data:=.seq items.toList.reverse.toArray } }) (hsz:items.size<=sizeLine):wpAny (model prog w) A (getItem (.ref t) (.ref sl)) Q E s:=by
 have fits:sizeOk (.seq items.toList.reverse.toArray):=by
  show items.toList.reverse.toArray.size<=sizeLine;rw [List.size_toArray,List.length_reverse,Array.length_toList];exact hsz
 obtain ⟨os,f1,f2,f3⟩:=id hs;have ty:s.TypeIs (.ref sl) "slice":=⟨os,f1,f2⟩;have tt:s.TypeIs (.ref t) "tuple":=ht.typeIs;rw [getItem]
 try apply wpAny_holding
 first | (apply wpAny_bind;apply wpAny_pure) | skip
 apply wpAny_bind;apply wpAny_sequenceKey tt (by decide)
 apply wpAny_bind
 apply wpAny_callSpecial?_slot (name:=Str.ofString "__getitem__") tt PyProof.Rows.slot_tuple_getitem
 apply wpAny_call_entry PyProof.Rows.slot_tuple_getitem tt PyProof.Rows.entry_tuple_getitem _ (PyProof.Rows.args_tuple_getitem _ _)
 change wpAny (model prog w) A.in1 (Builtin.Tuple.tupleItemsOf (.ref t)>>=_) _ _ s
 apply wpAny_bind;apply PyProof.Rows.tupleItemsOf_ ht
 apply wpAny_bind;apply wpAny_typeOf ty
 rw [if_pos (by decide)]
 apply wpAny_bind;apply a6g hs
 dsimp only;rw [if_neg (by simp),ab8]
 first
  | exact wpAny_bind (m:=Builtin.Tuple.tupleExact _) (wpAny_newObj_type (wpAny_pure ⟨_,rfl,wpAny_pure h⟩) fits)
  | exact wpAny_bind (wpAny_bind (m:=Builtin.Tuple.tupleExact _) (wpAny_newObj_type (wpAny_pure ⟨_,rfl,wpAny_pure h⟩) fits))
def amx(K:PySem.W.Frag)(te tk:TE):TE:=λσ H Q=>te σ H λx H1=>tk σ H1 λk H2=>k = .int (-1)/\∃ a xs,x = .ref a/\SqT K H2 a xs/\∀ p,H2 p=none->Q (.ref p) (upd H2 p (.tup xs.reverse))
theorem ah0{X:Cx}{e st:Expr}{te tk:TE}{p2 pos:Pos}(he:PE X e te)(hk:PE X st tk):PE X (.Subscript e (.Slice none none (some st) p2) pos) (amx X.K te tk):=by
 intro pins s σ H Q I h
 refine Subscript_ (thn (he pins s σ H _ I h) λv s1 ⟨x,H1,I1,r1,q1⟩=>?_);refine wpAny_Slice ?_;rw [evalPart_none];refine wpAny_pure (wpAny_pure ?_);rw [evalPart_some];refine thn (hk pins s1 σ H1 _ I1 q1) λu s3 ⟨k,H3,I3,rk,ek,a,xs,ea,hx,q⟩=>?_;subst ek ea;obtain ⟨t,rfl⟩:=rk;cases r1
 have I4:Inv X pins σ H3 { s3 with heap:=s3.heap.push { cls:=.type "slice",data:=.fields #[.none, .none, .int (-1) t] } }:=I3.kept (t':=s3.toks) λb ob q=>Heap.get?_push_of_some _ q
 obtain ⟨its,r,ht,hz⟩:=I4.tuple hx;have hlen:its.toArray.size=xs.length:=by rw [List.size_toArray];exact r.length.symm
 refine tail_any (T := "tuple") (ops:=[.ref a, .ref s3.heap.objs.size]) ht.typeIs PyProof.Rows.slot_tuple_getitem.lookup ?_ (by with_unfolding_all rfl)
 refine ab9 ht (Heap.IsSliceOf.new ..) ?_ (by rw [hlen];exact hz)
 refine ⟨.ref _,_,I4.laid (t':=s3.toks) (o:=.tup xs.reverse) (λb ob q=>Heap.get?_push_of_some _ q) (Nat.le_refl _) ?_,rfl,q _ (I4.hok.fresh (Nat.le_refl _))⟩;exact ⟨by rw [List.length_reverse];exact hz,_,r.reverse,PyProof.Rows.IsTup.new _ _⟩
end TPM
namespace MI
open PySem PySem.Spec L2 TPM
def a7d(f g:SE):SE:=λτ h=>(f τ h).bind λd h1=>(g τ h1).bind λk h2=>match d,k with
 | .tup xs, .int i=>if i = -1 then .ok (.tup xs.reverse) h2 else .no
 | _,_=>.no
theorem a8e{K:PySem.W.Frag}{ι:List Addr}{H:Hp}:∀ {vs:List V} {xs:List D} {ws:List V} {ys:List D},Reps K ι H vs xs->Reps K ι H ws ys->Reps K ι H (vs.reverse++ws) (xs.reverse++ys)
 | _,_,_,_, .nil,r2=>r2
 | _,_,_,_, .cons r rs,r2=>by
  rw [List.reverse_cons,List.reverse_cons,List.append_assoc,List.append_assoc];exact a8e rs (.cons r r2)
theorem aba{X:Cx}{E:XD}{e st:Expr}{f g:SE}{p2 pos:Pos}(he:ME X E e f)(hk:ME X E st g):ME X E (.Subscript e (.Slice none none (some st) p2) pos) (a7d f g):=by
 refine PE.weak (ah0 he hk) λσ H Q ⟨ι,τ,h,S,Rh,o⟩=>?_;refine ⟨ι,τ,h,S,Rh,fj o λd h1 ι1 H1 v g1 r1 hr1 o1=>?_⟩;refine ⟨ι1,τ,h1,S.mono g1,hr1,fj o1 λk h2 ι2 H2 u g2 r2 hr2 o2=>?_⟩;have r1':=r1.mono g2
 cases r1' with
 | @tup a vs xs ha rs =>
  cases r2 with
  | int i =>
   by_cases z:i = -1
   ·subst z;simp only [if_true] at o2;have rr:=a8e rs .nil;rw [List.append_nil,List.append_nil] at rr;exact ⟨rfl,a,vs,rfl,SqT.of ha,yh rr hr2 o2⟩
   ·simp only [if_neg z] at o2;exact o2.elim
  | _=>exact o2.elim
 | _=>exact o2.elim
end MI
namespace L2
open PySem PySem.Spec PyProof.Rows
section
variable{X:Cx}
theorem Inv.lstR{pins:List (Addr × Obj)}{σ:St}{H:Hp}{s:Shared}{l:Addr}{xs:List V}(I:Inv X pins σ H s)(hH:Rd H l (.lst xs)):xs.length<=sizeLine/\∃ (its:List Value) (n:Nat),Vals xs its/\xs.length=its.length/\s.heap.get? l=some { cls:=.type "list",data:=.seq its.toArray n }:=by
 obtain ⟨z,its,n,r,e⟩:=hH.ok I.hok;exact ⟨z,its,n,r,r.length,e⟩
def ak3:R2:=λx y H Q=>∃ l b xs zs,x = .ref l/\y = .ref b/\Rd H l (.lst xs)/\Rd H b (.lst zs)/\xs.length+zs.length<=sizeLine/\∀ p,H p=none->Q (.ref p) (upd H p (.lst (xs++zs)))
theorem ah1:OpR X (binaryOp .Add) ak3:=λpins s σ H x y v u Q I rx ry ⟨l,b,xs,zs,ex,ey,h1,h2,hz,q⟩=>by
 subst ex ey;cases rx
 cases ry
 obtain ⟨_,as,_,va,la,ea⟩:=I.lstR h1;obtain ⟨_,bs,_,vb,lb,eb⟩:=I.lstR h2;have app:as.toArray++bs.toArray=(as++bs).toArray:=by simp
 refine PySem.P.add_list ea eb ?_ (by simp;omega)
 rw [app];exact ⟨.ref _,_,I.lnew (t':=s.toks) (va.append vb) (by simpa using hz),rfl,q _ I.fresh⟩
def ak4:R2:=λx y H Q=>∃ l k xs,x = .ref l/\y = .int k/\Rd H l (.lst xs) /\ -(2 ^ 63)<=k/\k<2 ^ 63/\xs.length*k.toNat<=sizeLine/\∀ p,H p=none->Q (.ref p) (upd H p (.lst (List.replicate k.toNat xs).flatten))
theorem ah2(its:List Value)(k:Nat):List.foldl (λx1 x2=>x1++x2) #[] (List.replicate (if its.toArray.isEmpty=true then 0 else k) its.toArray)=(List.replicate k its).flatten.toArray:=by
 have g:∀ m:Nat,List.foldl (λx1 x2=>x1++x2) #[] (List.replicate m its.toArray)=(List.replicate m its).flatten.toArray:=λm=>by simpa using foldl_rep its m []
 cases its with
 | nil=>simp
 | cons a r=>rw [if_neg (by simp),g]
theorem ah3:OpR X (binaryOp .Mult) ak4:=λpins s σ H x y v u Q I rx ry ⟨l,k,xs,ex,ey,h1,k1,k2,hz,q⟩=>by
 subst ex ey;cases rx
 obtain ⟨t,rfl⟩:=ry;obtain ⟨_,as,n,va,la,ea⟩:=I.lstR h1;have few:as.toArray.size*k.toNat<=sizeLine:=by rw [List.size_toArray,<-la];exact hz
 have top:(sizeLine:Nat)<=(2 ^ 63 - 1) / 8:=by decide
 refine wpAny_binaryOp_repeat_ref (T := "list") (U := "int") (by decide) ⟨_,ea,rfl⟩ (λs'=>typeIs_int s' k t) noFill_list_mul F.fills_int_mul F.slot_int_rmul repeat_list F.slot_int_index.lookup
  (call_meets F.slot_int_rmul (typeIs_int s k t) F.entry_int_rmul (F.args_int_rmul_2 _ _) (int___rmul___int_list k t l as.toArray n)
   ⟨ea,rfl,⟨_,ea,rfl⟩,call_meets F.slot_list_mul ⟨_,ea,rfl⟩ F.entry_list_mul (F.args_list_mul_2 _ _)
    (AutoListH.list___mul___list_int_3 l as.toArray n k t (by rw [fitsIndex_both k1 k2];exact Bool.false_ne_true) (by omega) (by rw [aco few];exact Bool.false_ne_true)) ⟨ea,?_⟩⟩)
 rw [ah2];exact ⟨.ref _,_,I.lnew (t':=s.toks) (va.rep k.toNat) (by rw [len_rep,Nat.mul_comm];exact hz),rfl,q _ I.fresh⟩
end
end L2
namespace MI
open PySem PySem.Spec L2 TPM
def zf(d:D)(h:Hd):Option (List D):=match d with
 | .rol xs=>some xs
 | .ref i=>(match h[i]? with | some (.lst xs)=>some xs | _=>none)
 | _=>none
section
variable{K:PySem.W.Frag}{ι:List Addr}{H:Hp}{h:Hd}
theorem a4m{x:V}{d:D}{xs:List D}(r:Rep K ι H x d)(hr:HRep K ι H h)(e:zf d h=some xs):∃ a vs,x = .ref a/\Rd H a (.lst vs)/\Reps K ι H vs xs:=by
 cases r with
 | @rol a vs ys hp rs=>cases e;exact ⟨a,vs,rfl, .inr hp,rs⟩
 | @ref a i hp =>
  obtain ⟨ob,e1,e2⟩:=hr.at hp;simp only [zf,e1] at e
  cases ob with
  | lst ys=>cases e;obtain ⟨vs,h3,h4⟩:=e2;exact ⟨a,vs,rfl, .inl h3,h4⟩
  | _=>cases e
 | _=>cases e
def jb:D->D->Hd->R D
 | .int i, .int j,h=>.ok (.int (i+j)) h
 | .str x, .str y,h=>if x.length+y.length<=LINE then .ok (.str (x++y)) h else .no
 | .tup [], .tup ys,h=>.ok (.tup ys) h
 | .tup (x::xs), .tup ys,h=>if (x::xs).length+ys.length<=LINE then .ok (.tup (x::xs++ys)) h else .no
 | x,y,h=>match zf x h,zf y h with
  | some xs,some ys=>if xs.length+ys.length<=LINE then .ok (.ref h.length) (h++[.lst (xs++ys)]) else .no
  | _,_=>.no
theorem a7e{x y:D}{xs ys:List D}(e1:zf x h=some xs)(e2:zf y h=some ys):jb x y h=if xs.length+ys.length<=LINE then .ok (.ref h.length) (h++[.lst (xs++ys)]) else .no:=by
 cases x<;>first | (cases e1;done) | (cases y<;>first | (cases e2;done) | (simp only [jb,e1,e2]))
theorem ah4(x y:D)(h:Hd):(∃ i j,x = .int i/\y = .int j)\/(∃ i j,x = .str i/\y = .str j)\/(∃ xs ys,x = .tup xs/\y = .tup ys)\/(∃ xs ys,zf x h=some xs/\zf y h=some ys)\/jb x y h = .no:=by
 cases e1:zf x h with
 | some xs =>
  cases e2:zf y h with
  | some ys=>exact .inr (.inr (.inr (.inl ⟨xs,ys,rfl,rfl⟩)))
  | none =>
   refine .inr (.inr (.inr (.inr ?_)))
   cases x<;>first | (cases e1;done) | (simp only [jb,e1,e2])
 | none =>
  cases x with
  | int i=>cases y<;>first | exact .inl ⟨_,_,rfl,rfl⟩ | exact .inr (.inr (.inr (.inr rfl)))
  | str i=>cases y<;>first | exact .inr (.inl ⟨_,_,rfl,rfl⟩) | exact .inr (.inr (.inr (.inr rfl)))
  | tup i=>cases y<;>first | exact .inr (.inr (.inl ⟨_,_,rfl,rfl⟩)) | (cases i<;>exact .inr (.inr (.inr (.inr rfl))))
  | _=>refine .inr (.inr (.inr (.inr ?_)));simp only [jb,e1]
theorem adf:a0m K jb (λx y H Q=>(rI0 (λi j=>.int (i+j)) x y H Q\/(∃ i j,x = .str i/\y = .str j/\i.length+j.length<=sizeLine/\Q (.str (i++j)) H)\/aiz K x y H Q\/ak3 x y H Q)\/ak2 K x y H Q):=by
 intro E ι H h x y dx dy Q rx ry hr o
 rcases ah4 dx dy h with ⟨i,j,rfl,rfl⟩ | ⟨i,j,rfl,rfl⟩ | ⟨xs,ys,rfl,rfl⟩ | ⟨xs,ys,e1,e2⟩ | e
 ·cases rx;cases ry
  exact .inl (.inl ⟨i,j,rfl,rfl,ans o (.int _) hr⟩)
 ·cases rx;cases ry
  simp only [jb] at o
  split at o
  ·rename_i hc;exact .inl (.inr (.inl ⟨i,j,rfl,rfl,ll hc,ans o (.str _) hr⟩))
  ·exact o.elim
 ·cases rx with
  | @tup a vs _ ha r1 =>
  cases ry with
  | @tup b us _ hb r2 =>
  cases xs with
  | nil=>cases r1;exact .inr ⟨a,b,us,rfl,rfl,SqT.of ha,SqT.of hb,ans o (.tup hb r2) hr⟩
  | cons z xs =>
   simp only [jb] at o
   split at o
   ·rename_i hc;refine .inl (.inr (.inr (.inl ⟨a,b,vs,us,rfl,rfl,SqT.of ha,SqT.of hb,λz=>(by subst z;cases r1),ll (by rw [r1.len,r2.len];exact hc),λz=>?_,λ_=>?_⟩)))
    ·subst z;cases r2
     rw [List.append_nil] at o;exact ans o (.tup ha r1) hr
    ·exact yh (r1.app r2) hr o
   ·exact o.elim
 ·rw [a7e e1 e2] at o;obtain ⟨a,vs,rfl,h1,h2⟩:=a4m rx hr e1;obtain ⟨b,us,rfl,h3,h4⟩:=a4m ry hr e2
  split at o
  ·rename_i hc;exact .inl (.inr (.inr (.inr ⟨a,b,vs,us,rfl,rfl,h1,h3,ll (by rw [h2.len,h4.len];exact hc),ut (h2.app h4) hr o⟩)))
  ·exact o.elim
 ·rw [e] at o;exact o.elim
theorem j8{X:Cx}{E:XD}{a b:Expr}{fa fb:SE}{pos:Pos}(ha:ME X E a fa)(hb:ME X E b fb):ME X E (.BinOp a .Add b pos) (s2 jb fa fb) :=
 a95 (OpR.or (aio.or (a8z.or (ag2.or ah1))) agz) adf ha hb
open Classical in
noncomputable def wu:D->D->Hd->R D
 | .int i, .int j,h=>if CMul i j then .ok (.int (i*j)) h else .no
 | x, .int k,h=>match zf x h with
  | some xs=>if (-(2 ^ 63)<=k/\k<2 ^ 63)/\xs.length*k.toNat<=LINE then .ok (.ref h.length) (h++[.lst (List.replicate k.toNat xs).flatten]) else .no
  | none=>.no
 | _,_,_=>.no
theorem adg:a0m K wu (λx y H Q=>rI CMul (λi j=>.int (i*j)) x y H Q\/ak4 x y H Q):=by
 intro E ι H h x y dx dy Q rx ry hr o
 cases ry with
 | int k =>
  cases hx:zf dx h with
  | some xs =>
   obtain ⟨a,vs,rfl,h1,h2⟩:=a4m rx hr hx;have o':out K E (yu K) ι H (if (-(2 ^ 63)<=k/\k<2 ^ 63)/\xs.length*k.toNat<=LINE then .ok (.ref h.length) (h++[.lst (List.replicate k.toNat xs).flatten]) else .no) Q:=by
    cases dx<;>first | (cases hx;done) | (simp only [wu,hx] at o;exact o)
   split at o'
   ·rename_i hc;exact .inr ⟨a,k,vs,rfl,rfl,h1,hc.1.1,hc.1.2,ll (by rw [h2.len];exact hc.2),ut (h2.flat _) hr o'⟩
   ·exact o'.elim
  | none =>
   cases rx with
   | int i =>
    by_cases hc:CMul i k
    ·simp only [wu,if_pos hc] at o;exact .inl ⟨i,k,rfl,rfl,hc,ans o (.int _) hr⟩
    ·simp only [wu,if_neg hc] at o;exact o.elim
   | _=>simp only [wu,hx] at o;exact o.elim
 | _=>cases rx<;>exact o.elim
theorem a0u{X:Cx}{E:XD}{a b:Expr}{fa fb:SE}{pos:Pos}(ha:ME X E a fa)(hb:ME X E b fb):ME X E (.BinOp a .Mult b pos) (s2 wu fa fb):=a95 (aiq.or ah3) adg ha hb
end
end MI
namespace MI
open PySem PySem.Spec L2
end MI
namespace L2
open PySem PySem.Spec PyProof.Rows
end L2
namespace MI
open PySem PySem.Spec L2
end MI
namespace L2
open PySem PySem.Spec PyProof.Rows
def ixI(n:Int):List Int->Option Nat
 | []=>none
 | a::l=>if a=n then some 0 else (ixI n l).map (·+1)
end L2
namespace MI
open PySem PySem.Spec L2
def anx:D->Option Key
 | .int i=>some (.inl i)
 | .str x=>some (.inr x)
 | _=>none
def aox:D->Option (List Key)
 | .tup xs=>zc anx xs
 | _=>none
def putD{κ:Type}[DecidableEq κ](kvs:List (κ × D))(k:κ)(d:D):List (κ × D):=if (kvs.any λkv=>decide (kv.1=k))=true then kvs.map λkv=>if kv.1=k then (kv.1,d) else kv else kvs++[(k,d)]
section
variable{K:PySem.W.Frag}{ι:List Addr}{H:Hp}{h:Hd}
variable{X:Cx}{E:XD}{a b e o i:Expr}{fa fb fc:SE}{pos:Pos}
def aoy(o k v:D)(h:Hd):Option Hd:=match o with
 | .ref i=>(match h[i]? with
  | some (.dK kvs)=>(match anx k with | some kk=>if kvs.length<LINE then some (h.set i (.dK (putD kvs kk v))) else none | none=>none)
  | some (.dT kvs)=>(match aox k with | some kk=>if kvs.length<LINE then some (h.set i (.dT (putD kvs kk v))) else none | none=>none)
  | _=>none)
 | _=>none
def adh(fe fo fi:SE):SS:=λτ h=>(fe τ h).fl λv h1=>(fo τ h1).fl λo h2=>(fi τ h2).fl λk h3=>match aoy o k v h3 with | some h4=>.nx τ h4 | none=>.no
end
end MI
namespace ZP
open PySem PySem.Spec PySem.Builtin PySem.Builtin.SmallTypes L2
end ZP
namespace MI
open PySem PySem.Spec L2 ZP
def ah5(x:D)(h:Hd):R Itm:=match srcOf x h with
 | some (xs,c)=>.ok ⟨((List.range xs.length).zip xs).map λp=>.tup [.int (p.1:Nat),p.2],c⟩ h
 | none=>.no
def ak5(f:SE):SI:=λτ h=>(f τ h).bind ah5
end MI
namespace L2
open PySem PySem.Spec PyProof.Rows
end L2
namespace MI
open PySem PySem.Spec L2
end MI
namespace L2
open PySem PySem.Spec PyProof.Rows
end L2
namespace MI
open PySem PySem.Spec L2
def aoz(lo:Int)(n:Nat):List D:=(List.range n).map λi=>D.int (lo - (i:Nat))
def ak6(ds:List D)(h:Hd):R Itm:=match ds with
 | [.int i, .int j, .int k]=>if k = -1/\B62 i/\B62 j then .ok ⟨aoz i (i - j).toNat,λ_=>True⟩ h else .no
 | _=>.no
theorem dm{α β:Type}(a:α)(h:Hd)(k:α->Hd->R β):(R.ok a h).bind k=k a h:=rfl
theorem a6h{α:Type}(a:α)(h:Hd)(k:α->Hd->Fl):(R.ok a h).fl k=k a h:=rfl
def thn(r:Fl)(g:SS):Fl:=match r with | .nx τ h=>g τ h | r=>r
theorem qz(f g:SS)(τ:Sd)(h:Hd):jh f g τ h=thn (f τ h) g:=by unfold jh thn;cases f τ h<;>rfl
theorem a1k(τ:Sd)(h:Hd)(g:SS):thn (.nx τ h) g=g τ h:=rfl
theorem a6i(d:D)(h:Hd)(g:SS):thn (.rt d h) g = .rt d h:=rfl
def toR(r:Fl):R D:=match r with | .rt d h1=>.ok d h1 | .nx _ h1=>.ok .non h1 | .ex c h1=>.ex c h1 | _=>.no
theorem jj(b:SS)(n:Nat)(ds:List D)(h:Hd):ou b n ds h=toR (b (a08 n ds) h):=by unfold ou toR;cases b (a08 n ds) h<;>rfl
theorem a6j(d:D)(h:Hd):toR (.rt d h) = .ok d h:=rfl
theorem a8f(τ:Sd)(h:Hd):toR (.nx τ h) = .ok .non h:=rfl
theorem jg{n:Nat}:∀ {xs:List D},clos n xs↔∀ x∈xs,clo n x
 | []=>by simp [clos]
 | x::xs=>by simp [clos,jg (xs:=xs)]
theorem ie{n:Nat}(i:Int):clo n (.int i):=by simp [clo]
theorem dw{n:Nat}(i:Str):clo n (.str i):=by simp [clo]
theorem xx{n:Nat}(i:Bool):clo n (.bl i):=by simp [clo]
theorem qd{n:Nat}:clo n .non:=by simp [clo]
theorem iy{n:Nat}:clos n []:=by simp [clos]
theorem bz{n:Nat}{x:D}{xs:List D}(a:clo n x)(b:clos n xs):clos n (x::xs):=by simp only [clos];exact ⟨a,b⟩
theorem jw{n:Nat}{xs:List D}(h:clos n xs):clo n (.tup xs):=by simpa [clo] using h
theorem tu{n:Nat}{xs:List D}(h:clos n xs):clo n (.rol xs):=by simpa [clo] using h
theorem kh{α:Type}{n:Nat}{f:α->D}{l:List α}(h:∀ a∈l,clo n (f a)):clos n (l.map f):=by
 rw [jg]
 intro x hx
 obtain ⟨a,ha,rfl⟩:=List.mem_map.mp hx;exact h a ha
mutual
theorem a6k{n m:Nat}(hm:n<=m):∀ {d:D},clo n d->clo m d
 | .non,_=>by simp [clo]
 | .bl _,_=>by simp [clo]
 | .int _,_=>by simp [clo]
 | .str _,_=>by simp [clo]
 | .ty _,_=>by simp [clo]
 | .tup xs,h=>by simp only [clo] at h ⊢;exact vh hm h
 | .rol xs,h=>by simp only [clo] at h ⊢;exact vh hm h
 | .scr xs,h=>by simp only [clo] at h ⊢;exact vh hm h
 | .rod _ xs,h=>by simp only [clo] at h ⊢;exact vh hm h
 | .rdT _ xs,h=>by simp only [clo] at h ⊢;exact vh hm h
 | .exc _,_=>by simp [clo]
 | .ref i,h=>by simp only [clo] at h ⊢;omega
theorem vh{n m:Nat}(hm:n<=m):∀ {xs:List D},clos n xs->clos m xs
 | [],_=>by simp [clos]
 | x::xs,h=>by simp only [clos] at h ⊢;exact ⟨a6k hm h.1,vh hm h.2⟩
end
theorem ym{n m:Nat}(hm:n<=m){o:O}(h:qp n o):qp m o:=by
 cases o with
 | lst xs=>exact vh hm h
 | dK kvs=>exact vh hm h
 | dT kvs=>exact vh hm h
theorem a7f{α:Type}{f:α->Option α}:∀ {xs:List α},(∀ x∈xs,f x=some x)->zc f xs=some xs
 | [],_=>rfl
 | x::xs,h=>by
  unfold zc;rw [h x List.mem_cons_self,a7f λy hy=>h y (List.mem_cons_of_mem _ hy)]
theorem a8g{n k:Nat}{h:Hd}{d:D}(c:clo n d):a2z n h (k+1) d=some d:=by unfold a2z;rw [if_pos c]
theorem adi{n k:Nat}{h:Hd}{o:O}(c:qp n o):ajx n h k o=some o:=by unfold ajx;rw [if_pos c]
theorem adk{n k i:Nat}{h:Hd}{xs:List D}(hi:n<=i)(e:h[i]? = some (.lst xs))(c:clos n xs):a2z n h (k+2) (.ref i)=some (.rol xs):=by
 unfold a2z;rw [if_neg (by simp only [clo];omega)]
 simp only [e];rw [a7f λx hx=>a8g (jg.mp c x hx)];rfl
theorem a2k{n:Nat}{d d':D}{h1:Hd}(e:a2z n h1 FU d=some d')(c:∀ o∈h1.take n,qp n o):a3p n (.ok d h1) = .ok d' (h1.take n):=by
 unfold a3p;simp only [e];rw [a7f λo ho=>adi (c o ho)]
theorem v5{n:Nat}{d:D}{h1:Hd}(e:clo n d)(c:∀ o∈h1.take n,qp n o):a3p n (.ok d h1) = .ok d (h1.take n):=a2k (a8g e) c
theorem a8h{n i:Nat}{h1:Hd}{xs:List D}(hi:n<=i)(e:h1[i]? = some (.lst xs))(cx:clos n xs)(c:∀ o∈h1.take n,qp n o):a3p n (.ok (.ref i) h1) = .ok (.rol xs) (h1.take n):=a2k (adk hi e cx) c
theorem ah6{f:SE}{τ:Sd}{h:Hd}{xs:List D}(e:f τ h = .ok (.ref h.length) (h++[.lst xs]))(cx:clos h.length xs)(c:∀ o∈h,qp h.length o):sZ f τ h = .ok (.rol xs) h:=by
 unfold sZ;rw [e,a8h (Nat.le_refl _) (by simp) cx (by simpa using c)]
 simp
def Pu(F:SF)(n:Nat)(ds:List D)(d:D):Prop:=∀ h,jt false n F ds h = .ok d h
def Dr(F:SF)(n:Nat)(ds:List D)(o:O)(d:D)(o':O):Prop:=∀ p h,h[p]? = some o->jt false n F (.ref p::ds) h = .ok d (h.set p o')
theorem a0e:∀ {ds:List D},(∀ d∈ds,clo 0 d)->yc ds=[]/\wg 0 ds=ds/\∀ k,wg k ds=ds
 | [],_=>⟨rfl,rfl,λ_=>rfl⟩
 | d::ds,h=>by
  obtain ⟨a,b,c⟩:=a0e (ds:=ds) λx hx=>h x (List.mem_cons_of_mem _ hx);have hd:=h d List.mem_cons_self;have nr:refOf d=none:=by cases d<;>first | rfl | (simp only [clo] at hd;omega)
  refine ⟨?_,?_,λk=>?_⟩
  ·simpa [yc,nr] using a
  ·cases d<;>first | (simp only [clo] at hd;omega) | (simp only [wg,b])
  ·cases d<;>first | (simp only [clo] at hd;omega) | (simp only [wg,c])
theorem Pu.of{F:SF}{n:Nat}{ds:List D}{r:R D}{d:D}(hn:ds.length=n)(cd:∀ x∈ds,clo 0 x)(e:F ds []=r)(z:a3p 0 r = .ok d [])(c:clo 0 d):Pu F n ds d:=λh=>by
 obtain ⟨p1,p2,_⟩:=a0e cd;unfold jt;rw [if_pos hn];unfold ahz;rw [p1];simp only [zc,List.length_nil,Bool.false_eq_true,if_false];rw [if_pos ⟨List.nodup_nil,λx hx=>.inl (cd x hx),λo ho=>by simp at ho⟩,p2,e,z]
 simp [c,qm]
theorem Dr.of{F:SF}{n:Nat}{ds:List D}{o o':O}{r:R D}{d:D}(hn:ds.length+1=n)(cd:∀ x∈ds,clo 0 x)(co:qp 0 o)(e:F (.ref 0::ds) [o]=r)(z:a3p 1 r = .ok d [o'])(c:clo 0 d)(co':qp 0 o'):Dr F n ds o d o':=λp h hp=>by
 obtain ⟨p1,_,p3⟩:=a0e cd;have e1:yc (.ref p::ds)=[p]:=by
  have:yc (.ref p::ds)=p::yc ds:=rfl
  rw [this,p1]
 have e2:wg 0 (.ref p::ds) = .ref 0::ds:=by
  have:wg 0 (.ref p::ds) = .ref 0::wg 1 ds:=rfl
  rw [this,p3]
 unfold jt;rw [if_pos (by simpa using hn)]
 unfold ahz;rw [e1];simp only [zc,hp,List.length_singleton,Bool.false_eq_true,if_false];have all:∀ x∈(D.ref p::ds),clo 0 x\/isRef x:=λx hx=>by
  rcases List.mem_cons.mp hx with rfl | hx
  ·exact .inr ⟨p,rfl⟩
  ·exact .inl (cd x hx)
 rw [if_pos ⟨by simp,all,λu hu=>by rw [List.mem_singleton.mp hu];exact co⟩,e2,e,z]
 simp [c,co',qm]
theorem ak7{F:SF}{n i:Nat}{ds:List D}{o:O}{h1:Hd}(hn:ds.length=n)(cd:∀ x∈ds,clo 0 x)(e:F ds [] = .ok (.ref i) h1)(ho:h1[i]? = some o)(co:qp 0 o)(h:Hd):jt true n F ds h = .ok (.ref h.length) (h++[o]):=by
 obtain ⟨p1,p2,_⟩:=a0e cd;unfold jt;rw [if_pos hn];unfold ahz;rw [p1];simp only [zc,List.length_nil,if_true];rw [if_pos ⟨List.nodup_nil,λx hx=>.inl (cd x hx),λo ho=>by simp at ho⟩,p2,e]
 unfold ahy;simp only [ho];rw [if_pos ⟨Nat.zero_le _,co,by simp⟩]
 simp [co,qm]
theorem adl(g:SG)(b:SS)(τ:Sd)(h:Hd):forL (λ_=>True) g b [] τ h = .nx τ h:=by rw [forL,if_pos True.intro]
def trn(r:Fl)(k:Sd->Hd->Fl):Fl:=match r with | .nx τ h=>k τ h | .ct τ h=>k τ h | .bk τ h=>.nx τ h | r=>r
theorem abb(g:SG)(b:SS)(x:D)(xs:List D)(τ τ1:Sd)(h h1:Hd)(e:g x τ h = .nx τ1 h1):forL (λ_=>True) g b (x::xs) τ h=trn (b τ1 h1) (forL (λ_=>True) g b xs):=by
 rw [forL,if_pos True.intro,e];dsimp only;unfold trn
 cases b τ1 h1<;>rfl
theorem ak8(τ:Sd)(h:Hd)(k:Sd->Hd->Fl):trn (.nx τ h) k=k τ h:=rfl
theorem ak9(d:D)(h:Hd)(k:Sd->Hd->Fl):trn (.rt d h) k = .rt d h:=rfl
theorem a4n{g:SG}{b:SS}{α:Type}(f:α->D)(I:List α->Sd->Hd->Prop)(Rt:D->Hd->Prop):∀ (xs pre:List α) (τ:Sd) (h:Hd),
  (∀ pre' x post τ h,pre++xs=pre'++x::post->I pre' τ h->∃ τ1 h1,g (f x) τ h = .nx τ1 h1/\((∃ τ2 h2,b τ1 h1 = .nx τ2 h2/\I (pre'++[x]) τ2 h2)\/∃ d h2,b τ1 h1 = .rt d h2/\Rt d h2))->I pre τ h->
  (∃ τ' h',forL (λ_=>True) g b (xs.map f) τ h = .nx τ' h'/\I (pre++xs) τ' h')\/∃ d h',forL (λ_=>True) g b (xs.map f) τ h = .rt d h'/\Rt d h'
 | [],pre,τ,h,_,i0=>.inl ⟨τ,h,adl ..,by simpa using i0⟩
 | x::xs,pre,τ,h,st,i0=>by
  obtain ⟨τ1,h1,e1,q⟩:=st pre x xs τ h rfl i0;rw [List.map_cons,abb _ _ _ _ _ _ _ _ e1]
  rcases q with ⟨τ2,h2,e2,i2⟩ | ⟨d,h2,e2,r⟩
  ·rw [e2,ak8];have:=a4n f I Rt xs (pre++[x]) τ2 h2 (λpre' y post τ h e=>st pre' y post τ h (by simpa using e)) i2
   simpa using this
  ·rw [e2,ak9];exact .inr ⟨d,h2,rfl,r⟩
theorem a4o{g:SG}{b:SS}{α:Type}(f:α->D)(I:List α->Sd->Hd->Prop)(xs:List α)(τ:Sd)(h:Hd)
  (st:∀ pre x post τ h,xs=pre++x::post->I pre τ h->∃ τ1 h1,g (f x) τ h = .nx τ1 h1/\∃ τ2 h2,b τ1 h1 = .nx τ2 h2/\I (pre++[x]) τ2 h2) (i0:I [] τ h) :
  ∃ τ' h',forL (λ_=>True) g b (xs.map f) τ h = .nx τ' h'/\I xs τ' h':=by
 rcases a4n f I (λ_ _=>False) xs [] τ h (λpre' x post τ h e i=>let ⟨τ1,h1,a,b⟩:=st pre' x post τ h e i; ⟨τ1,h1,a, .inl b⟩) i0 with ⟨τ',h',a,b⟩ | ⟨_,_,_,z⟩
 ·exact ⟨τ',h',a,b⟩
 ·exact z.elim
theorem a4p{f:D->Hd->R D}{α:Type}(g:α->D)(I:List α->List D->Hd->Prop):∀ (xs pre:List α) (ys:List D) (h:Hd),
  (∀ pre' x post ys h,pre++xs=pre'++x::post->I pre' ys h->∃ y h',f (g x) h = .ok y h'/\I (pre'++[x]) (ys++[y]) h')->I pre ys h->∃ zs h',mapR (λ_=>True) f (xs.map g) h = .ok zs h'/\I (pre++xs) (ys++zs) h'
 | [],pre,ys,h,_,i0=>⟨[],h,by rw [List.map_nil,mapR,if_pos True.intro],by simpa using i0⟩
 | x::xs,pre,ys,h,st,i0=>by
  obtain ⟨y,h1,e1,i1⟩:=st pre x xs ys h rfl i0;obtain ⟨zs,h',e2,i2⟩:=a4p g I xs (pre++[x]) (ys++[y]) h1 (λpre' z post ys h e=>st pre' z post ys h (by simpa using e)) i1
  refine ⟨y::zs,h',?_,by simpa using i2⟩
  rw [List.map_cons,mapR,if_pos True.intro,e1];show (mapR _ f (xs.map g) h1).bind _=_;rw [e2];rfl
theorem a6l{f:D->Hd->R D}{α:Type}(g F:α->D){h:Hd}:∀ {xs:List α},(∀ x∈xs,f (g x) h = .ok (F x) h)->mapR (λ_=>True) f (xs.map g) h = .ok (xs.map F) h
 | [],_=>by rw [List.map_nil,mapR,if_pos True.intro];rfl
 | x::xs,st=>by
  rw [List.map_cons,mapR,if_pos True.intro,st x List.mem_cons_self];show (mapR _ f (xs.map g) h).bind _=_;rw [a6l g F λy hy=>st y (List.mem_cons_of_mem _ hy)];rfl
structure KD (P:Program) (w:World) (K:PySem.W.Frag) (a:Addr) (kvs:List (Str × Str)):Prop where
 sys:(a == sysModules)=false
 ex:∃ (o:Obj) (vs:List (Key × Value)),K.lookup a=some o/\KV (kvs.map λp=>((.inr p.1:Key),V.str p.2)) vs/\∀ h:Heap,h.get? a=some o->h.DictOf (a1v P w) a vs
section
variable{X:Cx}{E:XD}{e:Expr}{fa:SE}{pos p:Pos}{a:Addr}{kvs:List (Str × Str)}{x:Str}
theorem KD.at(kd:KD X.prog X.w X.K a kvs){pins:List (Addr × Obj)}{σ:L2.St}{H:Hp}{s:Shared}(I:Inv X pins σ H s):∃ vs,KV (kvs.map λp=>((.inr p.1:Key),V.str p.2)) vs/\s.heap.DictOf (a1v X.prog X.w) a vs:=by
 obtain ⟨o,vs,l,r,d⟩:=kd.ex;exact ⟨vs,r,d _ (I.bk _ _ (I.mod.kin _ _ l))⟩
end
mutual
def toPy:D->Option PyData
 | .non=>some .none
 | .bl b=>some (.bool b)
 | .int i=>some (.int i)
 | .str x=>some (.str x)
 | .tup xs=>(ah7 xs).map .tuple
 | .rol xs=>(ah7 xs).map .list
 | .rod [] []=>some (.dict [])
 | _=>none
def ah7:List D->Option (List PyData)
 | []=>some []
 | x::xs=>match toPy x,ah7 xs with | some p,some ps=>some (p::ps) | _,_=>none
end
mutual
def noL:D->Bool
 | .rol _=>false
 | .tup xs=>anz xs
 | _=>true
def anz:List D->Bool
 | []=>true
 | x::xs=>noL x && anz xs
end
open Classical in
theorem j9{X:Cx}:CallR X (.builtin "isinstance") (λxs H Q=>∃ a o us T b,xs=[.ref a, .ty T]/\H a=some (.frz o (.dK us))/\PySem.W.kitOne X.K (.type "dict") (.type T)=some b/\Q (.bl b) H):=by
 intro pins s σ H xs us Q I r h
 obtain ⟨a,o,kv,T,b,rfl,ea,e,q⟩:=h;obtain ⟨u,w',rfl,rx,rt⟩:=vals2 r;cases rt
 obtain rfl:u=Value.ref a:=rx
 obtain ⟨_,_,_,vs,_,p⟩:=(show ObjOk X.prog X.w H s.heap a (.frz o (.dK kv)) from I.hok a _ ea)
 obtain ⟨o',es,ep,h1,h2,_⟩:=p;exact PySem.W.kia_one PySem.W.kitx_dict I.kIn ⟨o',h1,h2.1⟩ e (λz=>nomatch z) λtk=>⟨.bl b,H,I.tok tk,rfl,q⟩
def jl:List D->Hd->R D
 | [.rod ks xs, .ty T],h=>(match a99 "dict" T with | some b=>.ok (.bl b) h | none=>.no)
 | ds,h=>aax ds h
theorem o7{K:PySem.W.Frag}:a9q K jl (λxs H Q=>(∃ x T t b,xs=[x, .ty T]/\TyOf K H x t/\PySem.W.kitOne K t (.type T)=some b/\Q (.bl b) H)\/∃ a o us T b,xs=[.ref a, .ty T]/\H a=some (.frz o (.dK us))/\PySem.W.kitOne K (.type "dict") (.type T)=some b/\Q (.bl b) H):=by
 intro E ι H h xs ds Q r hr o
 unfold jl at o
 split at o
 ·split at o
  ·rename_i b hb
   cases r with
   | cons r1 rs =>
    cases rs with
    | cons r2 rs2 =>
     cases rs2
     cases r2
     cases r1 with
     | rod hp ek rr=>exact .inr ⟨_,_,_,_,b,rfl,hp,aaw hb,ans o (.bl _) hr⟩
  ·exact o.elim
 ·exact .inl (agq E ι H h xs _ Q r hr o)
end MI
namespace TPM
open PySem PySem.Spec PySem.W L2 HT MI PyProof.Rows
end TPM
namespace MI
open PySem PySem.Spec L2 TPM
end MI
namespace L2
open PySem PySem.Spec PyProof.Rows
end L2
namespace MI
open PySem PySem.Spec L2
end MI
namespace PN
open PySem PySem.Spec L2 MI
noncomputable def a0f:SS :=
 (mz (sA w6 (aj (sZ (a1j (sV 0) oN (oS (sC (.int 63))))) (aj (sC (.int 0)) (aj (sC (.int 0)) cu)))))
noncomputable def a0v:SS :=
 (jh (sIf (sT (s2 gGt (s2 gIx (sV 0) (sC (.int 2))) (sC (.int 0))))
 (jh (p7 2 (s2 a78 (s2 gIx (sV 0) (sC (.int 2))) (sV 1)))
 (jh (a97 (s2 aao (s2 gIx (sV 0) (sC (.int 2))) (sV 1)) (sV 0) (sC (.int 2)))
 (mz (sV 2))))
 sNx)
 (jh (p7 3 (s2 gIx (sV 0) (sC (.int 1))))
 (jh (a97 (s2 jb (sV 3) (sC (.int 1))) (sV 0) (sC (.int 1)))
 (jh (p7 4 (sC (.int 5)))
 (jh (sIf (sT (s2 gGt (sA qg (aj (s2 gIx (sV 0) (sC (.int 0))) cu)) (sC (.int 0))))
 (p7 4 (s2 gIx (s2 gIx (sV 0) (sC (.int 0))) (s2 a78 (sV 3) (sA qg (aj (s2 gIx (sV 0) (sC (.int 0))) cu)))))
 sNx)
 (jh (sIf (a2y (sT (s2 gLt (sV 3) (sA qg (aj (s2 gIx (sV 0) (sC (.int 0))) cu)))) (sT (s2 gGe (sA ajo (aj (sV 4) cu)) (s2 aap (sC (.int 10)) (sC (.int 18))))))
 (jh (p7 5 (s2 jb (s2 wu (sC (.int 2)) (sA ajo (aj (sV 4) cu))) (sA ac2 (aj (s2 gLt (sV 4) (sC (.int 0))) cu))))
 (jh (a97 (s2 aao (sV 5) (sV 1)) (sV 0) (sC (.int 2)))
 (mz (s2 a78 (sV 5) (sV 1)))))
 sNx)
 (jh (p7 6 (s2 a78 (s2 aap (s2 jb (s2 jb (s2 a78 (sV 4) (sC (.int 2147483587))) (s2 wu (sC (.int 40709)) (sV 3))) (sC (.int 31))) (sC (.int 3))) (sC (.int 2147483647))))
 (jh (p7 6 (s2 a78 (s2 jb (s2 jb (s2 wu (sV 6) (sV 6)) (s2 wu (sC (.int 48271)) (sV 6))) (sV 3)) (sC (.int 2147483629))))
 (mz (s2 a78 (s2 aao (sV 6) (sC (.int 64))) (sV 1)))))))))))
noncomputable def uw:SS :=
 (jh (p7 0 (sC (.str " !\"#$&'()*+,-./0123456789:;<=>?@ABCDEFGHIJKLMNOPQRSTUVWXYZ[\\]^_`")))
 (mz (s2 jb (sV 0) (sC (.str "abcdefghijklmnopqrstuvwxyz{|}~\n")))))
noncomputable def ul(ao:SF):SS :=
 (jh (p7 5 (sA (jt false 2 ao) (aj (sV 0) (aj (sA qg (aj (sV 1) cu)) cu))))
 (jh (p7 3 (s2 jb (sV 3) (s2 gIx (sV 1) (sV 5))))
 (p7 1 (s2 jb (a1j (sV 1) oN (oS (sV 5))) (a1j (sV 1) (oS (s2 jb (sV 5) (sC (.int 1)))) oN)))))
noncomputable def a0w(ao:SF):SS :=
 (jh (p7 3 (sC (.str "")))
 (jh (acx (sRg zy (aj (s2 jb (sC (.int 1)) (sA (jt false 2 ao) (aj (sV 0) (aj (sV 2) cu)))) cu)) (kN 4) (ul ao))
 (mz (sV 3))))
end PN
namespace L2
open PySem PySem.Spec PySem.W PyProof.Rows
end L2
namespace L2
open PySem PySem.Spec PySem.W PyProof.Rows Builtin Builtin.ObjectAttr Builtin.Getset_descriptor
section
variable{prog:Program}{w:World}{A:Around}{E:Value->Shared->Prop}{s:Shared}{K:Frag}{x D:Addr}{ox:Obj}{odo:Option Obj}
structure XKit (K:Frag) (D:Addr):Prop where
 ga:findIn K (.ref D) "__getattribute__" = some (some (.builtin "BaseException.__getattribute__"))
 gn:findIn K (.ref D) "__getattr__" = some none
 cl:(clsIn K D).isSome=true
 ca:findIn K (.ref D) "__class__" = some (some (.builtin "object.__class__"))
 sp:specialIn K (.builtin "object.__class__") "__get__" = some (some (.builtin "getset_descriptor.__get__"))
 tk:takesIn K (.builtin "object.__class__")=some true
 ob:mroIn K D (.type "object")=some true
 be:subIn K (.ref D) (.type "BaseException")=some true
 kc:kitCls K (.ref D) (.ref D)=some true
abbrev ExAt(x D:Addr)(h:Heap):Prop:=∃ o,h.get? x=some o/\o.cls = .ref D
theorem ExAt.ty{M:Model}{h:Heap}(I:ExAt x D h):Looks M h (typeOf (.ref x)) (.ref D):=by
 obtain ⟨o,q,c⟩:=I;exact c ▸ (Looks.ld q).andThen .now
theorem XKit.at(Z:XKit K D):∃ c o cd sl,K.lookup D=some ⟨c,o, .cls cd,sl⟩:=by
 have:=Z.cl
 unfold clsIn at this
 split at this
 ·exact ⟨_,_,_,_, ‹_›⟩
 ·cases this
theorem XKit.no(Z:XKit K D){h:Heap}{tp:Addr}{dd:Option Addr}{its:List Value}{n:Nat}{sl:Array (Option Value)}(X:K.In h)(q:h.get? tp=some ⟨.type "tuple",dd, .seq its.toArray n,sl⟩):(Value.ref D == .ref tp)=false :=
 beq_eq_false_iff_ne.mpr λe=>by
  obtain ⟨_,_,_,_,lo⟩:=Z.at;rw [Value.ref.inj e] at lo;have:=X _ _ lo;rw [q] at this;cases this
end
end L2
namespace L2
open PySem PySem.Spec PySem.W PyProof.Rows
end L2
namespace MI
open PySem PySem.Spec L2
end MI
namespace EVX
open PySem PySem.Spec L2 MI
end EVX
namespace MI
open PySem PySem.Spec L2
end MI
namespace EVX
open PySem PySem.Spec L2 MI
end EVX
namespace ZP
open PySem PySem.Spec PySem.Builtin PySem.Builtin.SmallTypes L2
end ZP
namespace MI
open PySem PySem.Spec L2 ZP
end MI
namespace AT
open L2
theorem adm{α:Type}(x0:α)(xs:List α):atI (x0::xs) 0=some x0:=qt (j:=0) rfl
theorem adn{α:Type}(x0 x1:α)(xs:List α):atI (x0::x1::xs) 1=some x1:=qt (j:=1) rfl
theorem ado{α:Type}(x0 x1 x2:α)(xs:List α):atI (x0::x1::x2::xs) 2=some x2:=qt (j:=2) rfl
theorem adp{α:Type}(x0 x1 x2 x3:α)(xs:List α):atI (x0::x1::x2::x3::xs) 3=some x3:=qt (j:=3) rfl
theorem adq{α:Type}(x0 x1 x2 x3 x4:α)(xs:List α):atI (x0::x1::x2::x3::x4::xs) 4=some x4:=qt (j:=4) rfl
theorem adt{α:Type}(x0 x1 x2 x3 x4 x5:α)(xs:List α):atI (x0::x1::x2::x3::x4::x5::xs) 5=some x5:=qt (j:=5) rfl
theorem adu{α:Type}(x0 x1 x2 x3 x4 x5 x6:α)(xs:List α):atI (x0::x1::x2::x3::x4::x5::x6::xs) 6=some x6:=qt (j:=6) rfl
theorem adv{α:Type}(x0 x1 x2 x3 x4 x5 x6 x7:α)(xs:List α):atI (x0::x1::x2::x3::x4::x5::x6::x7::xs) 7=some x7:=qt (j:=7) rfl
theorem x10:ixN 1 0=some 0:=rfl
theorem x20:ixN 2 0=some 0:=rfl
theorem x21:ixN 2 1=some 1:=rfl
theorem x30:ixN 3 0=some 0:=rfl
theorem x31:ixN 3 1=some 1:=rfl
theorem x32:ixN 3 2=some 2:=rfl
theorem x40:ixN 4 0=some 0:=rfl
theorem x41:ixN 4 1=some 1:=rfl
theorem x42:ixN 4 2=some 2:=rfl
theorem x43:ixN 4 3=some 3:=rfl
theorem x50:ixN 5 0=some 0:=rfl
theorem x51:ixN 5 1=some 1:=rfl
theorem x52:ixN 5 2=some 2:=rfl
theorem x53:ixN 5 3=some 3:=rfl
theorem x54:ixN 5 4=some 4:=rfl
theorem x60:ixN 6 0=some 0:=rfl
theorem x61:ixN 6 1=some 1:=rfl
theorem x62:ixN 6 2=some 2:=rfl
theorem x63:ixN 6 3=some 3:=rfl
theorem x64:ixN 6 4=some 4:=rfl
theorem x65:ixN 6 5=some 5:=rfl
theorem x70:ixN 7 0=some 0:=rfl
theorem x71:ixN 7 1=some 1:=rfl
theorem x72:ixN 7 2=some 2:=rfl
theorem x73:ixN 7 3=some 3:=rfl
theorem x74:ixN 7 4=some 4:=rfl
theorem x75:ixN 7 5=some 5:=rfl
theorem x76:ixN 7 6=some 6:=rfl
def af4(x:Int):Int:=if x<0 then -x else x
theorem adw(x:Int)(h:MI.Hd):MI.ajo [.int x] h = .ok (.int (af4 x)) h:=rfl
theorem p18(h:MI.Hd):MI.aap (.int 10) (.int 18) h = .ok (.int 1000000000000000000) h:=by rw [MI.aap,if_pos (by decide)];rfl
theorem amy{i j:Int}{h:MI.Hd}(c:0<=j/\j<=1000000/\i.natAbs<2 ^ 64):MI.aap (.int i) (.int j) h = .ok (.int (i ^ j.toNat)) h:=by rw [MI.aap,if_pos c]
end AT
namespace MI
open PySem PySem.Spec L2 SeqAt
end MI
namespace L2
open PySem PySem.Spec
end L2
namespace MI
open PySem PySem.Spec L2
end MI
namespace TPM
open PySem PySem.Spec PySem.W L2 HT MI
end TPM
namespace MI
open PySem PySem.Spec L2 TPM
end MI
namespace SHD
open PySem PySem.Spec L2 MI
noncomputable def ph(dj:SF)(gw:SF)(ao:SF):SE :=
 (sA (jt false 4 dj) (aj (sV 1) (aj (sV 2) (aj (s2 a3d (sV 3) (sC (.int 1))) (aj (sV 4) cu)))))
noncomputable def ux(dj:SF)(gw:SF)(ao:SF):SS :=
 (jh (p7 4 (sA (jt false 2 ao) (aj (sV 0) (aj (sC (.int 10)) cu))))
 (jh (sIf (a2y (sT (s2 hEq (sV 2) (sC (.int 5)))) (sT (s2 gLt (sV 4) (sC (.int 2)))))
 (p7 4 (s2 jb (sV 4) (sC (.int 4))))
 sNx)
 (jh (sIf (a2y (sT (s2 hEq (sV 4) (sC (.int 9)))) (sT (s2 hEq (sA (jt false 2 ao) (aj (sV 0) (aj (sC (.int 2)) cu))) (sC (.int 0)))))
 (mz (sA qb (aj (sC (.str "row")) (aj (sA qb cu) cu))))
 sNx)
 (jh (sIf (sOr (sT (s2 hEq (sV 2) (sC (.int 1)))) (sOr (sT (s2 gLt (s2 gIx (sV 1) (sC (.int 0))) (sC (.int 1)))) (sT (s2 gLt (sV 4) (sC (.int 2))))))
 (mz (sA qb (aj (sC (.str "one")) (aj (sA (jt false 3 gw) (aj (sV 0) (aj (sV 3) (aj (sA qg (aj (sV 3) cu)) cu)))) cu))))
 sNx)
 (jh (sIf (sT (s2 gLt (sV 4) (sC (.int 4))))
 (jh (a97 (s2 a3d (s2 gIx (sV 1) (sC (.int 0))) (sC (.int 1))) (sV 1) (sC (.int 0)))
 (jh (p7 5 (sA (jt false 4 dj) (aj (sV 0) (aj (sV 1) (aj (s2 a3d (sV 2) (sC (.int 1))) (aj (sV 3) cu))))))
 (jh (sIf (sT (s2 hEq (sV 4) (sC (.int 2))))
 (mz (sA qb (aj (sC (.str "many")) (aj (sV 5) cu))))
 sNx)
 (jh (p7 6 (sA (jt false 2 ao) (aj (sV 0) (aj (sC (.int 5)) cu))))
 (mz (sA qb (aj (sC (.str "times")) (aj (sV 5) (aj (sV 6) (aj (s2 jb (sV 6) (sA (jt false 2 ao) (aj (sV 0) (aj (s2 a3d (sC (.int 5)) (sV 6)) cu)))) cu))))))))))
 sNx)
 (jh (p7 7 (sA a6b (aj (s2 gIx (sV 1) (sC (.int 0))) (aj (s2 jb (sC (.int 1)) (sA (jt false 2 ao) (aj (sV 0) (aj (s2 gIx (sZ (sA w6 (aj (sC (.int 2)) (aj (sC (.int 3)) (aj (sC (.int 6)) cu))))) (sA (jt false 2 ao) (aj (sV 0) (aj (sC (.int 3)) cu)))) cu)))) cu))))
 (jh (a97 (s2 a3d (s2 gIx (sV 1) (sC (.int 0))) (sV 7)) (sV 1) (sC (.int 0)))
 (jh (p7 8 (sA uv (aj (sZ (xj (sRg zy (aj (sV 7) cu)) t1 (ph dj gw ao) [0,1,2,3])) cu)))
 (mz (sA qb (aj (s2 gIx (sZ (sA w6 (aj (sC (.str "row")) (aj (sC (.str "either")) cu)))) (sA ac2 (aj (s2 gGt (sV 4) (sC (.int 6))) cu))) (aj (sV 8) cu))))))))))))
noncomputable def vm(dh:SF)(ao:SF):SE :=
 (sA (jt false 2 dh) (aj (sV 1) (aj (sV 0) cu)))
noncomputable def rm(dh:SF)(ao:SF):SE :=
 (sA (jt false 2 dh) (aj (sV 1) (aj (s2 gIx (sV 2) (sC (.int 1))) cu)))
noncomputable def qu(dh:SF)(ao:SF):SS :=
 (jh (sIf (sT (s2 hEq (s2 gIx (sV 1) (sC (.int 0))) (sC (.str "one"))))
 (mz (sA qb (aj (sC (.str "one")) (aj (s2 gIx (s2 gIx (sV 1) (sC (.int 1))) (sA (jt false 2 ao) (aj (sV 0) (aj (sA qg (aj (s2 gIx (sV 1) (sC (.int 1))) cu)) cu)))) cu))))
 sNx)
 (jh (sIf (sT (s2 hEq (s2 gIx (sV 1) (sC (.int 0))) (sC (.str "either"))))
 (jh (p7 2 (sA (jt false 2 ao) (aj (sV 0) (aj (sA qg (aj (s2 gIx (sV 1) (sC (.int 1))) cu)) cu))))
 (mz (sA qb (aj (sC (.str "either")) (aj (sV 2) (aj (sA (jt false 2 dh) (aj (sV 0) (aj (s2 gIx (s2 gIx (sV 1) (sC (.int 1))) (sV 2)) cu))) cu))))))
 sNx)
 (jh (sIf (sT (s2 hEq (s2 gIx (sV 1) (sC (.int 0))) (sC (.str "row"))))
 (mz (sA qb (aj (sC (.str "row")) (aj (sA uv (aj (sZ (xj (sIt (s2 gIx (sV 1) (sC (.int 1)))) t1 (vm dh ao) [0])) cu)) cu))))
 sNx)
 (jh (p7 3 (sC (.int 0)))
 (jh (p7 4 (sC (.int 3)))
 (jh (sIf (sT (s2 hEq (s2 gIx (sV 1) (sC (.int 0))) (sC (.str "times"))))
 (jh (p7 3 (s2 gIx (sV 1) (sC (.int 2))))
 (p7 4 (s2 gIx (sV 1) (sC (.int 3)))))
 sNx)
 (jh (p7 5 (s2 jb (sV 3) (sA (jt false 2 ao) (aj (sV 0) (aj (s2 jb (s2 a3d (sV 4) (sV 3)) (sC (.int 1))) cu)))))
 (mz (sA qb (aj (s2 gIx (sV 1) (sC (.int 0))) (aj (sA uv (aj (sZ (xj (sRg zy (aj (sV 5) cu)) t1 (rm dh ao) [0,1])) cu)) cu)))))))))))
noncomputable def a0g(ig:SF):SE :=
 (sA (jt false 1 ig) (aj (sV 0) cu))
noncomputable def ww(ig:SF):SS :=
 (jh (sIf (sT (s2 hEq (s2 gIx (sV 0) (sC (.int 0))) (sC (.str "one"))))
 (mz (s2 gIx (sV 0) (sC (.int 1))))
 sNx)
 (jh (sIf (sT (s2 hEq (s2 gIx (sV 0) (sC (.int 0))) (sC (.str "either"))))
 (mz (sA (jt false 1 ig) (aj (s2 gIx (sV 0) (sC (.int 2))) cu)))
 sNx)
 (mz (sMS a9a (sC (.str "")) (aj (sZ (xj (sIt (s2 gIx (sV 0) (sC (.int 1)))) t1 (a0g ig) [])) cu)))))
noncomputable def v6:SS :=
 (mz (zx (sA jl (aj (sV 0) (aj (sC (.ty "int")) cu))) (a4c (sA jl (aj (sV 0) (aj (sC (.ty "bool")) cu))))))
noncomputable def mj(bw:SF):SE :=
 (sA (jt false 2 bw) (aj (sV 0) (aj (sV 1) cu)))
noncomputable def o9(bw:SF):SS :=
 (jh (sIf (sOr (yf (zj (sA jl (aj (sV 1) (aj (sC (.ty "tuple")) cu))))) (sT (s2 hNe (sA qg (aj (sV 1) cu)) (sA qg (aj (sV 0) cu)))))
 (mz (sC .non))
 sNx)
 (jh (p7 2 (sZ (xj (ac3 (sV 0) (sV 1)) (tN 2) (mj bw) [])))
 (jh (sIf (sT (s2 (gIn false) (sC .non) (sV 2)))
 (mz (sC .non))
 sNx)
 (mz (sMS a9a (sC (.str "")) (aj (sV 2) cu))))))
noncomputable def v7(j6:SF)(m5:SF)(bw:SF):SS :=
 (jh (sIf (sOr (yf (zj (sA jl (aj (sV 1) (aj (sC (.ty "tuple")) cu))))) (sOr (sT (s2 gLt (sA qg (aj (sV 1) cu)) (sC (.int 2)))) (sOr (yf (zj (sA jl (aj (s2 gIx (sV 1) (sC (.int 0))) (aj (sC (.ty "str")) cu))))) (sT (s2 hNe (s2 gIx (sV 1) (sC (.int 0))) (s2 gIx (sV 0) (sC (.int 0))))))))
 (mz (sC .non))
 sNx)
 (jh (sIf (sT (s2 hEq (s2 gIx (sV 0) (sC (.int 0))) (sC (.str "either"))))
 (jh (sIf (sOr (sT (s2 hNe (sA qg (aj (sV 1) cu)) (sC (.int 3)))) (sOr (yf (zj (sA (jt false 1 m5) (aj (s2 gIx (sV 1) (sC (.int 1))) cu)))) (yf (sT (sCh gLe gLt (sC (.int 0)) (s2 gIx (sV 1) (sC (.int 1))) (sA qg (aj (s2 gIx (sV 0) (sC (.int 1))) cu)))))))
 (mz (sC .non))
 sNx)
 (mz (sA (jt false 2 bw) (aj (s2 gIx (s2 gIx (sV 0) (sC (.int 1))) (s2 gIx (sV 1) (sC (.int 1)))) (aj (s2 gIx (sV 1) (sC (.int 2))) cu)))))
 sNx)
 (jh (sIf (sT (s2 hNe (sA qg (aj (sV 1) cu)) (sC (.int 2))))
 (mz (sC .non))
 sNx)
 (jh (sIf (sT (s2 hEq (s2 gIx (sV 0) (sC (.int 0))) (sC (.str "one"))))
 (jh (sIf (a2y (zj (sA jl (aj (s2 gIx (sV 1) (sC (.int 1))) (aj (sC (.ty "str")) cu)))) (a2y (sT (s2 hEq (sA qg (aj (s2 gIx (sV 1) (sC (.int 1))) cu)) (sC (.int 1)))) (sT (s2 (gIn false) (s2 gIx (sV 1) (sC (.int 1))) (s2 gIx (sV 0) (sC (.int 1)))))))
 (mz (s2 gIx (sV 1) (sC (.int 1))))
 sNx)
 (mz (sC .non)))
 sNx)
 (jh (sIf (sT (s2 hEq (s2 gIx (sV 0) (sC (.int 0))) (sC (.str "row"))))
 (mz (sA (jt false 2 j6) (aj (s2 gIx (sV 0) (sC (.int 1))) (aj (s2 gIx (sV 1) (sC (.int 1))) cu))))
 sNx)
 (jh (sIf (yf (zj (sA jl (aj (s2 gIx (sV 1) (sC (.int 1))) (aj (sC (.ty "tuple")) cu)))))
 (mz (sC .non))
 sNx)
 (jh (sIf (a2y (sT (s2 hEq (s2 gIx (sV 0) (sC (.int 0))) (sC (.str "times")))) (yf (sT (sCh gLe gLe (s2 gIx (sV 0) (sC (.int 2))) (sA qg (aj (s2 gIx (sV 1) (sC (.int 1))) cu)) (s2 gIx (sV 0) (sC (.int 3)))))))
 (mz (sC .non))
 sNx)
 (mz (sA (jt false 2 j6) (aj (sZ (s2 wu (sZ (sA w6 (aj (s2 gIx (sV 0) (sC (.int 1))) cu))) (sA qg (aj (s2 gIx (sV 1) (sC (.int 1))) cu)))) (aj (s2 gIx (sV 1) (sC (.int 1))) cu)))))))))))
end SHD
namespace K10
open PySem PySem.Spec L2 MI
noncomputable def a2l:SS :=
 (mz (zx (sA jl (aj (sV 0) (aj (sC (.ty "int")) cu))) (a4c (sA jl (aj (sV 0) (aj (sC (.ty "bool")) cu))))))
noncomputable def pq(qx:SF):SS :=
 (mz (zx (sA (jt false 1 qx) (aj (sV 0) cu)) (sCh gLe gLe (sV 1) (sV 0) (sV 2))))
noncomputable def a1r:SS :=
 (mz (zx (sA jl (aj (sV 0) (aj (sC (.ty "tuple")) cu))) (sCh gLe gLe (sV 1) (sA qg (aj (sV 0) cu)) (sV 2))))
noncomputable def rn(jr:SF):SS :=
 (mz (s2 hEq (sA (jt false 4 jr) (aj (sV 0) (aj (sV 1) (aj (sC (.int 0)) (aj (sV 2) cu))))) (sA qg (aj (sV 1) cu))))
noncomputable def a1s(jx:SF)(jr:SF)(n6:SF)(j5:SF)(rz:SF)(m8:SF):SS :=
 (jh (p7 4 (a96 (sT (s2 hEq (s2 gIx (sV 0) (sC (.int 0))) (sC (.str "either")))) (sC (.int 3)) (sC (.int 2))))
 (jh (sIf (sOr (yf (zj (sA (jt false 3 rz) (aj (sV 3) (aj (sV 4) (aj (sV 4) cu)))))) (sOr (yf (zj (sA jl (aj (s2 gIx (sV 3) (sC (.int 0))) (aj (sC (.ty "str")) cu))))) (sT (s2 hNe (s2 gIx (sV 3) (sC (.int 0))) (s2 gIx (sV 0) (sC (.int 0)))))))
 (mz (sC .non))
 sNx)
 (jh (sIf (sT (s2 hEq (s2 gIx (sV 0) (sC (.int 0))) (sC (.str "one"))))
 (mz (sA (jt false 4 n6) (aj (s2 gIx (sV 0) (sC (.int 1))) (aj (sV 1) (aj (sV 2) (aj (s2 gIx (sV 3) (sC (.int 1))) cu))))))
 sNx)
 (jh (sIf (sT (s2 hEq (s2 gIx (sV 0) (sC (.int 0))) (sC (.str "either"))))
 (jh (sIf (yf (zj (sA (jt false 3 j5) (aj (s2 gIx (sV 3) (sC (.int 1))) (aj (sC (.int 0)) (aj (s2 a3d (sA qg (aj (s2 gIx (sV 0) (sC (.int 1))) cu)) (sC (.int 1))) cu))))))
 (mz (sC .non))
 sNx)
 (mz (sA (jt false 4 jr) (aj (s2 gIx (s2 gIx (sV 0) (sC (.int 1))) (s2 gIx (sV 3) (sC (.int 1)))) (aj (sV 1) (aj (sV 2) (aj (s2 gIx (sV 3) (sC (.int 2))) cu)))))))
 sNx)
 (jh (sIf (yf (zj (sA jl (aj (s2 gIx (sV 3) (sC (.int 1))) (aj (sC (.ty "tuple")) cu)))))
 (mz (sC .non))
 sNx)
 (mz (sA (jt false 4 jx) (aj (sA (jt false 2 m8) (aj (sV 0) (aj (sA qg (aj (s2 gIx (sV 3) (sC (.int 1))) cu)) cu))) (aj (sV 1) (aj (sV 2) (aj (s2 gIx (sV 3) (sC (.int 1))) cu)))))))))))
noncomputable def vf:SS :=
 (jh (sIf (sOr (yf (zj (sA jl (aj (sV 3) (aj (sC (.ty "str")) cu))))) (sT (s2 hNe (sA qg (aj (sV 3) cu)) (sC (.int 1)))))
 (mz (sC .non))
 sNx)
 (mz (a96 (a2y (sT (s2 (gIn false) (sV 3) (sV 0))) (sT (s2 hEq (a1j (sV 1) (oS (sV 2)) (oS (s2 jb (sV 2) (sC (.int 1))))) (sV 3)))) (s2 jb (sV 2) (sC (.int 1))) (sC .non))))
noncomputable def xn:SS :=
 (jh (sIf (sT (s2 hEq (s2 gIx (sV 0) (sC (.int 0))) (sC (.str "row"))))
 (mz (a96 (sT (s2 hEq (sV 1) (sA qg (aj (s2 gIx (sV 0) (sC (.int 1))) cu)))) (s2 gIx (sV 0) (sC (.int 1))) (sC .non)))
 sNx)
 (jh (sIf (a2y (sT (s2 hEq (s2 gIx (sV 0) (sC (.int 0))) (sC (.str "times")))) (yf (sT (sCh gLe gLe (s2 gIx (sV 0) (sC (.int 2))) (sV 1) (s2 gIx (sV 0) (sC (.int 3)))))))
 (mz (sC .non))
 sNx)
 (mz (s2 wu (sZ (sA w6 (aj (s2 gIx (sV 0) (sC (.int 1))) cu))) (sV 1)))))
noncomputable def uc(jr:SF):SS :=
 (jh (p7 4 (sA (jt false 4 jr) (aj (sV 5) (aj (sV 1) (aj (sV 4) (aj (sV 6) cu))))))
 (sIf (sT (s2 gIs (sV 4) (sC .non)))
 (mz (sC .non))
 sNx))
noncomputable def oh(jr:SF):SS :=
 (jh (sIf (sT (s2 gIs (sV 0) (sC .non)))
 (mz (sC .non))
 sNx)
 (jh (p7 4 (sV 2))
 (jh (acx (ac3 (sV 0) (sV 3)) (aer 2 (a2d (kN 5) (a2d (kN 6) agg))) (uc jr))
 (mz (sV 4)))))
noncomputable def my(ao:SF):SS :=
 (jh (p7 2 (sA (jt false 2 ao) (aj (sV 0) (aj (sA a6a (aj (sC (.int 1)) (aj (sA qg (aj (sV 1) cu)) cu))) cu))))
 (jh (p7 3 (sA w6 (aj (sZ (sA a0c (aj (sV 1) cu))) (aj (sC .non) (aj (sC (.str "")) (aj (s2 jb (sV 1) (sA qb (aj (sC .non) cu))) (aj (s2 jb (sV 1) (sV 1)) (aj (sA qb cu) (aj (sC (.int 7)) cu)))))))))
 (jh (p7 3 (s2 jb (sV 3) (sZ (sA w6 (aj (s2 jb (a1j (sV 1) oN (oS (sV 2))) (a1j (sV 1) (oS (s2 jb (sV 2) (sC (.int 1)))) oN)) (aj (a7d (sV 1) (s1 a9r (sC (.int 1)))) (aj (s2 jb (sV 1) (sA qb (aj (sA qb (aj (sC (.str "one")) (aj (sC (.str "a")) cu))) cu))) cu)))))))
 (jh (a68 (sML ad2 (sV 3) (aj (s2 jb (a1j (sV 1) oN (oS (s2 jb (sV 2) (sC (.int 1))))) (a1j (sV 1) (oS (sV 2)) oN)) cu)))
 (mz (s2 gIx (sV 3) (sA (jt false 2 ao) (aj (sV 0) (aj (sC (.int 11)) cu)))))))))
noncomputable def um(gm:SF)(ao:SF):SE :=
 (sV 0)
noncomputable def wy(gm:SF)(ao:SF):SS :=
 (jh (p7 3 (sA (jt false 2 ao) (aj (sV 0) (aj (sC (.int 8)) cu))))
 (jh (sIf (sT (s2 hEq (sV 3) (sC (.int 0))))
 (jh (p7 4 (sZ (sA w6 (aj (sC .non) (aj (sC (.int 3)) (aj (sC (.str "one")) (aj (sZ (xj (sIt (sV 2)) t1 (um gm ao) [])) cu)))))))
 (jh (p7 4 (sZ (s2 jb (sV 4) (sZ (sA w6 (aj (s2 jb (sV 2) (sA qb (aj (sC (.int 0)) cu))) (aj (a1j (sV 2) oN (oS (sC (.int 1)))) (aj (sA qb (aj (sV 2) cu)) (aj (a7d (sV 2) (s1 a9r (sC (.int 1)))) cu)))))))))
 (mz (s2 gIx (sV 4) (sA (jt false 2 ao) (aj (sV 0) (aj (sC (.int 8)) cu)))))))
 sNx)
 (jh (sIf (sT (s2 hEq (sV 3) (sC (.int 1))))
 (mz (s2 jb (sA qb (aj (s2 gIx (sZ (sA w6 (aj (sC (.str "one")) (aj (sC (.str "row")) (aj (sC (.str "either")) (aj (sC (.str "many")) (aj (sC (.str "times")) (aj (sC (.str "")) (aj (sC .non) (aj (sC (.bl true)) cu)))))))))) (sA (jt false 2 ao) (aj (sV 0) (aj (sC (.int 8)) cu)))) cu)) (a1j (sV 2) (oS (sC (.int 1))) oN)))
 sNx)
 (jh (sIf (sT (s2 hEq (s2 gIx (sV 2) (sC (.int 0))) (sC (.str "one"))))
 (jh (p7 5 (s2 gIx (sV 1) (sA (jt false 2 ao) (aj (sV 0) (aj (sA qg (aj (sV 1) cu)) cu)))))
 (jh (p7 4 (sZ (sA w6 (aj (sV 5) (aj (s2 jb (s2 gIx (sV 2) (sC (.int 1))) (sV 5)) (aj (sC (.str "")) (aj (s2 jb (sV 5) (s2 gIx (sV 2) (sC (.int 1)))) (aj (sA qb (aj (sV 5) cu)) (aj (sC .non) (aj (sZ (sA w6 (aj (s2 gIx (sV 2) (sC (.int 1))) cu))) (aj (sC (.str "\t")) cu)))))))))))
 (mz (sA qb (aj (sC (.str "one")) (aj (s2 gIx (sV 4) (sA (jt false 2 ao) (aj (sV 0) (aj (sC (.int 8)) cu)))) cu))))))
 sNx)
 (jh (sIf (sT (s2 hEq (s2 gIx (sV 2) (sC (.int 0))) (sC (.str "either"))))
 (jh (sIf (sT (s2 hEq (sV 3) (sC (.int 2))))
 (mz (s2 gIx (sV 2) (sC (.int 2))))
 sNx)
 (jh (p7 6 (s2 gIx (sZ (sA w6 (aj (s2 jb (s2 gIx (sV 2) (sC (.int 1))) (sC (.int 1))) (aj (s2 a3d (s2 gIx (sV 2) (sC (.int 1))) (sC (.int 1))) (aj (s1 a9r (sC (.int 1))) (aj (sC (.int 6)) (aj (sC .non) (aj (sC (.str "0")) (aj (sA ab7 (aj (s2 gIx (sV 2) (sC (.int 1))) cu)) (aj (sA qb (aj (s2 gIx (sV 2) (sC (.int 1))) cu)) cu)))))))))) (sA (jt false 2 ao) (aj (sV 0) (aj (sC (.int 8)) cu)))))
 (mz (sA qb (aj (sC (.str "either")) (aj (sV 6) (aj (s2 gIx (sV 2) (sC (.int 2))) cu)))))))
 sNx)
 (mz (sA qb (aj (s2 gIx (sV 2) (sC (.int 0))) (aj (sA (jt false 2 gm) (aj (sV 0) (aj (s2 gIx (sV 2) (sC (.int 1))) cu))) cu)))))))))
noncomputable def lu(lq:SF)(gj:SF)(ao:SF):SS :=
 (jh (sIf (sOr (sT (s2 hEq (s2 gIx (sV 2) (sC (.int 0))) (sC (.str "one")))) (sT (s2 hEq (sA (jt false 2 ao) (aj (sV 0) (aj (sC (.int 3)) cu))) (sC (.int 0)))))
 (mz (sA (jt false 3 lq) (aj (sV 0) (aj (sV 1) (aj (sV 2) cu)))))
 sNx)
 (jh (sIf (sT (s2 hEq (s2 gIx (sV 2) (sC (.int 0))) (sC (.str "either"))))
 (mz (sA qb (aj (sC (.str "either")) (aj (s2 gIx (sV 2) (sC (.int 1))) (aj (sA (jt false 3 gj) (aj (sV 0) (aj (sV 1) (aj (s2 gIx (sV 2) (sC (.int 2))) cu)))) cu)))))
 sNx)
 (jh (sIf (sT (s2 hEq (s2 gIx (sV 2) (sC (.int 1))) (sA qb cu)))
 (mz (sA (jt false 3 lq) (aj (sV 0) (aj (sV 1) (aj (sV 2) cu)))))
 sNx)
 (jh (p7 3 (sA a0c (aj (s2 gIx (sV 2) (sC (.int 1))) cu)))
 (jh (p7 4 (sA (jt false 2 ao) (aj (sV 0) (aj (sA qg (aj (sV 3) cu)) cu))))
 (jh (a97 (sA (jt false 3 gj) (aj (sV 0) (aj (sV 1) (aj (s2 gIx (sV 3) (sV 4)) cu)))) (sV 3) (sV 4))
 (mz (sA qb (aj (s2 gIx (sV 2) (sC (.int 0))) (aj (sA uv (aj (sV 3) cu)) cu))))))))))
noncomputable def xq(bw:SF)(dq:SF):SS :=
 (jh (p7 3 (sA (jt false 2 bw) (aj (sV 0) (aj (sV 2) cu))))
 (jh (p7 4 (sA (jt false 3 dq) (aj (sV 0) (aj (sV 1) (aj (sV 2) cu)))))
 (mz (zx (sA jl (aj (sV 4) (aj (sC (.ty "bool")) cu))) (s2 hEq (sV 4) (zx (s2 a1h (sV 3) (sC .non)) (s2 hEq (sV 3) (sV 1))))))))
noncomputable def a4q(gj:SF)(dh:SF)(lz:SF)(j4:SF)(ig:SF)(dj:SF)(jf:SF)(gw:SF)(ao:SF)(bw:SF)(dq:SF):SS :=
 (jh (p7 9 (sA (jt false 3 gj) (aj (sV 1) (aj (sV 2) (aj (sV 6) cu)))))
 (jh (p7 10 (sA (jt false 2 bw) (aj (sV 5) (aj (sV 9) cu))))
 (jh (sIf (sOr (yf (zj (sA (jt false 3 j4) (aj (sV 5) (aj (a1j (sV 7) oN (oS (sC (.int 16)))) (aj (sV 9) cu)))))) (yf (zj (sA (jt false 3 j4) (aj (sV 5) (aj (a1j (sV 7) oN (oS (sC (.int 16)))) (aj (sV 6) cu)))))))
 ai0
 sNx)
 (sIf (a2y (sT (s2 a1h (sV 10) (sC .non))) (a2y (sT (s2 gLt (sA qg (aj (sV 10) cu)) (sC (.int 17)))) (sT (s2 a1h (sA (jt false 3 dq) (aj (sV 5) (aj (sV 10) (aj (sV 9) cu)))) (sC (.bl true))))))
 ai0
 sNx))))
noncomputable def a4r(gj:SF)(dh:SF)(lz:SF)(j4:SF)(ig:SF)(dj:SF)(jf:SF)(gw:SF)(ao:SF)(bw:SF)(dq:SF):SS :=
 (jh (p7 5 (sA (jt false 4 dj) (aj (sV 1) (aj (sA w6 (aj (s2 gIx (sZ (sA w6 (aj (sC (.int 5)) (aj (sC (.int 9)) (aj (sC (.int 23)) cu))))) (sA (jt false 2 ao) (aj (sV 1) (aj (sC (.int 3)) cu)))) cu)) (aj (sC (.int 5)) (aj (sV 2) cu))))))
 (jh (p7 6 (sA (jt false 2 dh) (aj (sV 1) (aj (sV 5) cu))))
 (jh (p7 7 (sA (jt false 1 ig) (aj (sV 6) cu)))
 (jh (acx (sRg zy (aj (sC (.int 3)) cu)) (kN 8) (a4q gj dh lz j4 ig dj jf gw ao bw dq))
 (jh (p7 11 (a1j (s2 jb (a1j (sV 7) (oS (sC (.int 1))) oN) (s2 gIx (sV 2) (sC (.int 0)))) oN (oS (sC (.int 16)))))
 (jh (sIf (sOr (yf (zj (sA (jt false 3 j4) (aj (sV 5) (aj (sV 11) (aj (sV 6) cu)))))) (yf (zj (sA (jt false 3 j4) (aj (sV 3) (aj (a1j (sV 7) oN (oS (sC (.int 16)))) (aj (sV 6) cu)))))))
 ai0
 sNx)
 (jh (sIf (a2y (sT (s2 gLt (sA qg (aj (sV 7) cu)) (sC (.int 17)))) (sT (s2 a1h (sA (jt false 3 dq) (aj (sV 5) (aj (sV 7) (aj (sV 6) cu)))) (sC (.bl true)))))
 ai0
 sNx)
 (p7 3 (sV 5)))))))))
noncomputable def adx(gj:SF)(dh:SF)(lz:SF)(j4:SF)(ig:SF)(dj:SF)(jf:SF)(gw:SF)(ao:SF)(bw:SF)(dq:SF):SS :=
 (jh (p7 1 (sA (jt true 1 lz) (aj (sV 0) cu)))
 (jh (p7 2 (sA (jt false 3 gw) (aj (sV 1) (aj (sA (jt false 0 jf) cu) (aj (s2 gIx (sZ (sA w6 (aj (sC (.int 3)) (aj (sC (.int 3)) (aj (sC (.int 3)) (aj (sC (.int 6)) cu)))))) (sA (jt false 2 ao) (aj (sV 1) (aj (sC (.int 4)) cu)))) cu)))))
 (jh (p7 3 (sA qb (aj (sC (.str "row")) (aj (sA qb cu) cu))))
 (jh (acx (sRg zy (aj (sC (.int 3)) cu)) (kN 4) (a4r gj dh lz j4 ig dj jf gw ao bw dq))
 (mz (sA (jt false 3 j4) (aj (sV 3) (aj (sC (.str "")) (aj (sA qb (aj (sC (.str "row")) (aj (sA qb cu) cu))) cu)))))))))
def top(i:Nat):Stmt:=PySem.Challenge.pw_nearreach_k10_takings_forged.main.body.getD i (.Pass ⟨0,0,0,0⟩)
structure Nm (mg:Str->Option Value):Prop where
 abs:mg "abs" = none
 bool:mg "bool" = none
 int:mg "int" = none
 isinstance:mg "isinstance" = none
 len:mg "len" = none
 list:mg "list" = none
 max:mg "max" = none
 min:mg "min" = none
 range:mg "range" = none
 str:mg "str" = none
 tuple:mg "tuple" = none
 zip:mg "zip" = none
section
variable{P:Program}{w:World}{K:PySem.W.Frag}{mg:Str->Option Value}{base:Heap}{f:Addr}
theorem ao0:FnScope ["thing"] ["thing"] (bc (top 1)):=⟨rfl,rfl,rfl,by decide +kernel,rfl,by decide +kernel,by decide +kernel⟩
theorem m_0{k:Nat}(M:Nm mg)(cdv:Value)(A:Around)(outer:List Env)(s:Shared)(H:Hp)(E:XK)(hr:Room k (A.deeper (PyProof.Rows.envOfC "is_number" (bc (top 1)) s.heap.objs.size f cdv))):MSs (zr CX0 P w K mg base ["thing"] "is_number" (bc (top 1)) f cdv A outer s H E).nox X0 (jd (top 1)) (a2l) :=
 have SC:=ao0
 (bx (g8 (a3m (kj (L2.CallR.or ji j9) o7 rfl M.isinstance iu (aa (bh 0) (aa (a04 rfl M.int a7x) aq))) (a3l (aeq (kj (L2.CallR.or ji j9) o7 rfl M.isinstance iu (aa (bh 0) (aa (a04 rfl M.bool a4h) aq))))))))
theorem ao1:FnScope ["thing", "low", "high"] ["thing", "low", "high"] (bc (top 2)):=⟨rfl,rfl,rfl,by decide +kernel,rfl,by decide +kernel,by decide +kernel⟩
theorem m_1{k:Nat}{a_0:Addr}{d_0:FuncData}{k_0:Nat}{F_0:SF}(D_0:Dn P w K mg base k_0 "is_number" ["thing"] (nj K 1 F_0) a_0 d_0)(h_0:k_0<=k)(cdv:Value)(A:Around)(outer:List Env)(s:Shared)(H:Hp)(E:XK)(hr:Room k (A.deeper (PyProof.Rows.envOfC "is_number_from" (bc (top 2)) s.heap.objs.size f cdv))):MSs (zr CX0 P w K mg base ["thing", "low", "high"] "is_number_from" (bc (top 2)) f cdv A outer s H E).nox X0 (jd (top 2)) (pq F_0) :=
 have SC:=ao1
 (bx (g8 (a3m (bj false D_0 (hr.mono h_0) rfl (aa (bh 0) aq)) (a3l (a7z (a3v.or qj) (a3v.or qj) a09 a09 (bh 1) (bh 0) (bh 2))))))
theorem ao2:FnScope ["thing", "low", "high"] ["thing", "low", "high"] (bc (top 3)):=⟨rfl,rfl,rfl,by decide +kernel,rfl,by decide +kernel,by decide +kernel⟩
theorem m_2{k:Nat}(M:Nm mg)(cdv:Value)(A:Around)(outer:List Env)(s:Shared)(H:Hp)(E:XK)(hr:Room k (A.deeper (PyProof.Rows.envOfC "is_row" (bc (top 3)) s.heap.objs.size f cdv))):MSs (zr CX0 P w K mg base ["thing", "low", "high"] "is_row" (bc (top 3)) f cdv A outer s H E).nox X0 (jd (top 3)) (a1r) :=
 have SC:=ao2
 (bx (g8 (a3m (kj (L2.CallR.or ji j9) o7 rfl M.isinstance iu (aa (bh 0) (aa (a04 rfl M.tuple uh) aq))) (a3l (a7z (a3v.or qj) (a3v.or qj) a09 a09 (bh 1) (kj (L2.CallR.or cz dg) jk rfl M.len mq (aa (bh 0) aq)) (bh 2))))))
theorem ao3:FnScope ["shape", "word", "paper"] ["shape", "word", "paper"] (bc (top 5)):=⟨rfl,rfl,rfl,by decide +kernel,rfl,by decide +kernel,by decide +kernel⟩
theorem m_3{k:Nat}(M:Nm mg){a_4:Addr}{d_4:FuncData}{k_4:Nat}{F_4:SF}(D_4:Dn P w K mg base k_4 "end_of" ["shape", "word", "at", "paper"] (nj K 4 F_4) a_4 d_4)(h_4:k_4<=k)(cdv:Value)(A:Around)(outer:List Env)(s:Shared)(H:Hp)(E:XK)(hr:Room k (A.deeper (PyProof.Rows.envOfC "taking_holds" (bc (top 5)) s.heap.objs.size f cdv))):MSs (zr CX0 P w K mg base ["shape", "word", "paper"] "taking_holds" (bc (top 5)) f cdv A outer s H E).nox X0 (jd (top 5)) (rn F_4) :=
 have SC:=ao3
 (bx (g8 (a0p (jn hr.u) iz (bj false D_4 (hr.mono h_4) rfl (aa (bh 0) (aa (bh 1) (aa ak (aa (bh 2) aq))))) (kj (L2.CallR.or cz dg) jk rfl M.len mq (aa (bh 1) aq)) (gk _))))
theorem ao4:FnScope ["shape", "word", "at", "paper", "size"] ["shape", "word", "at", "paper"] (bc (top 6)):=⟨rfl,rfl,rfl,by decide +kernel,rfl,by decide +kernel,by decide +kernel⟩
theorem m_4{k:Nat}(M:Nm mg){a_7:Addr}{d_7:FuncData}{k_7:Nat}{F_7:SF}(D_7:Dn P w K mg base k_7 "end_in_turn" ["parts", "word", "at", "papers"] (nj K 4 F_7) a_7 d_7)(h_7:k_7<=k){a_4:Addr}{d_4:FuncData}{k_4:Nat}{F_4:SF}(D_4:Dn P w K mg base k_4 "end_of" ["shape", "word", "at", "paper"] (nj K 4 F_4) a_4 d_4)(h_4:k_4<=k){a_5:Addr}{d_5:FuncData}{k_5:Nat}{F_5:SF}(D_5:Dn P w K mg base k_5 "end_of_one" ["signs", "word", "at", "sign"] (nj K 4 F_5) a_5 d_5)(h_5:k_5<=k){a_1:Addr}{d_1:FuncData}{k_1:Nat}{F_1:SF}(D_1:Dn P w K mg base k_1 "is_number_from" ["thing", "low", "high"] (nj K 3 F_1) a_1 d_1)(h_1:k_1<=k){a_2:Addr}{d_2:FuncData}{k_2:Nat}{F_2:SF}(D_2:Dn P w K mg base k_2 "is_row" ["thing", "low", "high"] (nj K 3 F_2) a_2 d_2)(h_2:k_2<=k){a_6:Addr}{d_6:FuncData}{k_6:Nat}{F_6:SF}(D_6:Dn P w K mg base k_6 "parts_for" ["shape", "count"] (nj K 2 F_6) a_6 d_6)(h_6:k_6<=k)(cdv:Value)(A:Around)(outer:List Env)(s:Shared)(H:Hp)(E:XK)(hr:Room k (A.deeper (PyProof.Rows.envOfC "end_of" (bc (top 6)) s.heap.objs.size f cdv))):MSs (zr CX0 P w K mg base ["shape", "word", "at", "paper", "size"] "end_of" (bc (top 6)) f cdv A outer s H E).nox X0 (jd (top 6)) (a1s F_7 F_4 F_5 F_1 F_2 F_6) :=
 have SC:=ao4
 (au (il (i:=4) SC.nd rfl (Or.inl rfl) (aal (di (jn hr.u) iz (az (bh 0) ak (λ_ _=>rfl)) ik (gk _)) ak ak))
 (au (jy (PW.pt (a06 (sr (ur (bj false D_2 (hr.mono h_2) rfl (aa (bh 3) (aa (bh 4) (aa (bh 4) aq)))))) (a06 (sr (ur (kj (L2.CallR.or ji j9) o7 rfl M.isinstance iu (aa (az (bh 3) ak (λ_ _=>rfl)) (aa (a04 rfl M.str a7w) aq))))) (a05 (di (a3o hr.u) a0r (az (bh 3) ak (λ_ _=>rfl)) (az (bh 0) ak (λ_ _=>rfl)) (gk _))))))
 (bx (g8 m9))
 fu)
 (au (jy (di (jn hr.u) iz (az (bh 0) ak (λ_ _=>rfl)) ik (gk _))
 (bx (g8 (bj false D_5 (hr.mono h_5) rfl (aa (az (bh 0) ak (λ_ _=>rfl)) (aa (bh 1) (aa (bh 2) (aa (az (bh 3) ak (λ_ _=>rfl)) aq)))))))
 fu)
 (au (jy (di (jn hr.u) iz (az (bh 0) ak (λ_ _=>rfl)) ik (gk _))
 (au (jy (sr (ur (bj false D_1 (hr.mono h_1) rfl (aa (az (bh 3) ak (λ_ _=>rfl)) (aa ak (aa (a1g (kj (L2.CallR.or cz dg) jk rfl M.len mq (aa (az (bh 0) ak (λ_ _=>rfl)) aq)) ak) aq))))))
 (bx (g8 m9))
 fu)
 (bx (g8 (bj false D_4 (hr.mono h_4) rfl (aa (az (az (bh 0) ak (λ_ _=>rfl)) (az (bh 3) ak (λ_ _=>rfl)) (λ_ _=>rfl)) (aa (bh 1) (aa (bh 2) (aa (az (bh 3) ak (λ_ _=>rfl)) aq))))))))
 fu)
 (au (jy (sr (ur (kj (L2.CallR.or ji j9) o7 rfl M.isinstance iu (aa (az (bh 3) ak (λ_ _=>rfl)) (aa (a04 rfl M.tuple uh) aq)))))
 (bx (g8 m9))
 fu)
 (bx (g8 (bj false D_7 (hr.mono h_7) rfl (aa (bj false D_6 (hr.mono h_6) rfl (aa (bh 0) (aa (kj (L2.CallR.or cz dg) jk rfl M.len mq (aa (az (bh 3) ak (λ_ _=>rfl)) aq)) aq))) (aa (bh 1) (aa (bh 2) (aa (az (bh 3) ak (λ_ _=>rfl)) aq))))))))))))
theorem ao5:FnScope ["signs", "word", "at", "sign"] ["signs", "word", "at", "sign"] (bc (top 7)):=⟨rfl,rfl,rfl,by decide +kernel,rfl,by decide +kernel,by decide +kernel⟩
theorem m_5{k:Nat}(M:Nm mg)(cdv:Value)(A:Around)(outer:List Env)(s:Shared)(H:Hp)(E:XK)(hr:Room k (A.deeper (PyProof.Rows.envOfC "end_of_one" (bc (top 7)) s.heap.objs.size f cdv))):MSs (zr CX0 P w K mg base ["signs", "word", "at", "sign"] "end_of_one" (bc (top 7)) f cdv A outer s H E).nox X0 (jd (top 7)) (vf) :=
 have SC:=ao5
 (au (jy (PW.pt (a06 (sr (ur (kj (L2.CallR.or ji j9) o7 rfl M.isinstance iu (aa (bh 3) (aa (a04 rfl M.str a7w) aq))))) (a05 (di (a3o hr.u) a0r (kj (L2.CallR.or cz dg) jk rfl M.len mq (aa (bh 3) aq)) ak (gk _)))))
 (bx (g8 m9))
 fu)
 (bx (g8 (aal (PW.pt (yg (di (a76.or a2a) a79 (bh 3) (bh 0) (by with_unfolding_all rfl)) (xf (di (jn hr.u) iz (jz (bh 1) (p6 (bh 2)) (p6 (j8 (bh 2) ak))) (bh 3) (gk _))))) (j8 (bh 2) ak) m9))))
theorem ao6:FnScope ["shape", "count"] ["shape", "count"] (bc (top 8)):=⟨rfl,rfl,rfl,by decide +kernel,rfl,by decide +kernel,by decide +kernel⟩
theorem m_6{k:Nat}(M:Nm mg)(cdv:Value)(A:Around)(outer:List Env)(s:Shared)(H:Hp)(E:XK)(hr:Room k (A.deeper (PyProof.Rows.envOfC "parts_for" (bc (top 8)) s.heap.objs.size f cdv))):MSs (zr CX0 P w K mg base ["shape", "count"] "parts_for" (bc (top 8)) f cdv A outer s H E).nox X0 (jd (top 8)) (xn) :=
 have SC:=ao6
 (au (jy (di (jn hr.u) iz (az (bh 0) ak (λ_ _=>rfl)) ik (gk _))
 (bx (g8 (aal (di (jn hr.u) iz (bh 1) (kj (L2.CallR.or cz dg) jk rfl M.len mq (aa (az (bh 0) ak (λ_ _=>rfl)) aq)) (gk _)) (az (bh 0) ak (λ_ _=>rfl)) m9)))
 fu)
 (au (jy (PW.pt (yg (di (jn hr.u) iz (az (bh 0) ak (λ_ _=>rfl)) ik (gk _)) (xf (sr (a4b (a3v.or qj) (a3v.or qj) a09 a09 (az (bh 0) ak (λ_ _=>rfl)) (bh 1) (az (bh 0) ak (λ_ _=>rfl)))))))
 (bx (g8 m9))
 fu)
 (bx (g8 (a0u (a3a (ue (aa (az (bh 0) ak (λ_ _=>rfl)) aq))) (bh 1))))))
theorem ao7:FnScope ["parts", "word", "at", "papers", "end", "part", "paper"] ["parts", "word", "at", "papers"] (bc (top 9)):=⟨rfl,rfl,rfl,by decide +kernel,rfl,by decide +kernel,by decide +kernel⟩
theorem m_7{k:Nat}(M:Nm mg){a_4:Addr}{d_4:FuncData}{k_4:Nat}{F_4:SF}(D_4:Dn P w K mg base k_4 "end_of" ["shape", "word", "at", "paper"] (nj K 4 F_4) a_4 d_4)(h_4:k_4<=k)(cdv:Value)(A:Around)(outer:List Env)(s:Shared)(H:Hp)(E:XK)(hr:Room k (A.deeper (PyProof.Rows.envOfC "end_in_turn" (bc (top 9)) s.heap.objs.size f cdv))):MSs (zr CX0 P w K mg base ["parts", "word", "at", "papers", "end", "part", "paper"] "end_in_turn" (bc (top 9)) f cdv A outer s H E).nox X0 (jd (top 9)) (oh F_4) :=
 have SC:=ao7
 (au (jy (di (aeh.or a7u) aev (bh 0) m9 (gk _))
 (bx (g8 m9))
 fu)
 (au (il (i:=4) SC.nd rfl (Or.inl rfl) (bh 2))
 (au (a80 PassesOwn.never rfl (af0 rfl M.zip af1 (bh 0) (bh 3)) (ajb rfl (a88 (a2e (i:=5) SC.nd rfl (Or.inl rfl)) (a88 (a2e (i:=6) SC.nd rfl (Or.inl rfl)) agh))) (au (il (i:=4) SC.nd rfl (Or.inl rfl) (bj false D_4 (hr.mono h_4) rfl (aa (bh 5) (aa (bh 1) (aa (bh 4) (aa (bh 6) aq))))))
 (bx (jy (di (aeh.or a7u) aev (bh 4) m9 (gk _))
 (bx (g8 m9))
 fu))))
 (bx (g8 (bh 4))))))
theorem ao8:FnScope ["_law_script"] ["_law_script"] (bc (top 11)):=⟨rfl,rfl,rfl,by decide +kernel,rfl,by decide +kernel,by decide +kernel⟩
theorem m_8{k:Nat}(cdv:Value)(A:Around)(outer:List Env)(s:Shared)(H:Hp)(E:XK)(hr:Room k (A.deeper (PyProof.Rows.envOfC "_law_pen" (bc (top 11)) s.heap.objs.size f cdv))):MSs (zr CX0 P w K mg base ["_law_script"] "_law_pen" (bc (top 11)) f cdv A outer s H E).nox X0 (jd (top 11)) (PN.a0f) :=
 have SC:=ao8
 (bx (g8 (ue (aa (a3a (jz (bh 0) ql (p6 ak))) (aa ak (aa ak aq))))))
theorem ao9:FnScope ["_law_pen_here", "_law_many", "_law_found", "_law_at", "_law_cell", "_law_great", "_law_number_here"] ["_law_pen_here", "_law_many"] (bc (top 12)):=⟨rfl,rfl,rfl,by decide +kernel,rfl,by decide +kernel,by decide +kernel⟩
theorem m_9{k:Nat}(M:Nm mg)(cdv:Value)(A:Around)(outer:List Env)(s:Shared)(H:Hp)(E:XK)(hr:Room k (A.deeper (PyProof.Rows.envOfC "_law_take" (bc (top 12)) s.heap.objs.size f cdv))):MSs (zr CX0 P w K mg base ["_law_pen_here", "_law_many", "_law_found", "_law_at", "_law_cell", "_law_great", "_law_number_here"] "_law_take" (bc (top 12)) f cdv A outer s H E).nox X0 (jd (top 12)) (PN.a0v) :=
 have SC:=ao9
 (au (jy (di afs aas (az (bh 0) ak (λ_ _=>rfl)) ak (gk _))
 (au (il (i:=2) SC.nd rfl (Or.inl rfl) (a2i (az (bh 0) ak (λ_ _=>rfl)) (bh 1)))
 (au (a3n (aaq (az (bh 0) ak (λ_ _=>rfl)) (bh 1)) (bh 0) ak)
 (bx (g8 (bh 2)))))
 fu)
 (au (il (i:=3) SC.nd rfl (Or.inl rfl) (az (bh 0) ak (λ_ _=>rfl)))
 (au (a3n (j8 (bh 3) ak) (bh 0) ak)
 (au (il (i:=4) SC.nd rfl (Or.inl rfl) ak)
 (au (jy (di afs aas (kj (L2.CallR.or cz dg) jk rfl M.len mq (aa (az (bh 0) ak (λ_ _=>rfl)) aq)) ak (gk _))
 (bx (il (i:=4) SC.nd rfl (Or.inl rfl) (az (az (bh 0) ak (λ_ _=>rfl)) (a2i (bh 3) (kj (L2.CallR.or cz dg) jk rfl M.len mq (aa (az (bh 0) ak (λ_ _=>rfl)) aq))) (λ_ _=>rfl))))
 fu)
 (au (jy (PW.pt (yg (di (a3e.or p8) zm (bh 3) (kj (L2.CallR.or cz dg) jk rfl M.len mq (aa (az (bh 0) ak (λ_ _=>rfl)) aq)) (gk _)) (xf (di ame ajj (kj a7r aau rfl M.abs aeo (aa (bh 4) aq)) (aeu ak ak) (gk _)))))
 (au (il (i:=5) SC.nd rfl (Or.inl rfl) (j8 (a0u ak (kj a7r aau rfl M.abs aeo (aa (bh 4) aq))) (xg a5u aav rfl M.int a7x (aa (a0p (a3e.or p8) zm (bh 4) ak (gk _)) aq))))
 (au (a3n (aaq (bh 5) (bh 1)) (bh 0) ak)
 (bx (g8 (a2i (bh 5) (bh 1))))))
 fu)
 (au (il (i:=6) SC.nd rfl (Or.inl rfl) (a2i (aeu (j8 (j8 (a2i (bh 4) ak) (a0u ak (bh 3))) ak) ak) ak))
 (au (il (i:=6) SC.nd rfl (Or.inl rfl) (a2i (j8 (j8 (a0u (bh 6) (bh 6)) (a0u ak (bh 6))) (bh 3)) ak))
 (bx (g8 (a2i (aaq (bh 6) ak) (bh 1))))))))))))
theorem aka:FnScope ["_law_some_here"] [] (bc (top 13)):=⟨rfl,rfl,rfl,by decide +kernel,rfl,by decide +kernel,by decide +kernel⟩
theorem ap1{k:Nat}(cdv:Value)(A:Around)(outer:List Env)(s:Shared)(H:Hp)(E:XK)(hr:Room k (A.deeper (PyProof.Rows.envOfC "_law_signs" (bc (top 13)) s.heap.objs.size f cdv))):MSs (zr CX0 P w K mg base ["_law_some_here"] "_law_signs" (bc (top 13)) f cdv A outer s H E).nox X0 (jd (top 13)) (PN.uw) :=
 have SC:=aka
 (au (il (i:=0) SC.nd rfl (Or.inl rfl) ik)
 (bx (g8 (j8 (bh 0) ik))))
theorem akb:FnScope ["_law_pen_here", "_law_rest", "_law_most", "_law_found", "_law_k", "_law_at"] ["_law_pen_here", "_law_rest", "_law_most"] (bc (top 14)):=⟨rfl,rfl,rfl,by decide +kernel,rfl,by decide +kernel,by decide +kernel⟩
theorem ap2{k:Nat}(M:Nm mg){a_9:Addr}{d_9:FuncData}{k_9:Nat}{F_9:SF}(D_9:Dn P w K mg base k_9 "_law_take" ["_law_pen_here", "_law_many"] (nj K 2 F_9) a_9 d_9)(h_9:k_9<=k)(cdv:Value)(A:Around)(outer:List Env)(s:Shared)(H:Hp)(E:XK)(hr:Room k (A.deeper (PyProof.Rows.envOfC "_law_some" (bc (top 14)) s.heap.objs.size f cdv))):MSs (zr CX0 P w K mg base ["_law_pen_here", "_law_rest", "_law_most", "_law_found", "_law_k", "_law_at"] "_law_some" (bc (top 14)) f cdv A outer s H E).nox X0 (jd (top 14)) (PN.a0w F_9) :=
 have SC:=akb
 (au (il (i:=3) SC.nd rfl (Or.inl rfl) ik)
 (au (a80 PassesOwn.never rfl (a2f rfl M.range (aa (j8 ak (bj false D_9 (hr.mono h_9) rfl (aa (bh 0) (aa (bh 2) aq)))) aq)) (a2e (i:=4) SC.nd rfl (Or.inl rfl)) (au (il (i:=5) SC.nd rfl (Or.inl rfl) (bj false D_9 (hr.mono h_9) rfl (aa (bh 0) (aa (kj (L2.CallR.or cz dg) jk rfl M.len mq (aa (bh 1) aq)) aq))))
 (au (il (i:=3) SC.nd rfl (Or.inl rfl) (j8 (bh 3) (az (bh 1) (bh 5) (λ_ _=>rfl))))
 (bx (il (i:=1) SC.nd rfl (Or.inl rfl) (j8 (jz (bh 1) ql (p6 (bh 5))) (jz (bh 1) (p6 (j8 (bh 5) ak)) ql)))))))
 (bx (g8 (bh 3)))))
theorem akc:FnScope ["_law_pen_here", "_law_purse", "_law_deep", "_law_tongue", "_law_road", "_law_part", "_law_low", "_law_size", "_law_parts"] ["_law_pen_here", "_law_purse", "_law_deep", "_law_tongue"] (bc (top 15)):=⟨rfl,rfl,rfl,by decide +kernel,rfl,by decide +kernel,by decide +kernel⟩
theorem ap3{k:Nat}(M:Nm mg){a_12:Addr}{al8:FuncData}{k_12:Nat}{F_12:SF}(D_12:Dn P w K mg base k_12 "_law_shape" ["_law_pen_here", "_law_purse", "_law_deep", "_law_tongue"] (nj K 4 F_12) a_12 al8)(h_12:k_12<=k){a_11:Addr}{d_11:FuncData}{k_11:Nat}{F_11:SF}(D_11:Dn P w K mg base k_11 "_law_some" ["_law_pen_here", "_law_rest", "_law_most"] (nj K 3 F_11) a_11 d_11)(h_11:k_11<=k){a_9:Addr}{d_9:FuncData}{k_9:Nat}{F_9:SF}(D_9:Dn P w K mg base k_9 "_law_take" ["_law_pen_here", "_law_many"] (nj K 2 F_9) a_9 d_9)(h_9:k_9<=k)(cdv:Value)(A:Around)(outer:List Env)(s:Shared)(H:Hp)(E:XK)(hr:Room k (A.deeper (PyProof.Rows.envOfC "_law_shape" (bc (top 15)) s.heap.objs.size f cdv))):MSs (zr CX0 P w K mg base ["_law_pen_here", "_law_purse", "_law_deep", "_law_tongue", "_law_road", "_law_part", "_law_low", "_law_size", "_law_parts"] "_law_shape" (bc (top 15)) f cdv A outer s H E).nox X0 (jd (top 15)) (SHD.ux F_12 F_11 F_9) :=
 have SC:=akc
 (au (il (i:=4) SC.nd rfl (Or.inl rfl) (bj false D_9 (hr.mono h_9) rfl (aa (bh 0) (aa ak aq))))
 (au (jy (PW.pt (yg (di (jn hr.u) iz (bh 2) ak (gk _)) (xf (di (a3e.or p8) zm (bh 4) ak (gk _)))))
 (bx (il (i:=4) SC.nd rfl (Or.inl rfl) (j8 (bh 4) ak)))
 fu)
 (au (jy (PW.pt (yg (di (jn hr.u) iz (bh 4) ak (gk _)) (xf (di (jn hr.u) iz (bj false D_9 (hr.mono h_9) rfl (aa (bh 0) (aa ak aq))) ak (gk _)))))
 (bx (g8 (lr (aa ik (aa (lr aq) aq)))))
 fu)
 (au (jy (PW.pt (a06 (di (jn hr.u) iz (bh 2) ak (gk _)) (a06 (di (a3e.or p8) zm (az (bh 1) ak (λ_ _=>rfl)) ak (gk _)) (a05 (di (a3e.or p8) zm (bh 4) ak (gk _))))))
 (bx (g8 (lr (aa ik (aa (bj false D_11 (hr.mono h_11) rfl (aa (bh 0) (aa (bh 3) (aa (kj (L2.CallR.or cz dg) jk rfl M.len mq (aa (bh 3) aq)) aq)))) aq)))))
 fu)
 (au (jy (di (a3e.or p8) zm (bh 4) ak (gk _))
 (au (a3n (a1g (az (bh 1) ak (λ_ _=>rfl)) ak) (bh 1) ak)
 (au (il (i:=5) SC.nd rfl (Or.inl rfl) (bj false D_12 (hr.mono h_12) rfl (aa (bh 0) (aa (bh 1) (aa (a1g (bh 2) ak) (aa (bh 3) aq))))))
 (au (jy (di (jn hr.u) iz (bh 4) ak (gk _))
 (bx (g8 (lr (aa ik (aa (bh 5) aq)))))
 fu)
 (au (il (i:=6) SC.nd rfl (Or.inl rfl) (bj false D_9 (hr.mono h_9) rfl (aa (bh 0) (aa ak aq))))
 (bx (g8 (lr (aa ik (aa (bh 5) (aa (bh 6) (aa (j8 (bh 6) (bj false D_9 (hr.mono h_9) rfl (aa (bh 0) (aa (a1g ak (bh 6)) aq)))) aq)))))))))))
 fu)
 (au (il (i:=7) SC.nd rfl (Or.inl rfl) (kj (aa2 rfl) ad1 rfl M.min ajv (aa (az (bh 1) ak (λ_ _=>rfl)) (aa (j8 ak (bj false D_9 (hr.mono h_9) rfl (aa (bh 0) (aa (az (a3a (ue (aa ak (aa ak (aa ak aq))))) (bj false D_9 (hr.mono h_9) rfl (aa (bh 0) (aa ak aq))) (λ_ _=>rfl)) aq)))) aq))))
 (au (a3n (a1g (az (bh 1) ak (λ_ _=>rfl)) (bh 7)) (bh 1) ak)
 (au (il (i:=8) SC.nd rfl (Or.inl rfl) (xg (L2.CallR.or ug (v4 rfl)) a0d rfl M.tuple uh (aa (a3a (a2h rfl (CSc.of (ts:=["_law_k"]) (fr:=["_law_pen_here", "_law_purse", "_law_deep", "_law_tongue"]) (ix:=[0,1,2,3]) rfl rfl rfl rfl (by intro p hp;simp only [List.mem_cons,List.not_mem_nil,or_false] at hp;rcases hp with rfl | rfl | rfl | rfl<;>rfl) rfl rfl rfl rfl) (a2f rfl M.range (aa (bh 7) aq)) (λ_ _ _ _=>(ye (i:=0) (show (["_law_k", "_law_pen_here", "_law_purse", "_law_deep", "_law_tongue"]:List Str).Nodup by decide +kernel) rfl (Or.inl rfl) (.inr rfl))) a69 (λ_ _ _ _=>(bj false D_12 (hr.mono h_12) rfl (aa (bh 1) (aa (bh 2) (aa (a1g (bh 3) ak) (aa (bh 4) aq)))))))) aq)))
 (bx (g8 (lr (aa (az (a3a (ue (aa ik (aa ik aq)))) (xg a5u aav rfl M.int a7x (aa (a0p afs aas (bh 4) ak (gk _)) aq)) (λ_ _=>rfl)) (aa (bh 8) aq)))))))))))))
theorem akd:FnScope ["_law_pen_here", "_law_shape_here", "_law_number_here", "_law_low", "_law_high", "_law_size"] ["_law_pen_here", "_law_shape_here"] (bc (top 16)):=⟨rfl,rfl,rfl,by decide +kernel,rfl,by decide +kernel,by decide +kernel⟩
theorem ap4{k:Nat}(M:Nm mg){a_13:Addr}{al9:FuncData}{k_13:Nat}{F_13:SF}(D_13:Dn P w K mg base k_13 "_law_paper" ["_law_pen_here", "_law_shape_here"] (nj K 2 F_13) a_13 al9)(h_13:k_13<=k){a_9:Addr}{d_9:FuncData}{k_9:Nat}{F_9:SF}(D_9:Dn P w K mg base k_9 "_law_take" ["_law_pen_here", "_law_many"] (nj K 2 F_9) a_9 d_9)(h_9:k_9<=k)(cdv:Value)(A:Around)(outer:List Env)(s:Shared)(H:Hp)(E:XK)(hr:Room k (A.deeper (PyProof.Rows.envOfC "_law_paper" (bc (top 16)) s.heap.objs.size f cdv))):MSs (zr CX0 P w K mg base ["_law_pen_here", "_law_shape_here", "_law_number_here", "_law_low", "_law_high", "_law_size"] "_law_paper" (bc (top 16)) f cdv A outer s H E).nox X0 (jd (top 16)) (SHD.qu F_13 F_9) :=
 have SC:=akd
 (au (jy (di (jn hr.u) iz (az (bh 1) ak (λ_ _=>rfl)) ik (gk _))
 (bx (g8 (lr (aa ik (aa (az (az (bh 1) ak (λ_ _=>rfl)) (bj false D_9 (hr.mono h_9) rfl (aa (bh 0) (aa (kj (L2.CallR.or cz dg) jk rfl M.len mq (aa (az (bh 1) ak (λ_ _=>rfl)) aq)) aq))) (λ_ _=>rfl)) aq)))))
 fu)
 (au (jy (di (jn hr.u) iz (az (bh 1) ak (λ_ _=>rfl)) ik (gk _))
 (au (il (i:=2) SC.nd rfl (Or.inl rfl) (bj false D_9 (hr.mono h_9) rfl (aa (bh 0) (aa (kj (L2.CallR.or cz dg) jk rfl M.len mq (aa (az (bh 1) ak (λ_ _=>rfl)) aq)) aq))))
 (bx (g8 (lr (aa ik (aa (bh 2) (aa (bj false D_13 (hr.mono h_13) rfl (aa (bh 0) (aa (az (az (bh 1) ak (λ_ _=>rfl)) (bh 2) (λ_ _=>rfl)) aq))) aq)))))))
 fu)
 (au (jy (di (jn hr.u) iz (az (bh 1) ak (λ_ _=>rfl)) ik (gk _))
 (bx (g8 (lr (aa ik (aa (xg (L2.CallR.or ug (v4 rfl)) a0d rfl M.tuple uh (aa (a3a (a2h rfl (CSc.of (ts:=["_law_part"]) (fr:=["_law_pen_here"]) (ix:=[0]) rfl rfl rfl rfl (by intro p hp;cases List.mem_singleton.mp hp;rfl) rfl rfl rfl rfl) (aan (az (bh 1) ak (λ_ _=>rfl))) (λ_ _ _ _=>(ye (i:=0) (show (["_law_part", "_law_pen_here"]:List Str).Nodup by decide +kernel) rfl (Or.inl rfl) (.inr rfl))) a69 (λ_ _ _ _=>(bj false D_13 (hr.mono h_13) rfl (aa (bh 1) (aa (bh 0) aq)))))) aq)) aq)))))
 fu)
 (au (il (i:=3) SC.nd rfl (Or.inl rfl) ak)
 (au (il (i:=4) SC.nd rfl (Or.inl rfl) ak)
 (au (jy (di (jn hr.u) iz (az (bh 1) ak (λ_ _=>rfl)) ik (gk _))
 (au (il (i:=3) SC.nd rfl (Or.inl rfl) (az (bh 1) ak (λ_ _=>rfl)))
 (bx (il (i:=4) SC.nd rfl (Or.inl rfl) (az (bh 1) ak (λ_ _=>rfl)))))
 fu)
 (au (il (i:=5) SC.nd rfl (Or.inl rfl) (j8 (bh 3) (bj false D_9 (hr.mono h_9) rfl (aa (bh 0) (aa (j8 (a1g (bh 4) (bh 3)) ak) aq)))))
 (bx (g8 (lr (aa (az (bh 1) ak (λ_ _=>rfl)) (aa (xg (L2.CallR.or ug (v4 rfl)) a0d rfl M.tuple uh (aa (a3a (a2h rfl (CSc.of (ts:=["_law_k"]) (fr:=["_law_pen_here", "_law_shape_here"]) (ix:=[0,1]) rfl rfl rfl rfl (by intro p hp;simp only [List.mem_cons,List.not_mem_nil,or_false] at hp;rcases hp with rfl | rfl<;>rfl) rfl rfl rfl rfl) (a2f rfl M.range (aa (bh 5) aq)) (λ_ _ _ _=>(ye (i:=0) (show (["_law_k", "_law_pen_here", "_law_shape_here"]:List Str).Nodup by decide +kernel) rfl (Or.inl rfl) (.inr rfl))) a69 (λ_ _ _ _=>(bj false D_13 (hr.mono h_13) rfl (aa (bh 1) (aa (az (bh 2) ak (λ_ _=>rfl)) aq)))))) aq)) aq))))))))))))
theorem ake:FnScope ["_law_paper_here"] ["_law_paper_here"] (bc (top 17)):=⟨rfl,rfl,rfl,by decide +kernel,rfl,by decide +kernel,by decide +kernel⟩
theorem ap5{k:Nat}{a_14:Addr}{ala:FuncData}{k_14:Nat}{F_14:SF}(D_14:Dn P w K mg base k_14 "_law_said" ["_law_paper_here"] (nj K 1 F_14) a_14 ala)(h_14:k_14<=k)(cdv:Value)(A:Around)(outer:List Env)(s:Shared)(H:Hp)(E:XK)(hr:Room k (A.deeper (PyProof.Rows.envOfC "_law_said" (bc (top 17)) s.heap.objs.size f cdv))):MSs (zr CX0 P w K mg base ["_law_paper_here"] "_law_said" (bc (top 17)) f cdv A outer s H E).nox X0 (jd (top 17)) (SHD.ww F_14) :=
 have SC:=ake
 (au (jy (di (jn hr.u) iz (az (bh 0) ak (λ_ _=>rfl)) ik (gk _))
 (bx (g8 (az (bh 0) ak (λ_ _=>rfl))))
 fu)
 (au (jy (di (jn hr.u) iz (az (bh 0) ak (λ_ _=>rfl)) ik (gk _))
 (bx (g8 (bj false D_14 (hr.mono h_14) rfl (aa (az (bh 0) ak (λ_ _=>rfl)) aq))))
 fu)
 (bx (g8 (ajr PySem.F.slot_str_join PySem.F.type_str_join aai a86 ik (aa (a3a (a2h rfl (CSc.noFree (ts:=["_law_one"]) rfl (by decide +kernel) (by decide +kernel) (by decide +kernel)) (aan (az (bh 0) ak (λ_ _=>rfl))) (λ_ _ _ _=>(ye (i:=0) (show (["_law_one"]:List Str).Nodup by decide +kernel) rfl (Or.inl rfl) (.inr rfl))) a69 (λ_ _ _ _=>(bj false D_14 (hr.mono h_14) rfl (aa (bh 0) aq))))) aq))))))
theorem akf:FnScope ["_law_thing"] ["_law_thing"] (bc (top 18)):=⟨rfl,rfl,rfl,by decide +kernel,rfl,by decide +kernel,by decide +kernel⟩
theorem ap6{k:Nat}(M:Nm mg)(cdv:Value)(A:Around)(outer:List Env)(s:Shared)(H:Hp)(E:XK)(hr:Room k (A.deeper (PyProof.Rows.envOfC "_law_number" (bc (top 18)) s.heap.objs.size f cdv))):MSs (zr CX0 P w K mg base ["_law_thing"] "_law_number" (bc (top 18)) f cdv A outer s H E).nox X0 (jd (top 18)) (SHD.v6) :=
 have SC:=akf
 (bx (g8 (a3m (kj (L2.CallR.or ji j9) o7 rfl M.isinstance iu (aa (bh 0) (aa (a04 rfl M.int a7x) aq))) (a3l (aeq (kj (L2.CallR.or ji j9) o7 rfl M.isinstance iu (aa (bh 0) (aa (a04 rfl M.bool a4h) aq))))))))
theorem akg:FnScope ["_law_parts", "_law_papers", "_law_words"] ["_law_parts", "_law_papers"] (bc (top 19)):=⟨rfl,rfl,rfl,by decide +kernel,rfl,by decide +kernel,by decide +kernel⟩
theorem ap7{k:Nat}(M:Nm mg){a_17:Addr}{d_17:FuncData}{k_17:Nat}{F_17:SF}(D_17:Dn P w K mg base k_17 "_law_walked" ["_law_shape_here", "_law_paper_here"] (nj K 2 F_17) a_17 d_17)(h_17:k_17<=k)(cdv:Value)(A:Around)(outer:List Env)(s:Shared)(H:Hp)(E:XK)(hr:Room k (A.deeper (PyProof.Rows.envOfC "_law_many_walked" (bc (top 19)) s.heap.objs.size f cdv))):MSs (zr CX0 P w K mg base ["_law_parts", "_law_papers", "_law_words"] "_law_many_walked" (bc (top 19)) f cdv A outer s H E).nox X0 (jd (top 19)) (SHD.o9 F_17) :=
 have SC:=akg
 (au (jy (PW.pt (a06 (sr (ur (kj (L2.CallR.or ji j9) o7 rfl M.isinstance iu (aa (bh 1) (aa (a04 rfl M.tuple uh) aq))))) (a05 (di (a3o hr.u) a0r (kj (L2.CallR.or cz dg) jk rfl M.len mq (aa (bh 1) aq)) (kj (L2.CallR.or cz dg) jk rfl M.len mq (aa (bh 0) aq)) (gk _)))))
 (bx (g8 m9))
 fu)
 (au (ada (i:=2) SC.nd rfl (Or.inl rfl) rfl (CSc.noFree (ts:=["_law_part", "_law_one"]) rfl (by decide +kernel) (by decide +kernel) (by decide +kernel)) (af0 rfl M.zip af1 (bh 0) (bh 1)) (λ_ _ _ _=>aeg rfl (a3u (ye (i:=0) (show (["_law_part", "_law_one"]:List Str).Nodup by decide +kernel) rfl (Or.inl rfl) (.inr rfl)) (a3u (ye (i:=1) (show (["_law_part", "_law_one"]:List Str).Nodup by decide +kernel) rfl (Or.inl rfl) (.inr rfl)) a9u))) ajg (λ_ _ _ _=>(bj false D_17 (hr.mono h_17) rfl (aa (bh 0) (aa (bh 1) aq)))))
 (au (jy (di (a76.or a2a) a79 m9 (bh 2) (by with_unfolding_all rfl))
 (bx (g8 m9))
 fu)
 (bx (g8 (ajr PySem.F.slot_str_join PySem.F.type_str_join aai a86 ik (aa (bh 2) aq)))))))
theorem akh:FnScope ["_law_shape_here", "_law_paper_here"] ["_law_shape_here", "_law_paper_here"] (bc (top 20)):=⟨rfl,rfl,rfl,by decide +kernel,rfl,by decide +kernel,by decide +kernel⟩
theorem ap8{k:Nat}(M:Nm mg){a_16:Addr}{anf:FuncData}{k_16:Nat}{F_16:SF}(D_16:Dn P w K mg base k_16 "_law_many_walked" ["_law_parts", "_law_papers"] (nj K 2 F_16) a_16 anf)(h_16:k_16<=k){a_15:Addr}{d_15:FuncData}{k_15:Nat}{F_15:SF}(D_15:Dn P w K mg base k_15 "_law_number" ["_law_thing"] (nj K 1 F_15) a_15 d_15)(h_15:k_15<=k){a_17:Addr}{d_17:FuncData}{k_17:Nat}{F_17:SF}(D_17:Dn P w K mg base k_17 "_law_walked" ["_law_shape_here", "_law_paper_here"] (nj K 2 F_17) a_17 d_17)(h_17:k_17<=k)(cdv:Value)(A:Around)(outer:List Env)(s:Shared)(H:Hp)(E:XK)(hr:Room k (A.deeper (PyProof.Rows.envOfC "_law_walked" (bc (top 20)) s.heap.objs.size f cdv))):MSs (zr CX0 P w K mg base ["_law_shape_here", "_law_paper_here"] "_law_walked" (bc (top 20)) f cdv A outer s H E).nox X0 (jd (top 20)) (SHD.v7 F_16 F_15 F_17) :=
 have SC:=akh
 (au (jy (PW.pt (a06 (sr (ur (kj (L2.CallR.or ji j9) o7 rfl M.isinstance iu (aa (bh 1) (aa (a04 rfl M.tuple uh) aq))))) (a06 (di (a3e.or p8) zm (kj (L2.CallR.or cz dg) jk rfl M.len mq (aa (bh 1) aq)) ak (gk _)) (a06 (sr (ur (kj (L2.CallR.or ji j9) o7 rfl M.isinstance iu (aa (az (bh 1) ak (λ_ _=>rfl)) (aa (a04 rfl M.str a7w) aq))))) (a05 (di (a3o hr.u) a0r (az (bh 1) ak (λ_ _=>rfl)) (az (bh 0) ak (λ_ _=>rfl)) (gk _)))))))
 (bx (g8 m9))
 fu)
 (au (jy (di (jn hr.u) iz (az (bh 0) ak (λ_ _=>rfl)) ik (gk _))
 (au (jy (PW.pt (a06 (di (a3o hr.u) a0r (kj (L2.CallR.or cz dg) jk rfl M.len mq (aa (bh 1) aq)) ak (gk _)) (a06 (sr (ur (bj false D_15 (hr.mono h_15) rfl (aa (az (bh 1) ak (λ_ _=>rfl)) aq)))) (a05 (sr (a4b (a3v.or qj) (a3e.or p8) a09 zm ak (az (bh 1) ak (λ_ _=>rfl)) (kj (L2.CallR.or cz dg) jk rfl M.len mq (aa (az (bh 0) ak (λ_ _=>rfl)) aq))))))))
 (bx (g8 m9))
 fu)
 (bx (g8 (bj false D_17 (hr.mono h_17) rfl (aa (az (az (bh 0) ak (λ_ _=>rfl)) (az (bh 1) ak (λ_ _=>rfl)) (λ_ _=>rfl)) (aa (az (bh 1) ak (λ_ _=>rfl)) aq))))))
 fu)
 (au (jy (di (a3o hr.u) a0r (kj (L2.CallR.or cz dg) jk rfl M.len mq (aa (bh 1) aq)) ak (gk _))
 (bx (g8 m9))
 fu)
 (au (jy (di (jn hr.u) iz (az (bh 0) ak (λ_ _=>rfl)) ik (gk _))
 (au (jy (PW.pt (yg (ur (kj (L2.CallR.or ji j9) o7 rfl M.isinstance iu (aa (az (bh 1) ak (λ_ _=>rfl)) (aa (a04 rfl M.str a7w) aq)))) (yg (di (jn hr.u) iz (kj (L2.CallR.or cz dg) jk rfl M.len mq (aa (az (bh 1) ak (λ_ _=>rfl)) aq)) ak (gk _)) (xf (di (a76.or a2a) a79 (az (bh 1) ak (λ_ _=>rfl)) (az (bh 0) ak (λ_ _=>rfl)) (by with_unfolding_all rfl))))))
 (bx (g8 (az (bh 1) ak (λ_ _=>rfl))))
 fu)
 (bx (g8 m9)))
 fu)
 (au (jy (di (jn hr.u) iz (az (bh 0) ak (λ_ _=>rfl)) ik (gk _))
 (bx (g8 (bj false D_16 (hr.mono h_16) rfl (aa (az (bh 0) ak (λ_ _=>rfl)) (aa (az (bh 1) ak (λ_ _=>rfl)) aq)))))
 fu)
 (au (jy (sr (ur (kj (L2.CallR.or ji j9) o7 rfl M.isinstance iu (aa (az (bh 1) ak (λ_ _=>rfl)) (aa (a04 rfl M.tuple uh) aq)))))
 (bx (g8 m9))
 fu)
 (au (jy (PW.pt (yg (di (jn hr.u) iz (az (bh 0) ak (λ_ _=>rfl)) ik (gk _)) (xf (sr (a4b (a3v.or qj) (a3v.or qj) a09 a09 (az (bh 0) ak (λ_ _=>rfl)) (kj (L2.CallR.or cz dg) jk rfl M.len mq (aa (az (bh 1) ak (λ_ _=>rfl)) aq)) (az (bh 0) ak (λ_ _=>rfl)))))))
 (bx (g8 m9))
 fu)
 (bx (g8 (bj false D_16 (hr.mono h_16) rfl (aa (a3a (a0u (a3a (ue (aa (az (bh 0) ak (λ_ _=>rfl)) aq))) (kj (L2.CallR.or cz dg) jk rfl M.len mq (aa (az (bh 1) ak (λ_ _=>rfl)) aq)))) (aa (az (bh 1) ak (λ_ _=>rfl)) aq))))))))))))
theorem aki:FnScope ["_law_pen_here", "_law_papers", "_law_at", "_law_some_here"] ["_law_pen_here", "_law_papers"] (bc (top 21)):=⟨rfl,rfl,rfl,by decide +kernel,rfl,by decide +kernel,by decide +kernel⟩
theorem ap9{k:Nat}(M:Nm mg){a_9:Addr}{d_9:FuncData}{k_9:Nat}{F_9:SF}(D_9:Dn P w K mg base k_9 "_law_take" ["_law_pen_here", "_law_many"] (nj K 2 F_9) a_9 d_9)(h_9:k_9<=k)(cdv:Value)(A:Around)(outer:List Env)(s:Shared)(H:Hp)(E:XK)(hr:Room k (A.deeper (PyProof.Rows.envOfC "_law_bent_papers" (bc (top 21)) s.heap.objs.size f cdv))):MSs (zr CX0 P w K mg base ["_law_pen_here", "_law_papers", "_law_at", "_law_some_here"] "_law_bent_papers" (bc (top 21)) f cdv A outer s H E).nox X0 (jd (top 21)) (my F_9):=by
 have SC:=aki;unfold my;refine au ?_ ?_
 ·refine il (i:=2) SC.nd rfl (Or.inl rfl) ?_;refine bj false D_9 (hr.mono h_9) rfl ?_;refine aa ?_ ?_
  ·exact (bh 0)
  refine aa ?_ aq;exact (kj (aa1 rfl) ad0 rfl M.max aju (aa ak (aa (kj (L2.CallR.or cz dg) jk rfl M.len mq (aa (bh 1) aq)) aq)))
 refine au ?_ ?_
 ·refine il (i:=3) SC.nd rfl (Or.inl rfl) ?_;refine ue ?_;refine aa ?_ ?_
  ·refine a3a ?_;exact (xg (L2.CallR.or a1f (a2c rfl)) a87 rfl M.list aah (aa (bh 1) aq))
  refine aa m9 ?_;refine aa ik ?_;refine aa ?_ ?_
  ·exact (j8 (bh 1) (lr (aa m9 aq)))
  exact (aa (j8 (bh 1) (bh 1)) (aa (lr aq) (aa ak aq)))
 refine au ?_ ?_
 ·refine il (i:=3) SC.nd rfl (Or.inl rfl) ?_;refine j8 ?_ ?_
  ·exact (bh 3)
  refine a3a ?_;refine ue ?_;refine aa ?_ ?_
  ·refine j8 ?_ ?_
   ·exact (jz (bh 1) ql (p6 (bh 2)))
   exact (jz (bh 1) (p6 (j8 (bh 2) ak)) ql)
  refine aa ?_ ?_
  ·exact (aba (bh 1) (aar ak))
  refine aa ?_ aq;refine j8 ?_ ?_
  ·exact (bh 1)
  exact (lr (aa (lr (aa ik (aa ik aq))) aq))
 refine au ?_ ?_
 ·refine agd ?_;refine amu PySem.F.slot_list_append PySem.F.type_list_append aac agr ?_ ?_
  ·exact (bh 3)
  refine aa ?_ aq;refine j8 ?_ ?_
  ·exact (jz (bh 1) ql (p6 (j8 (bh 2) ak)))
  exact (jz (bh 1) (p6 (bh 2)) ql)
 refine bx ?_;refine g8 ?_;refine az ?_ ?_ (λ_ _=>rfl)
 ·exact (bh 3)
 refine bj false D_9 (hr.mono h_9) rfl ?_;exact (aa (bh 0) (aa ak aq))
theorem akj:FnScope ["_law_pen_here", "_law_some_here", "_law_paper_here", "_law_road", "_law_odd", "_law_sign", "_law_number_here"] ["_law_pen_here", "_law_some_here", "_law_paper_here"] (bc (top 22)):=⟨rfl,rfl,rfl,by decide +kernel,rfl,by decide +kernel,by decide +kernel⟩
theorem apa{k:Nat}(M:Nm mg){a_18:Addr}{d_18:FuncData}{k_18:Nat}{F_18:SF}(D_18:Dn P w K mg base k_18 "_law_bent_papers" ["_law_pen_here", "_law_papers"] (nj K 2 F_18) a_18 d_18)(h_18:k_18<=k){a_9:Addr}{d_9:FuncData}{k_9:Nat}{F_9:SF}(D_9:Dn P w K mg base k_9 "_law_take" ["_law_pen_here", "_law_many"] (nj K 2 F_9) a_9 d_9)(h_9:k_9<=k)(cdv:Value)(A:Around)(outer:List Env)(s:Shared)(H:Hp)(E:XK)(hr:Room k (A.deeper (PyProof.Rows.envOfC "_law_bent" (bc (top 22)) s.heap.objs.size f cdv))):MSs (zr CX0 P w K mg base ["_law_pen_here", "_law_some_here", "_law_paper_here", "_law_road", "_law_odd", "_law_sign", "_law_number_here"] "_law_bent" (bc (top 22)) f cdv A outer s H E).nox X0 (jd (top 22)) (wy F_18 F_9):=by
 have SC:=akj;unfold wy;refine au ?_ ?_
 ·refine il (i:=3) SC.nd rfl (Or.inl rfl) ?_;refine bj false D_9 (hr.mono h_9) rfl ?_;exact (aa (bh 0) (aa ak aq))
 refine au ?_ ?_
 ·refine jy ?_ ?_ fu
  ·exact (di (jn hr.u) iz (bh 3) ak (gk _))
  refine au ?_ ?_
  ·refine il (i:=4) SC.nd rfl (Or.inl rfl) ?_;refine a3a ?_;refine ue ?_;refine aa m9 ?_;refine aa ak ?_;refine aa ik ?_;refine aa ?_ aq;refine a3a ?_;exact (a2h rfl (CSc.noFree (ts:=["_law_part"]) rfl (by decide +kernel) (by decide +kernel) (by decide +kernel)) (aan (bh 2)) (λ_ _ _ _=>(ye (i:=0) (show (["_law_part"]:List Str).Nodup by decide +kernel) rfl (Or.inl rfl) (.inr rfl))) a69 (λ_ _ _ _=>(bh 0)))
  refine au ?_ ?_
  ·refine il (i:=4) SC.nd rfl (Or.inl rfl) ?_;refine a3a ?_;refine j8 ?_ ?_
   ·exact (bh 4)
   refine a3a ?_;refine ue ?_;refine aa ?_ ?_
   ·exact (j8 (bh 2) (lr (aa ak aq)))
   refine aa ?_ ?_
   ·exact (jz (bh 2) ql (p6 ak))
   refine aa ?_ ?_
   ·exact (lr (aa (bh 2) aq))
   exact (aa (aba (bh 2) (aar ak)) aq)
  refine bx ?_;refine g8 ?_;refine az ?_ ?_ (λ_ _=>rfl)
  ·exact (bh 4)
  refine bj false D_9 (hr.mono h_9) rfl ?_;exact (aa (bh 0) (aa ak aq))
 refine au ?_ ?_
 ·refine jy ?_ ?_ fu
  ·exact (di (jn hr.u) iz (bh 3) ak (gk _))
  refine bx ?_;refine g8 ?_;refine j8 ?_ ?_
  ·refine lr ?_;refine aa ?_ aq;refine az ?_ ?_ (λ_ _=>rfl)
   ·refine a3a ?_;refine ue ?_;refine aa ik ?_;refine aa ik ?_;refine aa ik ?_;refine aa ik ?_;exact (aa ik (aa ik (aa m9 (aa aga aq))))
   refine bj false D_9 (hr.mono h_9) rfl ?_;exact (aa (bh 0) (aa ak aq))
  exact (jz (bh 2) (p6 ak) ql)
 refine au ?_ ?_
 ·refine jy ?_ ?_ fu
  ·exact (di (jn hr.u) iz (az (bh 2) ak (λ_ _=>rfl)) ik (gk _))
  refine au ?_ ?_
  ·refine il (i:=5) SC.nd rfl (Or.inl rfl) ?_;refine az ?_ ?_ (λ_ _=>rfl)
   ·exact (bh 1)
   refine bj false D_9 (hr.mono h_9) rfl ?_;refine aa ?_ ?_
   ·exact (bh 0)
   refine aa ?_ aq;exact (kj (L2.CallR.or cz dg) jk rfl M.len mq (aa (bh 1) aq))
  refine au ?_ ?_
  ·refine il (i:=4) SC.nd rfl (Or.inl rfl) ?_;refine a3a ?_;refine ue ?_;refine aa ?_ ?_
   ·exact (bh 5)
   refine aa ?_ ?_
   ·exact (j8 (az (bh 2) ak (λ_ _=>rfl)) (bh 5))
   refine aa ik ?_;refine aa ?_ ?_
   ·exact (j8 (bh 5) (az (bh 2) ak (λ_ _=>rfl)))
   refine aa ?_ ?_
   ·exact (lr (aa (bh 5) aq))
   refine aa m9 ?_;refine aa ?_ ?_
   ·exact (a3a (ue (aa (az (bh 2) ak (λ_ _=>rfl)) aq)))
   exact (aa ik aq)
  refine bx ?_;refine g8 ?_;refine lr ?_;refine aa ik ?_;refine aa ?_ aq;refine az ?_ ?_ (λ_ _=>rfl)
  ·exact (bh 4)
  refine bj false D_9 (hr.mono h_9) rfl ?_;exact (aa (bh 0) (aa ak aq))
 refine au ?_ ?_
 ·refine jy ?_ ?_ fu
  ·exact (di (jn hr.u) iz (az (bh 2) ak (λ_ _=>rfl)) ik (gk _))
  refine au ?_ ?_
  ·refine jy ?_ ?_ fu
   ·exact (di (jn hr.u) iz (bh 3) ak (gk _))
   exact (bx (g8 (az (bh 2) ak (λ_ _=>rfl))))
  refine au ?_ ?_
  ·refine il (i:=6) SC.nd rfl (Or.inl rfl) ?_;refine az ?_ ?_ (λ_ _=>rfl)
   ·refine a3a ?_;refine ue ?_;refine aa ?_ ?_
    ·exact (j8 (az (bh 2) ak (λ_ _=>rfl)) ak)
    refine aa ?_ ?_
    ·exact (a1g (az (bh 2) ak (λ_ _=>rfl)) ak)
    refine aa ?_ ?_
    ·exact (aar ak)
    refine aa ak ?_;refine aa m9 ?_;refine aa ik ?_;refine aa ?_ ?_
    ·exact (xg a90 ade rfl M.bool a4h (aa (az (bh 2) ak (λ_ _=>rfl)) aq))
    exact (aa (lr (aa (az (bh 2) ak (λ_ _=>rfl)) aq)) aq)
   refine bj false D_9 (hr.mono h_9) rfl ?_;exact (aa (bh 0) (aa ak aq))
  refine bx ?_;refine g8 ?_;refine lr ?_;refine aa ik ?_;exact (aa (bh 6) (aa (az (bh 2) ak (λ_ _=>rfl)) aq))
 refine bx ?_;refine g8 ?_;refine lr ?_;refine aa ?_ ?_
 ·exact (az (bh 2) ak (λ_ _=>rfl))
 refine aa ?_ aq;refine bj false D_18 (hr.mono h_18) rfl ?_;exact (aa (bh 0) (aa (az (bh 2) ak (λ_ _=>rfl)) aq))
theorem akk:FnScope ["_law_pen_here", "_law_some_here", "_law_paper_here", "_law_papers", "_law_at"] ["_law_pen_here", "_law_some_here", "_law_paper_here"] (bc (top 23)):=⟨rfl,rfl,rfl,by decide +kernel,rfl,by decide +kernel,by decide +kernel⟩
theorem apb{k:Nat}(M:Nm mg){a_19:Addr}{d_19:FuncData}{k_19:Nat}{F_19:SF}(D_19:Dn P w K mg base k_19 "_law_bent" ["_law_pen_here", "_law_some_here", "_law_paper_here"] (nj K 3 F_19) a_19 d_19)(h_19:k_19<=k){a_20:Addr}{alb:FuncData}{k_20:Nat}{F_20:SF}(D_20:Dn P w K mg base k_20 "_law_forged" ["_law_pen_here", "_law_some_here", "_law_paper_here"] (nj K 3 F_20) a_20 alb)(h_20:k_20<=k){a_9:Addr}{d_9:FuncData}{k_9:Nat}{F_9:SF}(D_9:Dn P w K mg base k_9 "_law_take" ["_law_pen_here", "_law_many"] (nj K 2 F_9) a_9 d_9)(h_9:k_9<=k)(cdv:Value)(A:Around)(outer:List Env)(s:Shared)(H:Hp)(E:XK)(hr:Room k (A.deeper (PyProof.Rows.envOfC "_law_forged" (bc (top 23)) s.heap.objs.size f cdv))):MSs (zr CX0 P w K mg base ["_law_pen_here", "_law_some_here", "_law_paper_here", "_law_papers", "_law_at"] "_law_forged" (bc (top 23)) f cdv A outer s H E).nox X0 (jd (top 23)) (lu F_19 F_20 F_9) :=
 have SC:=akk
 (au (jy (PW.pt (a06 (di (jn hr.u) iz (az (bh 2) ak (λ_ _=>rfl)) ik (gk _)) (a05 (di (jn hr.u) iz (bj false D_9 (hr.mono h_9) rfl (aa (bh 0) (aa ak aq))) ak (gk _)))))
 (bx (g8 (bj false D_19 (hr.mono h_19) rfl (aa (bh 0) (aa (bh 1) (aa (bh 2) aq))))))
 fu)
 (au (jy (di (jn hr.u) iz (az (bh 2) ak (λ_ _=>rfl)) ik (gk _))
 (bx (g8 (lr (aa ik (aa (az (bh 2) ak (λ_ _=>rfl)) (aa (bj false D_20 (hr.mono h_20) rfl (aa (bh 0) (aa (bh 1) (aa (az (bh 2) ak (λ_ _=>rfl)) aq)))) aq))))))
 fu)
 (au (jy (di (jn hr.u) iz (az (bh 2) ak (λ_ _=>rfl)) (lr aq) (gk _))
 (bx (g8 (bj false D_19 (hr.mono h_19) rfl (aa (bh 0) (aa (bh 1) (aa (bh 2) aq))))))
 fu)
 (au (il (i:=3) SC.nd rfl (Or.inl rfl) (xg (L2.CallR.or a1f (a2c rfl)) a87 rfl M.list aah (aa (az (bh 2) ak (λ_ _=>rfl)) aq)))
 (au (il (i:=4) SC.nd rfl (Or.inl rfl) (bj false D_9 (hr.mono h_9) rfl (aa (bh 0) (aa (kj (L2.CallR.or cz dg) jk rfl M.len mq (aa (bh 3) aq)) aq))))
 (au (a3n (bj false D_20 (hr.mono h_20) rfl (aa (bh 0) (aa (bh 1) (aa (az (bh 3) (bh 4) (λ_ _=>rfl)) aq)))) (bh 3) (bh 4))
 (bx (g8 (lr (aa (az (bh 2) ak (λ_ _=>rfl)) (aa (xg (L2.CallR.or ug (v4 rfl)) a0d rfl M.tuple uh (aa (bh 3) aq)) aq)))))))))))
theorem akl:FnScope ["_law_shape_here", "_law_word", "_law_paper_here", "_law_said_here", "_law_found"] ["_law_shape_here", "_law_word", "_law_paper_here"] (bc (top 24)):=⟨rfl,rfl,rfl,by decide +kernel,rfl,by decide +kernel,by decide +kernel⟩
theorem apc{k:Nat}(M:Nm mg){a_17:Addr}{d_17:FuncData}{k_17:Nat}{F_17:SF}(D_17:Dn P w K mg base k_17 "_law_walked" ["_law_shape_here", "_law_paper_here"] (nj K 2 F_17) a_17 d_17)(h_17:k_17<=k){a_3:Addr}{d_3:FuncData}{k_3:Nat}{F_3:SF}(D_3:Dn P w K mg base k_3 "taking_holds" ["shape", "word", "paper"] (nj K 3 F_3) a_3 d_3)(h_3:k_3<=k)(cdv:Value)(A:Around)(outer:List Env)(s:Shared)(H:Hp)(E:XK)(hr:Room k (A.deeper (PyProof.Rows.envOfC "_law_right" (bc (top 24)) s.heap.objs.size f cdv))):MSs (zr CX0 P w K mg base ["_law_shape_here", "_law_word", "_law_paper_here", "_law_said_here", "_law_found"] "_law_right" (bc (top 24)) f cdv A outer s H E).nox X0 (jd (top 24)) (xq F_17 F_3) :=
 have SC:=akl
 (au (il (i:=3) SC.nd rfl (Or.inl rfl) (bj false D_17 (hr.mono h_17) rfl (aa (bh 0) (aa (bh 2) aq))))
 (au (il (i:=4) SC.nd rfl (Or.inl rfl) (bj false D_3 (hr.mono h_3) rfl (aa (bh 0) (aa (bh 1) (aa (bh 2) aq)))))
 (bx (g8 (a3m (kj (L2.CallR.or ji j9) o7 rfl M.isinstance iu (aa (bh 4) (aa (a04 rfl M.bool a4h) aq))) (a3l (a0p (jn hr.u) iz (bh 4) (a3m (a0p (a3w.or wz) a0a (bh 3) m9 (gk _)) (a3l (a0p (jn hr.u) iz (bh 3) (bh 1) (gk _)))) (gk _))))))))
theorem akm:FnScope ["_law_script", "_law_pen_here", "_law_some_here", "_law_former", "_law_turn", "_law_shape_here", "_law_paper_here", "_law_word", "_law_k", "_law_bad", "_law_said_here", "_law_near"] ["_law_script"] (bc (top 25)):=⟨rfl,rfl,rfl,by decide +kernel,rfl,by decide +kernel,by decide +kernel⟩
theorem apd{k:Nat}(M:Nm mg){a_20:Addr}{alb:FuncData}{k_20:Nat}{F_20:SF}(D_20:Dn P w K mg base k_20 "_law_forged" ["_law_pen_here", "_law_some_here", "_law_paper_here"] (nj K 3 F_20) a_20 alb)(h_20:k_20<=k){a_13:Addr}{al9:FuncData}{k_13:Nat}{F_13:SF}(D_13:Dn P w K mg base k_13 "_law_paper" ["_law_pen_here", "_law_shape_here"] (nj K 2 F_13) a_13 al9)(h_13:k_13<=k){a_8:Addr}{d_8:FuncData}{k_8:Nat}{F_8:SF}(D_8:Dn P w K mg base k_8 "_law_pen" ["_law_script"] (nj K 1 F_8) a_8 d_8)(h_8:k_8<=k){a_21:Addr}{d_21:FuncData}{k_21:Nat}{F_21:SF}(D_21:Dn P w K mg base k_21 "_law_right" ["_law_shape_here", "_law_word", "_law_paper_here"] (nj K 3 F_21) a_21 d_21)(h_21:k_21<=k){a_14:Addr}{ala:FuncData}{k_14:Nat}{F_14:SF}(D_14:Dn P w K mg base k_14 "_law_said" ["_law_paper_here"] (nj K 1 F_14) a_14 ala)(h_14:k_14<=k){a_12:Addr}{al8:FuncData}{k_12:Nat}{F_12:SF}(D_12:Dn P w K mg base k_12 "_law_shape" ["_law_pen_here", "_law_purse", "_law_deep", "_law_tongue"] (nj K 4 F_12) a_12 al8)(h_12:k_12<=k){a_10:Addr}{d_10:FuncData}{k_10:Nat}{F_10:SF}(D_10:Dn P w K mg base k_10 "_law_signs" [] (nj K 0 F_10) a_10 d_10)(h_10:k_10<=k){a_11:Addr}{d_11:FuncData}{k_11:Nat}{F_11:SF}(D_11:Dn P w K mg base k_11 "_law_some" ["_law_pen_here", "_law_rest", "_law_most"] (nj K 3 F_11) a_11 d_11)(h_11:k_11<=k){a_9:Addr}{d_9:FuncData}{k_9:Nat}{F_9:SF}(D_9:Dn P w K mg base k_9 "_law_take" ["_law_pen_here", "_law_many"] (nj K 2 F_9) a_9 d_9)(h_9:k_9<=k){a_17:Addr}{d_17:FuncData}{k_17:Nat}{F_17:SF}(D_17:Dn P w K mg base k_17 "_law_walked" ["_law_shape_here", "_law_paper_here"] (nj K 2 F_17) a_17 d_17)(h_17:k_17<=k){a_3:Addr}{d_3:FuncData}{k_3:Nat}{F_3:SF}(D_3:Dn P w K mg base k_3 "taking_holds" ["shape", "word", "paper"] (nj K 3 F_3) a_3 d_3)(h_3:k_3<=k)(cdv:Value)(A:Around)(outer:List Env)(s:Shared)(H:Hp)(E:XK)(hr:Room k (A.deeper (PyProof.Rows.envOfC "law" (bc (top 25)) s.heap.objs.size f cdv))):MSs (zr CX0 P w K mg base ["_law_script", "_law_pen_here", "_law_some_here", "_law_former", "_law_turn", "_law_shape_here", "_law_paper_here", "_law_word", "_law_k", "_law_bad", "_law_said_here", "_law_near"] "law" (bc (top 25)) f cdv A outer s H E).nox X0 (jd (top 25)) (adx F_20 F_13 F_8 F_21 F_14 F_12 F_10 F_11 F_9 F_17 F_3) :=
 have SC:=akm
 (au (il (i:=1) SC.nd rfl (Or.inl rfl) (bj true D_8 (hr.mono h_8) rfl (aa (bh 0) aq)))
 (au (il (i:=2) SC.nd rfl (Or.inl rfl) (bj false D_11 (hr.mono h_11) rfl (aa (bh 1) (aa (ab6 false D_10 (hr.mono h_10) rfl) (aa (az (a3a (ue (aa ak (aa ak (aa ak (aa ak aq)))))) (bj false D_9 (hr.mono h_9) rfl (aa (bh 1) (aa ak aq))) (λ_ _=>rfl)) aq)))))
 (au (il (i:=3) SC.nd rfl (Or.inl rfl) (lr (aa ik (aa (lr aq) aq))))
 (au (a80 PassesOwn.never rfl (a2f rfl M.range (aa ak aq)) (a2e (i:=4) SC.nd rfl (Or.inl rfl)) (au (il (i:=5) SC.nd rfl (Or.inl rfl) (bj false D_12 (hr.mono h_12) rfl (aa (bh 1) (aa (ue (aa (az (a3a (ue (aa ak (aa ak (aa ak aq))))) (bj false D_9 (hr.mono h_9) rfl (aa (bh 1) (aa ak aq))) (λ_ _=>rfl)) aq)) (aa ak (aa (bh 2) aq))))))
 (au (il (i:=6) SC.nd rfl (Or.inl rfl) (bj false D_13 (hr.mono h_13) rfl (aa (bh 1) (aa (bh 5) aq))))
 (au (il (i:=7) SC.nd rfl (Or.inl rfl) (bj false D_14 (hr.mono h_14) rfl (aa (bh 6) aq)))
 (au (a80 PassesOwn.never rfl (a2f rfl M.range (aa ak aq)) (a2e (i:=8) SC.nd rfl (Or.inl rfl)) (au (il (i:=9) SC.nd rfl (Or.inl rfl) (bj false D_20 (hr.mono h_20) rfl (aa (bh 1) (aa (bh 2) (aa (bh 6) aq)))))
 (au (il (i:=10) SC.nd rfl (Or.inl rfl) (bj false D_17 (hr.mono h_17) rfl (aa (bh 5) (aa (bh 9) aq))))
 (au (jy (PW.pt (a06 (sr (ur (bj false D_21 (hr.mono h_21) rfl (aa (bh 5) (aa (jz (bh 7) ql (p6 ak)) (aa (bh 9) aq)))))) (a05 (sr (ur (bj false D_21 (hr.mono h_21) rfl (aa (bh 5) (aa (jz (bh 7) ql (p6 ak)) (aa (bh 6) aq)))))))))
 a8d
 fu)
 (bx (jy (PW.pt (yg (di (a3w.or wz) a0a (bh 10) m9 (gk _)) (yg (di (a3e.or p8) zm (kj (L2.CallR.or cz dg) jk rfl M.len mq (aa (bh 10) aq)) ak (gk _)) (xf (di (a3w.or wz) a0a (bj false D_3 (hr.mono h_3) rfl (aa (bh 5) (aa (bh 10) (aa (bh 9) aq)))) aga (gk _))))))
 a8d
 fu))))))
 (au (il (i:=11) SC.nd rfl (Or.inl rfl) (jz (j8 (jz (bh 7) (p6 ak) ql) (az (bh 2) ak (λ_ _=>rfl))) ql (p6 ak)))
 (au (jy (PW.pt (a06 (sr (ur (bj false D_21 (hr.mono h_21) rfl (aa (bh 5) (aa (bh 11) (aa (bh 6) aq)))))) (a05 (sr (ur (bj false D_21 (hr.mono h_21) rfl (aa (bh 3) (aa (jz (bh 7) ql (p6 ak)) (aa (bh 6) aq)))))))))
 a8d
 fu)
 (au (jy (PW.pt (yg (di (a3e.or p8) zm (kj (L2.CallR.or cz dg) jk rfl M.len mq (aa (bh 7) aq)) ak (gk _)) (xf (di (a3w.or wz) a0a (bj false D_3 (hr.mono h_3) rfl (aa (bh 5) (aa (bh 7) (aa (bh 6) aq)))) aga (gk _)))))
 a8d
 fu)
 (bx (il (i:=3) SC.nd rfl (Or.inl rfl) (bh 5)))))))))))
 (bx (g8 (bj false D_21 (hr.mono h_21) rfl (aa (bh 3) (aa ik (aa (lr (aa ik (aa (lr aq) aq))) aq))))))))))
end
end K10
namespace HND
open PySem PySem.Spec L2 MI
noncomputable def uw:SS :=
 (jh (p7 0 (sC (.str " !\"#$&'()*+,-./0123456789:;<=>?@ABCDEFGHIJKLMNOPQRSTUVWXYZ[\\]^_`")))
 (mz (s2 jb (sV 0) (sC (.str "abcdefghijklmnopqrstuvwxyz{|}~\n")))))
end HND
namespace MI
open PySem PySem.Spec L2
abbrev S(l:List Nat):Str:=⟨l.toArray⟩
theorem a4s(l:List Nat):(S l).cps.toList=l:=by simp
theorem a4t(l:List Nat):(S l).length=l.length:=by simp [Str.length]
theorem a9e(x:Str):S x.cps.toList=x:=by cases x;simp
theorem ah8(a b:List Nat):S a++S b=S (a++b):=by rw [<-a9e (S a++S b),amq]
theorem amz{a b:List Nat}(h:S a=S b):a=b:=by
 have:=congrArg (λx:Str=>x.cps.toList) h
 simpa using this
theorem akn(a b:List Nat):(S a == S b)=decide (a=b):=by
 by_cases h:a=b
 ·subst h;simp
 ·have:¬ S a=S b:=λz=>h (amz z)
  simp [h]
section
variable{h:Hd}{a b l:List Nat}{i:Nat}{c:Nat}
theorem alo(hl:l.length<=LINE)(e:l[i]? = some c):gIx (.str (S l)) (.int (i:Nat)) h = .ok (.str (S [c])) h:=by
 unfold gIx;simp only [a4t,if_pos hl,a4s,qt e]
theorem a9f(hl:a.length+b.length<=LINE):jb (.str (S a)) (.str (S b)) h = .ok (.str (S (a++b))) h:=by
 unfold jb;simp only [a4t,if_pos hl,ah8]
theorem a2m(hl:l.length<=LINE):qg [.str (S l)] h = .ok (.int l.length) h:=by
 unfold qg;simp only [a4t,if_pos hl]
theorem alp(k:Nat)(hl:l.length<=LINE):a3b (.str (S l)) none (some (k:Int)) h = .ok (.str (S (l.take k))) h:=by
 show gSl (.str (S l)) none (some (k:Int)) h=_;unfold gSl;simp only [a4t,if_pos hl,a4s,a75]
theorem af5(k:Nat)(hl:l.length<=LINE):a3b (.str (S l)) (some (k:Int)) none h = .ok (.str (S (l.drop k))) h:=by
 show gSl (.str (S l)) (some (k:Int)) none h=_;unfold gSl;simp only [a4t,if_pos hl,a4s,a67]
theorem ape(j k:Nat)(hl:l.length<=LINE):a3b (.str (S l)) (some (j:Int)) (some (k:Int)) h = .ok (.str (S ((l.drop j).take (k - j)))) h:=by
 show gSl (.str (S l)) (some (j:Int)) (some (k:Int)) h=_;unfold gSl;simp only [a4t,if_pos hl,a4s,ag8]
end
section
variable{h:Hd}{i j:Int}{xs ys:List D}
theorem a1z:gIx (.tup xs) (.int i) h=(match atI xs i with | some d=>.ok d h | none=>.no):=rfl
theorem a6m:gIx (.rol xs) (.int i) h=(match atI xs i with | some d=>.ok d h | none=>.no):=rfl
theorem a6n{k:Nat}:gIx (.ref k) (.int i) h=(match xm (.ref k) h with | some xs=>(match atI xs i with | some d=>.ok d h | none=>.no) | none=>.no):=rfl
theorem a4u:qg [.tup xs] h = .ok (.int xs.length) h:=rfl
theorem a4v:qg [.rol xs] h = .ok (.int xs.length) h:=rfl
theorem a2n{k:Nat}:qg [.ref k] h=(match xm (.ref k) h with | some xs=>.ok (.int xs.length) h | none=>.no):=rfl
theorem a8i:jb (.int i) (.int j) h = .ok (.int (i+j)) h:=rfl
theorem a4w:amv (.int i) (.int j) h = .ok (.int (i+j)) h:=rfl
open Classical in
theorem a8j:wu (.int i) (.int j) h=if CMul i j then .ok (.int (i*j)) h else .no:=by unfold wu;rfl
theorem je(b:Bool):tru (.bl b) h = .ok b h:=rfl
theorem a4x:tru (.int i) h = .ok (i != 0) h:=rfl
theorem a4y:tru (.rol xs) h = .ok (!xs.isEmpty) h:=rfl
theorem a4z:tru (.tup xs) h = .ok (!xs.isEmpty) h:=rfl
theorem a5a:tru .non h = .ok false h:=rfl
theorem a9g:hEq (.int i) (.int j) h = .ok (.bl (i == j)) h:=rfl
theorem a9h:hNe (.int i) (.int j) h = .ok (.bl (!(i == j))) h:=rfl
theorem ady(a b:Str):hEq (.str a) (.str b) h = .ok (.bl (a == b)) h:=rfl
theorem ako(a b:Str):hNe (.str a) (.str b) h = .ok (.bl (!(a == b))) h:=rfl
theorem abd(a b:Bool):hEq (.bl a) (.bl b) h = .ok (.bl (a == b)) h:=rfl
theorem adz(a b:Bool):hNe (.bl a) (.bl b) h = .ok (.bl (!(a == b))) h:=rfl
theorem a8k(x:D):gIs x .non h = .ok (.bl (a3f x)) h:=by cases x<;>rfl
theorem a0h(x:D):a1h x .non h = .ok (.bl (!a3f x)) h:=by cases x<;>rfl
theorem ae0(a b:Bool):gIs (.bl a) (.bl b) h = .ok (.bl (a == b)) h:=rfl
theorem a1t(a b:Bool):a1h (.bl a) (.bl b) h = .ok (.bl (a != b)) h:=rfl
theorem alq:a3f (.int i)=false:=rfl
theorem alr(x:Str):a3f (.str x)=false:=rfl
theorem als:a3f .non=true:=rfl
theorem alu:a3f (.tup xs)=false:=rfl
end
end MI
namespace HND
open PySem PySem.Spec L2 MI AT
local macro_rules | `(tactic| walk_at "ev") => `(tactic| simp only [qz,a1k,a6i,a6j,a8f,p7,alj,adc,sIf,mz,a68,a97,put,adh,alk,aer,a2d,agg,kN,sV,sC,s2,s1,sA,aj,cu,sNx,sT,asB,zj,je,a4x,a4y,a4z,a5a,a2y,sOr,yf,zx,ali,a4c,sCh,a96,dm,a6h,MI.a1z,MI.a6m,MI.a6n,ak1,xm,gLt,gGt,gGe,gLe,a9g,a9h,abd,adz,a8k,a0h,ae0,a1t,alq,alr,als,alu,a8i,MI.a3d,a78,aao,a8j,AT.adw,AT.p18,a4u,a4v,a2n,ac2,a4w,a9r,a6b,a6a,MI.qb,MI.w6,sML,isL,ad2,oN,oS,a1j,zf,sIt,agi,sRg,List.length_map,List.length_cons,List.length_nil,List.length_append,List.getElem?_cons_zero,List.getElem?_cons_succ,List.set_cons_zero,List.set_cons_succ,List.nil_append,List.cons_append,AT.adm,AT.adn,AT.ado,AT.adp,AT.adq,AT.adt,AT.adu,AT.adv,AT.x10,AT.x20,AT.x21,AT.x30,AT.x31,AT.x32,AT.x40,AT.x41,AT.x42,AT.x43,AT.x50,AT.x51,AT.x52,AT.x53,AT.x54,AT.x60,AT.x61,AT.x62,AT.x63,AT.x64,AT.x65,AT.x70,AT.x71,AT.x72,AT.x73,AT.x74,AT.x75,AT.x76,decide_true,decide_false,reduceIte,Bool.true_and,Bool.and_self,Bool.not_true,Bool.not_false,and_self,true_and,and_true,beq_self_eq_true,Nat.reduceAdd,Nat.reduceLeDiff,Nat.reduceLT,Nat.reducePow,Int.reduceLT,Int.reduceLE,Int.reduceNeg,Int.reduceEq,Int.reduceBEq,Bool.false_eq_true,Bool.true_eq_false,ite_true,ite_false,if_true,if_false, *])
end HND
namespace HND
open PySem PySem.Spec L2 MI AT
local macro_rules | `(tactic| walk_at "ev") => `(tactic| simp only [qz,a1k,a6i,a6j,a8f,p7,alj,adc,sIf,mz,a68,a97,put,adh,alk,aer,a2d,agg,kN,sV,sC,s2,s1,sA,aj,cu,sNx,sT,asB,zj,je,a4x,a4y,a4z,a5a,a2y,sOr,yf,zx,ali,a4c,sCh,a96,dm,a6h,MI.a1z,MI.a6m,MI.a6n,ak1,xm,gLt,gGt,gGe,gLe,a9g,a9h,abd,adz,a8k,a0h,ae0,a1t,alq,alr,als,alu,a8i,MI.a3d,a78,aao,a8j,AT.adw,AT.p18,a4u,a4v,a2n,ac2,a4w,a9r,a6b,a6a,MI.qb,MI.w6,sML,isL,ad2,oN,oS,a1j,zf,sIt,agi,sRg,acx,zy,ajd,ak6,ak5,ah5,ac3,aln,srcOf,  List.length_map,List.length_cons,List.length_nil,List.length_append,List.getElem?_cons_zero,List.getElem?_cons_succ,List.set_cons_zero,List.set_cons_succ,List.nil_append,List.cons_append,AT.adm,AT.adn,AT.ado,AT.adp,AT.adq,AT.adt,AT.adu,AT.adv,AT.x10,AT.x20,AT.x21,AT.x30,AT.x31,AT.x32,AT.x40,AT.x41,AT.x42,AT.x43,AT.x50,AT.x51,AT.x52,AT.x53,AT.x54,AT.x60,AT.x61,AT.x62,AT.x63,AT.x64,AT.x65,AT.x70,AT.x71,AT.x72,AT.x73,AT.x74,AT.x75,AT.x76,decide_true,decide_false,reduceIte,Bool.true_and,Bool.and_self,Bool.not_true,Bool.not_false,and_self,true_and,and_true,beq_self_eq_true,Nat.reduceAdd,Nat.reduceLeDiff,Nat.reduceLT,Nat.reducePow,Int.reduceLT,Int.reduceLE,Int.reduceNeg,Int.reduceEq,Int.reduceBEq,Bool.false_eq_true,Bool.true_eq_false,ite_true,ite_false,if_true,if_false, *])
def alv:Str := " !\"#$&'()*+,-./0123456789:;<=>?@ABCDEFGHIJKLMNOPQRSTUVWXYZ[\\]^_`"
def alw:Str := "abcdefghijklmnopqrstuvwxyz{|}~\n"
def sig:List Nat:=alv.cps.toList++alw.cps.toList
theorem abe:sig.length=95:=by decide +kernel
theorem akp:sig.Nodup:=by decide +kernel
noncomputable def jf:SF:=ou uw 1
theorem lits{h:Hd}:jb (.str alv) (.str alw) h = .ok (.str (S sig)) h:=by
 rw [<-a9e alv,<-a9e alw,a9f (by decide +kernel)]
 rfl
theorem a5b:Pu jf 0 [] (.str (S sig)):=by
 refine Pu.of rfl (by simp) (r:=.ok (.str (S sig)) []) ?_ (by rw [v5 (dw _) (by simp)];rfl) (dw _)
 unfold jf;rw [jj];unfold uw;have e:=@lits [];unfold alv alw at e;show toR (jh (p7 0 _) _ [none] [])=_;simp only [qz,p7,sC,a6h,a1k,mz,s2,sV,List.set_cons_zero,List.getElem?_cons_zero,dm,e,a6j]
theorem abf(a r:List Nat)(i:Nat)(c:Nat)(e:r[i]? = some c):List.Perm (a++r) ((a++[c])++(r.take i++r.drop (i+1))):=by
 obtain ⟨hi,e⟩:=List.getElem?_eq_some_iff.mp e;have:r=r.take i++c::r.drop (i+1):=by rw [<-e];simp
 rw [List.append_assoc];refine List.Perm.append_left a ?_;rw [List.singleton_append]
 conv=>lhs;rw [this]
 exact List.perm_middle
end HND
namespace MI
open PySem PySem.Spec L2
theorem an0(n:Nat):rng 0 n=(List.range n).map λi:Nat=>D.int (i:Nat):=by
 unfold rng;exact List.map_congr_left λi _=>by rw [Int.zero_add]
theorem ah9{n:Nat}(h:n<=LINE):B62 (n:Int):=by
 have:n<=16777216:=h
 unfold B62;omega
theorem akq{n:Nat}(h:Hd)(z:n<=LINE):zy [.int (n:Nat)] h = .ok ⟨(List.range n).map λi:Nat=>D.int (i:Nat),λ_=>True⟩ h:=by
 unfold zy;simp only [ah9 z,if_true,Int.toNat_natCast,an0]
theorem an1{f:SE}{τ:Sd}{h:Hd}{d:D}(e:f τ h = .ok d h):aj f cu τ h = .ok [d] h:=by unfold aj cu;rw [e];rfl
theorem a5c{f:SE}{τ:Sd}{h:Hd}{n:Nat}(e:f τ h = .ok (.int (n:Nat)) h)(z:n<=LINE):sRg zy (aj f cu) τ h = .ok ⟨(List.range n).map λi:Nat=>D.int (i:Nat),λ_=>True⟩ h:=by
 unfold sRg;rw [an1 e,dm];exact akq h z
theorem bu{i:Nat}{τ:Sd}{h:Hd}{d:D}(e:τ[i]? = some (some d)):sV i τ h = .ok d h:=by unfold sV;rw [e]
theorem a2o{fi:SI}{t:D->Option Sd}{fe:SE}{ix:List Nat}{τ:Sd}{h:Hd}{α:Type}(g F:α->D)(xs:List α)(e:fi τ h = .ok ⟨xs.map g,λ_=>True⟩ h)(z:xs.length<=LINE)
  (st:∀ x∈xs,a2g t fe (frs' ix τ) (g x) h = .ok (F x) h):xj fi t fe ix τ h = .ok (.ref h.length) (h++[.lst (xs.map F)]):=by
 unfold xj;rw [e,dm];dsimp only;rw [if_pos (by rw [List.length_map];exact z),a6l g F st]
 rfl
theorem a5d(fe:SE)(r:Sd)(x:D)(h:Hd):a2g t1 fe r x h=fe (some x::r) h:=rfl
section
variable{f k f1 f2 f3:SE}{c c1 c2:ST}{g p q:SS}{τ τ1:Sd}{h h1 h2 h3 h4:Hd}{a b d v:D}{i:Nat}{t u:Bool}
theorem cj(d:D)(τ:Sd)(h:Hd):sC d τ h = .ok d h:=rfl
theorem akr{G:List D->Hd->R D}(e3:G [] h = .ok v h1):sA G cu τ h = .ok v h1:=e3
theorem qi{G:List D->Hd->R D}(e1:f τ h = .ok a h1)(e3:G [a] h1 = .ok v h2):sA G (aj f cu) τ h = .ok v h2:=by
 have:aj f cu τ h = .ok [a] h1:=by unfold aj;rw [e1];rfl
 unfold sA;rw [this,dm,e3]
theorem qw{G:List D->Hd->R D}(e1:f τ h = .ok a h1)(e2:k τ h1 = .ok b h2)(e3:G [a,b] h2 = .ok v h3):sA G (aj f (aj k cu)) τ h = .ok v h3:=by
 have:aj f (aj k cu) τ h = .ok [a,b] h2:=by unfold aj;rw [e1,dm,e2];rfl
 unfold sA;rw [this,dm,e3]
theorem a5o{G:List D->Hd->R D}(e0:f1 τ h = .ok d h1)(e1:f τ h1 = .ok a h2)(e2:k τ h2 = .ok b h3)(e3:G [d,a,b] h3 = .ok v h4):sA G (aj f1 (aj f (aj k cu))) τ h = .ok v h4:=by
 have:aj f1 (aj f (aj k cu)) τ h = .ok [d,a,b] h3:=by unfold aj;rw [e0,dm,e1,dm,e2];rfl
 unfold sA;rw [this,dm,e3]
theorem nq(e:f τ h = .ok d h1):jh (p7 i f) g τ h=g (τ.set i (some d)) h1:=by
 rw [qz];unfold p7;rw [e];rfl
theorem alx(e:f τ h = .ok d h1):p7 i f τ h = .nx (τ.set i (some d)) h1:=by
 unfold p7;rw [e];rfl
theorem a9i(e:p τ h = .nx τ1 h1):jh p g τ h=g τ1 h1:=by rw [qz,e];rfl
theorem km(e:p τ h = .rt d h1):jh p g τ h = .rt d h1:=by rw [qz,e];rfl
theorem ifT(e:c τ h = .ok true h1):sIf c p q τ h=p τ h1:=by unfold sIf;rw [e];rfl
theorem ifF(e:c τ h = .ok false h1):sIf c p q τ h=q τ h1:=by unfold sIf;rw [e];rfl
theorem ifN(e:c τ h = .ok false h1):jh (sIf c p sNx) g τ h=g τ h1:=by rw [qz,ifF e];rfl
theorem tof(e:f τ h = .ok (.bl t) h1):sT f τ h = .ok t h1:=by unfold sT;rw [e];rfl
theorem o6(e:f τ h = .ok d h1)(e':tru d h1 = .ok t h2):zj f τ h = .ok t h2:=by unfold zj;rw [e,dm,e']
theorem a3g(e:c1 τ h = .ok true h1)(e':c2 τ h1 = .ok t h2):a2y c1 c2 τ h = .ok t h2:=by unfold a2y;rw [e,dm,if_pos rfl,e']
theorem a6w(e:c1 τ h = .ok false h1):a2y c1 c2 τ h = .ok false h1:=by unfold a2y;rw [e,dm,if_neg (by simp)]
theorem orT(e:c1 τ h = .ok true h1):sOr c1 c2 τ h = .ok true h1:=by unfold sOr;rw [e,dm,if_pos rfl]
theorem orF(e:c1 τ h = .ok false h1)(e':c2 τ h1 = .ok t h2):sOr c1 c2 τ h = .ok t h2:=by unfold sOr;rw [e,dm,if_neg (by simp),e']
theorem aks(e:c τ h = .ok t h1):yf c τ h = .ok (!t) h1:=by unfold yf;rw [e];rfl
theorem a0x(e:c τ h = .ok true h1):yf c τ h = .ok false h1:=aks e
theorem a3q(e:c τ h = .ok false h1):yf c τ h = .ok true h1:=aks e
theorem iw(e:f τ h = .ok d h1):mz f τ h = .rt d h1:=by unfold mz;rw [e];rfl
theorem a9j(e:f τ h = .ok (.bl true) h1)(e':k τ h1 = .ok d h2):zx f k τ h = .ok d h2:=by unfold zx;rw [e,dm];exact e'
theorem akt{G:D->List D->Hd->R D}{A:SA}{ds:List D}(e1:f τ h = .ok d h1)(l:isL d h1=true)(e2:A τ h1 = .ok ds h2)(e3:G d ds h2 = .ok v h3):a68 (sML G f A) τ h = .nx τ h3:=by
 unfold a68 sML;rw [e1,dm,if_pos l,e2,dm,e3];rfl
theorem arg1(e:f τ h = .ok d h1):aj f cu τ h = .ok [d] h1:=by unfold aj cu;rw [e];rfl
theorem du{G:D->D->Hd->R D}(e1:f τ h = .ok a h1)(e2:k τ h1 = .ok b h2)(e3:G a b h2 = .ok v h3):s2 G f k τ h = .ok v h3:=by
 unfold s2;rw [e1,dm,e2,dm,e3]
theorem af6{G:D->Hd->R D}(e1:f τ h = .ok a h1)(e3:G a h1 = .ok v h2):s1 G f τ h = .ok v h2:=by
 unfold s1;rw [e1,dm,e3]
theorem aha(e1:f1 τ h = .ok v h1)(e2:f2 τ h1 = .ok a h2)(e3:f3 τ h2 = .ok b h3)(e4:put a b v h3=some h4):a97 f1 f2 f3 τ h = .nx τ h4:=by
 unfold a97;rw [e1,a6h,e2,a6h,e3,a6h,e4]
theorem ahb{fi:SI}{G:SG}{b:SS}{xs:List D}{ck:Hd->Prop}(e:fi τ h = .ok ⟨xs,ck⟩ h1):jh (acx fi G b) g τ h=thn (forL ck G b xs τ h1) g:=by
 rw [qz];unfold acx;rw [e];rfl
theorem an2{xs:List D}{ck:Hd->Prop}(e:f τ h = .ok d h1)(e2:agi d h1 = .ok ⟨xs,ck⟩ h1):sIt f τ h = .ok ⟨xs,ck⟩ h1:=by
 unfold sIt;rw [e,dm,e2]
theorem aku{xs:List D}(e:h[i]? = some (.lst xs))(z:xs.length<LINE):ad2 (.ref i) [a] h = .ok .non (h.set i (.lst (xs++[a]))):=by
 unfold ad2;simp only [e,if_pos z]
theorem an3{xs:List D}{j:Nat}(e:h[i]? = some (.lst xs))(hj:j<xs.length):put (.ref i) (.int (j:Nat)) v h=some (h.set i (.lst (xs.set j v))):=by
 have:ixN xs.length (j:Int)=some j:=by unfold ixN;rw [if_pos (by omega),if_pos (by omega)];simp
 unfold put;simp only [e,this]
theorem af7{xs:List D}{j:Nat}{y:D}(e:h[i]? = some (.lst xs))(hj:xs[j]? = some y):gIx (.ref i) (.int (j:Nat)) h = .ok y h:=by
 rw [a6n];unfold xm;simp only [e,qt hj]
theorem apg{xs:List D}{j:Nat}{y:D}(hj:xs[j]? = some y):gIx (.rol xs) (.int (j:Nat)) h = .ok y h:=by
 rw [a6m];simp only [qt hj]
theorem af8{xs:List D}{j:Nat}{y:D}(hj:xs[j]? = some y):gIx (.tup xs) (.int (j:Nat)) h = .ok y h:=by
 rw [a1z];simp only [qt hj]
theorem ahc{xs:List D}(e:h[i]? = some (.lst xs)):qg [.ref i] h = .ok (.int (xs.length:Nat)) h:=by
 rw [a2n];unfold xm;simp only [e]
theorem ahd{xs:List D}(e:h[i]? = some (.lst xs)):uv [.ref i] h = .ok (.tup xs) h:=by
 unfold uv xm;simp only [e]
theorem ahe{x y:Int}(c:y<x):gGt (.int x) (.int y) h = .ok (.bl true) h:=by unfold gGt;simp only [c,decide_true]
theorem ahf{x y:Int}(c:¬ y<x):gGt (.int x) (.int y) h = .ok (.bl false) h:=by unfold gGt;simp only [c,decide_false]
theorem ac4{x y:Int}(c:x<y):gLt (.int x) (.int y) h = .ok (.bl true) h:=by unfold gLt;simp only [c,decide_true]
theorem abg{x y:Int}(c:¬ x<y):gLt (.int x) (.int y) h = .ok (.bl false) h:=by unfold gLt;simp only [c,decide_false]
theorem a2p{x y:Int}(c:x=y):hEq (.int x) (.int y) h = .ok (.bl true) h:=by rw [a9g,c,beq_self_eq_true]
theorem a3h{x y:Int}(c:¬ x=y):hEq (.int x) (.int y) h = .ok (.bl false) h:=by rw [a9g,beq_eq_false_iff_ne.mpr c]
theorem a1o{x y:Int}(c:x=y):hNe (.int x) (.int y) h = .ok (.bl false) h:=by rw [a9h,c,beq_self_eq_true];rfl
theorem a0y{x y:Int}(c:¬ x=y):hNe (.int x) (.int y) h = .ok (.bl true) h:=by rw [a9h,beq_eq_false_iff_ne.mpr c];rfl
theorem a6o(x:Int):a9r (.int x) h = .ok (.int (-x)) h:=rfl
theorem a1l(x y:Int):MI.a3d (.int x) (.int y) h = .ok (.int (x - y)) h:=rfl
theorem j7{n:Nat}(h:n<=1000000):n<=LINE:=by show n<=16777216;omega
theorem akv{n:Nat}(h:n<=1000000):n<LINE:=by show n<16777216;omega
theorem a6x:MI.qb [a,b] h = .ok (.tup [a,b]) h:=by unfold MI.qb;rw [if_pos (j7 (by simp))]
theorem ahg:MI.qb [a,b,v] h = .ok (.tup [a,b,v]) h:=by unfold MI.qb;rw [if_pos (j7 (by simp))]
end
end MI
namespace EVX
open PySem PySem.Spec L2 MI
section
variable{i:Nat}{cs:Str->Bool}{fb fs p g:SS}{τ τ1 τ2:Sd}{h h1 h2:Hd}{c:Str}{f:SE}{ka:SA}{ds:List D}{F:SF}{n:Nat}
theorem a6p{a:D}:MI.qb [a] h = .ok (.tup [a]) h:=by unfold MI.qb;rw [if_pos (j7 (by simp))]
theorem a6q:MI.qb [] h = .ok (.tup []) h:=by unfold MI.qb;rw [if_pos (j7 (by simp))]
theorem vg:sZ ags τ [] = .ok (.rod [] []) []:=by
 unfold sZ;show a3p 0 (.ok (.ref 0) [.dK []])=_;refine a2k (h1:=[.dK []]) ?_ (by simp)
 unfold FU a2z;rw [if_neg (by simp only [MI.clo];omega)]
 rfl
end
end EVX
namespace PN
open PySem PySem.Spec L2 MI AT HND EVX
local macro_rules | `(tactic| walk_at "ev") => `(tactic| simp only [qz,a1k,a6i,a6j,a8f,p7,alj,adc,sIf,mz,a68,a97,put,adh,alk,aer,a2d,agg,kN,sV,sC,s2,s1,sA,aj,cu,sNx,sT,asB,zj,je,a4x,a4y,a4z,a5a,a2y,sOr,yf,zx,ali,a4c,sCh,a96,dm,a6h,MI.a1z,MI.a6m,MI.a6n,ak1,xm,gLt,gGt,gGe,gLe,a9g,a9h,abd,adz,a8k,a0h,ae0,a1t,alq,alr,als,alu,a8i,MI.a3d,a78,aao,a8j,AT.adw,AT.p18,a4u,a4v,a2n,ac2,a4w,a9r,a6b,a6a,MI.qb,MI.w6,sML,isL,ad2,oN,oS,a1j,zf,sIt,agi,sRg,List.length_map,List.length_cons,List.length_nil,List.length_append,List.getElem?_cons_zero,List.getElem?_cons_succ,List.set_cons_zero,List.set_cons_succ,List.nil_append,List.cons_append,AT.adm,AT.adn,AT.ado,AT.adp,AT.adq,AT.adt,AT.adu,AT.adv,AT.x10,AT.x20,AT.x21,AT.x30,AT.x31,AT.x32,AT.x40,AT.x41,AT.x42,AT.x43,AT.x50,AT.x51,AT.x52,AT.x53,AT.x54,AT.x60,AT.x61,AT.x62,AT.x63,AT.x64,AT.x65,AT.x70,AT.x71,AT.x72,AT.x73,AT.x74,AT.x75,AT.x76,decide_true,decide_false,reduceIte,Bool.true_and,Bool.and_self,Bool.not_true,Bool.not_false,and_self,true_and,and_true,beq_self_eq_true,Nat.reduceAdd,Nat.reduceLeDiff,Nat.reduceLT,Nat.reducePow,Int.reduceLT,Int.reduceLE,Int.reduceNeg,Int.reduceEq,Int.reduceBEq,Bool.false_eq_true,Bool.true_eq_false,ite_true,ite_false,if_true,if_false, *])
structure Pen (o:O) (N:Nat):Prop where
 ex:∃ (cells:List Int) (a l:Int),o = .lst [.rol (cells.map D.int), .int a, .int l]/\0<=a/\a<=N/\0<=l
theorem Pen.clo{o:O}{N:Nat}(P:Pen o N):qp 0 o:=by
 obtain ⟨cells,a,l,rfl,_⟩:=P.ex;exact bz (tu (kh λx _=>ie x)) (bz (ie _) (bz (ie _) iy))
theorem Pen.up{o:O}{N M:Nat}(P:Pen o N)(h:N<=M):Pen o M:=by
 obtain ⟨cells,a,l,e,h1,h2,h3⟩:=P.ex;exact ⟨cells,a,l,e,h1,by omega,h3⟩
noncomputable def ao:SF:=ou a0v 7
theorem abh{o:O}{N:Nat}{m:Int}(P:Pen o N)(hN:N<=1000000000)(m0:0<m)(m1:m<1073741824):∃ r o',ao [.ref 0, .int m] [o] = .ok (.int r) [o']/\0<=r/\r<m/\Pen o' (N+1):=by
 obtain ⟨cells,a,l,rfl,a0,a1,l0⟩:=P.ex;unfold ao;rw [jj];unfold a0v a08;simp only [List.map_cons,List.map_nil,List.length_cons,List.length_nil,Nat.reduceSub,Nat.reduceAdd,List.replicate,List.cons_append,List.nil_append];have k3:(0<m/\m<1073741824)=True:=by simp [m0,m1]
 have k3':(0<m)=True:=by simp [m0]
 by_cases hl:0<l
 ·have kl:decide (0<l)=true:=decide_eq_true hl;refine ⟨l % m,_,?_,Int.emod_nonneg _ (by omega),Int.emod_lt_of_pos _ m0,⟨cells,a,l / m,rfl,a0,by omega,Int.ediv_nonneg (by omega) (by omega)⟩⟩
  walk_at "ev"
 ·have:l=0:=by omega
  subst this;have last:∀ c:Int,∃ r q q2,0<=r/\r<m/\(c % 2147483587+40709*a+31) ^ (3:Int).toNat % 2147483647=q/\(q*q+48271*q+a) % 2147483629=q2/\q2 / 64 % m=r/\CMul 40709 a/\CMul q q/\CMul 48271 q /\
    (∀ h,aap (.int (c % 2147483587+40709*a+31)) (.int 3) h = .ok (.int ((c % 2147483587+40709*a+31) ^ (3:Int).toNat)) h):=λc=>by
   have p0:0<=c % 2147483587:=Int.emod_nonneg _ (by decide)
   have p1:c % 2147483587<2147483587:=Int.emod_lt_of_pos _ (by decide)
   have q0:0<=(c % 2147483587+40709*a+31) ^ (3:Int).toNat % 2147483647:=Int.emod_nonneg _ (by decide)
   have q1:(c % 2147483587+40709*a+31) ^ (3:Int).toNat % 2147483647<2147483647:=Int.emod_lt_of_pos _ (by decide)
   refine ⟨_,_,_,Int.emod_nonneg _ (by omega),Int.emod_lt_of_pos _ m0,rfl,rfl,rfl, .inl ⟨by decide,by decide⟩, .inl ⟨by omega,by omega⟩, .inl ⟨by decide,by decide⟩,λh=>amy ⟨by decide,by decide,by omega⟩⟩
  obtain ⟨n,rfl⟩:=Int.eq_ofNat_of_zero_le a0
  by_cases hc:0<(cells.length:Int)
  ·have kc:decide (0<(cells.length:Int))=true:=decide_eq_true hc;have ic:(0<(cells.length:Int))=True:=by simpa using hc
   have im:((n:Int) % (cells.length:Int))=((n % cells.length:Nat):Int):=by omega
   have hj:n % cells.length<cells.length:=Nat.mod_lt _ (by omega)
   have hat:atI (cells.map D.int) ((n % cells.length:Nat):Int)=some (.int cells[n % cells.length]):=qt (by simp [hj])
   generalize cells[n % cells.length]=x at hat
   by_cases hA:(n:Int)<(cells.length:Int)
   ·have ka:decide ((n:Int)<(cells.length:Int))=true:=decide_eq_true hA
    by_cases hB:(1000000000000000000:Int)<=af4 x
    ·have kb:decide ((1000000000000000000:Int)<=af4 x)=true:=decide_eq_true hB;have cm:CMul 2 (af4 x):=.inl ⟨by decide,by decide⟩
     have g0:0<=2*af4 x+(if decide (x<0)=true then 1 else 0):=by split<;>omega
     refine ⟨(2*af4 x+(if decide (x<0)=true then 1 else 0)) % m,_,?_,Int.emod_nonneg _ (by omega),Int.emod_lt_of_pos _ m0,⟨cells,(n:Int)+1,(2*af4 x+(if decide (x<0)=true then 1 else 0)) / m,rfl,by omega,by omega,Int.ediv_nonneg g0 (by omega)⟩⟩
     walk_at "ev"
    ·have kb:decide ((1000000000000000000:Int)<=af4 x)=false:=decide_eq_false hB;obtain ⟨r,q,q2,r0,r1,eq,eq2,er,d1,d2,d3,d4⟩:=last x;refine ⟨r,_,?_,r0,r1,⟨cells,(n:Int)+1,0,rfl,by omega,by omega,by omega⟩⟩
     walk_at "ev"
   ·have ka:decide ((n:Int)<(cells.length:Int))=false:=decide_eq_false hA;obtain ⟨r,q,q2,r0,r1,eq,eq2,er,d1,d2,d3,d4⟩:=last x;refine ⟨r,_,?_,r0,r1,⟨cells,(n:Int)+1,0,rfl,by omega,by omega,by omega⟩⟩
    walk_at "ev"
  ·have kc:decide (0<(cells.length:Int))=false:=decide_eq_false hc;have ka:decide ((n:Int)<(cells.length:Int))=false:=decide_eq_false (by omega)
   obtain ⟨r,q,q2,r0,r1,eq,eq2,er,d1,d2,d3,d4⟩:=last 5;refine ⟨r,_,?_,r0,r1,⟨cells,(n:Int)+1,0,rfl,by omega,by omega,by omega⟩⟩
   walk_at "ev"
theorem m7{o:O}{N:Nat}{m:Int}(P:Pen o N)(hN:N<=1000000000)(m0:0<m)(m1:m<1073741824):∃ r o',Dr ao 2 [.int m] o (.int r) o'/\0<=r/\r<m/\Pen o' (N+1):=by
 obtain ⟨r,o',e,r0,r1,P'⟩:=abh P hN m0 m1;refine ⟨r,o',Dr.of rfl (by simp [ie]) P.clo e (v5 (ie _) ?_) (ie _) P'.clo,r0,r1,P'⟩
 intro u hu
 simp at hu
 subst hu;exact ym (by omega) P'.clo
noncomputable def lz:SF:=ou a0f 1
theorem akx(ns:List Int)(h:Hd):∃ o,Pen o 0/\jt true 1 lz [.scr (ns.map D.int)] h = .ok (.ref h.length) (h++[o]):=by
 have cl:clos 0 ((ns.take 63).map D.int):=kh λx _=>ie x;have z1:sZ (a1j (sV 0) oN (oS (sC (.int 63)))) [some (.scr (ns.map D.int))] [] = .ok (.rol ((ns.take 63).map D.int)) []:=by
  refine ah6 (by
   show gSl (.scr (ns.map D.int)) none (some ((63:Nat):Int)) []=_;unfold gSl;simp only [a75,List.map_take]) cl (by simp)
 have e:lz [.scr (ns.map D.int)] [] = .ok (.ref 0) [.lst [.rol ((ns.take 63).map D.int), .int 0, .int 0]]:=by
  unfold lz;rw [jj];show toR (a0f [some (.scr (ns.map D.int))] [])=_;unfold a0f;exact congrArg toR (iw (a5o z1 (cj _ _ _) (cj _ _ _) rfl))
 have P:Pen (.lst [.rol ((ns.take 63).map D.int), .int 0, .int 0]) 0:=⟨_,0,0,rfl,by decide,by decide,by decide⟩
 exact ⟨_,P,ak7 rfl (by simpa [MI.clo] using (kh λx _=>ie x:clos 0 (ns.map D.int))) e rfl P.clo h⟩
noncomputable def jf:SF:=ou uw 1
theorem a5b:Pu jf 0 [] (.str (S sig)):=HND.a5b
end PN
namespace SRC
open PySem PySem.Spec L2 MI
end SRC
namespace SRC
open PySem PySem.Spec L2 MI AT
end SRC
namespace SRC
open PySem PySem.Spec L2 MI AT HND EVX
end SRC
namespace HND
open PySem PySem.Spec L2 MI AT
abbrev jo(i:Nat):D:=.int (i:Nat)
structure Table where
 tg:List Nat
 go:List (List Nat)
 ks:List Int
end HND
namespace MI
open PySem PySem.Spec L2
end MI
namespace PAP
open PySem PySem.Spec L2 MI AT HND
def Pln:D->Prop
 | .non=>True | .bl _=>True | .int _=>True | .str x=>x.cps.toList.length<=1000 | .tup xs=>clos 0 xs | .rol xs=>clos 0 xs | .rod _ xs=>clos 0 xs | _=>False
theorem Pln.clo{d:D}(p:Pln d):clo 0 d:=by
 cases d<;>first | (simp only [Pln] at p;done) | (simp only [Pln] at p;simpa [MI.clo] using p) | simp [MI.clo]
def isTup:D->Bool | .tup _=>true | _=>false
theorem abi{d:D}{h:Hd}(p:Pln d):jl [d, .ty "tuple"] h = .ok (.bl (isTup d)) h:=by
 cases d<;>first | (simp only [Pln] at p;done) | simp [jl,aax,tyD,a99,isTup]
theorem an4{b:Bool}{h:Hd}:jl [.bl b, .ty "bool"] h = .ok (.bl true) h:=by simp [jl,aax,tyD,a99]
theorem ae1{f k:SE}{τ:Sd}{h h1:Hd}(e:f τ h = .ok (.bl false) h1):zx f k τ h = .ok (.bl false) h1:=by unfold zx;rw [e,dm]
theorem a5e{f:SE}{τ:Sd}{h h1:Hd}{i:Int}(e:f τ h = .ok (.int i) h1):oS f τ h = .ok (some i) h1:=by unfold oS;rw [e];rfl
theorem a5p{f:SE}{lo hi:SO}{τ:Sd}{h h1 h2 h3 h4:Hd}{d v:D}{a b:Option Int}(e:f τ h = .ok d h1)(e1:lo τ h1 = .ok a h2)(e2:hi τ h2 = .ok b h3)(e3:a3b d a b h3 = .ok v h4):a1j f lo hi τ h = .ok v h4:=by
 unfold a1j;rw [e,dm,e1,dm,e2,dm,e3]
theorem an5(xs:List D)(lo hi:Option Int)(h:Hd):a3b (.tup xs) lo hi h = .ok (.tup (a1n xs lo hi)) h:=by
 unfold a3b;dsimp only
 split
 ·rename_i w;obtain ⟨a,b⟩:=w
  congr 2
  unfold a1n;rw [a,b,List.drop_zero,List.take_of_length_le (by omega)]
 ·rfl
theorem ae2(xs:List D)(k:Nat)(h:Hd):a3b (.tup xs) none (some (k:Int)) h = .ok (.tup (xs.take k)) h:=by rw [an5,a75]
theorem a0i(xs:List D)(k:Nat)(h:Hd):a3b (.tup xs) (some (k:Int)) none h = .ok (.tup (xs.drop k)) h:=by rw [an5,a67]
theorem a2q{xs ys:List D}{h:Hd}(z:xs.length+ys.length<=1000000):jb (.tup xs) (.tup ys) h = .ok (.tup (xs++ys)) h:=by
 cases xs with
 | nil=>rfl
 | cons x xs =>
  show (if (x::xs).length+ys.length<=LINE then R.ok (D.tup (x::xs++ys)) h else .no)=_
  rw [if_pos (j7 z)]
theorem a6p{a:D}{h:Hd}:MI.qb [a] h = .ok (.tup [a]) h:=by unfold MI.qb;rw [if_pos (j7 (by simp))]
theorem a6q{h:Hd}:MI.qb [] h = .ok (.tup []) h:=by unfold MI.qb;rw [if_pos (j7 (by simp))]
theorem gf{f:SE}{k:SA}{τ:Sd}{h h1 h2:Hd}{d:D}{ds:List D}(e:f τ h = .ok d h1)(e2:k τ h1 = .ok ds h2):aj f k τ h = .ok (d::ds) h2:=by
 unfold aj;rw [e,dm,e2,dm]
theorem aof{G:List D->Hd->R D}{k:SA}{τ:Sd}{h h1 h2:Hd}{ds:List D}{v:D}(e:k τ h = .ok ds h1)(e2:G ds h1 = .ok v h2):sA G k τ h = .ok v h2:=by
 unfold sA;rw [e,dm,e2]
theorem vg{τ:Sd}:sZ ags τ [] = .ok (.rod [] []) []:=by
 unfold sZ;show a3p 0 (.ok (.ref 0) [.dK []])=_;refine a2k (h1:=[.dK []]) ?_ (by simp)
 unfold FU a2z;rw [if_neg (by simp only [MI.clo];omega)]
 rfl
theorem a2r{f:SE}{τ:Sd}{h h':Hd}{xs:List D}(hl:h'.length=h.length)(e:f τ h = .ok (.ref h'.length) (h'++[.lst xs]))(cx:clos h.length xs)(c:∀ o∈h',qp h.length o):sZ f τ h = .ok (.rol xs) h':=by
 unfold sZ;rw [e,a8h (by omega) (by simp) cx (by rw [<-hl];simpa [hl] using c)]
 rw [<-hl];simp
end PAP
namespace SRC
open PySem PySem.Spec L2 MI AT HND EVX
end SRC
namespace BF
def walk(step:Nat->Nat->Nat)(r:Nat):List Nat->Nat
 | []=>r
 | c::p=>step (walk step r p) c
section
variable(s:Nat)(step:Nat->Nat->Nat)(K:Nat->Bool)
def fl:Nat->Nat->Bool
 | 0,r=>K r
 | k+1,r=>(List.range s).any λc=>fl k (step r c)
variable{s step K}
end
end BF
namespace SRC
open PySem PySem.Spec L2 MI AT HND EVX
abbrev cst(l:List Nat):List Int:=l.map λx:Nat=>(x:Int)
def pos(m:List Nat)(x:Nat):Nat:=(ixI (x:Int) (cst m)).getD 0
end SRC
namespace K21
open PySem PySem.Spec L2 MI
end K21
namespace K23
open PySem PySem.Spec L2 MI
end K23
namespace K22
open PySem PySem.Spec L2 MI
end K22
namespace K22
open PySem PySem.Spec L2 MI AT HND
section
variable(T:Table)
end
end K22
namespace K23
open PySem PySem.Spec L2 MI AT HND K22
end K23
namespace K21
open PySem PySem.Spec L2 MI AT HND K22 K23 EVX
section
variable{T:Table}
theorem an6{a b:D}(ha:MI.clo 0 a)(hb:MI.clo 0 b):∀ x∈[a,b],MI.clo 0 x:=by
 intro x hx
 simp only [List.mem_cons,List.not_mem_nil,or_false] at hx
 rcases hx with rfl | rfl
 ·exact ha
 ·exact hb
end
end K21
namespace SRC
open PySem PySem.Spec L2 MI AT HND EVX K22 K23 K21
end SRC
namespace PN
open PySem PySem.Spec L2 MI AT HND EVX K22 K23 K21
local macro_rules | `(tactic| walk_at "ev") => `(tactic| simp only [qz,a1k,a6i,a6j,a8f,p7,alj,adc,sIf,mz,a68,a97,put,adh,alk,aer,a2d,agg,kN,sV,sC,s2,s1,sA,aj,cu,sNx,sT,asB,zj,je,a4x,a4y,a4z,a5a,a2y,sOr,yf,zx,ali,a4c,sCh,a96,dm,a6h,MI.a1z,MI.a6m,MI.a6n,ak1,xm,gLt,gGt,gGe,gLe,a9g,a9h,abd,adz,a8k,a0h,ae0,a1t,alq,alr,als,alu,a8i,MI.a3d,a78,aao,a8j,AT.adw,AT.p18,a4u,a4v,a2n,ac2,a4w,a9r,a6b,a6a,MI.qb,MI.w6,sML,isL,ad2,oN,oS,a1j,zf,sIt,agi,sRg,acx,zy,ajd,ak6,ak5,ah5,ac3,aln,srcOf,  List.length_map,List.length_cons,List.length_nil,List.length_append,List.getElem?_cons_zero,List.getElem?_cons_succ,List.set_cons_zero,List.set_cons_succ,List.nil_append,List.cons_append,AT.adm,AT.adn,AT.ado,AT.adp,AT.adq,AT.adt,AT.adu,AT.adv,AT.x10,AT.x20,AT.x21,AT.x30,AT.x31,AT.x32,AT.x40,AT.x41,AT.x42,AT.x43,AT.x50,AT.x51,AT.x52,AT.x53,AT.x54,AT.x60,AT.x61,AT.x62,AT.x63,AT.x64,AT.x65,AT.x70,AT.x71,AT.x72,AT.x73,AT.x74,AT.x75,AT.x76,decide_true,decide_false,reduceIte,Bool.true_and,Bool.and_self,Bool.not_true,Bool.not_false,and_self,true_and,and_true,beq_self_eq_true,Nat.reduceAdd,Nat.reduceLeDiff,Nat.reduceLT,Nat.reducePow,Int.reduceLT,Int.reduceLE,Int.reduceNeg,Int.reduceEq,Int.reduceBEq,Bool.false_eq_true,Bool.true_eq_false,ite_true,ite_false,if_true,if_false, *])
noncomputable def gw:SF:=ou (a0w ao) 6
theorem abj{o:O}{N most:Nat}{all:List Nat}(P:Pen o N)(hN:N<=999999000)(m1:1<=most)(m2:most<=all.length)(al:all.length<=95)(nd0:all.Nodup) :
  ∃ l o',1<=l.length/\l.length<=most/\l.Nodup/\(∀ c∈l,c∈all)/\Dr gw 3 [.str (S all),jo most] o (.str (S l)) o'/\Pen o' (N+1+most):=by
 obtain ⟨r0,o1,e1,r0a,r0b,P1⟩:=m7 (m:=(most:Int)) P (by omega) (by omega) (by omega)
 have lo:=a4o (g:=kN 4) (b:=ul ao) (λi:Nat=>D.int (0+(i:Nat)))
  (λpre τ h=>∃ (rest told:List Nat) (u:O) (t4 t5:Option D),τ=[some (.ref 0),some (.str (S rest)),some (jo most),some (.str (S told)),t4,t5]/\h=[u]/\Pen u (N+1+pre.length)/\told.length=pre.length/\(told++rest).length=all.length/\(told++rest).Nodup/\∀ c∈told++rest,c∈all)
  (List.range (1+r0).toNat) [some (.ref 0),some (.str (S all)),some (jo most),some (.str (S [])),none,none] [o1] ?_
  ⟨all,[],o1,none,none,rfl,rfl,P1,rfl,by simp,by simpa using nd0,by simp⟩
 ·obtain ⟨τ',h',e2,rest,told,u,t4,t5,rfl,rfl,P2,l1,l2,nd,sb⟩:=lo;rw [List.length_range] at P2 l1;refine ⟨told,u,by omega,by omega,(List.nodup_append.mp nd).1,λc hc=>sb c (List.mem_append_left _ hc),Dr.of rfl (an6 (dw _) (ie _)) P.clo (r:=.ok (.str (S told)) [u]) ?_ (v5 (dw _) (by simpa using ym (by omega) P2.clo)) (dw _) P2.clo,P2.up (by omega)⟩
  unfold gw;rw [jj];unfold a0w a08;simp only [List.map_cons,List.map_nil,List.length_cons,List.length_nil,Nat.reduceSub,Nat.reduceAdd,List.replicate,List.cons_append,List.nil_append];have c2:jt false 2 ao [.ref 0, .int (most:Nat)] [o]=_:=e1 0 [o] rfl;have em:("" : Str)=S []:=rfl;have bd:B62 (1+r0):=by unfold B62;omega
  have e2:forL (λ_=>True) (kN 4) (ul ao) (rng 0 (1+r0).toNat) [some (D.ref 0),some (D.str (S all)),some (jo most),some (D.str (S [])),none,none] [o1]=_:=e2
  walk_at "ev"
 ·rintro pre i post τ h al' ⟨rest,told,u,t4,t5,rfl,rfl,P2,l1,l2,nd,sb⟩
  have hlen:pre.length<(1+r0).toNat:=by
   have:=congrArg List.length al'
   simp at this;omega
  rw [List.length_append] at l2;obtain ⟨r,u',e2,ra,rb,P3⟩:=m7 (m:=(rest.length:Nat)) P2 (by omega) (by omega) (by omega)
  obtain ⟨j,rfl⟩:=Int.eq_ofNat_of_zero_le ra;have hj:j<rest.length:=by omega
  have gx:rest[j]? = some rest[j]:=List.getElem?_eq_getElem hj;have pp:=abf told rest j rest[j] gx;refine ⟨_,_,rfl,_,_,?_,rest.take j++rest.drop (j+1),told++[rest[j]],u',some (.int (0+(i:Nat))),some (.int (j:Nat)),rfl,rfl,by simpa [Nat.add_assoc] using P3,by simp [l1],?_,pp.nodup_iff.mp nd,λc hc=>sb c (pp.mem_iff.mpr hc)⟩
  ·unfold ul;have L:∀ n:Nat,n<=95->n<=LINE:=λn hn=>by show n<=16777216;omega
   have c2:=e2 0 [u] rfl;have x1:∀ h,gIx (.str (S rest)) (.int (j:Nat)) h = .ok (.str (S [rest[j]])) h:=λh=>alo (L _ (by omega)) gx
   have x2:∀ h,qg [.str (S rest)] h = .ok (.int rest.length) h:=λh=>a2m (L _ (by omega))
   have x3:∀ h,jb (.str (S told)) (.str (S [rest[j]])) h = .ok (.str (S (told++[rest[j]]))) h:=λh=>a9f (L _ (by simp;omega))
   have x4:∀ h,a3b (.str (S rest)) none (some (j:Int)) h = .ok (.str (S (rest.take j))) h:=λh=>alp j (L _ (by omega))
   have x5:∀ h,a3b (.str (S rest)) (some ((j:Int)+1)) none h = .ok (.str (S (rest.drop (j+1)))) h:=λh=>af5 (j+1) (L _ (by omega))
   have x6:∀ h,jb (.str (S (rest.take j))) (.str (S (rest.drop (j+1)))) h = .ok (.str (S (rest.take j++rest.drop (j+1)))) h:=λh=>a9f (L _ (by simp;omega))
   clear al' hlen
   walk_at "ev"
  ·rw [<-pp.length_eq];simpa using l2
end PN
namespace EVT
open PySem PySem.Spec L2 MI AT HND
section
variable{f g k f1 f2 f3:SE}{ka:SA}{c c1 c2:ST}{τ:Sd}{h h1 h2 h3:Hd}{a b d v:D}{i:Nat}{t u:Bool}{xs ys ds:List D}
theorem vo:cu τ h = .ok [] h:=rfl
theorem a6r:oN τ h = .ok none h:=rfl
theorem PuE{F:SF}{n:Nat}(p:Pu F n ds d):jt false n F ds h = .ok d h:=p h
theorem ahh{F:SF}{n:Nat}{o o':O}(p:Dr F n ds o d o'):jt false n F (.ref 0::ds) (o::h) = .ok d (o'::h):=p 0 (o::h) rfl
theorem a7g{n:Nat}(hv:n<xs.length):gIx (.rol xs) (.int (n:Nat)) h = .ok (xs.getD n .non) h:=apg (by rw [List.getD_eq_getElem?_getD,List.getElem?_eq_getElem hv];rfl)
theorem a9k{n:Nat}(hv:n<xs.length):gIx (.tup xs) (.int (n:Nat)) h = .ok (xs.getD n .non) h:=af8 (by rw [List.getD_eq_getElem?_getD,List.getElem?_eq_getElem hv];rfl)
theorem a5f{P:D->Prop}{n:Nat}(hv:n<xs.length)(al:∀ x∈xs,P x):P (xs.getD n .non):=by
 rw [List.getD_eq_getElem?_getD,List.getElem?_eq_getElem hv];exact al _ (List.getElem_mem hv)
theorem ju:qg [.tup xs] h = .ok (jo xs.length) h:=rfl
theorem a3r:qg [.rol xs] h = .ok (jo xs.length) h:=rfl
theorem an7(e:c τ h = .ok true h1)(e':f τ h1 = .ok d h2):a96 c f g τ h = .ok d h2:=by unfold a96;rw [e,dm,if_pos rfl,e']
theorem aly(e:c τ h = .ok false h1)(e':g τ h1 = .ok d h2):a96 c f g τ h = .ok d h2:=by unfold a96;rw [e,dm,if_neg (by simp),e']
theorem af9(e:f τ h=R.ok (D.ref h1.length) (h1++[.lst xs]))(hl:h1.length=h.length)(cx:clos 0 xs)(co:∀ o∈h1,qp 0 o):sZ f τ h = .ok (.rol xs) h1 :=
 PAP.a2r hl e (vh (Nat.zero_le _) cx) λo ho=>ym (Nat.zero_le _) (co o ho)
theorem zp(e:ka τ h = .ok ds h1)(hl:h1.length=h.length)(cd:clos 0 ds)(co:∀ o∈h1,qp 0 o)(z:ds.length<=1000000):sZ (sA MI.w6 ka) τ h = .ok (.rol ds) h1:=by
 refine af9 ?_ hl cd co;unfold sA;rw [e,dm];unfold MI.w6;exact if_pos (j7 z)
theorem a0z(e:f τ h = .ok (.tup xs) h1)(hl:h1.length=h.length)(cd:clos 0 xs)(co:∀ o∈h1,qp 0 o):sZ (sA a0c (aj f cu)) τ h = .ok (.rol xs) h1:=af9 (qi e rfl) hl cd co
theorem a1a{l:List Nat}(e:f τ h = .ok (.str (S l)) h1)(hl:h1.length=h.length)(co:∀ o∈h1,qp 0 o)(z:l.length<=1000000):sZ (sA a0c (aj f cu)) τ h = .ok (.rol (l.map λc=>.str (S [c]))) h1:=by
 refine af9 (qi e ?_) hl (kh λ_ _=>dw _) co;show (if (S l).length<=LINE then R.ok (D.ref h1.length) (h1++[O.lst (yj (S l))]) else R.no)=_
 rw [if_pos (j7 (by rw [a4t];exact z))]
 unfold yj;rw [a4s]
theorem a2s(e1:f τ h = .ok (.rol xs) h1)(e2:g τ h1 = .ok (.rol ys) h2)(hl:h2.length=h.length)(c1:clos 0 xs)(c2:clos 0 ys)(co:∀ o∈h2,qp 0 o)(z:xs.length+ys.length<=1000000):sZ (s2 jb f g) τ h = .ok (.rol (xs++ys)) h2:=by
 refine af9 (du e1 e2 ?_) hl (jg.mpr λx hx=>(List.mem_append.mp hx).elim (jg.mp c1 x) (jg.mp c2 x)) co;rw [a7e (xs:=xs) (ys:=ys) rfl rfl,if_pos (j7 z)]
theorem a2t{k:Int}(e1:f τ h = .ok (.rol xs) h1)(e2:g τ h1 = .ok (.int k) h2)(hl:h2.length=h.length)(c1:clos 0 xs)(co:∀ o∈h2,qp 0 o)(z:xs.length*k.toNat<=1000000)(zn : -1000000<=k/\k<=1000000):sZ (s2 wu f g) τ h = .ok (.rol (List.replicate k.toNat xs).flatten) h2:=by
 refine af9 (du e1 e2 ?_) hl (jg.mpr λx hx=>?_) co
 ·have:wu (.rol xs) (.int k) h2=if (-(2 ^ 63)<=k/\k<2 ^ 63)/\xs.length*k.toNat<=LINE then .ok (.ref h2.length) (h2++[.lst (List.replicate k.toNat xs).flatten]) else .no:=rfl
  rw [this,if_pos ⟨by omega,j7 z⟩]
 ·obtain ⟨l,hl,hx⟩:=List.mem_flatten.mp hx;rw [(List.mem_replicate.mp hl).2] at hx;exact jg.mp c1 x hx
theorem vg(co:∀ o∈h,qp 0 o):sZ ags τ h = .ok (.rod [] []) h:=by
 unfold sZ;show a3p h.length (.ok (.ref h.length) (h++[.dK []]))=_;rw [a2k (d':=.rod [] []) ?_ ?_]
 ·simp
 ·unfold FU a2z;rw [if_neg (by simp only [MI.clo];omega)]
  simp [zc]
 ·simp only [List.take_left'];exact λo ho=>ym (Nat.zero_le _) (co o ho)
theorem a1b{n:Nat}:(List.replicate n xs).flatten.length=n*xs.length:=by simp
theorem uo(c1:clos i xs)(c2:clos i ys):clos i (xs++ys):=jg.mpr λx hx=>(List.mem_append.mp hx).elim (jg.mp c1 x) (jg.mp c2 x)
theorem uy{n:Nat}(c:clos i xs):clos i (xs.take n):=jg.mpr λx hx=>jg.mp c x (List.mem_of_mem_take hx)
theorem uz{n:Nat}(c:clos i xs):clos i (xs.drop n):=jg.mpr λx hx=>jg.mp c x (List.mem_of_mem_drop hx)
theorem yx{n:Nat}(c:clos i xs):clos i (List.replicate n xs).flatten:=jg.mpr λx hx=>by
 obtain ⟨l,hl,hx⟩:=List.mem_flatten.mp hx;rw [(List.mem_replicate.mp hl).2] at hx;exact jg.mp c x hx
theorem yz{n:Nat}(c:clos i xs):clo i (xs.getD n .non):=by
 rw [List.getD_eq_getElem?_getD]
 cases e:xs[n]? with
 | none=>exact qd
 | some x=>exact jg.mp c x (List.mem_of_getElem? e)
theorem za:clo i (.rod [] []):=by simp [clo,clos]
theorem a1c:∀ u∈([]:List O),qp 0 u:=λu hu=>by cases hu
theorem vp{o:O}(c:qp 0 o):∀ u∈[o],qp 0 u:=λu hu=>by rw [List.mem_singleton] at hu;subst hu;exact c
end
def wth(ws:List D)(k:Nat)(d:D):List D:=ws.take k++[d]++ws.drop (k+1)
theorem zb{ws:List D}{k i:Nat}{d:D}(c:clos i ws)(cd:clo i d):clos i (wth ws k d):=uo (uo (uy c) (bz cd iy)) (uz c)
theorem aky{α:Type}(l:List α):a1n l none (some (-1))=l.take (l.length - 1):=by
 unfold a1n;rw [HT.a3x,List.drop_zero,Nat.sub_zero]
 congr 1
 unfold HT.sIx;simp;omega
theorem a9l(ys:List D)(hh:Hd):a3b (.tup ys) none (some (-1)) hh = .ok (.tup (ys.take (ys.length - 1))) hh:=by rw [PAP.an5,aky]
end EVT
namespace SHD
open PySem PySem.Spec L2 MI AT HND EVX
open PAP hiding gf a6p a6q vg a2r aof
local macro_rules | `(tactic| walk_at "c") => `(tactic| first | assumption | exact ie _ | (with_reducible exact EVT.za) | exact dw _ | exact xx _ | exact qd | exact iy | ((with_reducible apply bz)<;>walk_at "c") | ((with_reducible apply jw);walk_at "c") | ((with_reducible apply tu);walk_at "c") | ((with_reducible apply EVT.uo)<;>walk_at "c") | ((with_reducible apply EVT.uy);walk_at "c") | ((with_reducible apply EVT.uz);walk_at "c") | ((with_reducible apply EVT.yx);walk_at "c") | ((with_reducible apply EVT.yz);walk_at "c") | ((with_reducible apply EVT.zb)<;>walk_at "c") | exact kh fun _ _=>ie _ | exact kh fun _ _=>dw _)
local macro_rules | `(tactic| walk_at "h") => `(tactic| first | assumption | exact EVT.a1c | exact EVT.vp (by assumption))
local macro_rules | `(tactic| walk_at "z") => `(tactic| first | assumption | omega | (simp only [List.length_cons,List.length_nil,List.length_append,List.length_take,List.length_drop,List.length_map,List.length_singleton,EVT.a1b,Int.reduceToNat]<;>omega))
local macro_rules | `(tactic| walk_at "l") => `(tactic| first
 | (with_reducible assumption)
 | (with_reducible exact a6q) | (with_reducible exact a6p) | (with_reducible exact a6x) | (with_reducible exact ahg)
 | (with_reducible exact EVT.ju) | (with_reducible exact EVT.a3r)
 | ((with_reducible apply EVT.PuE);with_reducible assumption)
 | ((with_reducible apply EVT.ahh);with_reducible assumption)
 | (with_reducible exact EVT.a9l _ _) | (with_reducible exact PAP.ae2 _ _ _) | (with_reducible exact PAP.a0i _ _ _)
 | ((with_reducible apply PAP.a2q);walk_at "z")
 | ((with_reducible apply EVT.a7g);walk_at "z")
 | ((with_reducible apply EVT.a9k);walk_at "z")
 | (with_reducible exact a1l _ _) | (with_reducible exact a6o _) | (with_reducible exact je _)
 | ((with_reducible apply ac4);walk_at "z") | ((with_reducible apply abg);walk_at "z")
 | ((with_reducible apply ahe);walk_at "z") | ((with_reducible apply ahf);walk_at "z")
 | ((with_reducible apply a2p);walk_at "z") | ((with_reducible apply a3h);walk_at "z")
 | ((with_reducible apply a0y);walk_at "z") | ((with_reducible apply a1o);walk_at "z")
 | exact rfl)
local macro_rules | `(tactic| walk_at "x") => `(tactic| first
 | (with_reducible assumption)
 | (with_reducible exact cj _ _ _)
 | ((with_reducible apply bu);exact rfl)
 | (with_reducible exact EVT.vo) | (with_reducible exact EVT.a6r)
 | ((with_reducible apply EVT.zp);walk_at "x";exact rfl;walk_at "c";walk_at "h";walk_at "z")
 | ((with_reducible apply EVT.a0z);walk_at "x";exact rfl;walk_at "c";walk_at "h")
 | ((with_reducible apply EVT.a1a);walk_at "x";exact rfl;walk_at "h";walk_at "z")
 | ((with_reducible apply EVT.a2s);walk_at "x";walk_at "x";exact rfl;walk_at "c";walk_at "c";walk_at "h";walk_at "z")
 | ((with_reducible apply EVT.a2t);walk_at "x";walk_at "x";exact rfl;walk_at "c";walk_at "h";walk_at "z";walk_at "z")
 | ((with_reducible apply EVT.vg);walk_at "h")
 | ((with_reducible apply du);walk_at "x";walk_at "x";walk_at "l")
 | ((with_reducible apply af6);walk_at "x";walk_at "l")
 | ((with_reducible apply PAP.aof);walk_at "x";walk_at "l")
 | ((with_reducible apply PAP.gf);walk_at "x";walk_at "x")
 | ((with_reducible apply a5p);walk_at "x";walk_at "x";walk_at "x";walk_at "l")
 | ((with_reducible apply a5e);walk_at "x")
 | ((with_reducible apply tof);walk_at "x")
 | ((with_reducible apply o6);walk_at "x";walk_at "l")
 | ((with_reducible apply a0x);walk_at "x") | ((with_reducible apply a3q);walk_at "x")
 | ((with_reducible apply a3g);walk_at "x";walk_at "x") | ((with_reducible apply a6w);walk_at "x")
 | ((with_reducible apply orT);walk_at "x") | ((with_reducible apply orF);walk_at "x";walk_at "x"))
def Dr2(F:SF)(n:Nat)(ds:List D)(o p:O)(d:D)(o' p':O):Prop:=∀ i j h,i≠j->h[i]? = some o->h[j]? = some p->jt false n F (.ref i::.ref j::ds) h = .ok d ((h.set i o').set j p')
theorem Dr2.of{F:SF}{n:Nat}{ds:List D}{o o' p p':O}{r:R D}{d:D}(hn:ds.length+2=n)(cd:∀ x∈ds,clo 0 x)(co:qp 0 o)(cp:qp 0 p)(e:F (.ref 0::.ref 1::ds) [o,p]=r)(z:a3p 2 r = .ok d [o',p'])(c:clo 0 d)(co':qp 0 o')(cp':qp 0 p'):Dr2 F n ds o p d o' p':=λi j h ne hi hj=>by
 obtain ⟨p1,_,p3⟩:=a0e cd;have e1:yc (.ref i::.ref j::ds)=[i,j]:=by
  have:yc (.ref i::.ref j::ds)=i::j::yc ds:=rfl
  rw [this,p1]
 have e2:wg 0 (.ref i::.ref j::ds) = .ref 0::.ref 1::ds:=by
  have:wg 0 (.ref i::.ref j::ds) = .ref 0::.ref 1::wg 2 ds:=rfl
  rw [this,p3]
 unfold jt;rw [if_pos (by simpa using hn)]
 unfold ahz;rw [e1];simp only [zc,hi,hj,List.length_cons,List.length_nil,Bool.false_eq_true,if_false,Nat.zero_add,Nat.reduceAdd];have all:∀ x∈(D.ref i::.ref j::ds),clo 0 x\/isRef x:=λx hx=>by
  rcases List.mem_cons.mp hx with rfl | hx
  ·exact .inr ⟨i,rfl⟩
  rcases List.mem_cons.mp hx with rfl | hx
  ·exact .inr ⟨j,rfl⟩
  ·exact .inl (cd x hx)
 rw [if_pos ⟨by simp [ne],all,λu hu=>by simp only [List.mem_cons,List.not_mem_nil,or_false] at hu;rcases hu with rfl | rfl;exact co;exact cp⟩,e2,e,z]
 simp [c,co',cp',qm]
theorem an8{F:SF}{n:Nat}{ds:List D}{o o' p p':O}{d:D}{h:Hd}(q:Dr2 F n ds o p d o' p'):jt false n F (.ref 0::.ref 1::ds) (o::p::h) = .ok d (o'::p'::h):=q 0 1 (o::p::h) (by decide) rfl rfl
inductive Sh where
 | one (s:List Nat) | row (ps:List Sh) | eit (ps:List Sh) | many (p:Sh) | tim (p:Sh) (lo hi:Nat)
mutual
def sd:Sh->D
 | .one s=>.tup [.str "one", .str (S s)]
 | .row ps=>.tup [.str "row", .tup (sds ps)]
 | .eit ps=>.tup [.str "either", .tup (sds ps)]
 | .many p=>.tup [.str "many",sd p]
 | .tim p lo hi=>.tup [.str "times",sd p,jo lo,jo hi]
def sds:List Sh->List D
 | []=>[]
 | p::ps=>sd p::sds ps
end
theorem qe:∀ ps,sds ps=ps.map sd
 | []=>by rw [sds];rfl
 | p::ps=>by rw [sds,qe ps];rfl
def a3c(tg:List Nat):Nat->Sh->Prop
 | 0,_=>False
 | n+1,s=>match s with
  | .one s=>1<=s.length/\s.length<=6/\∀ c∈s,c∈tg
  | .row ps=>ps.length<=6/\∀ p∈ps,a3c tg n p
  | .eit ps=>1<=ps.length/\ps.length<=6/\∀ p∈ps,a3c tg n p
  | .many p=>a3c tg n p
  | .tim p lo hi=>lo<=hi/\hi<=4/\a3c tg n p
mutual
theorem sy:∀ p,MI.clo 0 (sd p)
 | .one s=>by rw [sd];exact jw (bz (dw _) (bz (dw _) iy))
 | .row ps=>by rw [sd];exact jw (bz (dw _) (bz (jw (xr ps)) iy))
 | .eit ps=>by rw [sd];exact jw (bz (dw _) (bz (jw (xr ps)) iy))
 | .many p=>by rw [sd];exact jw (bz (dw _) (bz (sy p) iy))
 | .tim p lo hi=>by rw [sd];exact jw (bz (dw _) (bz (sy p) (bz (ie _) (bz (ie _) iy))))
theorem xr:∀ ps,clos 0 (sds ps)
 | []=>by rw [sds];exact iy
 | p::ps=>by rw [sds];exact bz (sy p) (xr ps)
end
def bnd:Nat->Nat
 | 0=>200
 | d+1=>7*bnd d
theorem abk:∀ d,200<=bnd d
 | 0=>by decide
 | d+1=>by have:=abk d;rw [bnd];omega
noncomputable def dj:Nat->SF
 | 0=>λ_ _=>.no
 | n+1=>ou (ux (dj n) PN.gw PN.ao) 9
theorem yo(x:Int):qp 0 (.lst [.int x]):=bz (ie _) iy
theorem a1d{o p:O}(c:qp 0 o)(c':qp 0 p):∀ u∈[o,p],qp 0 u:=λu hu=>by
 simp only [List.mem_cons,List.not_mem_nil,or_false] at hu
 rcases hu with rfl | rfl
 ·exact c
 ·exact c'
theorem aph{d:D}{o p:O}{h:Hd}(c:MI.clo 0 d)(co:qp 0 o)(cp:qp 0 p):a3p 2 (.ok d (o::p::h)) = .ok d [o,p]:=v5 (a6k (by omega) c) (by
 intro u hu
 simp only [List.take_succ_cons,List.take_zero] at hu;exact ym (by omega) (a1d co cp u hu))
theorem api{a b c d:D}{h:Hd}:MI.qb [a,b,c,d] h = .ok (.tup [a,b,c,d]) h:=by unfold MI.qb;rw [if_pos (j7 (by simp))]
theorem yp{xs:List D}{h:Hd}:uv [.rol xs] h = .ok (.tup xs) h:=rfl
theorem ixp{o:O}{v:D}{h:Hd}:gIx (.ref 1) (.int 0) (o::.lst [v]::h) = .ok v (o::.lst [v]::h):=rfl
theorem putp{o:O}{v w:D}{h:Hd}:put (.ref 1) (.int 0) v (o::.lst [w]::h)=some (o::.lst [v]::h):=rfl
theorem subn{n:Nat}{h:Hd}:MI.a3d (.int ((n+1:Nat):Int)) (.int 1) h = .ok (jo n) h:=by
 rw [a1l,show ((n+1:Nat):Int) - 1=(n:Int) by omega]
theorem abl{x y:Int}{h:Hd}:jb (.int x) (.int y) h = .ok (.int (x+y)) h:=rfl
local macro_rules | `(tactic| walk_at "l") => `(tactic| first | ((with_reducible apply an8);with_reducible assumption) | (with_reducible exact ixp) | (with_reducible exact subn) | (with_reducible exact abl))
def Drawn(tg:List Nat)(n d:Nat):Prop:=∀ (o:O) (N:Nat) (x:Int),PN.Pen o N->N+bnd d<=900000000->0<=x->x<=23->∃ s o' x',a3c tg d s/\Dr2 (dj n) 4 [jo d, .str (S tg)] o (.lst [.int x]) (sd s) o' (.lst [.int x'])/\PN.Pen o' (N+bnd d)/\0<=x'/\x'<=23
def Res(tg:List Nat)(d N:Nat)(r:R D):Prop:=∃ s o' x',r = .ok (sd s) [o', .lst [.int x']]/\a3c tg d s/\PN.Pen o' N/\0<=x'/\x'<=23
theorem Res.tr{tg:List Nat}{d N:Nat}{r r':R D}(e:r=r')(q:Res tg d N r'):Res tg d N r:=e ▸ q
def ResF(tg:List Nat)(d N:Nat)(r:Fl):Prop:=∃ s o' x',r = .rt (sd s) [o', .lst [.int x']]/\a3c tg d s/\PN.Pen o' N/\0<=x'/\x'<=23
theorem ResF.tr{tg:List Nat}{d N:Nat}{r r':Fl}(e:r=r')(q:ResF tg d N r'):ResF tg d N r:=e ▸ q
theorem Res.br{tg:List Nat}{d N:Nat}{c:ST}{p q g:SS}{τ:Sd}{h h1:Hd}(e:c τ h = .ok true h1)(z:ResF tg d N (p τ h1)):Res tg d N (toR (jh (sIf c p q) g τ h)):=by
 obtain ⟨s,o',x',e',k⟩:=z;exact ⟨s,o',x',congrArg toR (km (Eq.trans (ifT e) e')),k⟩
theorem Res.to{tg:List Nat}{d N n:Nat}{o:O}{x:Int}{r:R D}(co:qp 0 o)(e:dj n [.ref 0, .ref 1,jo d, .str (S tg)] [o, .lst [.int x]]=r)(q:Res tg d N r):∃ s o' x',a3c tg d s/\Dr2 (dj n) 4 [jo d, .str (S tg)] o (.lst [.int x]) (sd s) o' (.lst [.int x'])/\PN.Pen o' N/\0<=x'/\x'<=23:=by
 obtain ⟨s,o',x',e',k,P,x0,x1⟩:=q;exact ⟨s,o',x',k,Dr2.of rfl (by simp [ie,dw]) co (yo _) (e.trans e') (aph (sy s) P.clo (yo _)) (sy s) P.clo (yo _),P,x0,x1⟩
theorem ae3{tg:List Nat}{n d:Nat}{o:O}{x:Int}:dj (n+1) [.ref 0, .ref 1,jo d, .str (S tg)] [o, .lst [.int x]]=toR (ux (dj n) PN.gw PN.ao [some (.ref 0),some (.ref 1),some (jo d),some (.str (S tg)),none,none,none,none,none] [o, .lst [.int x]]):=by
 show ou (ux (dj n) PN.gw PN.ao) 9 [.ref 0, .ref 1,jo d, .str (S tg)] [o, .lst [.int x]]=_;rw [jj];rfl
theorem third{tg:List Nat}{d N M:Nat}{o1:O}{x r':Int}{τ:Sd}{g:SS}(P1:PN.Pen o1 (N+1))(hN:N<=900000000)(x0:0<=x)(x1:x<=23)(hM:N+2<=M)
  (st4:∀ o2,PN.Pen o2 (N+2)->Res tg (d+1) M (toR (g (some (.ref 0)::some (.ref 1)::some (jo (d+1))::some (.str (S tg))::some (.int r')::τ) [o2, .lst [.int x]]))) :
  Res tg (d+1) M (toR (jh (sIf (a2y (sT (s2 hEq (sV 4) (sC (.int 9)))) (sT (s2 hEq (sA (jt false 2 PN.ao) (aj (sV 0) (aj (sC (.int 2)) cu))) (sC (.int 0))))) (mz (sA MI.qb (aj (sC (.str "row")) (aj (sA MI.qb cu) cu)))) sNx) g (some (.ref 0)::some (.ref 1)::some (jo (d+1))::some (.str (S tg))::some (.int r')::τ) [o1, .lst [.int x]])):=by
 by_cases h9:r'=9
 ·obtain ⟨q,o2,e2,q0,q1,P2⟩:=PN.m7 (m:=2) P1 (by omega) (by decide) (by decide)
  by_cases hq:q=0
  ·refine Res.tr (congrArg toR (km (Eq.trans (ifT (by walk_at "x")) (iw (by walk_at "x"))))) ?_
   exact ⟨.row [],o2,x,rfl,⟨by simp,by simp⟩,P2.up (by omega),x0,x1⟩
  ·exact Res.tr (congrArg toR (ifN (by walk_at "x"))) (st4 o2 P2)
 ·exact Res.tr (congrArg toR (ifN (a6w (by walk_at "x")))) (st4 o1 (P1.up (by omega)))
theorem a3s{tg:List Nat}(t1:1<=tg.length)(t6:tg.length<=6)(nd:tg.Nodup){n d:Nat}(hd:d<=4)(ih:0<d->Drawn tg n d):Drawn tg (n+1) (d+1):=by
 intro o N x P hN x0 x1
 have bl:=abk d;have be:bnd (d+1)=7*bnd d:=rfl;refine Res.to P.clo ae3 ?_;unfold ux;have ln:∀ h,qg [.str (S tg)] h = .ok (jo tg.length) h:=λh=>a2m (j7 (by omega))
 obtain ⟨r,o1,e1,r0,r1,P1⟩:=PN.m7 (m:=10) P (by omega) (by decide) (by decide)
 refine Res.tr (congrArg toR (nq (by walk_at "x"))) ?_
 have st2:∃ r':Int,0<=r'/\r'<10/\∀ g:SS,jh (sIf (a2y (sT (s2 hEq (sV 2) (sC (.int 5)))) (sT (s2 gLt (sV 4) (sC (.int 2))))) (p7 4 (s2 jb (sV 4) (sC (.int 4)))) sNx) g [some (.ref 0),some (.ref 1),some (jo (d+1)),some (.str (S tg)),some (.int r),none,none,none,none] [o1, .lst [.int x]]=g [some (.ref 0),some (.ref 1),some (jo (d+1)),some (.str (S tg)),some (.int r'),none,none,none,none] [o1, .lst [.int x]]:=by
  by_cases h5:((d+1:Nat):Int)=5/\r<2
  ·obtain ⟨h5,h2⟩:=h5;exact ⟨r+4,by omega,by omega,λg=>a9i (Eq.trans (ifT (by walk_at "x")) (alx (by walk_at "x")))⟩
  ·by_cases h6:((d+1:Nat):Int)=5
   ·have h2:¬ r<2:=λz=>h5 ⟨h6,z⟩;exact ⟨r,r0,r1,λg=>ifN (by walk_at "x")⟩
   ·exact ⟨r,r0,r1,λg=>ifN (a6w (by walk_at "x"))⟩
 obtain ⟨r',r0',r1',st2⟩:=st2;refine Res.tr (congrArg toR (st2 _)) ?_
 clear st2
 refine third P1 (by omega) x0 x1 (by omega) λo2 P2=>?_
 by_cases h1:d=0\/x<1\/r'<2
 ·obtain ⟨l,o3,l1,l2,l3,l4,e3,P3⟩:=PN.abj (most:=tg.length) P2 (by omega) t1 (Nat.le_refl _) (by omega) nd
  have c:sOr (sT (s2 hEq (sV 2) (sC (.int 1)))) (sOr (sT (s2 gLt (s2 gIx (sV 1) (sC (.int 0))) (sC (.int 1)))) (sT (s2 gLt (sV 4) (sC (.int 2))))) [some (.ref 0),some (.ref 1),some (jo (d+1)),some (.str (S tg)),some (.int r'),none,none,none,none] [o2, .lst [.int x]] = .ok true [o2, .lst [.int x]]:=by
   by_cases a:d=0
   ·exact orT (by walk_at "x")
   ·by_cases b:x<1
    ·exact orF (by walk_at "x") (orT (by walk_at "x"))
    ·have:r'<2:=by omega
     exact orF (by walk_at "x") (orF (by walk_at "x") (by walk_at "x"))
  have lg:=ln [o2, .lst [.int x]];refine Res.tr (congrArg toR (km (Eq.trans (ifT c) (iw (by walk_at "x"))))) ?_
  exact ⟨.one l,o3,x,rfl,⟨l1,by omega,l4⟩,P3.up (by omega),x0,x1⟩
 ·have d0:¬ d=0:=λz=>h1 (.inl z);have xp:¬ x<1:=λz=>h1 (.inr (.inl z));have rp:¬ r'<2:=λz=>h1 (.inr (.inr z));refine Res.tr (congrArg toR (ifN (orF (by walk_at "x") (orF (by walk_at "x") (by walk_at "x"))))) ?_
  have ih:=ih (by omega)
  obtain ⟨d,rfl⟩:∃ d',d=d'+1:=⟨d - 1,by omega⟩
  by_cases h4:r'<4
  ·obtain ⟨s,o3,x3,k3,e3,P3,y0,y1⟩:=ih o2 (N+2) (x - 1) P2 (by omega) (by omega) (by omega)
   refine Res.br (by walk_at "x") ?_
   refine ResF.tr (a9i (aha (by walk_at "x") (bu rfl) (cj _ _ _) putp)) ?_
   refine ResF.tr (nq (by walk_at "x")) ?_
   by_cases h2:r'=2
   ·exact ⟨.many s,o3,x3,km (Eq.trans (ifT (by walk_at "x")) (iw (by rw [sd];walk_at "x"))),k3,P3.up (by omega),y0,y1⟩
   ·refine ResF.tr (ifN (by walk_at "x")) ?_
    obtain ⟨lo,o4,e4,a0,a1,P4⟩:=PN.m7 (m:=5) P3 (by omega) (by decide) (by decide)
    refine ResF.tr (nq (by walk_at "x")) ?_
    obtain ⟨hi,o5,e5,b0,b1,P5⟩:=PN.m7 (m:=5 - lo) P4 (by omega) (by omega) (by omega)
    obtain ⟨lo,rfl⟩:=Int.eq_ofNat_of_zero_le a0;obtain ⟨hi,rfl⟩:=Int.eq_ofNat_of_zero_le b0;refine ⟨.tim s lo (lo+hi),o5,x3,iw ?_,⟨by omega,by omega,k3⟩,P5.up (by omega),y0,y1⟩
    have c1:sA (jt false 2 PN.ao) (aj (sV 0) (aj (s2 MI.a3d (sC (.int 5)) (sV 6)) cu)) [some (.ref 0),some (.ref 1),some (jo (d+1+1)),some (.str (S tg)),some (.int r'),some (sd s),some (.int lo),none,none] [o4, .lst [.int x3]] = .ok (.int hi) [o5, .lst [.int x3]]:=by walk_at "x"
    rw [sd];exact PAP.aof (PAP.gf (cj _ _ _) (PAP.gf (bu rfl) (PAP.gf (bu rfl) (PAP.gf (du (bu rfl) c1 abl) EVT.vo)))) api
  ·refine Res.tr (congrArg toR (ifN (by walk_at "x"))) ?_
   obtain ⟨q,o3,e3,q0,q1,P3⟩:=PN.m7 (m:=3) P2 (by omega) (by decide) (by decide)
   obtain ⟨q,rfl⟩:=Int.eq_ofNat_of_zero_le q0;have x3:∃ m:Int,1<m/\m<=6/\gIx (.rol [.int 2, .int 3, .int 6]) (.int (q:Nat)) [o3, .lst [.int x]] = .ok (.int m) [o3, .lst [.int x]]:=by
    rcases q with _ | _ | _ | q
    ·exact ⟨2,by decide,by decide,rfl⟩
    ·exact ⟨3,by decide,by decide,rfl⟩
    ·exact ⟨6,by decide,by decide,rfl⟩
    ·omega
   obtain ⟨m,m0,m1,x3⟩:=x3;obtain ⟨z,o4,e4,z0,z1,P4⟩:=PN.m7 (m:=m) P3 (by omega) (by omega) (by omega)
   obtain ⟨k,hk,k0,k1⟩:∃ k:Nat,a6b [.int x, .int (1+z)] [o4, .lst [.int x]] = .ok (jo k) [o4, .lst [.int x]]/\1<=k/\k<=6/\(k:Int)<=x:=by
    refine ⟨(if 1+z<x then 1+z else x).toNat,?_,?_⟩
    ·show R.ok (D.int (if 1+z<x then 1+z else x)) _=_
     rw [show jo (if 1+z<x then 1+z else x).toNat=D.int (if 1+z<x then 1+z else x) from congrArg D.int (by split<;>omega)]
    ·split<;>omega
   have hx:=k1.2;have k1:=k1.1;have cc:clos 0 [.int 2, .int 3, .int 6]:=bz (ie _) (bz (ie _) (bz (ie _) iy));have hc:∀ u∈[o2, .lst [.int x]],qp 0 u:=a1d P2.clo (yo _);refine Res.tr (congrArg toR (nq (by walk_at "x"))) ?_
   refine Res.tr (congrArg toR (a9i (aha (by walk_at "x") (bu rfl) (cj _ _ _) putp))) ?_
   have mp:=a4p (f:=a2g MI.t1 (ph (dj n) PN.gw PN.ao) [some (.ref 0),some (.ref 1),some (jo (d+1+1)),some (.str (S tg))]) jo
    (λpre ys h=>∃ (ss:List Sh) (o':O) (x':Int),ys=ss.map sd/\h=[o', .lst [.int x']]/\PN.Pen o' (N+2+1+1+pre.length*bnd (d+1))/\(∀ s∈ss,a3c tg (d+1) s)/\ss.length=pre.length/\0<=x'/\x'<=23)
    (List.range k) [] [] [o4, .lst [.int (x - k)]] ?_ ⟨[],o4,x - k,rfl,rfl,by simpa using P4,by simp,rfl,by omega,by omega⟩
   ·obtain ⟨zs,h',mp,ss,o5,x5,zq,rfl,P5,ks,sl,y0,y1⟩:=mp;simp only [List.nil_append] at zq;subst zq;simp only [List.nil_append,List.length_range] at P5 sl;have kb:k*bnd (d+1)<=6*bnd (d+1):=Nat.mul_le_mul_right _ k1;have zz:sZ (xj (sRg zy (aj (sV 7) cu)) MI.t1 (ph (dj n) PN.gw PN.ao) [0,1,2,3]) [some (.ref 0),some (.ref 1),some (jo (d+1+1)),some (.str (S tg)),some (.int r'),none,none,some (jo k),none] [o4, .lst [.int (x - k)]] = .ok (.rol (ss.map sd)) [o5, .lst [.int x5]]:=by
     refine EVT.af9 ?_ rfl (qe ss ▸ xr ss) (a1d P5.clo (yo _));unfold xj;rw [a5c (n:=k) (bu rfl) (j7 (by omega)),dm]
     dsimp only;rw [if_pos (j7 (by simp;omega))]
     show R.bind (mapR (λ_=>True) (a2g MI.t1 (ph (dj n) PN.gw PN.ao) [some (.ref 0),some (.ref 1),some (jo (d+1+1)),some (.str (S tg))]) ((List.range k).map jo) [o4, .lst [.int (x - k)]]) _=_;rw [mp];rfl
    refine Res.tr (congrArg toR (nq (qi zz yp))) ?_
    by_cases h6:r' > 6
    ·refine ⟨.eit ss,o5,x5,congrArg toR (iw ?_),⟨by omega,by omega,ks⟩,P5.up (by omega),y0,y1⟩
     rw [sd,qe];have g1:sA ac2 (aj (s2 gGt (sV 4) (sC (.int 6))) cu) [some (.ref 0),some (.ref 1),some (jo (d+1+1)),some (.str (S tg)),some (.int r'),none,none,some (jo k),some (.tup (ss.map sd))] [o5, .lst [.int x5]] = .ok (.int ((1:Nat):Int)) [o5, .lst [.int x5]]:=qi (du (bu rfl) (cj _ _ _) (ahe h6)) rfl;exact qw (du (EVT.zp (PAP.gf (cj _ _ _) (PAP.gf (cj _ _ _) EVT.vo)) rfl (bz (dw _) (bz (dw _) iy)) (a1d P5.clo (yo _)) (by decide)) g1 rfl) (bu rfl) a6x
    ·refine ⟨.row ss,o5,x5,congrArg toR (iw ?_),⟨by omega,ks⟩,P5.up (by omega),y0,y1⟩
     rw [sd,qe];have g1:sA ac2 (aj (s2 gGt (sV 4) (sC (.int 6))) cu) [some (.ref 0),some (.ref 1),some (jo (d+1+1)),some (.str (S tg)),some (.int r'),none,none,some (jo k),some (.tup (ss.map sd))] [o5, .lst [.int x5]] = .ok (.int ((0:Nat):Int)) [o5, .lst [.int x5]]:=qi (du (bu rfl) (cj _ _ _) (ahf h6)) rfl;exact qw (du (EVT.zp (PAP.gf (cj _ _ _) (PAP.gf (cj _ _ _) EVT.vo)) rfl (bz (dw _) (bz (dw _) iy)) (a1d P5.clo (yo _)) (by decide)) g1 rfl) (bu rfl) a6x
   ·rintro pre i post ys h al ⟨ss,o',x',rfl,rfl,P',ks,sl,y0,y1⟩
    have hl:pre.length<k:=by
     have:=congrArg List.length al
     simp at this;omega
    have kb:(pre.length+1)*bnd (d+1)<=6*bnd (d+1):=Nat.mul_le_mul_right _ (by omega)
    rw [Nat.succ_mul] at kb;obtain ⟨s,o5,x5,k5,e5,P5,w0,w1⟩:=ih o' _ x' P' (by omega) y0 y1
    refine ⟨sd s,[o5, .lst [.int x5]],?_,ss++[s],o5,x5,by simp,rfl,?_,?_,by simp [sl],w0,w1⟩
    ·rw [a5d];unfold ph
     walk_at "x"
    ·rw [List.length_append,List.length_singleton,Nat.succ_mul];exact P5.up (by omega)
    ·intro u hu
     rcases List.mem_append.mp hu with hu | hu
     ·exact ks u hu
     ·rw [List.mem_singleton.mp hu];exact k5
theorem a8l{tg:List Nat}(t1:1<=tg.length)(t6:tg.length<=6)(nd:tg.Nodup):∀ (d n:Nat),d<=4->d<=n->Drawn tg (n+1) (d+1)
 | 0,n,_,_=>a3s t1 t6 nd (by omega) λz=>absurd z (by omega)
 | d+1,0,_,h=>absurd h (by omega)
 | d+1,n+1,h,h'=>a3s t1 t6 nd h λ_=>a8l t1 t6 nd d n (by omega) (by omega)
end SHD
namespace K76
open PySem PySem.Spec L2 MI
end K76
namespace K76
open PySem PySem.Spec L2 MI AT HND
theorem akz:∀ ls:List (List Nat),Txt.join (S []) (ls.map S)=S ls.flatten:=by
 have e:∀ zs:List Str,Txt.join (S []) zs=Str.join (S []) zs:=PySem.StrLaws.glued_eq_join (S []);have st:∀ (x y:Str) (r:List Str),Str.join (S []) (x::y::r)=x++S []++Str.join (S []) (y::r):=λ_ _ _=>rfl
 intro ls
 rw [e]
 induction ls with
 | nil=>rfl
 | cons l ls ih =>
  cases ls with
  | nil=>rw [List.map_cons,List.map_nil,List.flatten_cons,List.flatten_nil,List.append_nil];rfl
  | cons m ls =>
   rw [List.map_cons,List.map_cons,st,<-List.map_cons,ih,ah8,ah8,List.append_nil,List.flatten_cons (l:=l)]
theorem afa:∀ ls:List (List Nat),a7a (ls.map λl=>D.str (S l))=some (ls.map S)
 | []=>rfl
 | l::ls=>by
  show (a7a (ls.map λl=>D.str (S l))).map _=_;rw [afa ls];rfl
theorem apj(ls:List (List Nat)):((ls.map S).map (·.length)).sum=ls.flatten.length:=by
 induction ls with
 | nil=>rfl
 | cons l ls ih=>rw [List.map_cons,List.map_cons,List.sum_cons,ih,List.flatten_cons,List.length_append,a4t]
theorem afb{ls:List (List Nat)}{h:Hd}(z:ls.flatten.length<=1000000):a9a (.str (S [])) [.rol (ls.map λl=>.str (S l))] h = .ok (.str (S ls.flatten)) h:=by
 unfold a9a;simp only [afa,apj,a4t,List.length_nil,Nat.mul_zero,Nat.add_zero,akz];rw [if_pos (by omega)]
theorem aoa{g:D->List D->Hd->R D}{f:SE}{k:SA}{τ:Sd}{h h1 h2 h3:Hd}{z:Str}{ds:List D}{v:D}(e1:f τ h = .ok (.str z) h1)(e2:k τ h1 = .ok ds h2)(e3:g (.str z) ds h2 = .ok v h3):sMS g f k τ h = .ok v h3:=by
 unfold sMS;rw [e1,dm];dsimp only;rw [e2,dm,e3]
end K76
namespace SHD
open PySem PySem.Spec L2 MI AT HND EVX
open PAP hiding gf a6p a6q vg a2r aof
local macro_rules | `(tactic| walk_at "c") => `(tactic| first | assumption | exact ie _ | (with_reducible exact EVT.za) | exact dw _ | exact xx _ | exact qd | exact iy | ((with_reducible apply bz)<;>walk_at "c") | ((with_reducible apply jw);walk_at "c") | ((with_reducible apply tu);walk_at "c") | ((with_reducible apply EVT.uo)<;>walk_at "c") | ((with_reducible apply EVT.uy);walk_at "c") | ((with_reducible apply EVT.uz);walk_at "c") | ((with_reducible apply EVT.yx);walk_at "c") | ((with_reducible apply EVT.yz);walk_at "c") | ((with_reducible apply EVT.zb)<;>walk_at "c") | exact kh fun _ _=>ie _ | exact kh fun _ _=>dw _)
local macro_rules | `(tactic| walk_at "h") => `(tactic| first | assumption | exact EVT.a1c | exact EVT.vp (by assumption))
local macro_rules | `(tactic| walk_at "z") => `(tactic| first | assumption | omega | (simp only [List.length_cons,List.length_nil,List.length_append,List.length_take,List.length_drop,List.length_map,List.length_singleton,EVT.a1b,Int.reduceToNat]<;>omega))
local macro_rules | `(tactic| walk_at "l") => `(tactic| first
 | (with_reducible assumption)
 | (with_reducible exact a6q) | (with_reducible exact a6p) | (with_reducible exact a6x) | (with_reducible exact ahg)
 | (with_reducible exact EVT.ju) | (with_reducible exact EVT.a3r)
 | ((with_reducible apply EVT.PuE);with_reducible assumption)
 | ((with_reducible apply EVT.ahh);with_reducible assumption)
 | (with_reducible exact EVT.a9l _ _) | (with_reducible exact PAP.ae2 _ _ _) | (with_reducible exact PAP.a0i _ _ _)
 | ((with_reducible apply PAP.a2q);walk_at "z")
 | ((with_reducible apply EVT.a7g);walk_at "z")
 | ((with_reducible apply EVT.a9k);walk_at "z")
 | (with_reducible exact a1l _ _) | (with_reducible exact a6o _) | (with_reducible exact je _)
 | ((with_reducible apply ac4);walk_at "z") | ((with_reducible apply abg);walk_at "z")
 | ((with_reducible apply ahe);walk_at "z") | ((with_reducible apply ahf);walk_at "z")
 | ((with_reducible apply a2p);walk_at "z") | ((with_reducible apply a3h);walk_at "z")
 | ((with_reducible apply a0y);walk_at "z") | ((with_reducible apply a1o);walk_at "z")
 | exact rfl)
local macro_rules | `(tactic| walk_at "x") => `(tactic| first
 | (with_reducible assumption)
 | (with_reducible exact cj _ _ _)
 | ((with_reducible apply bu);exact rfl)
 | (with_reducible exact EVT.vo) | (with_reducible exact EVT.a6r)
 | ((with_reducible apply EVT.zp);walk_at "x";exact rfl;walk_at "c";walk_at "h";walk_at "z")
 | ((with_reducible apply EVT.a0z);walk_at "x";exact rfl;walk_at "c";walk_at "h")
 | ((with_reducible apply EVT.a1a);walk_at "x";exact rfl;walk_at "h";walk_at "z")
 | ((with_reducible apply EVT.a2s);walk_at "x";walk_at "x";exact rfl;walk_at "c";walk_at "c";walk_at "h";walk_at "z")
 | ((with_reducible apply EVT.a2t);walk_at "x";walk_at "x";exact rfl;walk_at "c";walk_at "h";walk_at "z";walk_at "z")
 | ((with_reducible apply EVT.vg);walk_at "h")
 | ((with_reducible apply du);walk_at "x";walk_at "x";walk_at "l")
 | ((with_reducible apply af6);walk_at "x";walk_at "l")
 | ((with_reducible apply PAP.aof);walk_at "x";walk_at "l")
 | ((with_reducible apply PAP.gf);walk_at "x";walk_at "x")
 | ((with_reducible apply a5p);walk_at "x";walk_at "x";walk_at "x";walk_at "l")
 | ((with_reducible apply a5e);walk_at "x")
 | ((with_reducible apply tof);walk_at "x")
 | ((with_reducible apply o6);walk_at "x";walk_at "l")
 | ((with_reducible apply a0x);walk_at "x") | ((with_reducible apply a3q);walk_at "x")
 | ((with_reducible apply a3g);walk_at "x";walk_at "x") | ((with_reducible apply a6w);walk_at "x")
 | ((with_reducible apply orT);walk_at "x") | ((with_reducible apply orF);walk_at "x";walk_at "x"))
section
variable{a b c d:D}{xs:List D}{h:Hd}
theorem ix0:gIx (.tup (a::xs)) (.int 0) h = .ok a h:=af8 (j:=0) rfl
theorem ix1:gIx (.tup (a::b::xs)) (.int 1) h = .ok b h:=af8 (j:=1) rfl
theorem ix2:gIx (.tup (a::b::c::xs)) (.int 2) h = .ok c h:=af8 (j:=2) rfl
theorem ix3:gIx (.tup (a::b::c::d::xs)) (.int 3) h = .ok d h:=af8 (j:=3) rfl
theorem ai1{x:Str}:hEq (.str x) (.str x) h = .ok (.bl true) h:=by rw [ady,beq_self_eq_true]
theorem a5q{x y:Str}(e:(x == y)=false):hEq (.str x) (.str y) h = .ok (.bl false) h:=by rw [ady,e]
theorem ahi{x y:Str}(e:(x == y)=false):hNe (.str x) (.str y) h = .ok (.bl true) h:=by rw [ako,e];rfl
theorem ahj{x:Str}:hNe (.str x) (.str x) h = .ok (.bl false) h:=by rw [ako,beq_self_eq_true];rfl
end
local macro_rules | `(tactic| walk_at "l") => `(tactic| first | (with_reducible exact SHD.ix0) | (with_reducible exact SHD.ix1) | (with_reducible exact SHD.ix2) | (with_reducible exact SHD.ix3) | (with_reducible exact SHD.ai1) | ((with_reducible apply SHD.a5q);exact (by decide)) | (with_reducible exact SHD.ahj) | ((with_reducible apply SHD.ahi);exact (by decide)) | (with_reducible exact SHD.abl) | (with_reducible exact SHD.yp))
inductive All2 {α β:Type} (Q:α->β->Prop):List α->List β->Prop
 | nil:All2 Q [] []
 | cons {x:α} {y:β} {xs:List α} {ys:List β} (h:Q x y) (t:All2 Q xs ys):All2 Q (x::xs) (y::ys)
theorem All2.snoc{α β:Type}{Q:α->β->Prop}{x:α}{y:β}(h:Q x y):∀ {xs:List α} {ys:List β},All2 Q xs ys->All2 Q (xs++[x]) (ys++[y])
 | _,_, .nil=>.cons h .nil
 | _,_, .cons q t=>.cons q (All2.snoc h t)
theorem All2.len{α β:Type}{Q:α->β->Prop}:∀ {xs:List α} {ys:List β},All2 Q xs ys->ys.length=xs.length
 | _,_, .nil=>rfl
 | _,_, .cons _ t=>by rw [List.length_cons,List.length_cons,t.len]
theorem All2.rt{α β:Type}{Q:α->β->Prop}:∀ {xs:List α} {ys:List β},All2 Q xs ys->∀ y∈ys,∃ x∈xs,Q x y
 | _,_, .nil,y,hy=>by cases hy
 | _,_, .cons q t,y,hy=>by
  rcases List.mem_cons.mp hy with rfl | hy
  ·exact ⟨_,List.mem_cons_self,q⟩
  ·obtain ⟨x,hx,q⟩:=t.rt y hy;exact ⟨x,List.mem_cons_of_mem _ hx,q⟩
theorem All2.imp{α β:Type}{Q R:α->β->Prop}(i:∀ x y,Q x y->R x y):∀ {xs:List α} {ys:List β},All2 Q xs ys->All2 R xs ys
 | _,_, .nil=>.nil
 | _,_, .cons q t=>.cons (i _ _ q) (t.imp i)
theorem a8m{α β:Type}{fi:SI}{t:D->Option Sd}{fe:SE}{ix:List Nat}{τ:Sd}{o:O}{hs:Hd}(xs:List α)(g:α->D)(k:β->D)(Q:α->β->Prop){N B M:Nat}(P:PN.Pen o N)(hM:N+xs.length*B<=M)(z:xs.length<=1000000)(ch:∀ u∈hs,qp 0 u)
  (e:fi τ (o::hs) = .ok ⟨xs.map g,λ_=>True⟩ (o::hs)) (st:∀ x∈xs,∀ o N,PN.Pen o N->N+B<=M->∃ y o',a2g t fe (frs' ix τ) (g x) (o::hs) = .ok (k y) (o'::hs)/\MI.clo 0 (k y)/\Q x y/\PN.Pen o' (N+B)) :
  ∃ ys o',sZ (xj fi t fe ix) τ (o::hs) = .ok (.rol (ys.map k)) (o'::hs)/\All2 Q xs ys/\PN.Pen o' (N+xs.length*B)/\clos 0 (ys.map k):=by
 have mp:=a4p (f:=a2g t fe (frs' ix τ)) g (λpre zs h=>∃ (ys:List β) (o':O),zs=ys.map k/\h=o'::hs/\PN.Pen o' (N+pre.length*B)/\All2 Q pre ys/\clos 0 (ys.map k)) xs [] [] (o::hs) ?_ ⟨[],o,rfl,rfl,by simpa using P, .nil,iy⟩
 ·obtain ⟨zs,h',mp,ys,o',zq,rfl,P',q,cl⟩:=mp;simp only [List.nil_append] at zq P' q;subst zq;refine ⟨ys,o',EVT.af9 ?_ rfl cl (λu hu=>?_),q,P',cl⟩
  ·unfold xj;rw [e,dm];dsimp only;rw [if_pos (j7 (by rw [List.length_map];exact z)),mp]
   rfl
  ·rcases List.mem_cons.mp hu with rfl | hu
   ·exact P'.clo
   ·exact ch u hu
 ·rintro pre x post zs h al ⟨ys,o',rfl,rfl,P',q,cl⟩
  have al:xs=pre++x::post:=al;have hl:pre.length+1<=xs.length:=by rw [al];simp
  have kb:(pre.length+1)*B<=xs.length*B:=Nat.mul_le_mul_right _ hl;rw [Nat.succ_mul] at kb;obtain ⟨y,o'',e',cy,qy,P''⟩:=st x (by rw [al];simp) o' _ P' (by omega)
  refine ⟨k y,o''::hs,e',ys++[y],o'',by simp,rfl,?_,q.snoc qy,?_⟩
  ·rw [List.length_append,List.length_singleton,Nat.succ_mul];exact P''.up (by omega)
  ·rw [List.map_append];exact EVT.uo cl (bz cy iy)
def ahk(y:Str):D->Bool
 | .str x=>x == y
 | _=>false
def wks(f:Sh->D->Option (List Nat)):List Sh->List D->Option (List Nat)
 | [],[]=>some []
 | p::ps,q::qs=>match f p q,wks f ps qs with
  | some x,some y=>some (x++y)
  | _,_=>none
 | _,_=>none
def ahl(s:List Nat):D->Option (List Nat)
 | .str x=>match x.cps.toList with
  | [c]=>if c∈s then some [c] else none
  | _=>none
 | _=>none
def abm(f:List D->Option (List Nat)):D->Option (List Nat)
 | .tup qs=>f qs
 | _=>none
def ahm(f:Nat->D->Option (List Nat))(n:Nat)(k:D)(q:D):Option (List Nat):=match k with
 | .int i=>if 0<=i/\i<(n:Int) then f i.toNat q else none
 | _=>none
def two(y:Str)(f:D->Option (List Nat)):D->Option (List Nat)
 | .tup [a,b]=>if ahk y a=true then f b else none
 | _=>none
def three(y:Str)(f:D->D->Option (List Nat)):D->Option (List Nat)
 | .tup [a,b,c]=>if ahk y a=true then f b c else none
 | _=>none
def wk:Nat->Sh->D->Option (List Nat)
 | 0,_,_=>none
 | n+1,s,p=>match s with
  | .one s=>two "one" (ahl s) p
  | .row ps=>two "row" (abm λqs=>wks (wk n) ps qs) p
  | .eit ps=>three "either" (ahm (λi q=>(ps[i]?).bind λs=>wk n s q) ps.length) p
  | .many s=>two "many" (abm λqs=>wks (wk n) (List.replicate qs.length s) qs) p
  | .tim s lo hi=>two "times" (abm λqs=>if lo<=qs.length/\qs.length<=hi then wks (wk n) (List.replicate qs.length s) qs else none) p
inductive Pa where
 | one (c:Nat) | eit (k:Nat) (p:Pa) | lst (h:Nat) (ps:List Pa)
def hn:Nat->Str
 | 0 => "row"
 | 1 => "many"
 | _ => "times"
mutual
def pd:Pa->D
 | .one c=>.tup [.str "one", .str (S [c])]
 | .eit k p=>.tup [.str "either",jo k,pd p]
 | .lst h ps=>.tup [.str (hn h), .tup (pds ps)]
def pds:List Pa->List D
 | []=>[]
 | p::ps=>pd p::pds ps
end
mutual
def sw:Pa->List Nat
 | .one c=>[c]
 | .eit _ p=>sw p
 | .lst _ ps=>sws ps
def sws:List Pa->List Nat
 | []=>[]
 | p::ps=>sw p++sws ps
end
theorem a01:∀ ps,pds ps=ps.map pd
 | []=>by rw [pds];rfl
 | p::ps=>by rw [pds,a01 ps];rfl
theorem a5g:∀ ps,sws ps=(ps.map sw).flatten
 | []=>by rw [sws];rfl
 | p::ps=>by rw [sws,a5g ps];rfl
mutual
theorem a1m:∀ p,MI.clo 0 (pd p)
 | .one s=>by rw [pd];exact jw (bz (dw _) (bz (dw _) iy))
 | .eit k p=>by rw [pd];exact jw (bz (dw _) (bz (ie _) (bz (a1m p) iy)))
 | .lst h ps=>by rw [pd];exact jw (bz (dw _) (bz (jw (abn ps)) iy))
theorem abn:∀ ps,clos 0 (pds ps)
 | []=>by rw [pds];exact iy
 | p::ps=>by rw [pds];exact bz (a1m p) (abn ps)
end
def POk(tg:List Nat):Nat->Pa->Prop
 | 0,_=>False
 | n+1,p=>match p with
  | .one c=>c∈tg
  | .eit k p=>k<=5/\POk tg n p
  | .lst h ps=>h<=2/\ps.length<=6/\∀ p∈ps,POk tg n p
theorem a8n{f:Sh->D->Option (List Nat)}:∀ {ss:List Sh} {ps:List Pa},All2 (λs p=>f s (pd p)=some (sw p)) ss ps->wks f ss (pds ps)=some (sws ps)
 | _,_, .nil=>by rw [pds,sws];rfl
 | _,_, .cons q t=>by
  rw [pds,sws,wks,q,a8n t]
theorem a5h{α β:Type}{Q:α->β->Prop}{x:α}:∀ {ys:List β},(∀ y∈ys,Q x y)->All2 Q (List.replicate ys.length x) ys
 | [],_=>.nil
 | y::ys,h=>by
  rw [List.length_cons,List.replicate_succ];exact .cons (h y List.mem_cons_self) (a5h λz hz=>h z (List.mem_cons_of_mem _ hz))
theorem a02(ps:List Pa):(pds ps).length=ps.length:=by rw [a01,List.length_map]
noncomputable def dh:Nat->SF
 | 0=>λ_ _=>.no
 | n+1=>ou (qu (dh n) PN.ao) 6
def a5i(tg:List Nat)(n d:Nat):Prop:=∀ s,a3c tg d s->∀ (o:O) (N:Nat),PN.Pen o N->N+bnd d<=900000000->∃ p o',Dr (dh n) 2 [sd s] o (pd p) o'/\POk tg d p/\wk d s (pd p)=some (sw p)/\PN.Pen o' (N+bnd d)
theorem ae4{n:Nat}{s:D}{o:O}:dh (n+1) [.ref 0,s] [o]=toR (qu (dh n) PN.ao [some (.ref 0),some s,none,none,none,none] [o]):=by
 show ou (qu (dh n) PN.ao) 6 [.ref 0,s] [o]=_;rw [jj];rfl
theorem apk{d:D}{o:O}(c:MI.clo 0 d)(co:qp 0 o):a3p 1 (.ok d [o]) = .ok d [o]:=v5 (a6k (by omega) c) (by
 intro u hu
 simp only [List.take_succ_cons,List.take_zero,List.mem_singleton] at hu;subst hu;exact ym (by omega) co)
theorem dr1{F:SF}{n:Nat}{ds:List D}{o o':O}{d:D}(hn:ds.length+1=n)(cd:∀ x∈ds,MI.clo 0 x)(co:qp 0 o)(e:F (.ref 0::ds) [o] = .ok d [o'])(c:MI.clo 0 d)(co':qp 0 o'):Dr F n ds o d o':=Dr.of hn cd co e (apk c co') c co'
theorem again{tg:List Nat}{n d N k:Nat}{s:Sh}{o1:O}{h:Str}{rest:List D}{r hi:Int}(ih:a5i tg n d)(k6:k<=6)(ks:a3c tg d s)(P1:PN.Pen o1 N)(hN:N+6*bnd d<=900000000) :
  ∃ bs o2,sZ (xj (sRg zy (aj (sV 5) cu)) MI.t1 (rm (dh n) PN.ao) [0,1]) [some (.ref 0),some (.tup (.str h::sd s::rest)),none,some (.int r),some (.int hi),some (jo k)] [o1] = .ok (.rol (bs.map pd)) [o2]/\All2 (λ(_:Nat) p=>POk tg d p/\wk d s (pd p)=some (sw p)) (List.range k) bs/\PN.Pen o2 (N+k*bnd d)/\clos 0 (bs.map pd):=by
 obtain ⟨bs,o2,e,q,P2,cl⟩:=a8m (hs:=[]) (fi:=sRg zy (aj (sV 5) cu)) (t:=MI.t1) (fe:=rm (dh n) PN.ao) (ix:=[0,1]) (τ:=[some (.ref 0),some (.tup (.str h::sd s::rest)),none,some (.int r),some (.int hi),some (jo k)]) (B:=bnd d) (M:=N+6*bnd d) (List.range k) jo pd (λ_ p=>POk tg d p/\wk d s (pd p)=some (sw p)) P1 (by rw [List.length_range];exact Nat.add_le_add_left (Nat.mul_le_mul_right _ k6) _) (by rw [List.length_range];omega) (by simp)
  (a5c (n:=k) (bu rfl) (j7 (by omega))) (λx hx o N P' hN'=>by
   obtain ⟨p,o2,e2,k',w',P2⟩:=ih s ks o N P' (by omega)
   refine ⟨p,o2,?_,a1m p,⟨k',w'⟩,P2⟩;rw [a5d];unfold rm;show sA (jt false 2 (dh n)) (aj (sV 1) (aj (s2 gIx (sV 2) (sC (.int 1))) cu)) [some (jo x),some (.ref 0),some (.tup (.str h::sd s::rest))] [o]=_
   walk_at "x")
 rw [List.length_range] at P2;exact ⟨bs,o2,e,q,P2,cl⟩
theorem a9m{tg:List Nat}{n d:Nat}(ih:a5i tg n d):a5i tg (n+1) (d+1):=by
 intro s ks o N P hN
 have bl:=abk d;have be:bnd (d+1)=7*bnd d:=rfl;have one1:∀ x∈[sd s],MI.clo 0 x:=λx hx=>by rw [List.mem_singleton.mp hx];exact sy s
 suffices q:∃ p o',toR (qu (dh n) PN.ao [some (.ref 0),some (sd s),none,none,none,none] [o]) = .ok (pd p) [o']/\POk tg (d+1) p/\wk (d+1) s (pd p)=some (sw p)/\PN.Pen o' (N+bnd (d+1)) by
  obtain ⟨p,o',e,k,w,P'⟩:=q;exact ⟨p,o',dr1 rfl one1 P.clo (ae4.trans e) (a1m p) P'.clo,k,w,P'⟩
 clear one1
 unfold qu
 cases s with
 | one s =>
  obtain ⟨k1,k2,k3⟩:=ks;rw [sd];obtain ⟨r,o1,e1,r0,r1,P1⟩:=PN.m7 (m:=(s.length:Int)) P (by omega) (by omega) (by omega)
  obtain ⟨r,rfl⟩:=Int.eq_ofNat_of_zero_le r0;have hr:r<s.length:=by omega
  have ln:qg [.str (S s)] [o] = .ok (jo s.length) [o]:=a2m (j7 (by omega))
  have x1:gIx (.str (S s)) (.int (r:Nat)) [o1] = .ok (.str (S [s[r]])) [o1]:=alo (j7 (by omega)) (List.getElem?_eq_getElem hr)
  refine ⟨.one s[r],o1,congrArg toR (km (Eq.trans (ifT (by walk_at "x")) (iw (by rw [pd];walk_at "x")))),k3 _ (List.getElem_mem hr),?_,P1.up (by omega)⟩
  rw [pd,sw];show (if ahk "one" (.str "one")=true then ahl s (.str (S [s[r]])) else none)=_
  rw [if_pos (by decide)]
  show (if s[r]∈s then some [s[r]] else none)=_
  rw [if_pos (List.getElem_mem hr)]
 | eit ps =>
  obtain ⟨k1,k2,k3⟩:=ks;rw [sd,qe];obtain ⟨r,o1,e1,r0,r1,P1⟩:=PN.m7 (m:=(ps.length:Int)) P (by omega) (by omega) (by omega)
  obtain ⟨r,rfl⟩:=Int.eq_ofNat_of_zero_le r0;have hr:r<ps.length:=by omega
  obtain ⟨p,o2,e2,k',w',P2⟩:=ih ps[r] (k3 _ (List.getElem_mem hr)) o1 _ P1 (by omega)
  have ln:qg [.tup (ps.map sd)] [o] = .ok (jo ps.length) [o]:=by rw [EVT.ju,List.length_map]
  have x1:gIx (.tup (ps.map sd)) (.int (r:Nat)) [o1] = .ok (sd ps[r]) [o1]:=af8 (by rw [List.getElem?_map,List.getElem?_eq_getElem hr];rfl)
  refine ⟨.eit r p,o2,?_,⟨by omega,k'⟩,?_,P2.up (by omega)⟩
  ·refine Eq.trans (congrArg toR (ifN (by walk_at "x"))) (congrArg toR (km (Eq.trans (ifT (by walk_at "x")) (Eq.trans (nq (by walk_at "x")) (iw (by rw [pd];walk_at "x"))))))
  ·rw [pd,sw];show (if ahk "either" (.str "either")=true then ahm (λi q=>(ps[i]?).bind λs=>wk d s q) ps.length (jo r) (pd p) else none)=_
   rw [if_pos (by decide)]
   show (if 0<=(r:Int)/\(r:Int)<(ps.length:Int) then (ps[(r:Int).toNat]?).bind λs=>wk d s (pd p) else none)=_
   rw [if_pos ⟨by omega,by omega⟩,Int.toNat_natCast,List.getElem?_eq_getElem hr]
   exact w'
 | row ps =>
  obtain ⟨k1,k2⟩:=ks;rw [sd,qe];obtain ⟨bs,o1,e1,q,P1,cl⟩:=a8m (hs:=[]) (fi:=sIt (s2 gIx (sV 1) (sC (.int 1)))) (t:=MI.t1) (fe:=vm (dh n) PN.ao) (ix:=[0]) (τ:=[some (.ref 0),some (.tup [.str "row", .tup (ps.map sd)]),none,none,none,none]) (B:=bnd d) (M:=N+6*bnd d) ps sd pd (λs p=>POk tg d p/\wk d s (pd p)=some (sw p)) P (Nat.add_le_add_left (Nat.mul_le_mul_right _ k1) _) (by omega) (by simp)
   (an2 (by walk_at "x") rfl) (λx hx o N P' hN'=>by
    obtain ⟨p,o2,e2,k',w',P2⟩:=ih x (k2 x hx) o N P' (by omega)
    refine ⟨p,o2,?_,a1m p,⟨k',w'⟩,P2⟩;rw [a5d];unfold vm;show sA (jt false 2 (dh n)) (aj (sV 1) (aj (sV 0) cu)) [some (sd x),some (.ref 0)] [o]=_
    walk_at "x")
  refine ⟨.lst 0 bs,o1,?_,⟨by omega,by rw [q.len];exact k1,λp hp=>by obtain ⟨x,_,k,_⟩:=q.rt p hp;exact k⟩,?_,P1.up (by have:=Nat.mul_le_mul_right (bnd d) k1;omega)⟩
  ·refine Eq.trans (congrArg toR (ifN (by walk_at "x"))) (Eq.trans (congrArg toR (ifN (by walk_at "x"))) (congrArg toR (km (Eq.trans (ifT (by walk_at "x")) (iw (by rw [pd,a01];show _=R.ok (D.tup [.str "row", .tup (bs.map pd)]) _;walk_at "x"))))))
  ·rw [pd,sw];show (if ahk "row" (.str "row")=true then wks (wk d) ps (pds bs) else none)=_
   rw [if_pos (by decide)]
   exact a8n (q.imp λ_ _ z=>z.2)
 | many s =>
  rw [sd];obtain ⟨r,o1,e1,r0,r1,P1⟩:=PN.m7 (m:=3 - 0+1) P (by omega) (by decide) (by decide)
  obtain ⟨k,hk⟩:∃ k:Nat,0+r=(k:Int):=⟨r.toNat,by omega⟩
  obtain ⟨bs,o2,e2,q,P2,cl⟩:=again ih (by omega) (h := "many") (rest:=[]) (r:=0) (hi:=3) (k:=k) ks P1 (by omega)
  refine ⟨.lst 1 bs,o2,?_,⟨by omega,by rw [q.len,List.length_range];omega,λp hp=>by obtain ⟨x,_,k,_⟩:=q.rt p hp;exact k⟩,?_,P2.up (by have:=Nat.mul_le_mul_right (bnd d) (show k<=6 by omega);omega)⟩
  ·refine Eq.trans (congrArg toR (ifN (by walk_at "x"))) (Eq.trans (congrArg toR (ifN (by walk_at "x"))) (Eq.trans (congrArg toR (ifN (by walk_at "x"))) (Eq.trans (congrArg toR (nq (by walk_at "x"))) (Eq.trans (congrArg toR (nq (by walk_at "x"))) (Eq.trans (congrArg toR (ifN (by walk_at "x"))) (Eq.trans (congrArg toR (nq (by walk_at "x"))) ?_))))))
   rw [hk];rw [pd,a01];exact congrArg toR (iw (qw (du (bu rfl) (cj _ _ _) ix0) (qi e2 yp) a6x))
  ·rw [pd,sw];show (if ahk "many" (.str "many")=true then wks (wk d) (List.replicate (pds bs).length s) (pds bs) else none)=_
   rw [if_pos (by decide),a02]
   exact a8n (a5h λy hy=>by obtain ⟨x,_,_,w⟩:=q.rt y hy;exact w)
 | tim s lo hi =>
  obtain ⟨k1,k2,k3⟩:=ks;rw [sd];obtain ⟨r,o1,e1,r0,r1,P1⟩:=PN.m7 (m:=(hi:Int) - (lo:Int)+1) P (by omega) (by omega) (by omega)
  obtain ⟨k,hk⟩:∃ k:Nat,(lo:Int)+r=(k:Int):=⟨(lo+r).toNat,by omega⟩
  obtain ⟨bs,o2,e2,q,P2,cl⟩:=again ih (by omega) (h := "times") (rest:=[jo lo,jo hi]) (r:=(lo:Int)) (hi:=(hi:Int)) (k:=k) k3 P1 (by omega)
  refine ⟨.lst 2 bs,o2,?_,⟨by omega,by rw [q.len,List.length_range];omega,λp hp=>by obtain ⟨x,_,k,_⟩:=q.rt p hp;exact k⟩,?_,P2.up (by have:=Nat.mul_le_mul_right (bnd d) (show k<=6 by omega);omega)⟩
  ·refine Eq.trans (congrArg toR (ifN (by walk_at "x"))) (Eq.trans (congrArg toR (ifN (by walk_at "x"))) (Eq.trans (congrArg toR (ifN (by walk_at "x"))) (Eq.trans (congrArg toR (nq (by walk_at "x"))) (Eq.trans (congrArg toR (nq (by walk_at "x"))) (Eq.trans (congrArg toR (a9i (Eq.trans (ifT (by walk_at "x")) (Eq.trans (nq (by walk_at "x")) (alx (by walk_at "x")))))) (Eq.trans (congrArg toR (nq (by walk_at "x"))) ?_))))))
   rw [hk];rw [pd,a01];exact congrArg toR (iw (qw (du (bu rfl) (cj _ _ _) ix0) (qi e2 yp) a6x))
  ·rw [pd,sw];have lb:bs.length=k:=by rw [q.len,List.length_range]
   show (if ahk "times" (.str "times")=true then (if lo<=(pds bs).length/\(pds bs).length<=hi then wks (wk d) (List.replicate (pds bs).length s) (pds bs) else none) else none)=_
   rw [if_pos (by decide),a02,if_pos (by omega)]
   exact a8n (a5h λy hy=>by obtain ⟨x,_,_,w⟩:=q.rt y hy;exact w)
theorem a8o{tg:List Nat}:∀ (d n:Nat),d<=n->a5i tg n d
 | 0,_,_=>λ_ k=>k.elim
 | d+1,0,h=>absurd h (by omega)
 | d+1,n+1,h=>a9m (a8o d n (by omega))
theorem a8p{tg:List Nat}:∀ {n:Nat} {p:Pa},POk tg n p->(sw p).length<=6 ^ n
 | 0,_,h=>h.elim
 | n+1, .one c,_=>by rw [sw];exact Nat.pow_pos (by decide)
 | n+1, .eit k p,h=>by rw [sw,Nat.pow_succ];have:=a8p (n:=n) (p:=p) h.2;omega
 | n+1, .lst x ps,h=>by
  rw [sw,a5g,List.length_flatten,List.map_map,Nat.pow_succ];have:∀ l:List Pa,(∀ p∈l,POk tg n p)->(l.map (List.length ∘ sw)).sum<=6 ^ n*l.length:=λl=>by
   induction l with
   | nil=>intro _;simp
   | cons a l ih =>
    intro hl
    have:=a8p (hl a List.mem_cons_self)
    have:=ih λp hp=>hl p (List.mem_cons_of_mem _ hp)
    rw [List.map_cons,List.sum_cons,List.length_cons,Nat.mul_succ];show (sw a).length+_<=_;omega
  exact Nat.le_trans (this ps h.2.2) (Nat.mul_le_mul_left _ h.2.1)
noncomputable def ig:Nat->SF
 | 0=>λ_ _=>.no
 | n+1=>ou (ww (ig n)) 1
theorem ahn{n:Nat}{s:D}:ig (n+1) [s] []=toR (ww (ig n) [some s] []):=by
 show ou (ww (ig n)) 1 [s] []=_;rw [jj];rfl
theorem pu1{F:SF}{n:Nat}{ds:List D}{d:D}(hn:ds.length=n)(ca:∀ x∈ds,MI.clo 0 x)(c:MI.clo 0 d)(e:F ds [] = .ok d []):Pu F n ds d:=Pu.of hn ca e (v5 c (by simp)) c
theorem aho{x:D}(c:MI.clo 0 x):∀ y∈[x],MI.clo 0 y:=λy hy=>by rw [List.mem_singleton.mp hy];exact c
theorem a8q(h:Nat):(hn h == "one")=false/\(hn h == "either")=false:=by
 rcases h with _ | _ | h
 ·exact ⟨by decide,by decide⟩
 ·exact ⟨by decide,by decide⟩
 ·show (("times" : Str) == "one")=false/\(("times" : Str) == "either")=false;exact ⟨by decide,by decide⟩
theorem a7h{tg:List Nat}:∀ (d n:Nat),d<=n->d<=6->∀ p,POk tg d p->Pu (ig n) 1 [pd p] (.str (S (sw p)))
 | 0,_,_,_,_,k=>k.elim
 | d+1,0,h,_,_,_=>absurd h (by omega)
 | d+1,n+1,h,h6,p,k=>by
  refine pu1 rfl (aho (a1m p)) (dw _) (ahn.trans ?_);unfold ww;have z6:∀ {q:Pa},POk tg (d+1) q->(sw q).length<=46656:=λhq=>Nat.le_trans (a8p hq) (Nat.le_trans (Nat.pow_le_pow_right (by decide) h6) (by decide))
  cases p with
  | one c =>
   rw [pd,sw];exact congrArg toR (km (Eq.trans (ifT (by walk_at "x")) (iw (by walk_at "x"))))
  | eit j p =>
   have e:=a7h d n (by omega) (by omega) p k.2
   rw [pd,sw];exact Eq.trans (congrArg toR (ifN (by walk_at "x"))) (congrArg toR (km (Eq.trans (ifT (by walk_at "x")) (iw (by walk_at "x")))))
  | lst x ps =>
   have z:=z6 k;have e:∀ p∈ps,Pu (ig n) 1 [pd p] (.str (S (sw p))):=λp hp=>a7h d n (by omega) (by omega) p (k.2.2 p hp)
   have kl:ps.length<=6:=k.2.1;rw [sw,a5g] at z;rw [pd,a01,sw,a5g];obtain ⟨h1,h2⟩:=a8q x;refine Eq.trans (congrArg toR (ifN (tof (du (du (bu rfl) (cj _ _ _) ix0) (cj _ _ _) (a5q h1))))) (Eq.trans (congrArg toR (ifN (tof (du (du (bu rfl) (cj _ _ _) ix0) (cj _ _ _) (a5q h2))))) (congrArg toR (iw ?_)));refine K76.aoa (z:=S []) (cj _ _ _) (arg1 (ah6 (a2o pd (λp=>.str (S (sw p))) ps (an2 (du (bu rfl) (cj _ _ _) ix1) rfl) (j7 (by omega)) λp hp=>?_) (kh λ_ _=>dw _) (by simp))) ?_
   ·rw [a5d];unfold a0g;exact qi (bu rfl) (e p hp _)
   ·have:=K76.afb (ls:=ps.map sw) (h:=[]) (by omega)
    rw [List.map_map] at this;exact this
end SHD
namespace SHD
open PySem PySem.Spec L2 MI AT HND EVX
open PAP hiding gf a6p a6q vg a2r aof
local macro_rules | `(tactic| walk_at "c") => `(tactic| first | assumption | exact ie _ | (with_reducible exact EVT.za) | exact dw _ | exact xx _ | exact qd | exact iy | ((with_reducible apply bz)<;>walk_at "c") | ((with_reducible apply jw);walk_at "c") | ((with_reducible apply tu);walk_at "c") | ((with_reducible apply EVT.uo)<;>walk_at "c") | ((with_reducible apply EVT.uy);walk_at "c") | ((with_reducible apply EVT.uz);walk_at "c") | ((with_reducible apply EVT.yx);walk_at "c") | ((with_reducible apply EVT.yz);walk_at "c") | ((with_reducible apply EVT.zb)<;>walk_at "c") | exact kh fun _ _=>ie _ | exact kh fun _ _=>dw _)
local macro_rules | `(tactic| walk_at "h") => `(tactic| first | assumption | exact EVT.a1c | exact EVT.vp (by assumption))
local macro_rules | `(tactic| walk_at "z") => `(tactic| first | assumption | omega | (simp only [List.length_cons,List.length_nil,List.length_append,List.length_take,List.length_drop,List.length_map,List.length_singleton,EVT.a1b,Int.reduceToNat]<;>omega))
local macro_rules | `(tactic| walk_at "l") => `(tactic| first
 | (with_reducible assumption)
 | (with_reducible exact a6q) | (with_reducible exact a6p) | (with_reducible exact a6x) | (with_reducible exact ahg)
 | (with_reducible exact EVT.ju) | (with_reducible exact EVT.a3r)
 | ((with_reducible apply EVT.PuE);with_reducible assumption)
 | ((with_reducible apply EVT.ahh);with_reducible assumption)
 | (with_reducible exact EVT.a9l _ _) | (with_reducible exact PAP.ae2 _ _ _) | (with_reducible exact PAP.a0i _ _ _)
 | ((with_reducible apply PAP.a2q);walk_at "z")
 | ((with_reducible apply EVT.a7g);walk_at "z")
 | ((with_reducible apply EVT.a9k);walk_at "z")
 | (with_reducible exact a1l _ _) | (with_reducible exact a6o _) | (with_reducible exact je _)
 | ((with_reducible apply ac4);walk_at "z") | ((with_reducible apply abg);walk_at "z")
 | ((with_reducible apply ahe);walk_at "z") | ((with_reducible apply ahf);walk_at "z")
 | ((with_reducible apply a2p);walk_at "z") | ((with_reducible apply a3h);walk_at "z")
 | ((with_reducible apply a0y);walk_at "z") | ((with_reducible apply a1o);walk_at "z")
 | exact rfl)
local macro_rules | `(tactic| walk_at "x") => `(tactic| first
 | (with_reducible assumption)
 | (with_reducible exact cj _ _ _)
 | ((with_reducible apply bu);exact rfl)
 | (with_reducible exact EVT.vo) | (with_reducible exact EVT.a6r)
 | ((with_reducible apply EVT.zp);walk_at "x";exact rfl;walk_at "c";walk_at "h";walk_at "z")
 | ((with_reducible apply EVT.a0z);walk_at "x";exact rfl;walk_at "c";walk_at "h")
 | ((with_reducible apply EVT.a1a);walk_at "x";exact rfl;walk_at "h";walk_at "z")
 | ((with_reducible apply EVT.a2s);walk_at "x";walk_at "x";exact rfl;walk_at "c";walk_at "c";walk_at "h";walk_at "z")
 | ((with_reducible apply EVT.a2t);walk_at "x";walk_at "x";exact rfl;walk_at "c";walk_at "h";walk_at "z";walk_at "z")
 | ((with_reducible apply EVT.vg);walk_at "h")
 | ((with_reducible apply du);walk_at "x";walk_at "x";walk_at "l")
 | ((with_reducible apply af6);walk_at "x";walk_at "l")
 | ((with_reducible apply PAP.aof);walk_at "x";walk_at "l")
 | ((with_reducible apply PAP.gf);walk_at "x";walk_at "x")
 | ((with_reducible apply a5p);walk_at "x";walk_at "x";walk_at "x";walk_at "l")
 | ((with_reducible apply a5e);walk_at "x")
 | ((with_reducible apply tof);walk_at "x")
 | ((with_reducible apply o6);walk_at "x";walk_at "l")
 | ((with_reducible apply a0x);walk_at "x") | ((with_reducible apply a3q);walk_at "x")
 | ((with_reducible apply a3g);walk_at "x";walk_at "x") | ((with_reducible apply a6w);walk_at "x")
 | ((with_reducible apply orT);walk_at "x") | ((with_reducible apply orF);walk_at "x";walk_at "x"))
local macro_rules | `(tactic| walk_at "l") => `(tactic| first | (with_reducible exact SHD.ix0) | (with_reducible exact SHD.ix1) | (with_reducible exact SHD.ix2) | (with_reducible exact SHD.ix3) | (with_reducible exact SHD.ai1) | ((with_reducible apply SHD.a5q);exact (by decide)) | (with_reducible exact SHD.ahj) | ((with_reducible apply SHD.ahi);exact (by decide)) | (with_reducible exact SHD.abl) | (with_reducible exact SHD.yp))
inductive Gd:D->Prop
 | non:Gd .non
 | bl (b:Bool):Gd (.bl b)
 | int (i:Int):Gd (.int i)
 | str (x:Str) (h:x.cps.toList.length<=1000):Gd (.str x)
 | tup (xs:List D) (h:xs.length<=12) (g:∀ x∈xs,Gd x):Gd (.tup xs)
 | rol (xs:List D) (c:clos 0 xs):Gd (.rol xs)
theorem Gd.clo{d:D}(g:Gd d):MI.clo 0 d:=by
 induction g with
 | non=>exact qd
 | bl b=>exact xx _
 | int i=>exact ie _
 | str x _=>exact dw _
 | tup xs _ _ ih=>exact jw (jg.mpr ih)
 | rol xs c=>exact tu c
theorem Gd.pln{d:D}(g:Gd d):Pln d:=by
 cases g with
 | non=>trivial
 | bl b=>trivial
 | int i=>trivial
 | str x h=>exact h
 | tup xs h g=>exact jg.mpr λx hx=>(g x hx).clo
 | rol xs c=>exact c
def isS:D->Bool | .str _=>true | _=>false
def isB:D->Bool | .bl _=>true | _=>false
def isI:D->Bool | .int _=>true | _=>false
theorem ae5{d:D}{h:Hd}(p:Pln d):jl [d, .ty "str"] h = .ok (.bl (isS d)) h:=by
 cases d<;>first | (simp only [Pln] at p;done) | simp [jl,aax,tyD,a99,isS]
theorem ahp{d:D}{h:Hd}(p:Pln d):jl [d, .ty "int"] h = .ok (.bl (isI d || isB d)) h:=by
 cases d<;>first | (simp only [Pln] at p;done) | simp [jl,aax,tyD,a99,isI,isB]
theorem al0{d:D}{h:Hd}(p:Pln d):jl [d, .ty "bool"] h = .ok (.bl (isB d)) h:=by
 cases d<;>first | (simp only [Pln] at p;done) | simp [jl,aax,tyD,a99,isB]
theorem chT{g g':D->D->Hd->R D}{fa fb fc:SE}{τ:Sd}{h h1 h2 h3 h4 h5:Hd}{x y w v:D}(e1:fa τ h = .ok x h1)(e2:fb τ h1 = .ok y h2)(e3:g x y h2 = .ok (.bl true) h3)(e4:fc τ h3 = .ok w h4)(e5:g' y w h4 = .ok v h5):sCh g g' fa fb fc τ h = .ok v h5:=by
 unfold sCh;rw [e1,dm,e2,dm,e3,dm];dsimp only;rw [e4,dm,e5]
theorem chF{g g':D->D->Hd->R D}{fa fb fc:SE}{τ:Sd}{h h1 h2 h3:Hd}{x y:D}(e1:fa τ h = .ok x h1)(e2:fb τ h1 = .ok y h2)(e3:g x y h2 = .ok (.bl false) h3):sCh g g' fa fb fc τ h = .ok (.bl false) h3:=by
 unfold sCh;rw [e1,dm,e2,dm,e3,dm]
theorem leT{x y:Int}{h:Hd}(c:x<=y):gLe (.int x) (.int y) h = .ok (.bl true) h:=by unfold gLe;simp only [c,decide_true]
theorem leF{x y:Int}{h:Hd}(c:¬ x<=y):gLe (.int x) (.int y) h = .ok (.bl false) h:=by unfold gLe;simp only [c,decide_false]
theorem afc{f:SE}{τ:Sd}{h h1:Hd}{b:Bool}(e:f τ h = .ok (.bl b) h1):a4c f τ h = .ok (.bl (!b)) h1:=by unfold a4c;rw [e,dm]
noncomputable def m5:SF:=ou v6 1
theorem a6s{d:D}(p:Pln d):Pu m5 1 [d] (.bl (isI d)):=by
 refine pu1 rfl (aho p.clo) (xx _) ?_;unfold m5;rw [jj];show toR (v6 [some d] [])=_;unfold v6
 cases d with
 | int i=>exact congrArg toR (iw (a9j (qw (bu rfl) (cj _ _ _) (ahp p)) (afc (qw (bu rfl) (cj _ _ _) (al0 p)))))
 | bl b=>exact congrArg toR (iw (a9j (qw (bu rfl) (cj _ _ _) (ahp p)) (afc (qw (bu rfl) (cj _ _ _) (al0 p)))))
 | _=>exact congrArg toR (iw (PAP.ae1 (qw (bu rfl) (cj _ _ _) (ahp p))))
def oW:Option (List Nat)->D
 | none=>.non
 | some w=>.str (S w)
theorem abo(o:Option (List Nat)):MI.clo 0 (oW o):=by cases o;exact qd;exact dw _
mutual
noncomputable def bw:Nat->SF
 | 0=>λ_ _=>.no
 | n+1=>ou (v7 (j6 n) m5 (bw n)) 2
noncomputable def j6:Nat->SF
 | 0=>λ_ _=>.no
 | n+1=>ou (o9 (bw n)) 3
end
theorem abp{n:Nat}{s p:D}:bw (n+1) [s,p] []=toR (v7 (j6 n) m5 (bw n) [some s,some p] []):=by
 rw [bw,jj];rfl
theorem ahq{n:Nat}{s p:D}:j6 (n+1) [s,p] []=toR (o9 (bw n) [some s,some p,none] []):=by
 rw [j6,jj];rfl
theorem abq{f:Sh->D->Option (List Nat)}:∀ {ss:List Sh} {qs:List D},ss.length≠qs.length->wks f ss qs=none
 | [],[],h=>absurd rfl h
 | [],_::_,_=>rfl
 | _::_,[],_=>rfl
 | s::ss,q::qs,h=>by
  rw [wks,abq (ss:=ss) (qs:=qs) (by simpa using h)]
  cases f s q<;>rfl
theorem abr{f:Sh->D->Option (List Nat)}:∀ {ss:List Sh} {qs:List D},ss.length=qs.length->(none∈(ss.zip qs).map (λp=>f p.1 p.2)->wks f ss qs=none)/\(none ∉ (ss.zip qs).map (λp=>f p.1 p.2)->∃ ls:List (List Nat),(ss.zip qs).map (λp=>f p.1 p.2)=ls.map some/\wks f ss qs=some ls.flatten)
 | [],[],_=>⟨λh=>by simp at h,λ_=>⟨[],rfl,rfl⟩⟩
 | [],_::_,h=>by simp at h
 | _::_,[],h=>by simp at h
 | s::ss,q::qs,h=>by
  obtain ⟨a,b⟩:=abr (f:=f) (ss:=ss) (qs:=qs) (by simpa using h)
  rw [List.zip_cons_cons,List.map_cons,wks]
  cases e:f s q with
  | none=>exact ⟨λ_=>rfl,λz=>absurd List.mem_cons_self z⟩
  | some x =>
   refine ⟨λz=>?_,λz=>?_⟩
   ·rw [a (by simpa using z)]
   ·obtain ⟨ls,e1,e2⟩:=b λy=>z (List.mem_cons_of_mem _ y);exact ⟨x::ls,by rw [e1];rfl,by rw [e2];rfl⟩
theorem afd{rs:List (Option (List Nat))}{h:Hd}:gIn false .non (.rol (rs.map oW)) h = .ok (.bl (decide (none∈rs))) h:=by
 show (if a00 .non=true/\(rs.map oW).all a00=true then R.ok (D.bl (if false=true then !inD .non (rs.map oW) else inD .non (rs.map oW))) h else .no)=_
 rw [if_pos ⟨rfl,by rw [List.all_eq_true];intro x hx;obtain ⟨y,_,rfl⟩:=List.mem_map.mp hx;cases y<;>rfl⟩,if_neg (by decide)]
 congr 2
 unfold inD
 induction rs with
 | nil=>rfl
 | cons r rs ih =>
  rw [List.map_cons,List.any_cons,ih]
  cases r with
  | none=>rw [decide_eq_true (List.mem_cons_self)];rfl
  | some x =>
   have:decide (none∈some x::rs)=decide (none∈rs):=decide_eq_decide.mpr (by simp)
   rw [this];rfl
theorem a7i{n:Nat}{f:Sh->D->Option (List Nat)}{ss:List Sh}{parts p:D}(hp:parts = .tup (ss.map sd)\/parts = .rol (ss.map sd))(g:Gd p)(hf:∀ s∈ss,∀ qs,p = .tup qs->∀ q∈qs,Pu (bw n) 2 [sd s,q] (oW (f s q)))(hl:∀ qs x,p = .tup qs->wks f ss qs=some x->x.length<=1000000) :
  Pu (j6 (n+1)) 2 [parts,p] (oW (abm (wks f ss) p)):=by
 have cp:MI.clo 0 parts:=by rcases hp with rfl | rfl;exact jw (qe ss ▸ xr ss);exact tu (qe ss ▸ xr ss)
 refine pu1 rfl (by intro x hx;simp only [List.mem_cons,List.not_mem_nil,or_false] at hx;rcases hx with rfl | rfl;exact cp;exact g.clo) (abo _) (ahq.trans ?_)
 unfold o9;have l0:qg [parts] [] = .ok (jo ss.length) []:=by rcases hp with rfl | rfl<;>(show R.ok (D.int ((ss.map sd).length:Nat)) _=_;rw [List.length_map])
 have ip:jl [p, .ty "tuple"] [] = .ok (.bl (isTup p)) []:=PAP.abi g.pln
 cases g with
 | tup qs z gq =>
  have ip:jl [.tup qs, .ty "tuple"] [] = .ok (.bl true) []:=ip
  by_cases hlen:ss.length=qs.length
  ·refine Eq.trans (congrArg toR (ifN (by walk_at "x"))) ?_
   have zi:ac3 (sV 0) (sV 1) [some parts,some (.tup qs),none] [] = .ok ⟨(ss.zip qs).map λp=>.tup [sd p.1,p.2],λ_=>True⟩ []:=by
    unfold ac3;rw [bu rfl,dm,bu rfl,dm]
    rcases hp with rfl | rfl
    all_goals
     show R.ok (⟨((ss.map sd).zip qs).map λp=>.tup [p.1,p.2],λ_=>True/\True⟩:Itm) []=_;rw [List.zip_map_left,List.map_map]
     congr 2
     funext _
     simp
   have cm:sZ (xj (ac3 (sV 0) (sV 1)) (tN 2) (mj (bw n)) []) [some parts,some (.tup qs),none] [] = .ok (.rol (((ss.zip qs).map λp=>f p.1 p.2).map oW)) []:=by
    rw [List.map_map];refine ah6 (a2o _ _ (ss.zip qs) zi (j7 (by simp;omega)) λp hp'=>?_) (kh λ_ _=>abo _) (by simp)
    obtain ⟨h1,h2⟩:=List.of_mem_zip hp';show mj (bw n) [some (sd p.1),some p.2] []=_;unfold mj;exact qw (bu rfl) (bu rfl) (hf _ h1 qs rfl _ h2 _)
   refine Eq.trans (congrArg toR (nq cm)) ?_;obtain ⟨a,b⟩:=abr (f:=f) hlen;show _=R.ok (oW (wks f ss qs)) []
   by_cases hn:none∈(ss.zip qs).map (λp=>f p.1 p.2)
   ·rw [a hn];exact congrArg toR (km (Eq.trans (ifT (tof (du (cj _ _ _) (bu rfl) (afd.trans (by rw [decide_eq_true hn]))))) (iw (cj _ _ _))))
   ·obtain ⟨ls,e1,e2⟩:=b hn;rw [e2];refine Eq.trans (congrArg toR (ifN (tof (du (cj _ _ _) (bu rfl) (afd.trans (by rw [decide_eq_false hn])))))) ?_
    have hz:ls.flatten.length<=1000000:=hl qs _ rfl e2;have j:=K76.afb (ls:=ls) (h:=[]) hz;refine congrArg toR (iw (K76.aoa (z:=S []) (cj _ _ _) (arg1 (bu rfl)) ?_));rw [e1,List.map_map];exact j
  ·have e:abm (wks f ss) (.tup qs)=none:=abq hlen;rw [e];exact congrArg toR (km (Eq.trans (ifT (orF (by walk_at "x") (by walk_at "x"))) (iw (cj _ _ _))))
 | _=>exact congrArg toR (km (Eq.trans (ifT (orT (a3q (o6 (qw (bu rfl) (cj _ _ _) ip) (je _))))) (iw (cj _ _ _))))
theorem a2u{f:Sh->D->Option (List Nat)}{B:Nat}:∀ {ss:List Sh} {qs:List D} {x:List Nat},(∀ s∈ss,∀ q∈qs,∀ y,f s q=some y->y.length<=B)->wks f ss qs=some x->x.length<=qs.length*B
 | [],[],x,_,e=>by cases e;simp
 | [],_::_,_,_,e=>by cases e
 | _::_,[],_,_,e=>by cases e
 | s::ss,q::qs,x,h,e=>by
  rw [wks] at e
  cases e1:f s q with
  | none=>rw [e1] at e;cases e
  | some y =>
   cases e2:wks f ss qs with
   | none=>rw [e1,e2] at e;cases e
   | some z =>
    rw [e1,e2] at e;cases e
    have a:=h s List.mem_cons_self q List.mem_cons_self y e1;have b:=a2u (ss:=ss) (qs:=qs) (λs hs q hq=>h s (List.mem_cons_of_mem _ hs) q (List.mem_cons_of_mem _ hq)) e2;rw [List.length_append,List.length_cons,Nat.succ_mul];omega
theorem a1u{y:Str}{f:D->Option (List Nat)}{p:D}{x:List Nat}(e:two y f p=some x):∃ a b,p = .tup [a,b]/\f b=some x:=by
 unfold two at e
 split at e
 ·split at e
  ·exact ⟨_,_,rfl,e⟩
  ·cases e
 ·cases e
theorem a9n{y:Str}{f:D->D->Option (List Nat)}{p:D}{x:List Nat}(e:three y f p=some x):∃ a b c,p = .tup [a,b,c]/\f b c=some x:=by
 unfold three at e
 split at e
 ·split at e
  ·exact ⟨_,_,_,rfl,e⟩
  ·cases e
 ·cases e
theorem a2v{f:List D->Option (List Nat)}{p:D}{x:List Nat}(e:abm f p=some x):∃ qs,p = .tup qs/\f qs=some x:=by
 unfold abm at e
 split at e
 ·exact ⟨_,rfl,e⟩
 ·cases e
theorem Gd.of{xs:List D}(g:Gd (.tup xs)):xs.length<=12/\∀ x∈xs,Gd x:=by cases g with | tup _ h g=>exact ⟨h,g⟩
theorem a3t:∀ {n:Nat} {s:Sh} {p:D} {x:List Nat},Gd p->wk n s p=some x->x.length<=12 ^ n
 | 0,_,_,_,_,e=>by cases e
 | n+1, .one s,p,x,g,e=>by
  obtain ⟨a,b,rfl,e1⟩:=a1u e;have:x.length=1:=by
   unfold ahl at e1
   split at e1
   ·split at e1
    ·split at e1
     ·cases e1;rfl
     ·cases e1
    ·cases e1
   ·cases e1
  rw [this];exact Nat.pow_pos (by decide)
 | n+1, .row ps,p,x,g,e=>by
  obtain ⟨a,b,rfl,e1⟩:=a1u e;obtain ⟨qs,rfl,e2⟩:=a2v e1;obtain ⟨z,gq⟩:=(g.of.2 (.tup qs) (by simp)).of
  have:=a2u (λs _ q hq y ey=>a3t (gq q hq) ey) e2
  rw [Nat.pow_succ,Nat.mul_comm];exact Nat.le_trans this (Nat.mul_le_mul_right _ z)
 | n+1, .eit ps,p,x,g,e=>by
  obtain ⟨a,b,c,rfl,e1⟩:=a9n e;unfold ahm at e1
  split at e1
  ·split at e1
   ·obtain ⟨s,_,e2⟩:=Option.bind_eq_some_iff.mp e1;have:=a3t (g.of.2 _ (by simp)) e2
    rw [Nat.pow_succ];omega
   ·cases e1
  ·cases e1
 | n+1, .many s,p,x,g,e=>by
  obtain ⟨a,b,rfl,e1⟩:=a1u e;obtain ⟨qs,rfl,e2⟩:=a2v e1;obtain ⟨z,gq⟩:=(g.of.2 (.tup qs) (by simp)).of
  have:=a2u (λs _ q hq y ey=>a3t (gq q hq) ey) e2
  rw [Nat.pow_succ,Nat.mul_comm];exact Nat.le_trans this (Nat.mul_le_mul_right _ z)
 | n+1, .tim s lo hi,p,x,g,e=>by
  obtain ⟨a,b,rfl,e1⟩:=a1u e;obtain ⟨qs,rfl,e2⟩:=a2v e1;obtain ⟨z,gq⟩:=(g.of.2 (.tup qs) (by simp)).of
  split at e2
  ·have:=a2u (λs _ q hq y ey=>a3t (gq q hq) ey) e2
   rw [Nat.pow_succ,Nat.mul_comm];exact Nat.le_trans this (Nat.mul_le_mul_right _ z)
  ·cases e2
def hdS:Sh->Str
 | .one _ => "one"
 | .row _ => "row"
 | .eit _ => "either"
 | .many _ => "many"
 | .tim _ _ _ => "times"
theorem a1p(s:Sh)(h:Hd):gIx (sd s) (.int 0) h = .ok (.str (hdS s)) h:=by cases s<;>(rw [sd];exact ix0)
def Fits(s:Sh)(p:D):Prop:=∃ b rest,p = .tup (.str (hdS s)::b::rest)
theorem al1{n:Nat}{s:Sh}{p:D}(h:¬ Fits s p):wk n s p=none:=by
 cases n with
 | zero=>rfl
 | succ n =>
  have t2:∀ y f,y=hdS s->two y f p=none:=λy f hy=>by
   unfold two
   split
   ·rename_i a b
    split
    ·rename_i q
     cases a<;>first | (cases q;done) | skip
     rename_i x;exact absurd ⟨b,[],by rw [<-hy,eq_of_beq (a:=x) (b:=y) q]⟩ h
    ·rfl
   ·rfl
  have t3:∀ y f,y=hdS s->three y f p=none:=λy f hy=>by
   unfold three
   split
   ·rename_i a b c
    split
    ·rename_i q
     cases a<;>first | (cases q;done) | skip
     rename_i x;exact absurd ⟨b,[c],by rw [<-hy,eq_of_beq (a:=x) (b:=y) q]⟩ h
    ·rfl
   ·rfl
  cases s with
  | one s=>exact t2 _ _ rfl
  | row s=>exact t2 _ _ rfl
  | eit s=>exact t3 _ _ rfl
  | many s=>exact t2 _ _ rfl
  | tim s _ _=>exact t2 _ _ rfl
def Wd(tg:List Nat)(d n:Nat):Prop:=∀ s p,a3c tg d s->Gd p->Pu (bw n) 2 [sd s,p] (oW (wk d s p))
section
variable{s:Sh}{p:D}{fm fn fw:SF}
theorem apl(g:Gd p)(h:¬ Fits s p):sOr (yf (zj (sA jl (aj (sV 1) (aj (sC (.ty "tuple")) cu))))) (sOr (sT (s2 gLt (sA qg (aj (sV 1) cu)) (sC (.int 2)))) (sOr (yf (zj (sA jl (aj (s2 gIx (sV 1) (sC (.int 0))) (aj (sC (.ty "str")) cu))))) (sT (s2 hNe (s2 gIx (sV 1) (sC (.int 0))) (s2 gIx (sV 0) (sC (.int 0))))))) [some (sd s),some p] [] = .ok true []:=by
 have ip:jl [p, .ty "tuple"] [] = .ok (.bl (isTup p)) []:=PAP.abi g.pln
 cases g with
 | tup xs z gx =>
  have ip:jl [.tup xs, .ty "tuple"] [] = .ok (.bl true) []:=ip;refine orF (a0x (o6 (qw (bu rfl) (cj _ _ _) ip) (je _))) ?_
  by_cases h2:xs.length<2
  ·exact orT (tof (du (qi (bu rfl) EVT.ju) (cj _ _ _) (ac4 (by omega))))
  ·refine orF (tof (du (qi (bu rfl) EVT.ju) (cj _ _ _) (abg (by omega)))) ?_
   cases xs with
   | nil=>exact absurd (show ([]:List D).length<2 by simp) h2
   | cons a xs =>
    cases xs with
    | nil=>exact absurd (show [a].length<2 by simp) h2
    | cons b xs =>
     have ia:jl [a, .ty "str"] [] = .ok (.bl (isS a)) []:=ae5 (gx a List.mem_cons_self).pln
     cases hs:isS a with
     | false =>
      rw [hs] at ia;exact orT (a3q (o6 (qw (du (bu rfl) (cj _ _ _) ix0) (cj _ _ _) ia) (je _)))
     | true =>
      rw [hs] at ia;refine orF (a0x (o6 (qw (du (bu rfl) (cj _ _ _) ix0) (cj _ _ _) ia) (je _))) ?_;obtain ⟨x,rfl⟩:∃ x,a = .str x:=by cases a<;>first | (cases hs;done) | exact ⟨_,rfl⟩
      have ne:(x == hdS s)=false:=by
       cases q:x == hdS s with
       | false=>rfl
       | true=>exact absurd ⟨b,xs,by rw [eq_of_beq q]⟩ h
      exact tof (du (du (bu rfl) (cj _ _ _) ix0) (du (bu rfl) (cj _ _ _) (a1p s _)) (ahi ne))
 | _=>exact orT (a3q (o6 (qw (bu rfl) (cj _ _ _) ip) (je _)))
theorem an9{b:D}{rest:List D}:sOr (yf (zj (sA jl (aj (sV 1) (aj (sC (.ty "tuple")) cu))))) (sOr (sT (s2 gLt (sA qg (aj (sV 1) cu)) (sC (.int 2)))) (sOr (yf (zj (sA jl (aj (s2 gIx (sV 1) (sC (.int 0))) (aj (sC (.ty "str")) cu))))) (sT (s2 hNe (s2 gIx (sV 1) (sC (.int 0))) (s2 gIx (sV 0) (sC (.int 0))))))) [some (sd s),some (.tup (.str (hdS s)::b::rest))] [] = .ok false []:=by
 have i1:jl [.tup (.str (hdS s)::b::rest), .ty "tuple"] [] = .ok (.bl true) []:=by simp [jl,aax,tyD,a99]
 have i2:jl [.str (hdS s), .ty "str"] [] = .ok (.bl true) []:=by simp [jl,aax,tyD,a99]
 exact orF (a0x (o6 (qw (bu rfl) (cj _ _ _) i1) (je _))) (orF (tof (du (qi (bu rfl) EVT.ju) (cj _ _ _) (abg (by simp only [List.length_cons];omega)))) (orF (a0x (o6 (qw (du (bu rfl) (cj _ _ _) ix0) (cj _ _ _) i2) (je _))) (tof (du (du (bu rfl) (cj _ _ _) ix0) (du (bu rfl) (cj _ _ _) (a1p s _)) ahj))))
end
theorem abt(s:List Nat)(x:Str):ahl s (.str x)=match x.cps.toList with | [c]=>if c∈s then some [c] else none | _=>none:=rfl
theorem a6t{y:Str}{f:D->Option (List Nat)}{b:D}:two y f (.tup [.str y,b])=f b:=if_pos (beq_self_eq_true y)
theorem a8r{y:Str}{f:D->D->Option (List Nat)}{b c:D}:three y f (.tup [.str y,b,c])=f b c:=if_pos (beq_self_eq_true y)
theorem ahr{y:Str}{f:D->D->Option (List Nat)}{a b:D}:three y f (.tup [a,b])=none:=rfl
theorem a7j{d:D}{k:Nat}{τ:Sd}{f g:SE}(ef:f τ [] = .ok d [])(eg:g τ [] = .ok (jo k) [])(c:MI.clo 0 d)(hk:k<=1000):sZ (s2 wu (sZ (sA MI.w6 (aj f cu))) g) τ [] = .ok (.rol (List.replicate k d)) []:=by
 have h1:sZ (sA MI.w6 (aj f cu)) τ [] = .ok (.rol [d]) []:=EVT.zp (arg1 ef) rfl (bz c iy) (by simp) (by simp)
 have:=EVT.a2t h1 eg rfl (bz c iy) (by simp) (by simp;omega) (by omega)
 rw [this];simp
theorem abu{x:Str}{c:Nat}(h:x.cps.toList=[c]):x=S [c]:=by rw [<-a9e x,h]
theorem abv(c:Nat)(t:List Nat)(h:Hd):gIn false (.str (S [c])) (.str (S t)) h = .ok (.bl (decide (c∈t))) h:=by
 show (match (S [c]).cps.toList with | [c]=>R.ok (D.bl (if false=true then !decide (c∈(S t).cps.toList) else decide (c∈(S t).cps.toList))) h | _=>.no)=_
 rw [a4s,a4s];rfl
theorem a7k{tg:List Nat}{d n:Nat}(hd:d<=4)(ih:Wd tg d n)(ih':Wd tg d (n+1)):Wd tg (d+1) (n+2):=by
 intro s p ks g
 refine pu1 rfl (by intro x hx;simp only [List.mem_cons,List.not_mem_nil,or_false] at hx;rcases hx with rfl | rfl;exact sy s;exact g.clo) (abo _) (abp.trans ?_)
 unfold v7;have big:∀ (ss:List Sh) qs x,Gd (.tup qs)->wks (wk d) ss qs=some x->x.length<=1000000:=λss qs x gq e=>by
  have a:=a2u (λs _ q hq y ey=>a3t (gq.of.2 q hq) ey) e;have b:(12:Nat) ^ d<=12 ^ 4:=Nat.pow_le_pow_right (by decide) hd
  have c:=Nat.mul_le_mul gq.of.1 b;have e:12*12 ^ 4=248832:=by decide
  omega
 by_cases fit:Fits s p
 ·obtain ⟨b,rest,rfl⟩:=fit;refine Eq.trans (congrArg toR (ifN an9)) ?_;have gb:Gd b:=g.of.2 b (by simp)
  have ti:jl [b, .ty "tuple"] [] = .ok (.bl (isTup b)) []:=PAP.abi gb.pln;have si:jl [b, .ty "str"] [] = .ok (.bl (isS b)) []:=ae5 gb.pln
  cases s with
  | eit ps =>
   obtain ⟨k1,k2,k3⟩:=ks;rw [sd,qe];refine congrArg toR (km (Eq.trans (ifT (by walk_at "x")) ?_))
   show _=Fl.rt (oW (three "either" _ _)) []
   rcases rest with _ | ⟨c,_ | ⟨c',r⟩⟩
   ·rw [ahr];exact km (Eq.trans (ifT (orT (tof (du (qi (bu rfl) EVT.ju) (cj _ _ _) (a0y (by simp)))))) (iw (cj _ _ _)))
   ·have gc:Gd c:=g.of.2 c (by simp)
    show _=Fl.rt (oW (three "either" _ (.tup [.str "either",b,c]))) [];rw [a8r];have nb:=a6s gb.pln;have l3:sT (s2 hNe (sA qg (aj (sV 1) cu)) (sC (.int 3))) [some (.tup [.str "either", .tup (ps.map sd)]),some (.tup [.str (hdS (.eit ps)),b,c])] [] = .ok false []:=tof (du (qi (bu rfl) EVT.ju) (cj _ _ _) (a1o rfl))
    cases gb with
    | int i =>
     have nb:Pu m5 1 [.int i] (.bl true):=nb;have ln:qg [.tup (ps.map sd)] [] = .ok (jo ps.length) []:=by rw [EVT.ju,List.length_map]
     by_cases hi:0<=i/\i<(ps.length:Int)
     ·obtain ⟨i,rfl⟩:=Int.eq_ofNat_of_zero_le hi.1;have hi':i<ps.length:=by omega
      refine Eq.trans (ifN (orF l3 (orF (a0x (o6 (qi (du (bu rfl) (cj _ _ _) ix1) (nb _)) (je _))) (a0x (tof (chT (cj _ _ _) (du (bu rfl) (cj _ _ _) ix1) (leT hi.1) (qi (du (bu rfl) (cj _ _ _) ix1) ln) (ac4 hi.2))))))) ?_;have e:=ih' ps[i] c (k3 _ (List.getElem_mem hi')) gc [];refine iw (qw (du (du (bu rfl) (cj _ _ _) ix1) (du (bu rfl) (cj _ _ _) ix1) (af8 (y:=sd ps[i]) (by rw [List.getElem?_map,List.getElem?_eq_getElem hi'];rfl))) (du (bu rfl) (cj _ _ _) ix2) (e.trans ?_))
      show _=R.ok (oW (if 0<=(i:Int)/\(i:Int)<(ps.length:Int) then _ else none)) []
      rw [if_pos hi];show _=R.ok (oW ((ps[(i:Int).toNat]?).bind λs=>wk d s c)) [];rw [Int.toNat_natCast,List.getElem?_eq_getElem hi'];rfl
     ·have:ahm (λi q=>(ps[i]?).bind λs=>wk d s q) ps.length (.int i) c=none:=if_neg hi
      rw [this];have c3:sT (sCh gLe gLt (sC (.int 0)) (s2 gIx (sV 1) (sC (.int 1))) (sA qg (aj (s2 gIx (sV 0) (sC (.int 1))) cu))) [some (.tup [.str "either", .tup (ps.map sd)]),some (.tup [.str (hdS (.eit ps)), .int i,c])] [] = .ok false []:=by
       by_cases h0:0<=i
       ·exact tof (chT (cj _ _ _) (du (bu rfl) (cj _ _ _) ix1) (leT h0) (qi (du (bu rfl) (cj _ _ _) ix1) ln) (abg (by omega)))
       ·exact tof (chF (cj _ _ _) (du (bu rfl) (cj _ _ _) ix1) (leF h0))
      exact km (Eq.trans (ifT (orF l3 (orF (a0x (o6 (qi (du (bu rfl) (cj _ _ _) ix1) (nb _)) (je _))) (a3q c3)))) (iw (cj _ _ _)))
    | _=>exact km (Eq.trans (ifT (orF l3 (orT (a3q (o6 (qi (du (bu rfl) (cj _ _ _) ix1) (nb _)) (je _)))))) (iw (cj _ _ _)))
   ·exact km (Eq.trans (ifT (orT (tof (du (qi (bu rfl) EVT.ju) (cj _ _ _) (a0y (by simp only [List.length_cons];omega)))))) (iw (cj _ _ _)))
  | one s =>
   obtain ⟨k1,k2,k3⟩:=ks;rw [sd];refine Eq.trans (congrArg toR (ifN (by walk_at "x"))) ?_
   show _=R.ok (oW (two "one" _ _)) []
   rcases rest with _ | ⟨c,r⟩
   ·refine Eq.trans (congrArg toR (ifN (tof (du (qi (bu rfl) EVT.ju) (cj _ _ _) (a1o rfl))))) ?_;show _=R.ok (oW (two "one" _ (.tup [.str "one",b]))) [];rw [a6t];refine congrArg toR (km (Eq.trans (ifT (by walk_at "x")) ?_))
    cases gb with
    | str x hx =>
     have si:jl [.str x, .ty "str"] [] = .ok (.bl true) []:=si;have lx:qg [.str x] [] = .ok (jo x.cps.toList.length) []:=by
      have:=a2m (l:=x.cps.toList) (h:=[]) (j7 (by omega))
      rwa [a9e] at this
     rw [abt]
     by_cases h1:x.cps.toList.length=1
     ·obtain ⟨c,hc⟩:=List.length_eq_one_iff.mp h1;rw [hc]
      cases abu hc
      show _=Fl.rt (oW (if c∈s then some [c] else none)) []
      by_cases hcs:c∈s
      ·rw [if_pos hcs];exact km (Eq.trans (ifT (a3g (o6 (qw (du (bu rfl) (cj _ _ _) ix1) (cj _ _ _) si) (je _)) (a3g (tof (du (qi (du (bu rfl) (cj _ _ _) ix1) lx) (cj _ _ _) (a2p (by rw [h1];rfl)))) (tof (du (du (bu rfl) (cj _ _ _) ix1) (du (bu rfl) (cj _ _ _) ix1) ((abv c s []).trans (by rw [decide_eq_true hcs]))))))) (iw (du (bu rfl) (cj _ _ _) ix1)))
      ·rw [if_neg hcs];exact Eq.trans (ifN (a3g (o6 (qw (du (bu rfl) (cj _ _ _) ix1) (cj _ _ _) si) (je _)) (a3g (tof (du (qi (du (bu rfl) (cj _ _ _) ix1) lx) (cj _ _ _) (a2p (by rw [h1];rfl)))) (tof (du (du (bu rfl) (cj _ _ _) ix1) (du (bu rfl) (cj _ _ _) ix1) ((abv c s []).trans (by rw [decide_eq_false hcs]))))))) (iw (cj _ _ _))
     ·have:(match x.cps.toList with | [c]=>if c∈s then some [c] else none | _=>none)=none:=by
       split
       ·rename_i q;rw [q] at h1;exact absurd rfl h1
       ·rfl
      rw [this];exact Eq.trans (ifN (a3g (o6 (qw (du (bu rfl) (cj _ _ _) ix1) (cj _ _ _) si) (je _)) (a6w (tof (du (qi (du (bu rfl) (cj _ _ _) ix1) lx) (cj _ _ _) (a3h (by omega))))))) (iw (cj _ _ _))
    | _=>exact Eq.trans (ifN (a6w (o6 (qw (du (bu rfl) (cj _ _ _) ix1) (cj _ _ _) si) (je _)))) (iw (cj _ _ _))
   ·exact congrArg toR (km (Eq.trans (ifT (tof (du (qi (bu rfl) EVT.ju) (cj _ _ _) (a0y (by simp only [List.length_cons];omega))))) (iw (cj _ _ _))))
  | row ps =>
   obtain ⟨k1,k2⟩:=ks;rw [sd,qe];refine Eq.trans (congrArg toR (ifN (by walk_at "x"))) ?_
   show _=R.ok (oW (two "row" _ _)) []
   rcases rest with _ | ⟨c,r⟩
   ·refine Eq.trans (congrArg toR (ifN (tof (du (qi (bu rfl) EVT.ju) (cj _ _ _) (a1o rfl))))) ?_;show _=R.ok (oW (two "row" _ (.tup [.str "row",b]))) [];rw [a6t];have m:=a7i (n:=n) (f:=wk d) (ss:=ps) (.inl rfl) gb (λs hs qs hq q hq'=>ih s q (k2 s hs) ((hq ▸ gb).of.2 q hq')) (λqs x hq e=>big _ _ _ (hq ▸ gb) e) [];exact Eq.trans (congrArg toR (ifN (by walk_at "x"))) (congrArg toR (km (Eq.trans (ifT (by walk_at "x")) (iw (qw (du (bu rfl) (cj _ _ _) ix1) (du (bu rfl) (cj _ _ _) ix1) m)))))
   ·exact congrArg toR (km (Eq.trans (ifT (tof (du (qi (bu rfl) EVT.ju) (cj _ _ _) (a0y (by simp only [List.length_cons];omega))))) (iw (cj _ _ _))))
  | many s =>
   rw [sd];refine Eq.trans (congrArg toR (ifN (by walk_at "x"))) ?_
   show _=R.ok (oW (two "many" _ _)) []
   rcases rest with _ | ⟨c,r⟩
   ·refine Eq.trans (congrArg toR (ifN (tof (du (qi (bu rfl) EVT.ju) (cj _ _ _) (a1o rfl))))) ?_;show _=R.ok (oW (two "many" _ (.tup [.str "many",b]))) [];rw [a6t];refine Eq.trans (congrArg toR (ifN (by walk_at "x"))) (Eq.trans (congrArg toR (ifN (by walk_at "x"))) ?_)
    cases id gb with
    | tup qs z gq =>
     have ti:jl [.tup qs, .ty "tuple"] [] = .ok (.bl true) []:=ti;have m:=a7i (n:=n) (f:=wk d) (ss:=List.replicate qs.length s) (.inr rfl) gb (λs' hs qs' hq q hq'=>by cases hq;rw [(List.mem_replicate.mp hs).2];exact ih s q ks (gq q hq')) (λqs x hq e=>big _ _ _ (hq ▸ gb) e) []
     rw [List.map_replicate] at m;exact Eq.trans (congrArg toR (ifN (by walk_at "x"))) (Eq.trans (congrArg toR (ifN (a6w (by walk_at "x")))) (congrArg toR (iw (qw (a7j (du (bu rfl) (cj _ _ _) ix1) (qi (du (bu rfl) (cj _ _ _) ix1) EVT.ju) (sy s) (by omega)) (du (bu rfl) (cj _ _ _) ix1) m))))
    | _=>exact congrArg toR (km (Eq.trans (ifT (a3q (o6 (qw (du (bu rfl) (cj _ _ _) ix1) (cj _ _ _) ti) (je _)))) (iw (cj _ _ _))))
   ·exact congrArg toR (km (Eq.trans (ifT (tof (du (qi (bu rfl) EVT.ju) (cj _ _ _) (a0y (by simp only [List.length_cons];omega))))) (iw (cj _ _ _))))
  | tim s lo hi =>
   obtain ⟨k1,k2,k3⟩:=ks;rw [sd];refine Eq.trans (congrArg toR (ifN (by walk_at "x"))) ?_
   show _=R.ok (oW (two "times" _ _)) []
   rcases rest with _ | ⟨c,r⟩
   ·refine Eq.trans (congrArg toR (ifN (tof (du (qi (bu rfl) EVT.ju) (cj _ _ _) (a1o rfl))))) ?_;show _=R.ok (oW (two "times" _ (.tup [.str "times",b]))) [];rw [a6t];refine Eq.trans (congrArg toR (ifN (by walk_at "x"))) (Eq.trans (congrArg toR (ifN (by walk_at "x"))) ?_)
    cases id gb with
    | tup qs z gq =>
     have ti:jl [.tup qs, .ty "tuple"] [] = .ok (.bl true) []:=ti;refine Eq.trans (congrArg toR (ifN (by walk_at "x"))) ?_
     show _=R.ok (oW (if lo<=qs.length/\qs.length<=hi then wks (wk d) (List.replicate qs.length s) qs else none)) []
     by_cases hq:lo<=qs.length/\qs.length<=hi
     ·rw [if_pos hq];have m:=a7i (n:=n) (f:=wk d) (ss:=List.replicate qs.length s) (.inr rfl) gb (λs' hs qs' hq q hq'=>by cases hq;rw [(List.mem_replicate.mp hs).2];exact ih s q k3 (gq q hq')) (λqs x hq e=>big _ _ _ (hq ▸ gb) e) []
      rw [List.map_replicate] at m;refine Eq.trans (congrArg toR (ifN (a3g (by walk_at "x") (a0x (tof (chT (du (bu rfl) (cj _ _ _) ix2) (qi (du (bu rfl) (cj _ _ _) ix1) EVT.ju) (leT (by omega)) (du (bu rfl) (cj _ _ _) ix3) (leT (by omega)))))))) (congrArg toR (iw (qw (a7j (du (bu rfl) (cj _ _ _) ix1) (qi (du (bu rfl) (cj _ _ _) ix1) EVT.ju) (sy s) (by omega)) (du (bu rfl) (cj _ _ _) ix1) m)))
     ·rw [if_neg hq];have c3:sT (sCh gLe gLe (s2 gIx (sV 0) (sC (.int 2))) (sA qg (aj (s2 gIx (sV 1) (sC (.int 1))) cu)) (s2 gIx (sV 0) (sC (.int 3)))) [some (.tup [.str "times",sd s,jo lo,jo hi]),some (.tup [.str (hdS (.tim s lo hi)), .tup qs])] [] = .ok false []:=by
       by_cases h0:lo<=qs.length
       ·exact tof (chT (du (bu rfl) (cj _ _ _) ix2) (qi (du (bu rfl) (cj _ _ _) ix1) EVT.ju) (leT (by omega)) (du (bu rfl) (cj _ _ _) ix3) (leF (by omega)))
       ·exact tof (chF (du (bu rfl) (cj _ _ _) ix2) (qi (du (bu rfl) (cj _ _ _) ix1) EVT.ju) (leF (by omega)))
      exact congrArg toR (km (Eq.trans (ifT (a3g (by walk_at "x") (a3q c3))) (iw (cj _ _ _))))
    | _=>exact congrArg toR (km (Eq.trans (ifT (a3q (o6 (qw (du (bu rfl) (cj _ _ _) ix1) (cj _ _ _) ti) (je _)))) (iw (cj _ _ _))))
   ·exact congrArg toR (km (Eq.trans (ifT (tof (du (qi (bu rfl) EVT.ju) (cj _ _ _) (a0y (by simp only [List.length_cons];omega))))) (iw (cj _ _ _))))
 ·rw [al1 fit];exact congrArg toR (km (Eq.trans (ifT (apl g fit)) (iw (cj _ _ _))))
theorem a0j{tg:List Nat}:∀ (d n:Nat),d<=5->2*d<=n->Wd tg d n
 | 0,_,_,_=>λ_ _ k=>k.elim
 | d+1,0,_,h=>absurd h (by omega)
 | d+1,1,_,h=>absurd h (by omega)
 | d+1,n+2,h5,h=>a7k (by omega) (a0j d n (by omega) (by omega)) (a0j d (n+1) (by omega) (by omega))
end SHD
namespace K10
open PySem PySem.Spec L2 MI AT HND EVX SHD
open PAP hiding gf a6p a6q vg a2r aof
local macro_rules | `(tactic| walk_at "c") => `(tactic| first | assumption | exact ie _ | (with_reducible exact EVT.za) | exact dw _ | exact xx _ | exact qd | exact iy | ((with_reducible apply bz)<;>walk_at "c") | ((with_reducible apply jw);walk_at "c") | ((with_reducible apply tu);walk_at "c") | ((with_reducible apply EVT.uo)<;>walk_at "c") | ((with_reducible apply EVT.uy);walk_at "c") | ((with_reducible apply EVT.uz);walk_at "c") | ((with_reducible apply EVT.yx);walk_at "c") | ((with_reducible apply EVT.yz);walk_at "c") | ((with_reducible apply EVT.zb)<;>walk_at "c") | exact kh fun _ _=>ie _ | exact kh fun _ _=>dw _)
local macro_rules | `(tactic| walk_at "h") => `(tactic| first | assumption | exact EVT.a1c | exact EVT.vp (by assumption))
local macro_rules | `(tactic| walk_at "z") => `(tactic| first | assumption | omega | (simp only [List.length_cons,List.length_nil,List.length_append,List.length_take,List.length_drop,List.length_map,List.length_singleton,EVT.a1b,Int.reduceToNat]<;>omega))
local macro_rules | `(tactic| walk_at "l") => `(tactic| first
 | (with_reducible assumption)
 | (with_reducible exact a6q) | (with_reducible exact a6p) | (with_reducible exact a6x) | (with_reducible exact ahg)
 | (with_reducible exact EVT.ju) | (with_reducible exact EVT.a3r)
 | ((with_reducible apply EVT.PuE);with_reducible assumption)
 | ((with_reducible apply EVT.ahh);with_reducible assumption)
 | (with_reducible exact EVT.a9l _ _) | (with_reducible exact PAP.ae2 _ _ _) | (with_reducible exact PAP.a0i _ _ _)
 | ((with_reducible apply PAP.a2q);walk_at "z")
 | ((with_reducible apply EVT.a7g);walk_at "z")
 | ((with_reducible apply EVT.a9k);walk_at "z")
 | (with_reducible exact a1l _ _) | (with_reducible exact a6o _) | (with_reducible exact je _)
 | ((with_reducible apply ac4);walk_at "z") | ((with_reducible apply abg);walk_at "z")
 | ((with_reducible apply ahe);walk_at "z") | ((with_reducible apply ahf);walk_at "z")
 | ((with_reducible apply a2p);walk_at "z") | ((with_reducible apply a3h);walk_at "z")
 | ((with_reducible apply a0y);walk_at "z") | ((with_reducible apply a1o);walk_at "z")
 | exact rfl)
local macro_rules | `(tactic| walk_at "x") => `(tactic| first
 | (with_reducible assumption)
 | (with_reducible exact cj _ _ _)
 | ((with_reducible apply bu);exact rfl)
 | (with_reducible exact EVT.vo) | (with_reducible exact EVT.a6r)
 | ((with_reducible apply EVT.zp);walk_at "x";exact rfl;walk_at "c";walk_at "h";walk_at "z")
 | ((with_reducible apply EVT.a0z);walk_at "x";exact rfl;walk_at "c";walk_at "h")
 | ((with_reducible apply EVT.a1a);walk_at "x";exact rfl;walk_at "h";walk_at "z")
 | ((with_reducible apply EVT.a2s);walk_at "x";walk_at "x";exact rfl;walk_at "c";walk_at "c";walk_at "h";walk_at "z")
 | ((with_reducible apply EVT.a2t);walk_at "x";walk_at "x";exact rfl;walk_at "c";walk_at "h";walk_at "z";walk_at "z")
 | ((with_reducible apply EVT.vg);walk_at "h")
 | ((with_reducible apply du);walk_at "x";walk_at "x";walk_at "l")
 | ((with_reducible apply af6);walk_at "x";walk_at "l")
 | ((with_reducible apply PAP.aof);walk_at "x";walk_at "l")
 | ((with_reducible apply PAP.gf);walk_at "x";walk_at "x")
 | ((with_reducible apply a5p);walk_at "x";walk_at "x";walk_at "x";walk_at "l")
 | ((with_reducible apply a5e);walk_at "x")
 | ((with_reducible apply tof);walk_at "x")
 | ((with_reducible apply o6);walk_at "x";walk_at "l")
 | ((with_reducible apply a0x);walk_at "x") | ((with_reducible apply a3q);walk_at "x")
 | ((with_reducible apply a3g);walk_at "x";walk_at "x") | ((with_reducible apply a6w);walk_at "x")
 | ((with_reducible apply orT);walk_at "x") | ((with_reducible apply orF);walk_at "x";walk_at "x"))
local macro_rules | `(tactic| walk_at "l") => `(tactic| first | (with_reducible exact SHD.ix0) | (with_reducible exact SHD.ix1) | (with_reducible exact SHD.ix2) | (with_reducible exact SHD.ix3) | (with_reducible exact SHD.ai1) | ((with_reducible apply SHD.a5q);exact (by decide)) | (with_reducible exact SHD.ahj) | ((with_reducible apply SHD.ahi);exact (by decide)) | (with_reducible exact SHD.abl) | (with_reducible exact SHD.yp))
noncomputable def qx:SF:=ou a2l 1
theorem ae6{d:D}(p:Pln d):Pu qx 1 [d] (.bl (isI d)):=SHD.a6s p
noncomputable def j5:SF:=ou (pq qx) 3
theorem a8s{x y:D}(a:MI.clo 0 x)(b:MI.clo 0 y):∀ z∈[x,y],MI.clo 0 z:=λz hz=>by
 simp only [List.mem_cons,List.not_mem_nil,or_false] at hz;rcases hz with rfl | rfl;exact a;exact b
theorem a0k{x y w:D}(a:MI.clo 0 x)(b:MI.clo 0 y)(c:MI.clo 0 w):∀ z∈[x,y,w],MI.clo 0 z:=λz hz=>by
 rcases List.mem_cons.mp hz with rfl | hz;exact a;exact a8s b c z hz
theorem a5j{x y w v:D}(a:MI.clo 0 x)(b:MI.clo 0 y)(c:MI.clo 0 w)(e:MI.clo 0 v):∀ z∈[x,y,w,v],MI.clo 0 z:=λz hz=>by
 rcases List.mem_cons.mp hz with rfl | hz;exact a;exact a0k b c e z hz
def a1e(lo hi:Int):D->Bool | .int i=>decide (lo<=i/\i<=hi) | _=>false
theorem a9o{d:D}(p:Pln d)(lo hi:Int):Pu j5 3 [d, .int lo, .int hi] (.bl (a1e lo hi d)):=by
 refine pu1 rfl (a0k p.clo (ie _) (ie _)) (xx _) ?_;unfold j5;rw [jj];show toR (pq qx [some d,some (.int lo),some (.int hi)] [])=_;unfold pq;have nb:=ae6 p
 cases d with
 | int i =>
  refine congrArg toR (iw (a9j (qi (bu rfl) (nb _)) ?_))
  by_cases h0:lo<=i
  ·by_cases h1:i<=hi
   ·exact (chT (bu rfl) (bu rfl) (leT h0) (bu rfl) (leT h1)).trans (by rw [show a1e lo hi (.int i)=true from decide_eq_true ⟨h0,h1⟩])
   ·exact (chT (bu rfl) (bu rfl) (leT h0) (bu rfl) (leF h1)).trans (by rw [show a1e lo hi (.int i)=false from decide_eq_false λz=>h1 z.2])
  ·exact (chF (bu rfl) (bu rfl) (leF h0)).trans (by rw [show a1e lo hi (.int i)=false from decide_eq_false λz=>h0 z.1])
 | _=>exact congrArg toR (iw (PAP.ae1 (qi (bu rfl) (nb _))))
noncomputable def rz:SF:=ou a1r 3
def ai2(lo hi:Int):D->Bool | .tup xs=>decide (lo<=(xs.length:Int)/\(xs.length:Int)<=hi) | _=>false
theorem a8t{d:D}(p:Pln d)(lo hi:Int):Pu rz 3 [d, .int lo, .int hi] (.bl (ai2 lo hi d)):=by
 refine pu1 rfl (a0k p.clo (ie _) (ie _)) (xx _) ?_;unfold rz;rw [jj];show toR (a1r [some d,some (.int lo),some (.int hi)] [])=_;unfold a1r;have ti:jl [d, .ty "tuple"] [] = .ok (.bl (isTup d)) []:=PAP.abi p
 cases d with
 | tup xs =>
  refine congrArg toR (iw (a9j (qw (bu rfl) (cj _ _ _) ti) ?_))
  by_cases h0:lo<=(xs.length:Int)
  ·by_cases h1:(xs.length:Int)<=hi
   ·exact (chT (bu rfl) (qi (bu rfl) EVT.ju) (leT h0) (bu rfl) (leT h1)).trans (by rw [show ai2 lo hi (.tup xs)=true from decide_eq_true ⟨h0,h1⟩])
   ·exact (chT (bu rfl) (qi (bu rfl) EVT.ju) (leT h0) (bu rfl) (leF h1)).trans (by rw [show ai2 lo hi (.tup xs)=false from decide_eq_false λz=>h1 z.2])
  ·exact (chF (bu rfl) (qi (bu rfl) EVT.ju) (leF h0)).trans (by rw [show ai2 lo hi (.tup xs)=false from decide_eq_false λz=>h0 z.1])
 | _=>exact congrArg toR (iw (PAP.ae1 (qw (bu rfl) (cj _ _ _) ti)))
def oE:Option Nat->D
 | none=>.non
 | some k=>jo k
theorem abw(o:Option Nat):MI.clo 0 (oE o):=by cases o;exact qd;exact ie _
def en(w:List Nat)(a:Nat)(o:Option (List Nat)):Option Nat:=o.bind λx=>if x.isPrefixOf (w.drop a)=true then some (a+x.length) else none
noncomputable def n6:SF:=ou vf 4
theorem apm(w:List Nat)(a c:Nat):[c].isPrefixOf (w.drop a)=decide ((w.drop a).take 1=[c]):=by
 cases w.drop a with
 | nil=>rfl
 | cons x xs =>
  rw [show [c].isPrefixOf (x::xs)=(c == x && true) from rfl,Bool.and_true]
  by_cases e:c=x
  ·subst e;simp
  ·rw [beq_eq_false_iff_ne.mpr e,decide_eq_false];simp;exact λz=>e z.symm
theorem ahs{s:List Nat}{x:Str}(h:¬ x.cps.toList.length=1):ahl s (.str x)=none:=by
 rw [abt]
 split
 ·rename_i q;rw [q] at h;exact absurd rfl h
 ·rfl
theorem abx{s w:List Nat}{a:Nat}{p:D}(g:Gd p)(hw:w.length<=1000000)(ha:a<=1000000):Pu n6 4 [.str (S s), .str (S w),jo a,p] (oE (en w a (ahl s p))):=by
 refine pu1 rfl (a5j (dw _) (dw _) (ie _) g.clo) (abw _) ?_;unfold n6;rw [jj];show toR (vf [some (.str (S s)),some (.str (S w)),some (jo a),some p] [])=_;unfold vf;have si:jl [p, .ty "str"] [] = .ok (.bl (isS p)) []:=ae5 g.pln
 cases g with
 | str x hx =>
  have si:jl [.str x, .ty "str"] [] = .ok (.bl true) []:=si;have lx:qg [.str x] [] = .ok (jo x.cps.toList.length) []:=by
   have:=a2m (l:=x.cps.toList) (h:=[]) (j7 (by omega))
   rwa [a9e] at this
  by_cases h1:x.cps.toList.length=1
  ·obtain ⟨c,hc⟩:=List.length_eq_one_iff.mp h1
   cases abu hc
   show _=R.ok (oE (en w a (if c∈s then some [c] else none))) []
   refine Eq.trans (congrArg toR (ifN (orF (a0x (o6 (qw (bu rfl) (cj _ _ _) si) (je _))) (tof (du (qi (bu rfl) lx) (cj _ _ _) (a1o (by rw [h1];rfl))))))) ?_
   refine congrArg toR (iw ?_);have sl:a3b (.str (S w)) (some ((a:Nat):Int)) (some ((a:Int)+1)) [] = .ok (.str (S ((w.drop a).take 1))) []:=by
    have:=ape (l:=w) (h:=[]) a (a+1) (j7 hw)
    rw [Nat.add_sub_cancel_left] at this;exact this
   by_cases hcs:c∈s
   ·rw [if_pos hcs];show _=R.ok (oE (if [c].isPrefixOf (w.drop a)=true then some (a+[c].length) else none)) []
    rw [apm];have eqs:hEq (.str (S ((w.drop a).take 1))) (.str (S [c])) [] = .ok (.bl (decide ((w.drop a).take 1=[c]))) []:=by rw [ady,akn]
    have t1:=tof (du (a5p (bu (i:=1) (τ:=[some (.str (S s)),some (.str (S w)),some (jo a),some (.str (S [c]))]) rfl) (a5e (bu (i:=2) rfl)) (a5e (du (bu (i:=2) rfl) (cj (.int 1) _ _) abl)) sl) (bu (i:=3) rfl) eqs)
    by_cases hd:(w.drop a).take 1=[c]
    ·rw [decide_eq_true hd] at t1 ⊢;rw [if_pos rfl];exact EVT.an7 (a3g (tof (du (bu rfl) (bu rfl) ((abv c s []).trans (by rw [decide_eq_true hcs])))) t1) (du (bu rfl) (cj _ _ _) abl)
    ·rw [decide_eq_false hd] at t1 ⊢;rw [if_neg (by decide)]
     exact EVT.aly (a3g (tof (du (bu rfl) (bu rfl) ((abv c s []).trans (by rw [decide_eq_true hcs])))) t1) (cj _ _ _)
   ·rw [if_neg hcs];exact EVT.aly (a6w (tof (du (bu rfl) (bu rfl) ((abv c s []).trans (by rw [decide_eq_false hcs]))))) (cj _ _ _)
  ·rw [ahs h1];exact congrArg toR (km (Eq.trans (ifT (orF (a0x (o6 (qw (bu rfl) (cj _ _ _) si) (je _))) (tof (du (qi (bu rfl) lx) (cj _ _ _) (a0y (by omega)))))) (iw (cj _ _ _))))
 | _=>exact congrArg toR (km (Eq.trans (ifT (orT (a3q (o6 (qw (bu rfl) (cj _ _ _) si) (je _))))) (iw (cj _ _ _))))
noncomputable def m8:SF:=ou xn 2
def partsOf:Sh->Nat->Option (List Sh)
 | .row ps,k=>if k=ps.length then some ps else none
 | .many s,k=>some (List.replicate k s)
 | .tim s lo hi,k=>if lo<=k/\k<=hi then some (List.replicate k s) else none
 | _,_=>none
def Parts(o:Option (List Sh))(d:D):Prop:=match o with
 | none=>d = .non
 | some ss=>d = .tup (ss.map sd)\/d = .rol (ss.map sd)
theorem Parts.clo{o:Option (List Sh)}{d:D}(h:Parts o d):MI.clo 0 d:=by
 cases o with
 | none=>rw [show d = .non from h];exact qd
 | some ss =>
  rcases h with rfl | rfl
  ·exact jw (qe ss ▸ xr ss)
  ·exact tu (qe ss ▸ xr ss)
theorem a8u{d:D}{k:Nat}{τ:Sd}{f g:SE}(ef:f τ [] = .ok d [])(eg:g τ [] = .ok (jo k) [])(c:MI.clo 0 d)(hk:k<=1000):a3p 0 (s2 wu (sZ (sA MI.w6 (aj f cu))) g τ []) = .ok (.rol (List.replicate k d)) []:=a7j ef eg c hk
theorem ae7{s:Sh}{k:Nat}(hk:k<=12)(hs:hdS s ≠ "one"/\hdS s ≠ "either"):∃ d,Pu m8 2 [sd s,jo k] d/\Parts (partsOf s k) d:=by
 have go:m8 [sd s,jo k] []=toR (xn [some (sd s),some (jo k)] []):=by
  unfold m8;rw [jj];rfl
 have cl:=a8s (sy s) (ie (n:=0) (k:Int));unfold xn at go
 cases s with
 | one s=>exact absurd rfl hs.1
 | eit ps=>exact absurd rfl hs.2
 | row ps =>
  rw [sd,qe] at go cl ⊢;have ln:qg [.tup (ps.map sd)] [] = .ok (jo ps.length) []:=by rw [EVT.ju,List.length_map]
  show ∃ d,_/\Parts (if k=ps.length then some ps else none) d
  by_cases h:k=ps.length
  ·rw [if_pos h];refine ⟨.tup (ps.map sd),pu1 rfl cl (jw (qe ps ▸ xr ps)) (go.trans ?_), .inl rfl⟩;exact congrArg toR (km (Eq.trans (ifT (by walk_at "x")) (iw (EVT.an7 (tof (du (bu rfl) (qi (du (bu rfl) (cj _ _ _) ix1) ln) (a2p (by rw [h])))) (du (bu rfl) (cj _ _ _) ix1)))))
  ·rw [if_neg h];refine ⟨.non,pu1 rfl cl qd (go.trans ?_),rfl⟩;exact congrArg toR (km (Eq.trans (ifT (by walk_at "x")) (iw (EVT.aly (tof (du (bu rfl) (qi (du (bu rfl) (cj _ _ _) ix1) ln) (a3h (by omega)))) (cj _ _ _)))))
 | many s =>
  rw [sd] at go cl ⊢;refine ⟨.rol (List.replicate k (sd s)),Pu.of rfl cl (go.trans (Eq.trans (congrArg toR (ifN (by walk_at "x"))) (congrArg toR (ifN (a6w (by walk_at "x")))))) ?_ (tu (jg.mpr λx hx=>by rw [(List.mem_replicate.mp hx).2];exact sy s)), .inr (by rw [List.map_replicate])⟩
  have:=a8u (τ:=[some (.tup [.str "many",sd s]),some (jo k)]) (f:=s2 gIx (sV 0) (sC (.int 1))) (g:=sV 1) (d:=sd s) (k:=k) (du (bu rfl) (cj _ _ _) ix1) (bu rfl) (sy s) (by omega)
  unfold mz
  generalize s2 wu _ _ _ _=r at this ⊢
  cases r with
  | ok a h=>exact this
  | ex c h=>exact this
  | no=>exact this
 | tim s lo hi =>
  rw [sd] at go cl ⊢;show ∃ d,_/\Parts (if lo<=k/\k<=hi then some (List.replicate k s) else none) d
  by_cases h:lo<=k/\k<=hi
  ·rw [if_pos h];refine ⟨.rol (List.replicate k (sd s)),Pu.of rfl cl (go.trans (Eq.trans (congrArg toR (ifN (by walk_at "x"))) (congrArg toR (ifN (a3g (by walk_at "x") (a0x (tof (chT (du (bu rfl) (cj _ _ _) ix2) (bu rfl) (leT (by omega)) (du (bu rfl) (cj _ _ _) ix3) (leT (by omega)))))))))) ?_ (tu (jg.mpr λx hx=>by rw [(List.mem_replicate.mp hx).2];exact sy s)), .inr (by rw [List.map_replicate])⟩
   have:=a8u (τ:=[some (.tup [.str "times",sd s,jo lo,jo hi]),some (jo k)]) (f:=s2 gIx (sV 0) (sC (.int 1))) (g:=sV 1) (d:=sd s) (k:=k) (du (bu rfl) (cj _ _ _) ix1) (bu rfl) (sy s) (by omega)
   unfold mz
   generalize s2 wu _ _ _ _=r at this ⊢
   cases r with
   | ok a h=>exact this
   | ex c h=>exact this
   | no=>exact this
  ·rw [if_neg h];refine ⟨.non,pu1 rfl cl qd (go.trans ?_),rfl⟩;have c3:sT (sCh gLe gLe (s2 gIx (sV 0) (sC (.int 2))) (sV 1) (s2 gIx (sV 0) (sC (.int 3)))) [some (.tup [.str "times",sd s,jo lo,jo hi]),some (jo k)] [] = .ok false []:=by
    by_cases h0:lo<=k
    ·exact tof (chT (du (bu rfl) (cj _ _ _) ix2) (bu rfl) (leT (by omega)) (du (bu rfl) (cj _ _ _) ix3) (leF (by omega)))
    ·exact tof (chF (du (bu rfl) (cj _ _ _) ix2) (bu rfl) (leF (by omega)))
   exact Eq.trans (congrArg toR (ifN (by walk_at "x"))) (congrArg toR (km (Eq.trans (ifT (a3g (by walk_at "x") (a3q c3))) (iw (cj _ _ _)))))
mutual
noncomputable def jr:Nat->SF
 | 0=>λ_ _=>.no
 | n+1=>ou (a1s (jx n) (jr n) n6 j5 rz m8) 5
noncomputable def jx:Nat->SF
 | 0=>λ_ _=>.no
 | n+1=>ou (oh (jr n)) 7
end
theorem pre_app{x y l:List Nat}:(x++y).isPrefixOf l=(x.isPrefixOf l && y.isPrefixOf (l.drop x.length)):=by
 induction x generalizing l with
 | nil=>simp
 | cons a x ih =>
  cases l with
  | nil=>rfl
  | cons b l =>
   show (a == b && (x++y).isPrefixOf l)=((a == b && x.isPrefixOf l) && y.isPrefixOf (l.drop x.length));rw [ih,Bool.and_assoc]
theorem ae8{f:Sh->D->Option (List Nat)}{s:Sh}{q:D}{ss:List Sh}{qs:List D}:wks f (s::ss) (q::qs)=(f s q).bind λx=>(wks f ss qs).bind λy=>some (x++y):=by
 rw [wks]
 cases f s q<;>cases wks f ss qs<;>rfl
theorem a7l{f:Sh->D->Option (List Nat)}:∀ {s1:List Sh} {q1:List D} {s2:List Sh} {q2:List D},s1.length=q1.length->wks f (s1++s2) (q1++q2)=(wks f s1 q1).bind λx=>(wks f s2 q2).bind λy=>some (x++y)
 | [],[],s2,q2,_=>by
  show wks f s2 q2=(wks f s2 q2).bind λy=>some y
  cases wks f s2 q2<;>rfl
 | [],_::_,_,_,h=>by simp at h
 | _::_,[],_,_,h=>by simp at h
 | s::s1,q::q1,s2,q2,h=>by
  have:=a7l (f:=f) (s1:=s1) (q1:=q1) (s2:=s2) (q2:=q2) (by simpa using h)
  show (match f s q,wks f (s1++s2) (q1++q2) with | some x,some y=>some (x++y) | _,_=>none)=(match f s q,wks f s1 q1 with | some x,some y=>some (x++y) | _,_=>none).bind _
  rw [this]
  cases f s q with
  | none=>rfl
  | some a =>
   cases wks f s1 q1 with
   | none=>rfl
   | some b =>
    cases wks f s2 q2 with
    | none=>rfl
    | some c=>simp
theorem afe{w x:List Nat}{a:Nat}{o:Option (List Nat)}(hx:x.isPrefixOf (w.drop a)=true):en w a (o.bind λy=>some (x++y))=en w (a+x.length) o:=by
 cases o with
 | none=>rfl
 | some y =>
  show (if (x++y).isPrefixOf (w.drop a)=true then some (a+(x++y).length) else none)=if y.isPrefixOf (w.drop (a+x.length))=true then some (a+x.length+y.length) else none
  rw [pre_app,hx,Bool.true_and,List.drop_drop,List.length_append,Nat.add_assoc]
theorem aht{n a:Nat}{w:List Nat}{f:Sh->D->Option (List Nat)}{ss:List Sh}{qs:List D}{parts:D}(hp:parts = .tup (ss.map sd)\/parts = .rol (ss.map sd))(cp:MI.clo 0 parts)(hq:∀ q∈qs,MI.clo 0 q)(hl:ss.length=qs.length)(ha:a<=w.length)
  (hf:∀ s∈ss,∀ q∈qs,∀ b,b<=w.length->Pu (jr n) 4 [sd s, .str (S w),jo b,q] (oE (en w b (f s q)))) :
  Pu (jx (n+1)) 4 [parts, .str (S w),jo a, .tup qs] (oE (en w a (wks f ss qs))):=by
 refine pu1 rfl (a5j cp (dw _) (ie _) (jw (jg.mpr hq))) (abw _) ?_;rw [jx,jj];show toR (oh (jr n) [some parts,some (.str (S w)),some (jo a),some (.tup qs),none,none,none] [])=_;unfold oh;have nn:gIs parts .non [] = .ok (.bl false) []:=by rcases hp with rfl | rfl<;>rfl
 refine Eq.trans (congrArg toR (ifN (tof (du (bu rfl) (cj _ _ _) nn)))) ?_;refine Eq.trans (congrArg toR (nq (bu rfl))) ?_;have zi:∀ t4,ac3 (sV 0) (sV 3) [some parts,some (.str (S w)),some (jo a),some (.tup qs),t4,none,none] [] = .ok ⟨(ss.zip qs).map λp=>.tup [sd p.1,p.2],λ_=>True⟩ []:=λt4=>by
  unfold ac3;rw [bu rfl,dm,bu rfl,dm]
  rcases hp with rfl | rfl
  all_goals
   show R.ok (⟨((ss.map sd).zip qs).map λp=>.tup [p.1,p.2],λ_=>True/\True⟩:Itm) []=_;rw [List.zip_map_left,List.map_map]
   congr 2
   funext _
   simp
 refine Eq.trans (congrArg toR (ahb (zi _))) ?_;have all:∀ zs:List (Sh × D),zs=ss.zip qs->ss=zs.map (·.1)/\qs=zs.map (·.2):=λzs e=>by
  subst e;exact ⟨(List.map_fst_zip (by omega)).symm,(List.map_snd_zip (by omega)).symm⟩
 have lp:=a4n (g:=aer 2 (a2d (kN 5) (a2d (kN 6) agg))) (b:=uc (jr n)) (λp:Sh × D=>.tup [sd p.1,p.2])
  (λpre τ h=>∃ (x:List Nat) (t5 t6:Option D),wks f (pre.map (·.1)) (pre.map (·.2))=some x/\x.isPrefixOf (w.drop a)=true/\τ=[some parts,some (.str (S w)),some (jo a),some (.tup qs),some (jo (a+x.length)),t5,t6]/\h=[])
  (λd h=>d = .non/\h=[]/\en w a (wks f ss qs)=none) (ss.zip qs) [] [some parts,some (.str (S w)),some (jo a),some (.tup qs),some (jo a),none,none] [] ?_ ⟨[],none,none,rfl,rfl,rfl,rfl⟩
 ·rcases lp with ⟨τ',h',e,x,t5,t6,ex,hx,rfl,rfl⟩ | ⟨d,h',e,rfl,rfl,en0⟩
  ·rw [List.nil_append] at ex;obtain ⟨a1,a2⟩:=all _ rfl;rw [<-a1,<-a2] at ex;refine Eq.trans (congrArg toR (Eq.trans (congrArg (λz=>MI.thn z _) e) (Eq.trans (a1k _ _ _) (iw (bu rfl))))) ?_;rw [ex];show _=R.ok (oE (if x.isPrefixOf (w.drop a)=true then some (a+x.length) else none)) []
   rw [if_pos hx];rfl
  ·refine Eq.trans (congrArg toR (Eq.trans (congrArg (λz=>MI.thn z _) e) (a6i _ _ _))) ?_;rw [en0];rfl
 ·rintro pre ⟨s,q⟩ post τ h al ⟨x,t5,t6,ex,hx,rfl,rfl⟩
  rw [List.nil_append] at al;obtain ⟨a1,a2⟩:=all _ al.symm;rw [List.map_append,List.map_cons] at a1 a2;have hs:s∈ss:=by rw [a1];simp
  have hq:q∈qs:=by rw [a2];simp
  have hb:a+x.length<=w.length:=by
   obtain ⟨t,ht⟩:=List.isPrefixOf_iff_prefix.mp hx;have:=congrArg List.length ht;rw [List.length_append,List.length_drop] at this;omega
  have e:=hf s hs q hq _ hb;have spl:en w a (wks f ss qs)=(en w (a+x.length) (f s q)).bind λb=>en w b (wks f (post.map (·.1)) (post.map (·.2))):=by
   rw [a1,a2,a7l (by simp),ex]
   show en w a ((wks f (s::post.map (·.1)) (q::post.map (·.2))).bind λy=>some (x++y))=_;rw [afe hx,ae8]
   cases f s q with
   | none=>rfl
   | some y =>
    show en w (a+x.length) ((wks f (post.map (·.1)) (post.map (·.2))).bind λz=>some (y++z))=_
    cases hy:y.isPrefixOf (w.drop (a+x.length)) with
    | true =>
     rw [afe hy];show _=(if y.isPrefixOf (w.drop (a+x.length))=true then some (a+x.length+y.length) else none).bind _
     rw [if_pos hy];rfl
    | false =>
     show _=(if y.isPrefixOf (w.drop (a+x.length))=true then some (a+x.length+y.length) else none).bind _
     rw [if_neg (by rw [hy];decide)]
     cases wks f (post.map (·.1)) (post.map (·.2)) with
     | none=>rfl
     | some z =>
      show (if (y++z).isPrefixOf (w.drop (a+x.length))=true then _ else none)=_
      rw [pre_app,hy,Bool.false_and,if_neg (by decide)]
      rfl
  refine ⟨_,_,rfl,?_⟩;unfold uc;have c1:=nq (i:=4) (g:=sIf (sT (s2 gIs (sV 4) (sC .non))) (mz (sC .non)) sNx) (τ:=[some parts,some (.str (S w)),some (jo a),some (.tup qs),some (jo (a+x.length)),some (sd s),some q]) (h:=[]) (PAP.aof (PAP.gf (bu (i:=5) rfl) (PAP.gf (bu (i:=1) rfl) (PAP.gf (bu (i:=4) rfl) (PAP.gf (bu (i:=6) rfl) EVT.vo)))) (e []))
  cases he:en w (a+x.length) (f s q) with
  | none =>
   rw [he] at c1;refine .inr ⟨.non,[],Eq.trans c1 (Eq.trans (ifT (tof (du (bu rfl) (cj _ _ _) rfl))) (iw (cj _ _ _))),rfl,rfl,by rw [spl,he];rfl⟩
  | some b =>
   rw [he] at c1;have hy:∃ y,f s q=some y/\y.isPrefixOf (w.drop (a+x.length))=true/\b=a+x.length+y.length:=by
    cases hf':f s q with
    | none=>rw [hf'] at he;cases he
    | some y =>
     rw [hf'] at he;refine ⟨y,rfl,?_⟩;have he:(if y.isPrefixOf (w.drop (a+x.length))=true then some (a+x.length+y.length) else none)=some b:=he
     split at he
     ·rename_i q;cases he;exact ⟨q,rfl⟩
     ·cases he
   obtain ⟨y,fy,py,rfl⟩:=hy;refine .inl ⟨_,_,Eq.trans c1 (ifF (tof (du (bu rfl) (cj _ _ _) rfl))),x++y,some (sd s),some q,?_,?_,by rw [List.length_append,<-Nat.add_assoc];rfl,rfl⟩
   ·rw [List.map_append,List.map_append,a7l (by simp),ex]
    show (wks f [s] [q]).bind (λz=>some (x++z))=_;have:wks f [s] [q]=some y:=by rw [wks,fy];show some (y++[])=_;rw [List.append_nil]
    rw [this];rfl
   ·rw [pre_app,hx,List.drop_drop,py];rfl
def sz:Sh->Nat
 | .eit _=>3
 | _=>2
def Fit(s:Sh)(p:D):Prop:=∃ rest,p = .tup (.str (hdS s)::rest)/\rest.length+1=sz s
theorem al2{n:Nat}{s:Sh}{p:D}(h:¬ Fit s p):wk n s p=none:=by
 by_cases f:Fits s p
 ·obtain ⟨b,rest,rfl⟩:=f;have hz:¬ (b::rest).length+1=sz s:=λz=>h ⟨b::rest,rfl,z⟩
  cases n with
  | zero=>rfl
  | succ n =>
   have t2:∀ y g,¬ (b::rest).length+1=2->two y g (.tup (.str (hdS s)::b::rest))=none:=λy g hh=>by
    cases rest with
    | nil=>exact absurd rfl hh
    | cons c r=>rfl
   have t3:∀ y g,¬ (b::rest).length+1=3->three y g (.tup (.str (hdS s)::b::rest))=none:=λy g hh=>by
    rcases rest with _ | ⟨c,_ | ⟨c',r⟩⟩
    ·rfl
    ·exact absurd rfl hh
    ·rfl
   cases s with
   | one s=>exact t2 _ _ hz
   | row s=>exact t2 _ _ hz
   | eit s=>exact t3 _ _ hz
   | many s=>exact t2 _ _ hz
   | tim s _ _=>exact t2 _ _ hz
 ·exact al1 f
theorem apn{s:Sh}(h:sz s=2):(hdS s == "either")=false:=by
 cases s with
 | eit ps=>cases h
 | one s=>show (("one" : Str) == "either")=false;decide
 | row s=>show (("row" : Str) == "either")=false;decide
 | many s=>show (("many" : Str) == "either")=false;decide
 | tim s _ _=>show (("times" : Str) == "either")=false;decide
def a9p(x:Str):Prop:=(x == "one")=false/\(x == "either")=false/\x ≠ "one"/\x ≠ "either"
theorem al3:a9p "row":=⟨by decide,by decide,by decide,by decide⟩
theorem ahu:a9p "many":=⟨by decide,by decide,by decide,by decide⟩
theorem ae9:a9p "times":=⟨by decide,by decide,by decide,by decide⟩
theorem ana(s:Sh):sz s<=3/\2<=sz s:=by
 cases s with
 | eit ps=>show 3<=3/\2<=3;decide
 | _=>show 2<=3/\2<=2;decide
section
variable{d:Nat}{p:D}
theorem al4(s:List Nat):wk (d+1) (.one s) p=two "one" (ahl s) p:=rfl
theorem afg(ps:List Sh):wk (d+1) (.row ps) p=two "row" (abm λqs=>wks (wk d) ps qs) p:=rfl
theorem aby(s:Sh):wk (d+1) (.many s) p=two "many" (abm λqs=>wks (wk d) (List.replicate qs.length s) qs) p:=rfl
theorem afh(s:Sh)(lo hi:Nat):wk (d+1) (.tim s lo hi) p=two "times" (abm λqs=>if lo<=qs.length/\qs.length<=hi then wks (wk d) (List.replicate qs.length s) qs else none) p:=rfl
theorem al5(ps:List Sh):wk (d+1) (.eit ps) p=three "either" (ahm (λi q=>(ps[i]?).bind λs=>wk d s q) ps.length) p:=rfl
end
theorem a2w{s:Sh}{y:Str}{f:D->Option (List Nat)}{b:D}(h:y=hdS s):two y f (.tup [.str (hdS s),b])=f b:=by rw [h];exact a6t
theorem ahv(s:Sh){τ:Sd}{h:Hd}(e:τ[0]? = some (some (sd s))):a96 (sT (s2 hEq (s2 gIx (sV 0) (sC (.int 0))) (sC (.str "either")))) (sC (.int 3)) (sC (.int 2)) τ h = .ok (jo (sz s)) h:=by
 cases s with
 | eit ps=>exact EVT.an7 (tof (du (du (bu e) (cj _ _ _) (a1p _ _)) (cj _ _ _) ai1)) (cj _ _ _)
 | _=>exact EVT.aly (tof (du (du (bu e) (cj _ _ _) (a1p _ _)) (cj _ _ _) (a5q (apn rfl)))) (cj _ _ _)
theorem apo{s:Sh}{p:D}{w a:D}(g:Gd p)(h:¬ Fit s p):sOr (yf (zj (sA (jt false 3 rz) (aj (sV 3) (aj (sV 4) (aj (sV 4) cu)))))) (sOr (yf (zj (sA jl (aj (s2 gIx (sV 3) (sC (.int 0))) (aj (sC (.ty "str")) cu))))) (sT (s2 hNe (s2 gIx (sV 3) (sC (.int 0))) (s2 gIx (sV 0) (sC (.int 0)))))) [some (sd s),some w,some a,some p,some (jo (sz s))] [] = .ok true []:=by
 have ir:=a8t g.pln (sz s) (sz s);have is3:=ana s
 cases hb:ai2 (sz s) (sz s) p with
 | false =>
  rw [hb] at ir;exact orT (a3q (o6 (a5o (bu rfl) (bu rfl) (bu rfl) (ir _)) (je _)))
 | true =>
  rw [hb] at ir;refine orF (a0x (o6 (a5o (bu rfl) (bu rfl) (bu rfl) (ir _)) (je _))) ?_
  cases g with
  | tup xs z gx =>
   have hl:xs.length=sz s:=by
    have hb:decide ((sz s:Int)<=(xs.length:Int)/\(xs.length:Int)<=(sz s:Int))=true:=hb;have:=of_decide_eq_true hb;omega
   cases xs with
   | nil=>simp at hl;omega
   | cons a xs =>
    have ia:jl [a, .ty "str"] [] = .ok (.bl (isS a)) []:=ae5 (gx a List.mem_cons_self).pln
    cases hs:isS a with
    | false =>
     rw [hs] at ia;exact orT (a3q (o6 (qw (du (bu rfl) (cj _ _ _) ix0) (cj _ _ _) ia) (je _)))
    | true =>
     rw [hs] at ia;refine orF (a0x (o6 (qw (du (bu rfl) (cj _ _ _) ix0) (cj _ _ _) ia) (je _))) ?_;obtain ⟨x,rfl⟩:∃ x,a = .str x:=by cases a<;>first | (cases hs;done) | exact ⟨_,rfl⟩
     have ne:(x == hdS s)=false:=by
      cases q:x == hdS s with
      | false=>rfl
      | true=>exact absurd ⟨xs,by rw [eq_of_beq q],by simpa using hl⟩ h
     exact tof (du (du (bu rfl) (cj _ _ _) ix0) (du (bu rfl) (cj _ _ _) (a1p s _)) (ahi ne))
  | _=>cases hb
theorem anb{s:Sh}{rest:List D}{w a:D}(g:Gd (.tup (.str (hdS s)::rest)))(hr:rest.length+1=sz s):sOr (yf (zj (sA (jt false 3 rz) (aj (sV 3) (aj (sV 4) (aj (sV 4) cu)))))) (sOr (yf (zj (sA jl (aj (s2 gIx (sV 3) (sC (.int 0))) (aj (sC (.ty "str")) cu))))) (sT (s2 hNe (s2 gIx (sV 3) (sC (.int 0))) (s2 gIx (sV 0) (sC (.int 0)))))) [some (sd s),some w,some a,some (.tup (.str (hdS s)::rest)),some (jo (sz s))] [] = .ok false []:=by
 have ir:=a8t g.pln (sz s) (sz s);have hb:ai2 (sz s) (sz s) (.tup (.str (hdS s)::rest))=true:=decide_eq_true (by rw [List.length_cons];omega)
 rw [hb] at ir;have i2:jl [.str (hdS s), .ty "str"] [] = .ok (.bl true) []:=by simp [jl,aax,tyD,a99]
 exact orF (a0x (o6 (a5o (bu rfl) (bu rfl) (bu rfl) (ir _)) (je _))) (orF (a0x (o6 (qw (du (bu rfl) (cj _ _ _) ix0) (cj _ _ _) i2) (je _))) (tof (du (du (bu rfl) (cj _ _ _) ix0) (du (bu rfl) (cj _ _ _) (a1p s _)) ahj)))
def Ew(tg w:List Nat)(d n:Nat):Prop:=∀ s p a,a3c tg d s->Gd p->a<=w.length->Pu (jr n) 4 [sd s, .str (S w),jo a,p] (oE (en w a (wk d s p)))
theorem aea{d:Nat}{s:Sh}{qs:List D}(h1:hdS s ≠ "one")(h2:hdS s ≠ "either"):wk (d+1) s (.tup [.str (hdS s), .tup qs])=(partsOf s qs.length).bind λss=>wks (wk d) ss qs:=by
 cases s with
 | one s=>exact absurd rfl h1
 | eit s=>exact absurd rfl h2
 | row ps =>
  rw [afg];refine Eq.trans (a2w (s:=.row ps) (y := "row") rfl) ?_;show wks (wk d) ps qs=(if qs.length=ps.length then some ps else none).bind _
  by_cases h:qs.length=ps.length
  ·rw [if_pos h];rfl
  ·rw [if_neg h];exact abq λz=>h z.symm
 | many s=>rw [aby];refine Eq.trans (a2w (s:=.many s) (y := "many") rfl) ?_;rfl
 | tim s lo hi =>
  rw [afh];refine Eq.trans (a2w (s:=.tim s lo hi) (y := "times") rfl) ?_;show (if lo<=qs.length/\qs.length<=hi then wks (wk d) (List.replicate qs.length s) qs else none)=(if lo<=qs.length/\qs.length<=hi then some (List.replicate qs.length s) else none).bind _
  split<;>rfl
theorem a7m{d:Nat}{s:Sh}{b:D}(h1:hdS s ≠ "one")(h2:hdS s ≠ "either")(hb:isTup b=false):wk (d+1) s (.tup [.str (hdS s),b])=none:=by
 have r:∀ f,abm f b=none:=λf=>by
  cases b<;>first | rfl | cases hb
 cases s with
 | one s=>exact absurd rfl h1
 | eit s=>exact absurd rfl h2
 | row ps=>rw [afg];refine Eq.trans (a2w (s:=.row ps) (y := "row") rfl) ?_;exact r _
 | many s=>rw [aby];refine Eq.trans (a2w (s:=.many s) (y := "many") rfl) ?_;exact r _
 | tim s lo hi=>rw [afh];refine Eq.trans (a2w (s:=.tim s lo hi) (y := "times") rfl) ?_;exact r _
theorem aeb{tg:List Nat}{d:Nat}{s:Sh}{k:Nat}{ss:List Sh}(ks:a3c tg (d+1) s)(e:partsOf s k=some ss):ss.length=k/\∀ s'∈ss,a3c tg d s':=by
 cases s with
 | one s=>cases e
 | eit s=>cases e
 | row ps =>
  have e:(if k=ps.length then some ps else none)=some ss:=e
  split at e
  ·rename_i h;cases e;exact ⟨h.symm,ks.2⟩
  ·cases e
 | many s=>cases e;exact ⟨List.length_replicate,λs' h=>by rw [(List.mem_replicate.mp h).2];exact ks⟩
 | tim s lo hi =>
  have e:(if lo<=k/\k<=hi then some (List.replicate k s) else none)=some ss:=e
  split at e
  ·cases e;exact ⟨List.length_replicate,λs' h=>by rw [(List.mem_replicate.mp h).2];exact ks.2.2⟩
  ·cases e
theorem aec{tg w:List Nat}{d n:Nat}(hw:w.length<=1000000)(ih:Ew tg w d n)(ih':Ew tg w d (n+1)):Ew tg w (d+1) (n+2):=by
 intro s p a ks g ha
 refine pu1 rfl (a5j (sy s) (dw _) (ie _) g.clo) (abw _) ?_;rw [jr,jj];show toR (a1s (jx (n+1)) (jr (n+1)) n6 j5 rz m8 [some (sd s),some (.str (S w)),some (jo a),some p,none] [])=_;unfold a1s;refine Eq.trans (congrArg toR (nq (ahv s rfl))) ?_
 by_cases fit:Fit s p
 ·obtain ⟨rest,rfl,hr⟩:=fit;refine Eq.trans (congrArg toR (ifN (anb g hr))) ?_;have rest1:hdS s ≠ "one"->hdS s ≠ "either"->∀ b,rest=[b]->Eq (toR (jh (sIf (yf (zj (sA jl (aj (s2 gIx (sV 3) (sC (.int 1))) (aj (sC (.ty "tuple")) cu))))) (mz (sC .non)) sNx) (mz (sA (jt false 4 (jx (n+1))) (aj (sA (jt false 2 m8) (aj (sV 0) (aj (sA qg (aj (s2 gIx (sV 3) (sC (.int 1))) cu)) cu))) (aj (sV 1) (aj (sV 2) (aj (s2 gIx (sV 3) (sC (.int 1))) cu)))))) [some (sd s),some (.str (S w)),some (jo a),some (.tup (.str (hdS s)::rest)),some (jo (sz s))] [])) (R.ok (oE (en w a (wk (d+1) s (.tup (.str (hdS s)::rest))))) []):=λh1 h2 b hb=>by
   subst hb;have gb:Gd b:=g.of.2 b (by simp)
   have ti:jl [b, .ty "tuple"] [] = .ok (.bl (isTup b)) []:=PAP.abi gb.pln
   cases hb:isTup b with
   | false =>
    rw [hb] at ti;rw [a7m h1 h2 hb];exact congrArg toR (km (Eq.trans (ifT (a3q (o6 (qw (du (bu rfl) (cj _ _ _) ix1) (cj _ _ _) ti) (je _)))) (iw (cj _ _ _))))
   | true =>
    rw [hb] at ti;obtain ⟨qs,rfl⟩:∃ qs,b = .tup qs:=by cases b<;>first | (cases hb;done) | exact ⟨_,rfl⟩
    refine Eq.trans (congrArg toR (ifN (a0x (o6 (qw (du (bu rfl) (cj _ _ _) ix1) (cj _ _ _) ti) (je _))))) ?_;obtain ⟨pt,ep,hp⟩:=ae7 (s:=s) (k:=qs.length) gb.of.1 ⟨h1,h2⟩;rw [aea h1 h2];refine congrArg toR (iw (PAP.aof (PAP.gf (qw (bu rfl) (qi (du (bu rfl) (cj _ _ _) ix1) EVT.ju) (ep _)) (PAP.gf (bu rfl) (PAP.gf (bu rfl) (PAP.gf (du (bu rfl) (cj _ _ _) ix1) EVT.vo)))) ?_))
    cases hpo:partsOf s qs.length with
    | none =>
     rw [hpo] at hp
     cases (show pt = .non from hp)
     refine pu1 rfl (a5j qd (dw _) (ie _) gb.clo) qd ?_ [];rw [jx,jj];show toR (oh (jr n) [some .non,some (.str (S w)),some (jo a),some (.tup qs),none,none,none] [])=_;unfold oh;exact congrArg toR (km (Eq.trans (ifT (tof (du (bu rfl) (cj _ _ _) rfl))) (iw (cj _ _ _))))
    | some ss =>
     rw [hpo] at hp;obtain ⟨l1,k1⟩:=aeb ks hpo;exact aht hp hp.clo (λq hq=>(gb.of.2 q hq).clo) l1 ha (λs' hs q hq b hb=>ih s' q b (k1 s' hs) (gb.of.2 q hq) hb) []
  cases s with
  | one s =>
   obtain ⟨b,rfl⟩:∃ b,rest=[b]:=List.length_eq_one_iff.mp (by simpa [sz] using hr)
   have e:=abx (s:=s) (w:=w) (a:=a) (g.of.2 b (by simp)) hw (by omega)
   rw [sd];refine congrArg toR (km (Eq.trans (ifT (by walk_at "x")) (iw ?_)))
   refine PAP.aof (PAP.gf (du (bu rfl) (cj _ _ _) ix1) (PAP.gf (bu rfl) (PAP.gf (bu rfl) (PAP.gf (du (bu rfl) (cj _ _ _) ix1) EVT.vo)))) ((e _).trans ?_);rw [al4];exact congrArg (λz=>R.ok (oE (en w a z)) []) (a2w (s:=.one s) (y := "one") rfl).symm
  | eit ps =>
   obtain ⟨k1,k2,k3⟩:=ks;obtain ⟨b,c,rfl⟩:∃ b c,rest=[b,c]:=by
    rcases rest with _ | ⟨b,_ | ⟨c,_ | ⟨c',r⟩⟩⟩
    ·simp [sz] at hr
    ·simp [sz] at hr
    ·exact ⟨_,_,rfl⟩
    ·simp [sz] at hr
   have gb:Gd b:=g.of.2 b (by simp)
   have gc:Gd c:=g.of.2 c (by simp)
   have nf:=a9o gb.pln 0 ((ps.length:Int) - 1);have ln:qg [.tup (ps.map sd)] [] = .ok (jo ps.length) []:=by rw [EVT.ju,List.length_map]
   rw [sd,qe];refine Eq.trans (congrArg toR (ifN (by walk_at "x"))) (congrArg toR (km (Eq.trans (ifT (by walk_at "x")) ?_)))
   rw [al5];refine Eq.trans ?_ (congrArg (λz=>Fl.rt (oE (en w a z)) []) (show ahm (λi q=>(ps[i]?).bind λs=>wk d s q) ps.length b c=_ from a8r.symm))
   have ask:∀ v,Pu j5 3 [b, .int 0, .int ((ps.length:Int) - 1)] (.bl v)->zj (sA (jt false 3 j5) (aj (s2 gIx (sV 3) (sC (.int 1))) (aj (sC (.int 0)) (aj (s2 MI.a3d (sA qg (aj (s2 gIx (sV 0) (sC (.int 1))) cu)) (sC (.int 1))) cu)))) [some (.tup [.str "either", .tup (ps.map sd)]),some (.str (S w)),some (jo a),some (.tup [.str (hdS (.eit ps)),b,c]),some (jo (sz (.eit ps)))] [] = .ok v []:=λv q=>o6 (a5o (du (bu rfl) (cj _ _ _) ix1) (cj _ _ _) (du (qi (du (bu rfl) (cj _ _ _) ix1) ln) (cj _ _ _) (a1l _ _)) (q _)) (je _)
   have bad:a1e 0 ((ps.length:Int) - 1) b=false->ahm (λi q=>(ps[i]?).bind λs=>wk d s q) ps.length b c=none:=λhb=>by
    cases b<;>first | rfl | skip
    rename_i i;have:=of_decide_eq_false hb;exact if_neg (by omega)
   cases hb:a1e 0 ((ps.length:Int) - 1) b with
   | false =>
    rw [hb] at nf;rw [bad hb];exact km (Eq.trans (ifT (a3q (ask _ nf))) (iw (cj _ _ _)))
   | true =>
    rw [hb] at nf;refine Eq.trans (ifN (a0x (ask _ nf))) ?_;obtain ⟨i,rfl⟩:∃ i,b = .int i:=by cases b<;>first | (cases hb;done) | exact ⟨_,rfl⟩
    have hi:=of_decide_eq_true hb;obtain ⟨i,rfl⟩:=Int.eq_ofNat_of_zero_le hi.1;have hi':i<ps.length:=by omega
    have e:=ih' ps[i] c a (k3 _ (List.getElem_mem hi')) gc ha [];refine iw (PAP.aof (PAP.gf (du (du (bu rfl) (cj _ _ _) ix1) (du (bu rfl) (cj _ _ _) ix1) (af8 (y:=sd ps[i]) (by rw [List.getElem?_map,List.getElem?_eq_getElem hi'];rfl))) (PAP.gf (bu rfl) (PAP.gf (bu rfl) (PAP.gf (du (bu rfl) (cj _ _ _) ix2) EVT.vo)))) (e.trans ?_))
    show _=R.ok (oE (en w a (if 0<=(i:Int)/\(i:Int)<(ps.length:Int) then _ else none))) []
    rw [if_pos ⟨by omega,by omega⟩]
    show _=R.ok (oE (en w a ((ps[(i:Int).toNat]?).bind λs=>wk d s c))) [];rw [Int.toNat_natCast,List.getElem?_eq_getElem hi'];rfl
  | row ps =>
   obtain ⟨b,rfl⟩:∃ b,rest=[b]:=List.length_eq_one_iff.mp (by simpa [sz] using hr)
   have th:a9p (hdS (.row ps)):=al3;exact Eq.trans (congrArg toR (ifN (tof (du (du (bu rfl) (cj _ _ _) (a1p _ _)) (cj _ _ _) (a5q th.1))))) (Eq.trans (congrArg toR (ifN (tof (du (du (bu rfl) (cj _ _ _) (a1p _ _)) (cj _ _ _) (a5q th.2.1))))) (rest1 th.2.2.1 th.2.2.2 b rfl))
  | many s =>
   obtain ⟨b,rfl⟩:∃ b,rest=[b]:=List.length_eq_one_iff.mp (by simpa [sz] using hr)
   have th:a9p (hdS (.many s)):=ahu;exact Eq.trans (congrArg toR (ifN (tof (du (du (bu rfl) (cj _ _ _) (a1p _ _)) (cj _ _ _) (a5q th.1))))) (Eq.trans (congrArg toR (ifN (tof (du (du (bu rfl) (cj _ _ _) (a1p _ _)) (cj _ _ _) (a5q th.2.1))))) (rest1 th.2.2.1 th.2.2.2 b rfl))
  | tim s lo hi =>
   obtain ⟨b,rfl⟩:∃ b,rest=[b]:=List.length_eq_one_iff.mp (by simpa [sz] using hr)
   have th:a9p (hdS (.tim s lo hi)):=ae9;exact Eq.trans (congrArg toR (ifN (tof (du (du (bu rfl) (cj _ _ _) (a1p _ _)) (cj _ _ _) (a5q th.1))))) (Eq.trans (congrArg toR (ifN (tof (du (du (bu rfl) (cj _ _ _) (a1p _ _)) (cj _ _ _) (a5q th.2.1))))) (rest1 th.2.2.1 th.2.2.2 b rfl))
 ·rw [al2 fit];exact congrArg toR (km (Eq.trans (ifT (apo g fit)) (iw (cj _ _ _))))
theorem abz{tg w:List Nat}(hw:w.length<=1000000):∀ (d n:Nat),2*d<=n->Ew tg w d n
 | 0,_,_=>λ_ _ _ k=>k.elim
 | d+1,0,h=>absurd h (by omega)
 | d+1,1,h=>absurd h (by omega)
 | d+1,n+2,h=>aec hw (abz hw d n (by omega)) (abz hw d (n+1) (by omega))
noncomputable def dq:SF:=ou (rn (jr 11)) 3
theorem a5k{tg w:List Nat}{s:Sh}{p:D}(hw:w.length<=1000000)(ks:a3c tg 5 s)(g:Gd p):Pu dq 3 [sd s, .str (S w),p] (.bl (decide (wk 5 s p=some w))):=by
 refine pu1 rfl (a0k (sy s) (dw _) g.clo) (xx _) ?_;unfold dq;rw [jj];show toR (rn (jr 11) [some (sd s),some (.str (S w)),some p] [])=_;unfold rn;have e:=abz hw 5 11 (by decide) s p 0 ks g (by omega) []
 refine congrArg toR (iw (du (PAP.aof (PAP.gf (bu rfl) (PAP.gf (bu rfl) (PAP.gf (cj _ _ _) (PAP.gf (bu rfl) EVT.vo)))) e) (qi (bu rfl) (a2m (j7 hw))) ?_))
 cases hx:wk 5 s p with
 | none=>rw [decide_eq_false (by simp)];rfl
 | some x =>
  show hEq (oE (if x.isPrefixOf (w.drop 0)=true then some (0+x.length) else none)) (jo w.length) []=_
  rw [List.drop_zero,Nat.zero_add]
  cases hp:x.isPrefixOf w with
  | true =>
   rw [if_pos rfl];have pf:=List.isPrefixOf_iff_prefix.mp hp
   by_cases hl:x.length=w.length
   ·rw [decide_eq_true (by rw [pf.eq_of_length hl])]
    exact a2p (by rw [hl])
   ·rw [decide_eq_false (λz=>hl (by cases z;rfl))]
    exact a3h (by omega)
  | false =>
   rw [if_neg (by decide),decide_eq_false (λz=>by cases z;rw [List.isPrefixOf_iff_prefix.mpr (List.prefix_refl _)] at hp;cases hp)]
   rfl
end K10
namespace K10
open PySem PySem.Spec L2 MI AT HND EVX SHD
open PAP hiding gf a6p a6q vg a2r aof
local macro_rules | `(tactic| walk_at "c") => `(tactic| first | assumption | exact ie _ | (with_reducible exact EVT.za) | exact dw _ | exact xx _ | exact qd | exact iy | ((with_reducible apply bz)<;>walk_at "c") | ((with_reducible apply jw);walk_at "c") | ((with_reducible apply tu);walk_at "c") | ((with_reducible apply EVT.uo)<;>walk_at "c") | ((with_reducible apply EVT.uy);walk_at "c") | ((with_reducible apply EVT.uz);walk_at "c") | ((with_reducible apply EVT.yx);walk_at "c") | ((with_reducible apply EVT.yz);walk_at "c") | ((with_reducible apply EVT.zb)<;>walk_at "c") | exact kh fun _ _=>ie _ | exact kh fun _ _=>dw _)
local macro_rules | `(tactic| walk_at "h") => `(tactic| first | assumption | exact EVT.a1c | exact EVT.vp (by assumption))
local macro_rules | `(tactic| walk_at "z") => `(tactic| first | assumption | omega | (simp only [List.length_cons,List.length_nil,List.length_append,List.length_take,List.length_drop,List.length_map,List.length_singleton,EVT.a1b,Int.reduceToNat]<;>omega))
local macro_rules | `(tactic| walk_at "l") => `(tactic| first
 | (with_reducible assumption)
 | (with_reducible exact a6q) | (with_reducible exact a6p) | (with_reducible exact a6x) | (with_reducible exact ahg)
 | (with_reducible exact EVT.ju) | (with_reducible exact EVT.a3r)
 | ((with_reducible apply EVT.PuE);with_reducible assumption)
 | ((with_reducible apply EVT.ahh);with_reducible assumption)
 | (with_reducible exact EVT.a9l _ _) | (with_reducible exact PAP.ae2 _ _ _) | (with_reducible exact PAP.a0i _ _ _)
 | ((with_reducible apply PAP.a2q);walk_at "z")
 | ((with_reducible apply EVT.a7g);walk_at "z")
 | ((with_reducible apply EVT.a9k);walk_at "z")
 | (with_reducible exact a1l _ _) | (with_reducible exact a6o _) | (with_reducible exact je _)
 | ((with_reducible apply ac4);walk_at "z") | ((with_reducible apply abg);walk_at "z")
 | ((with_reducible apply ahe);walk_at "z") | ((with_reducible apply ahf);walk_at "z")
 | ((with_reducible apply a2p);walk_at "z") | ((with_reducible apply a3h);walk_at "z")
 | ((with_reducible apply a0y);walk_at "z") | ((with_reducible apply a1o);walk_at "z")
 | exact rfl)
local macro_rules | `(tactic| walk_at "x") => `(tactic| first
 | (with_reducible assumption)
 | (with_reducible exact cj _ _ _)
 | ((with_reducible apply bu);exact rfl)
 | (with_reducible exact EVT.vo) | (with_reducible exact EVT.a6r)
 | ((with_reducible apply EVT.zp);walk_at "x";exact rfl;walk_at "c";walk_at "h";walk_at "z")
 | ((with_reducible apply EVT.a0z);walk_at "x";exact rfl;walk_at "c";walk_at "h")
 | ((with_reducible apply EVT.a1a);walk_at "x";exact rfl;walk_at "h";walk_at "z")
 | ((with_reducible apply EVT.a2s);walk_at "x";walk_at "x";exact rfl;walk_at "c";walk_at "c";walk_at "h";walk_at "z")
 | ((with_reducible apply EVT.a2t);walk_at "x";walk_at "x";exact rfl;walk_at "c";walk_at "h";walk_at "z";walk_at "z")
 | ((with_reducible apply EVT.vg);walk_at "h")
 | ((with_reducible apply du);walk_at "x";walk_at "x";walk_at "l")
 | ((with_reducible apply af6);walk_at "x";walk_at "l")
 | ((with_reducible apply PAP.aof);walk_at "x";walk_at "l")
 | ((with_reducible apply PAP.gf);walk_at "x";walk_at "x")
 | ((with_reducible apply a5p);walk_at "x";walk_at "x";walk_at "x";walk_at "l")
 | ((with_reducible apply a5e);walk_at "x")
 | ((with_reducible apply tof);walk_at "x")
 | ((with_reducible apply o6);walk_at "x";walk_at "l")
 | ((with_reducible apply a0x);walk_at "x") | ((with_reducible apply a3q);walk_at "x")
 | ((with_reducible apply a3g);walk_at "x";walk_at "x") | ((with_reducible apply a6w);walk_at "x")
 | ((with_reducible apply orT);walk_at "x") | ((with_reducible apply orF);walk_at "x";walk_at "x"))
local macro_rules | `(tactic| walk_at "l") => `(tactic| first | (with_reducible exact SHD.ix0) | (with_reducible exact SHD.ix1) | (with_reducible exact SHD.ix2) | (with_reducible exact SHD.ix3) | (with_reducible exact SHD.ai1) | ((with_reducible apply SHD.a5q);exact (by decide)) | (with_reducible exact SHD.ahj) | ((with_reducible apply SHD.ahi);exact (by decide)) | (with_reducible exact SHD.abl) | (with_reducible exact SHD.yp))
mutual
theorem a2x{tg:List Nat}:∀ {n:Nat} {p:Pa},POk tg n p->Gd (pd p)
 | 0,_,h=>h.elim
 | n+1, .one c,_=>by rw [pd];exact .tup _ (by simp) (λx hx=>by simp only [List.mem_cons,List.not_mem_nil,or_false] at hx;rcases hx with rfl | rfl;exact .str _ (by decide);exact .str _ (by rw [a4s];simp))
 | n+1, .eit k p,h=>by rw [pd];exact .tup _ (by simp) (λx hx=>by simp only [List.mem_cons,List.not_mem_nil,or_false] at hx;rcases hx with rfl | rfl | rfl;exact .str _ (by decide);exact .int _;exact a2x (n:=n) h.2)
 | n+1, .lst k ps,h=>by
  rw [pd];refine .tup _ (by simp) (λx hx=>?_)
  simp only [List.mem_cons,List.not_mem_nil,or_false] at hx
  rcases hx with rfl | rfl
  ·refine .str _ ?_
   rcases k with _ | _ | k
   ·decide
   ·decide
   ·show ("times" : Str).cps.toList.length<=1000;decide
  ·refine .tup _ (by rw [a02];have:=h.2.1;omega) λx hx=>a8v h.2.2 x hx
theorem a8v{tg:List Nat}:∀ {n:Nat} {ps:List Pa},(∀ p∈ps,POk tg n p)->∀ x∈pds ps,Gd x
 | n,[],_,x,hx=>by rw [pds] at hx;cases hx
 | n,p::ps,h,x,hx=>by
  rw [pds] at hx
  rcases List.mem_cons.mp hx with rfl | hx
  ·exact a2x (h p List.mem_cons_self)
  ·exact a8v (λq hq=>h q (List.mem_cons_of_mem _ hq)) x hx
end
def Gds(xs:List D):Prop:=∀ x∈xs,Gd x
theorem jq:Gds []:=λx h=>by cases h
theorem bf{x:D}{xs:List D}(a:Gd x)(b:Gds xs):Gds (x::xs):=λy h=>by rcases List.mem_cons.mp h with rfl | h;exact a;exact b y h
theorem vq{xs ys:List D}(a:Gds xs)(b:Gds ys):Gds (xs++ys):=λy h=>(List.mem_append.mp h).elim (a y) (b y)
theorem a5l{xs:List D}{n:Nat}(a:Gds xs):Gds (xs.take n):=λy h=>a y (List.mem_of_mem_take h)
theorem a5m{xs:List D}{n:Nat}(a:Gds xs):Gds (xs.drop n):=λy h=>a y (List.mem_of_mem_drop h)
theorem Gds.clos{xs:List D}(a:Gds xs):MI.clos 0 xs:=jg.mpr λx h=>(a x h).clo
theorem alz(l:List Nat)(h:l.length<=1000):Gd (.str (S l)):=.str _ (by rw [a4s];exact h)
theorem afi{f g:SE}{τ:Sd}{h h1 h2:Hd}{xs:List D}(e:f τ h = .ok (.tup xs) h1)(e':g τ h1 = .ok (.int (-1)) h2):a7d f g τ h = .ok (.tup xs.reverse) h2:=by
 unfold a7d;rw [e,dm,e',dm];exact if_pos rfl
theorem yq{k:SA}{τ:Sd}{o:O}{hs:Hd}{ds:List D}(e:k τ (o::hs) = .ok ds (o::hs))(g:Gds ds)(co:∀ u∈o::hs,qp 0 u)(z:ds.length<=1000):sZ (sA MI.w6 k) τ (o::hs) = .ok (.rol ds) (o::hs):=EVT.zp e rfl g.clos co (by omega)
noncomputable def gm:SF:=ou (my PN.ao) 4
theorem aed{xs:List D}{o:O}{N:Nat}(g:Gds xs)(hx:xs.length<=6)(P:PN.Pen o N)(hN:N<=900000000):∃ r o',Dr gm 2 [.tup xs] o r o'/\Gd r/\PN.Pen o' (N+2):=by
 obtain ⟨m,hm,m0,m1⟩:∃ m:Nat,a6a [.int 1,jo xs.length] [o] = .ok (jo m) [o]/\1<=m/\m<=6:=by
  refine ⟨(if (xs.length:Int) > 1 then (xs.length:Int) else 1).toNat,?_,?_,?_⟩
  ·show R.ok (D.int (if (xs.length:Int) > 1 then (xs.length:Int) else 1)) _=_
   rw [show jo (if (xs.length:Int) > 1 then (xs.length:Int) else 1).toNat=D.int (if (xs.length:Int) > 1 then (xs.length:Int) else 1) from congrArg D.int (by split<;>omega)]
  ·split<;>omega
  ·split<;>omega
 obtain ⟨a,o1,e1,a0,a1,P1⟩:=PN.m7 (m:=(m:Int)) P (by omega) (by omega) (by omega)
 obtain ⟨a,rfl⟩:=Int.eq_ofNat_of_zero_le a0;obtain ⟨b,o2,e2,b0,b1,P2⟩:=PN.m7 (m:=11) P1 (by omega) (by omega) (by omega)
 obtain ⟨b,rfl⟩:=Int.eq_ofNat_of_zero_le b0;have cx:MI.clos 0 xs:=g.clos;have h1:∀ u∈[o1],qp 0 u:=EVT.vp P1.clo;have sl1:a3b (.tup xs) (some ((a:Int)+1)) none [o1, .lst ([.rol xs, .non, .str "", .tup (xs++[.non]), .tup (xs++xs), .tup [], .int 7])] = .ok (.tup (xs.drop (a+1))) [o1, .lst ([.rol xs, .non, .str "", .tup (xs++[.non]), .tup (xs++xs), .tup [], .int 7])]:=PAP.a0i xs (a+1) _
 let A:List D:=[.rol xs, .non, .str "", .tup (xs++[.non]), .tup (xs++xs), .tup [], .int 7]
 let B:List D:=[.tup (xs.take a++xs.drop (a+1)), .tup xs.reverse, .tup (xs++[.tup [.str "one", .str "a"]])]
 let C:D:=.tup (xs.take (a+1)++xs.drop a)
 have gA:Gds A:=bf (.rol _ cx) (bf .non (bf (.str _ (by decide)) (bf (.tup _ (by simp;omega) (vq g (bf .non jq))) (bf (.tup _ (by simp;omega) (vq g g)) (bf (.tup _ (by simp) jq) (bf (.int _) jq))))))
 have gB:Gds B:=bf (.tup _ (by simp;omega) (vq (a5l g) (a5m g))) (bf (.tup _ (by simp;omega) (λy hy=>g y (List.mem_reverse.mp hy))) (bf (.tup _ (by simp;omega) (vq g (bf (.tup _ (by simp) (bf (.str _ (by decide)) (bf (.str _ (by decide)) jq))) jq))) jq))
 have gC:Gd C:=.tup _ (by simp;omega) (vq (a5l g) (a5m g))
 have gL:Gds (A++B++[C]):=vq (vq gA gB) (bf gC jq);have hb:b<(A++B++[C]).length:=by show b<11;omega
 refine ⟨(A++B++[C]).getD b .non,o2,?_,EVT.a5f hb gL,P2⟩;refine Dr.of rfl (aho (jw cx)) P.clo (r:=.ok ((A++B++[C]).getD b .non) [o2, .lst A, .lst (A++B++[C])]) ?_ (v5 (a6k (by omega) (EVT.a5f hb gL).clo) (by simpa using ym (by omega) P2.clo)) (EVT.a5f hb gL).clo P2.clo
 unfold gm;rw [jj];show toR (my PN.ao [some (.ref 0),some (.tup xs),none,none] [o])=_;unfold my;have zz:xs.length+1<=1000000:=by omega
 have z2:xs.length+xs.length<=1000000:=by omega
 refine Eq.trans (congrArg toR (nq (by walk_at "x"))) ?_
 have d1:sA MI.w6 (aj (sZ (sA a0c (aj (sV 1) cu))) (aj (sC .non) (aj (sC (.str "")) (aj (s2 jb (sV 1) (sA MI.qb (aj (sC .non) cu))) (aj (s2 jb (sV 1) (sV 1)) (aj (sA MI.qb cu) (aj (sC (.int 7)) cu))))))) [some (.ref 0),some (.tup xs),some (jo a),none] [o1] = .ok (.ref 1) [o1, .lst A]:=by
  refine PAP.aof (ds:=A) (h1:=[o1]) ?_ ?_
  ·walk_at "x"
  ·show (if A.length<=LINE then R.ok (D.ref 1) [o1, .lst A] else .no)=_
   rw [if_pos (j7 (by show 7<=1000000;decide))]
 refine Eq.trans (congrArg toR (nq d1)) ?_;have d2:sZ (sA MI.w6 (aj (s2 jb (a1j (sV 1) oN (oS (sV 2))) (a1j (sV 1) (oS (s2 jb (sV 2) (sC (.int 1)))) oN)) (aj (a7d (sV 1) (s1 a9r (sC (.int 1)))) (aj (s2 jb (sV 1) (sA MI.qb (aj (sA MI.qb (aj (sC (.str "one")) (aj (sC (.str "a")) cu))) cu))) cu)))) [some (.ref 0),some (.tup xs),some (jo a),some (.ref 1)] [o1, .lst A] = .ok (.rol B) [o1, .lst A]:=by
  refine yq ?_ gB (a1d P1.clo gA.clos) (by show 3<=1000;decide)
  refine PAP.gf (du (a5p (bu rfl) EVT.a6r (a5e (bu rfl)) (PAP.ae2 xs a _)) (a5p (bu rfl) (a5e (du (bu rfl) (cj _ _ _) abl)) EVT.a6r sl1) (PAP.a2q (by simp;omega))) (PAP.gf (afi (bu rfl) (af6 (cj _ _ _) (a6o _))) (PAP.gf (du (bu rfl) (qi (qw (cj _ _ _) (cj _ _ _) a6x) PAP.a6p) (PAP.a2q (by simp;omega))) EVT.vo))
 have d3:jb (.ref 1) (.rol B) [o1, .lst A] = .ok (.ref 2) [o1, .lst A, .lst (A++B)]:=by
  rw [a7e (xs:=A) (ys:=B) rfl rfl,if_pos (j7 (by show 7+3<=1000000;decide))]
  rfl
 refine Eq.trans (congrArg toR (nq (du (bu rfl) d2 d3))) ?_;have sl2:a3b (.tup xs) none (some ((a:Int)+1)) [o1, .lst A, .lst (A++B)] = .ok (.tup (xs.take (a+1))) [o1, .lst A, .lst (A++B)]:=PAP.ae2 xs (a+1) _;refine Eq.trans (congrArg toR (a9i (akt (bu rfl) rfl (arg1 (du (a5p (bu rfl) EVT.a6r (a5e (du (bu rfl) (cj _ _ _) abl)) sl2) (a5p (bu rfl) (a5e (bu rfl)) EVT.a6r (PAP.a0i xs a _)) (PAP.a2q (by simp;omega)))) (aku (xs:=A++B) rfl (akv (by show 7+3<=1000000;decide)))))) ?_
 refine congrArg toR (iw (du (bu rfl) (qw (bu rfl) (cj _ _ _) (e2 0 _ rfl)) ?_));exact af7 (xs:=A++B++[C]) rfl (by rw [List.getElem?_eq_getElem hb,List.getD_eq_getElem?_getD,List.getElem?_eq_getElem hb];rfl)
noncomputable def lq:SF:=ou (wy gm PN.ao) 7
def Bnt(M:Nat)(r:R D):Prop:=∃ d o',r = .ok d [o']/\Gd d/\PN.Pen o' M
theorem Bnt.tr{M:Nat}{r r':R D}(e:r=r')(q:Bnt M r'):Bnt M r:=e ▸ q
def BntF(M:Nat)(r:Fl):Prop:=∃ d o',r = .rt d [o']/\Gd d/\PN.Pen o' M
theorem BntF.tr{M:Nat}{r r':Fl}(e:r=r')(q:BntF M r'):BntF M r:=e ▸ q
theorem Bnt.br{M:Nat}{c:ST}{p q g:SS}{τ:Sd}{h h1:Hd}(e:c τ h = .ok true h1)(z:BntF M (p τ h1)):Bnt M (toR (jh (sIf c p q) g τ h)):=by
 obtain ⟨d,o',e',k⟩:=z;exact ⟨d,o',congrArg toR (km (Eq.trans (ifT e) e')),k⟩
theorem BntF.ret{M:Nat}{f:SE}{τ:Sd}{h:Hd}{d:D}{o':O}(e:f τ h = .ok d [o'])(g:Gd d)(P:PN.Pen o' M):BntF M (mz f τ h):=⟨d,o',iw e,g,P⟩
theorem pick{o:O}{N:Nat}{m:Nat}{ds:List D}{f:SE}{τ:Sd}(P:PN.Pen o N)(hN:N<=900000000)(m0:0<m)(m1:m<=1000)(hm:ds.length=m)(e:f τ [o] = .ok (.rol ds) [o])(v:τ[0]? = some (some (.ref 0)))(g:Gds ds):∃ d o',s2 gIx f (sA (jt false 2 PN.ao) (aj (sV 0) (aj (sC (.int (m:Nat))) cu))) τ [o] = .ok d [o']/\Gd d/\PN.Pen o' (N+1):=by
 obtain ⟨b,o1,e1,b0,b1,P1⟩:=PN.m7 (m:=(m:Int)) P (by omega) (by omega) (by omega)
 obtain ⟨b,rfl⟩:=Int.eq_ofNat_of_zero_le b0;have hb:b<ds.length:=by omega
 exact ⟨ds.getD b .non,o1,du e (qw (bu v) (cj _ _ _) (EVT.ahh e1)) (EVT.a7g hb),EVT.a5f hb g,P1⟩
theorem al6{tg:List Nat}{d:Nat}{p:Pa}(k:POk tg d p):∃ h b rest,pd p = .tup (.str h::b::rest)/\Gds (.str h::b::rest)/\rest.length<=1:=by
 have g:=a2x k
 cases p with
 | one c=>rw [pd] at g ⊢;exact ⟨_,_,_,rfl,g.of.2,by simp⟩
 | eit j p=>rw [pd] at g ⊢;exact ⟨_,_,_,rfl,g.of.2,by simp⟩
 | lst j ps=>rw [pd] at g ⊢;exact ⟨_,_,_,rfl,g.of.2,by simp⟩
theorem ahw{tg:List Nat}{d:Nat}{p:Pa}{o:O}{N:Nat}(t1:1<=tg.length)(t6:tg.length<=6)(k:POk tg d p)(P:PN.Pen o N)(hN:N<=800000000):∃ r o',Dr lq 3 [.str (S tg),pd p] o r o'/\Gd r/\PN.Pen o' (N+5):=by
 suffices q:Bnt (N+5) (toR (wy gm PN.ao [some (.ref 0),some (.str (S tg)),some (pd p),none,none,none,none] [o])) by
  obtain ⟨r,o',e,g,P'⟩:=q;refine ⟨r,o',dr1 rfl (a8s (dw _) (a1m p)) P.clo ?_ g.clo P'.clo,g,P'⟩;unfold lq;rw [jj];exact e
 unfold wy;obtain ⟨hd,b,rest,ep,g,rl⟩:=al6 k;obtain ⟨r,o1,e1,r0,r1,P1⟩:=PN.m7 (m:=8) P (by omega) (by decide) (by decide)
 have c1:∀ u∈[o1],qp 0 u:=EVT.vp P1.clo;refine Bnt.tr (congrArg toR (nq (by walk_at "x"))) ?_
 by_cases h0:r=0
 ·refine Bnt.br (by walk_at "x") ?_
  rw [ep];have cx:MI.clos 0 (.str hd::b::rest):=g.clos;have cc:sZ (xj (sIt (sV 2)) MI.t1 (um gm PN.ao) []) [some (.ref 0),some (.str (S tg)),some (.tup (.str hd::b::rest)),some (.int r),none,none,none] [o1] = .ok (.rol (.str hd::b::rest)) [o1]:=by
   have:=a2o (fi:=sIt (sV 2)) (t:=MI.t1) (fe:=um gm PN.ao) (ix:=[]) (τ:=[some (.ref 0),some (.str (S tg)),some (.tup (.str hd::b::rest)),some (.int r),none,none,none]) (h:=[o1]) id id (.str hd::b::rest) (by rw [List.map_id];exact an2 (bu rfl) rfl) (j7 (by simp;omega)) (λx _=>rfl)
   rw [List.map_id] at this;exact EVT.af9 this rfl cx c1
  have z4:(D.str hd::b::rest).length+1<=1000000:=by simp;omega
  let A:List D:=[.non, .int 3, .str "one", .rol (.str hd::b::rest)]
  let B:List D:=[.tup (.str hd::b::rest++[.int 0]), .tup ((.str hd::b::rest).take 1), .tup [.tup (.str hd::b::rest)], .tup (.str hd::b::rest).reverse]
  have gp:Gd (.tup (.str hd::b::rest)):=ep ▸ a2x k;have gA:Gds A:=bf .non (bf (.int _) (bf (.str _ (by decide)) (bf (.rol _ cx) jq)))
  have gB:Gds B:=bf (.tup _ (by simp;omega) (vq g (bf (.int _) jq))) (bf (.tup _ (by simp) (a5l g)) (bf (.tup _ (by simp) (bf gp jq)) (bf (.tup _ (by simp;omega) (λy hy=>g y (List.mem_reverse.mp hy))) jq)))
  have eA:sZ (sA MI.w6 (aj (sC .non) (aj (sC (.int 3)) (aj (sC (.str "one")) (aj (sZ (xj (sIt (sV 2)) MI.t1 (um gm PN.ao) [])) cu))))) [some (.ref 0),some (.str (S tg)),some (.tup (.str hd::b::rest)),some (.int r),none,none,none] [o1] = .ok (.rol A) [o1]:=yq (PAP.gf (cj _ _ _) (PAP.gf (cj _ _ _) (PAP.gf (cj _ _ _) (PAP.gf cc EVT.vo)))) gA c1 (by show 4<=1000;decide)
  refine BntF.tr (nq eA) ?_;have eB:sZ (sA MI.w6 (aj (s2 jb (sV 2) (sA MI.qb (aj (sC (.int 0)) cu))) (aj (a1j (sV 2) oN (oS (sC (.int 1)))) (aj (sA MI.qb (aj (sV 2) cu)) (aj (a7d (sV 2) (s1 a9r (sC (.int 1)))) cu))))) [some (.ref 0),some (.str (S tg)),some (.tup (.str hd::b::rest)),some (.int r),some (.rol A),none,none] [o1] = .ok (.rol B) [o1]:=yq (PAP.gf (du (bu rfl) (qi (cj _ _ _) PAP.a6p) (PAP.a2q z4)) (PAP.gf (a5p (bu rfl) EVT.a6r (a5e (cj _ _ _)) (PAP.ae2 _ 1 _)) (PAP.gf (qi (bu rfl) PAP.a6p) (PAP.gf (afi (bu rfl) (af6 (cj _ _ _) (a6o _))) EVT.vo)))) gB c1 (by show 4<=1000;decide)
  refine BntF.tr (nq (EVT.a2s (bu rfl) eB rfl gA.clos gB.clos c1 (by show 4+4<=1000000;decide))) ?_
  obtain ⟨d,o2,e2,gd,P2⟩:=pick (m:=8) (ds:=A++B) (f:=sV 4) (τ:=[some (.ref 0),some (.str (S tg)),some (.tup (.str hd::b::rest)),some (.int r),some (.rol (A++B)),none,none]) P1 (by omega) (by decide) (by decide) rfl (bu rfl) rfl (vq gA gB)
  exact BntF.ret e2 gd (P2.up (by omega))
 refine Bnt.tr (congrArg toR (ifN (by walk_at "x"))) ?_
 by_cases h1:r=1
 ·refine Bnt.br (by walk_at "x") ?_
  rw [ep]
  let A:List D:=[.str "one", .str "row", .str "either", .str "many", .str "times", .str "", .non, .bl true]
  have gA:Gds A:=bf (.str _ (by decide)) (bf (.str _ (by decide)) (bf (.str _ (by decide)) (bf (.str _ (by decide)) (bf (.str _ (by decide)) (bf (.str _ (by decide)) (bf .non (bf (.bl _) jq)))))))
  obtain ⟨d,o2,e2,gd,P2⟩:=pick (m:=8) (ds:=A) (f:=sZ (sA MI.w6 (aj (sC (.str "one")) (aj (sC (.str "row")) (aj (sC (.str "either")) (aj (sC (.str "many")) (aj (sC (.str "times")) (aj (sC (.str "")) (aj (sC .non) (aj (sC (.bl true)) cu)))))))))) (τ:=[some (.ref 0),some (.str (S tg)),some (.tup (.str hd::b::rest)),some (.int r),none,none,none]) P1 (by omega) (by decide) (by decide) rfl (yq (by walk_at "x") gA c1 (by show 8<=1000;decide)) rfl gA
  have fr:=PAP.a0i (.str hd::b::rest) 1 [o2];exact BntF.ret (du (qi e2 PAP.a6p) (a5p (bu rfl) (a5e (cj _ _ _)) EVT.a6r fr) (PAP.a2q (by simp;omega))) (.tup _ (by simp;omega) (vq (bf gd jq) (a5m g))) (P2.up (by omega))
 refine Bnt.tr (congrArg toR (ifN (by walk_at "x"))) ?_
 clear ep g rl
 cases p with
 | one c =>
  rw [pd];refine Bnt.br (by walk_at "x") ?_
  obtain ⟨j,o2,e2,j0,j1,P2⟩:=PN.m7 (m:=(tg.length:Int)) P1 (by omega) (by omega) (by omega)
  obtain ⟨j,rfl⟩:=Int.eq_ofNat_of_zero_le j0;have hj:j<tg.length:=by omega
  have c2:∀ u∈[o2],qp 0 u:=EVT.vp P2.clo;have ln:qg [.str (S tg)] [o1] = .ok (jo tg.length) [o1]:=a2m (j7 (by omega))
  have x1:gIx (.str (S tg)) (.int (j:Nat)) [o2] = .ok (.str (S [tg[j]])) [o2]:=alo (j7 (by omega)) (List.getElem?_eq_getElem hj)
  refine BntF.tr (nq (by walk_at "x")) ?_
  let A:List D:=[.str (S [tg[j]]), .str (S ([c]++[tg[j]])), .str "", .str (S ([tg[j]]++[c])), .tup [.str (S [tg[j]])], .non, .rol [.str (S [c])], .str "\t"]
  have gA:Gds A:=bf (alz _ (by simp)) (bf (alz _ (by simp)) (bf (.str _ (by decide)) (bf (alz _ (by simp)) (bf (.tup _ (by simp) (bf (alz _ (by simp)) jq)) (bf .non (bf (.rol _ (bz (dw _) iy)) (bf (.str _ (by decide)) jq)))))))
  have a1':jb (.str (S [c])) (.str (S [tg[j]])) [o2] = .ok (.str (S ([c]++[tg[j]]))) [o2]:=a9f (j7 (by simp))
  have a2':jb (.str (S [tg[j]])) (.str (S [c])) [o2] = .ok (.str (S ([tg[j]]++[c]))) [o2]:=a9f (j7 (by simp))
  have eA:sZ (sA MI.w6 (aj (sV 5) (aj (s2 jb (s2 gIx (sV 2) (sC (.int 1))) (sV 5)) (aj (sC (.str "")) (aj (s2 jb (sV 5) (s2 gIx (sV 2) (sC (.int 1)))) (aj (sA MI.qb (aj (sV 5) cu)) (aj (sC .non) (aj (sZ (sA MI.w6 (aj (s2 gIx (sV 2) (sC (.int 1))) cu))) (aj (sC (.str "\t")) cu))))))))) [some (.ref 0),some (.str (S tg)),some (.tup [.str "one", .str (S [c])]),some (.int r),none,some (.str (S [tg[j]])),none] [o2] = .ok (.rol A) [o2]:=yq (by walk_at "x") gA c2 (by show 8<=1000;decide)
  refine BntF.tr (nq eA) ?_;obtain ⟨d,o3,e3,gd,P3⟩:=pick (m:=8) (ds:=A) (f:=sV 4) (τ:=[some (.ref 0),some (.str (S tg)),some (.tup [.str "one", .str (S [c])]),some (.int r),some (.rol A),some (.str (S [tg[j]])),none]) P2 (by omega) (by decide) (by decide) rfl (bu rfl) rfl gA
  exact BntF.ret (qw (cj _ _ _) e3 a6x) (.tup _ (by simp) (bf (.str _ (by decide)) (bf gd jq))) (P3.up (by omega))
 | eit j p =>
  have gp:Gd (pd p):=by
   cases d with
   | zero=>exact k.elim
   | succ d=>exact a2x k.2
  rw [pd];refine Bnt.tr (congrArg toR (ifN (by walk_at "x"))) ?_
  refine Bnt.br (by walk_at "x") ?_
  by_cases h2:r=2
  ·exact ⟨pd p,o1,km (Eq.trans (ifT (by walk_at "x")) (iw (by walk_at "x"))),gp,P1.up (by omega)⟩
  ·refine BntF.tr (ifN (by walk_at "x")) ?_
   let A:List D:=[.int ((j:Int)+1), .int ((j:Int) - 1), .int (-1), .int 6, .non, .str "0", .bl ((j:Int) != 0), .tup [jo j]]
   have gA:Gds A:=bf (.int _) (bf (.int _) (bf (.int _) (bf (.int _) (bf .non (bf (.str _ (by decide)) (bf (.bl _) (bf (.tup _ (by simp) (bf (.int _) jq)) jq)))))))
   have bo:ab7 [jo j] [o1] = .ok (.bl ((j:Int) != 0)) [o1]:=rfl;obtain ⟨d,o2,e2,gd,P2⟩:=pick (m:=8) (ds:=A) (f:=sZ (sA MI.w6 (aj (s2 jb (s2 gIx (sV 2) (sC (.int 1))) (sC (.int 1))) (aj (s2 MI.a3d (s2 gIx (sV 2) (sC (.int 1))) (sC (.int 1))) (aj (s1 a9r (sC (.int 1))) (aj (sC (.int 6)) (aj (sC .non) (aj (sC (.str "0")) (aj (sA ab7 (aj (s2 gIx (sV 2) (sC (.int 1))) cu)) (aj (sA MI.qb (aj (s2 gIx (sV 2) (sC (.int 1))) cu)) cu)))))))))) (τ:=[some (.ref 0),some (.str (S tg)),some (.tup [.str "either",jo j,pd p]),some (.int r),none,none,none]) P1 (by omega) (by decide) (by decide) rfl (yq (by walk_at "x") gA c1 (by show 8<=1000;decide)) rfl gA
   refine BntF.tr (nq e2) ?_;exact BntF.ret (a5o (cj _ _ _) (bu rfl) (du (bu rfl) (cj _ _ _) ix2) ahg) (.tup _ (by simp) (bf (.str _ (by decide)) (bf gd (bf gp jq)))) (P2.up (by omega))
 | lst j ps =>
  have gp:Gds (pds ps)/\ps.length<=6:=by
   cases d with
   | zero=>exact k.elim
   | succ d=>exact ⟨a8v k.2.2,k.2.1⟩
  obtain ⟨h1',h2'⟩:=a8q j;rw [pd];refine Bnt.tr (congrArg toR (ifN (tof (du (du (bu rfl) (cj _ _ _) ix0) (cj _ _ _) (a5q h1'))))) ?_;refine Bnt.tr (congrArg toR (ifN (tof (du (du (bu rfl) (cj _ _ _) ix0) (cj _ _ _) (a5q h2'))))) ?_;obtain ⟨q,o2,e2,gq,P2⟩:=aed gp.1 (by rw [a02];exact gp.2) P1 (by omega)
  have gh:Gd (.str (hn j)):=by
   have:=a2x k
   rw [pd] at this;exact this.of.2 (.str (hn j)) (by simp)
  refine ⟨_,o2,congrArg toR (iw (qw (du (bu rfl) (cj _ _ _) ix0) (qw (bu rfl) (du (bu rfl) (cj _ _ _) ix1) (e2 0 _ rfl)) a6x)), .tup _ (by simp) (bf gh (bf gq jq)),P2.up (by omega)⟩
mutual
theorem afj:∀ {tg:List Nat} {n:Nat} {p:Pa},POk tg n p->pur (2*n+1) (pd p)=true
 | _,0,_,h=>h.elim
 | tg,n+1, .one c,_=>by rw [pd];rfl
 | tg,n+1, .eit k p,h=>by
  have:=aex (m:=2*(n+1)) (by omega) (afj (n:=n) h.2)
  rw [pd];show ([D.str "either",jo k,pd p]).all (pur (2*(n+1)))=true;rw [List.all_cons,List.all_cons,List.all_cons,this];rfl
 | tg,n+1, .lst k ps,h=>by
  have:=a5n (n:=n) h.2.2
  rw [pd];show ([D.str (hn k), .tup (pds ps)]).all (pur (2*(n+1)))=true;rw [List.all_cons,List.all_cons];show (true && ((pds ps).all (pur (2*n+1)) && true))=true;rw [this];rfl
theorem a5n:∀ {tg:List Nat} {n:Nat} {ps:List Pa},(∀ p∈ps,POk tg n p)->(pds ps).all (pur (2*n+1))=true
 | _,_,[],_=>by rw [pds];rfl
 | tg,n,p::ps,h=>by
  rw [pds,List.all_cons,afj (h p List.mem_cons_self),a5n λq hq=>h q (List.mem_cons_of_mem _ hq)];rfl
end
noncomputable def gj:Nat->SF
 | 0=>λ_ _=>.no
 | n+1=>ou (lu lq (gj n) PN.ao) 5
theorem yr{n:Nat}{tg:List Nat}{s:D}{o:O}:gj (n+1) [.ref 0, .str (S tg),s] [o]=toR (lu lq (gj n) PN.ao [some (.ref 0),some (.str (S tg)),some s,none,none] [o]):=by
 show ou (lu lq (gj n) PN.ao) 5 [.ref 0, .str (S tg),s] [o]=_;rw [jj];rfl
def ac0(tg:List Nat)(n d:Nat):Prop:=∀ p,POk tg d p->∀ (o:O) (N:Nat),PN.Pen o N->N+10*d<=700000000->∃ r o',Dr (gj n) 3 [.str (S tg),pd p] o r o'/\Gd r/\PN.Pen o' (N+10*d)
theorem a7n{tg:List Nat}{n d:Nat}(hd:d<=20)(t1:1<=tg.length)(t6:tg.length<=6)(ih:ac0 tg n d):ac0 tg (n+1) (d+1):=by
 intro p k o N P hN
 have cl:=a8s (dw (n:=0) (S tg)) (a1m p);have bt:∀ o1,PN.Pen o1 (N+1)->∃ r o',sA (jt false 3 lq) (aj (sV 0) (aj (sV 1) (aj (sV 2) cu))) [some (.ref 0),some (.str (S tg)),some (pd p),none,none] [o1] = .ok r [o']/\Gd r/\PN.Pen o' (N+10*(d+1)):=λo1 P1=>by
  obtain ⟨r,o2,e2,g,P2⟩:=ahw t1 t6 k P1 (by omega)
  exact ⟨r,o2,a5o (bu rfl) (bu rfl) (bu rfl) (e2 0 _ rfl),g,P2.up (by omega)⟩
 by_cases one:∃ c,p = .one c
 ·obtain ⟨c,rfl⟩:=one;obtain ⟨r,o2,e2,g,P2⟩:=bt o (P.up (by omega))
  refine ⟨r,o2,dr1 rfl cl P.clo (yr.trans ?_) g.clo P2.clo,g,P2⟩;unfold lu;rw [pd] at e2 ⊢;exact congrArg toR (km (Eq.trans (ifT (orT (by walk_at "x"))) (iw e2)))
 obtain ⟨z,o1,e1,z0,z1,P1⟩:=PN.m7 (m:=3) P (by omega) (by decide) (by decide)
 have hd1:∃ x rest,pd p = .tup (.str x::rest)/\(x == "one")=false:=by
  cases p with
  | one c=>exact absurd ⟨c,rfl⟩ one
  | eit j q=>rw [pd];exact ⟨_,_,rfl,by decide⟩
  | lst j ps=>rw [pd];exact ⟨_,_,rfl,(a8q j).1⟩
 have ask:∀ v,hEq (.int z) (.int 0) [o1] = .ok (.bl v) [o1]->sOr (sT (s2 hEq (s2 gIx (sV 2) (sC (.int 0))) (sC (.str "one")))) (sT (s2 hEq (sA (jt false 2 PN.ao) (aj (sV 0) (aj (sC (.int 3)) cu))) (sC (.int 0)))) [some (.ref 0),some (.str (S tg)),some (pd p),none,none] [o] = .ok v [o1]:=λv hv=>by
  obtain ⟨x,rest,ep,hx⟩:=hd1;rw [ep];exact orF (tof (du (du (bu rfl) (cj _ _ _) ix0) (cj _ _ _) (a5q hx))) (tof (du (qw (bu rfl) (cj _ _ _) (e1 0 _ rfl)) (cj _ _ _) hv))
 by_cases hz:z=0
 ·obtain ⟨r,o2,e2,g,P2⟩:=bt o1 P1;refine ⟨r,o2,dr1 rfl cl P.clo (yr.trans ?_) g.clo P2.clo,g,P2⟩;unfold lu;exact congrArg toR (km (Eq.trans (ifT (ask true (a2p hz))) (iw e2)))
 have go1:∀ g:SS,jh (sIf (sOr (sT (s2 hEq (s2 gIx (sV 2) (sC (.int 0))) (sC (.str "one")))) (sT (s2 hEq (sA (jt false 2 PN.ao) (aj (sV 0) (aj (sC (.int 3)) cu))) (sC (.int 0))))) (mz (sA (jt false 3 lq) (aj (sV 0) (aj (sV 1) (aj (sV 2) cu))))) sNx) g [some (.ref 0),some (.str (S tg)),some (pd p),none,none] [o]=g [some (.ref 0),some (.str (S tg)),some (pd p),none,none] [o1]:=λg=>ifN (ask false (a3h hz))
 clear ask hd1
 cases p with
 | one c=>exact absurd ⟨c,rfl⟩ one
 | eit j q =>
  obtain ⟨r,o2,e2,g,P2⟩:=ih q k.2 o1 (N+1) P1 (by omega)
  refine ⟨.tup [.str "either",jo j,r],o2,dr1 rfl cl P.clo (yr.trans ?_) (jw (bz (dw _) (bz (ie _) (bz g.clo iy)))) P2.clo, .tup _ (by simp) (bf (.str _ (by decide)) (bf (.int _) (bf g jq))),P2.up (by omega)⟩
  unfold lu;refine Eq.trans (congrArg toR (go1 _)) ?_;rw [pd];exact congrArg toR (km (Eq.trans (ifT (by walk_at "x")) (iw (by walk_at "x"))))
 | lst j ps =>
  obtain ⟨_,h2⟩:=a8q j;have kl:ps.length<=6:=k.2.1;have gps:Gds (pds ps):=a8v k.2.2;have st2:∀ g:SS,jh (sIf (sT (s2 hEq (s2 gIx (sV 2) (sC (.int 0))) (sC (.str "either")))) (mz (sA MI.qb (aj (sC (.str "either")) (aj (s2 gIx (sV 2) (sC (.int 1))) (aj (sA (jt false 3 (gj n)) (aj (sV 0) (aj (sV 1) (aj (s2 gIx (sV 2) (sC (.int 2))) cu)))) cu))))) sNx) g [some (.ref 0),some (.str (S tg)),some (pd (.lst j ps)),none,none] [o1]=g [some (.ref 0),some (.str (S tg)),some (pd (.lst j ps)),none,none] [o1]:=λg=>by
   rw [pd];exact ifN (tof (du (du (bu rfl) (cj _ _ _) ix0) (cj _ _ _) (a5q h2)))
  cases ps with
  | nil =>
   obtain ⟨r,o2,e2,g,P2⟩:=bt o1 P1;refine ⟨r,o2,dr1 rfl cl P.clo (yr.trans ?_) g.clo P2.clo,g,P2⟩;unfold lu;refine Eq.trans (congrArg toR (go1 _)) (Eq.trans (congrArg toR (st2 _)) ?_);rw [pd,pds] at e2 ⊢;exact congrArg toR (km (Eq.trans (ifT (tof (du (du (bu rfl) (cj _ _ _) ix1) (akr PAP.a6q) rfl))) (iw e2)))
  | cons p0 ps' =>
   obtain ⟨a,o2,e2,a0,a1,P2⟩:=PN.m7 (m:=((p0::ps').length:Nat)) P1 (by omega) (by simp only [List.length_cons];omega) (by simp only [List.length_cons] at kl ⊢;omega)
   obtain ⟨a,rfl⟩:=Int.eq_ofNat_of_zero_le a0;have ha:a<(p0::ps').length:=by omega
   have ha':a<(pds (p0::ps')).length:=by rw [a02];exact ha
   obtain ⟨r,o3,e3,g,P3⟩:=ih ((p0::ps')[a]) (k.2.2 _ (List.getElem_mem ha)) o2 (N+1+1) P2 (by omega)
   have gs:Gds ((pds (p0::ps')).set a r):=λx hx=>(List.mem_or_eq_of_mem_set hx).elim (gps x) (λe=>e ▸ g);have gh:Gd (.str (hn j)):=by
    have:=a2x k
    rw [pd] at this;exact this.of.2 (.str (hn j)) (by simp)
   have gt:Gd (.tup [.str (hn j), .tup ((pds (p0::ps')).set a r)]):=.tup _ (by simp) (bf gh (bf (.tup _ (by rw [List.length_set,a02];omega) gs) jq))
   refine ⟨_,o3,Dr.of rfl cl P.clo (r:=.ok (.tup [.str (hn j), .tup ((pds (p0::ps')).set a r)]) [o3, .lst ((pds (p0::ps')).set a r)]) (yr.trans ?_) (v5 (a6k (by omega) gt.clo) (by simpa using ym (by omega) P3.clo)) gt.clo P3.clo,gt,P3.up (by omega)⟩
   unfold lu;refine Eq.trans (congrArg toR (go1 _)) (Eq.trans (congrArg toR (st2 _)) ?_);rw [pd];have pu:pur 60 (.tup (pds (p0::ps')))=true:=aex (n:=2*d+2) (by omega) (a5n k.2.2)
   have nn:hEq (.tup (pds (p0::ps'))) (.tup []) [o1] = .ok (.bl false) [o1]:=by
    unfold hEq;rw [if_pos ⟨pu,rfl⟩,pds];rfl
   refine Eq.trans (congrArg toR (ifN (tof (du (du (bu rfl) (cj _ _ _) ix1) (akr PAP.a6q) nn)))) ?_;refine Eq.trans (congrArg toR (nq (qi (du (bu rfl) (cj _ _ _) ix1) (show a0c [.tup (pds (p0::ps'))] [o1] = .ok (.ref 1) [o1, .lst (pds (p0::ps'))] from rfl)))) ?_
   refine Eq.trans (congrArg toR (nq (qw (bu rfl) (qi (bu rfl) ((ahc (xs:=pds (p0::ps')) rfl).trans (by rw [a02]))) (e2 0 _ rfl)))) ?_
   have x1:gIx (.ref 1) (.int (a:Nat)) [o2, .lst (pds (p0::ps'))] = .ok (pd (p0::ps')[a]) [o2, .lst (pds (p0::ps'))]:=af7 (xs:=pds (p0::ps')) rfl (by rw [a01,List.getElem?_map,List.getElem?_eq_getElem ha];rfl)
   refine Eq.trans (congrArg toR (a9i (aha (a5o (bu rfl) (bu rfl) (du (bu rfl) (bu rfl) x1) (e3 0 _ rfl)) (bu rfl) (bu rfl) (an3 (xs:=pds (p0::ps')) rfl ha')))) ?_;exact congrArg toR (iw (qw (du (bu rfl) (cj _ _ _) ix0) (qi (bu rfl) (ahd (xs:=(pds (p0::ps')).set a r) rfl)) a6x))
theorem a6u{tg:List Nat}(t1:1<=tg.length)(t6:tg.length<=6):∀ (d n:Nat),d<=n->d<=20->ac0 tg n d
 | 0,_,_,_=>λ_ k=>k.elim
 | d+1,0,h,_=>absurd h (by omega)
 | d+1,n+1,h,h'=>a7n (by omega) t1 t6 (a6u t1 t6 d n (by omega) (by omega))
end K10
namespace K10
open PySem PySem.Spec L2 MI AT HND EVX SHD
open PAP hiding gf a6p a6q vg a2r aof
local macro_rules | `(tactic| walk_at "c") => `(tactic| first | assumption | exact ie _ | (with_reducible exact EVT.za) | exact dw _ | exact xx _ | exact qd | exact iy | ((with_reducible apply bz)<;>walk_at "c") | ((with_reducible apply jw);walk_at "c") | ((with_reducible apply tu);walk_at "c") | ((with_reducible apply EVT.uo)<;>walk_at "c") | ((with_reducible apply EVT.uy);walk_at "c") | ((with_reducible apply EVT.uz);walk_at "c") | ((with_reducible apply EVT.yx);walk_at "c") | ((with_reducible apply EVT.yz);walk_at "c") | ((with_reducible apply EVT.zb)<;>walk_at "c") | exact kh fun _ _=>ie _ | exact kh fun _ _=>dw _)
local macro_rules | `(tactic| walk_at "h") => `(tactic| first | assumption | exact EVT.a1c | exact EVT.vp (by assumption))
local macro_rules | `(tactic| walk_at "z") => `(tactic| first | assumption | omega | (simp only [List.length_cons,List.length_nil,List.length_append,List.length_take,List.length_drop,List.length_map,List.length_singleton,EVT.a1b,Int.reduceToNat]<;>omega))
local macro_rules | `(tactic| walk_at "l") => `(tactic| first
 | (with_reducible assumption)
 | (with_reducible exact a6q) | (with_reducible exact a6p) | (with_reducible exact a6x) | (with_reducible exact ahg)
 | (with_reducible exact EVT.ju) | (with_reducible exact EVT.a3r)
 | ((with_reducible apply EVT.PuE);with_reducible assumption)
 | ((with_reducible apply EVT.ahh);with_reducible assumption)
 | (with_reducible exact EVT.a9l _ _) | (with_reducible exact PAP.ae2 _ _ _) | (with_reducible exact PAP.a0i _ _ _)
 | ((with_reducible apply PAP.a2q);walk_at "z")
 | ((with_reducible apply EVT.a7g);walk_at "z")
 | ((with_reducible apply EVT.a9k);walk_at "z")
 | (with_reducible exact a1l _ _) | (with_reducible exact a6o _) | (with_reducible exact je _)
 | ((with_reducible apply ac4);walk_at "z") | ((with_reducible apply abg);walk_at "z")
 | ((with_reducible apply ahe);walk_at "z") | ((with_reducible apply ahf);walk_at "z")
 | ((with_reducible apply a2p);walk_at "z") | ((with_reducible apply a3h);walk_at "z")
 | ((with_reducible apply a0y);walk_at "z") | ((with_reducible apply a1o);walk_at "z")
 | exact rfl)
local macro_rules | `(tactic| walk_at "x") => `(tactic| first
 | (with_reducible assumption)
 | (with_reducible exact cj _ _ _)
 | ((with_reducible apply bu);exact rfl)
 | (with_reducible exact EVT.vo) | (with_reducible exact EVT.a6r)
 | ((with_reducible apply EVT.zp);walk_at "x";exact rfl;walk_at "c";walk_at "h";walk_at "z")
 | ((with_reducible apply EVT.a0z);walk_at "x";exact rfl;walk_at "c";walk_at "h")
 | ((with_reducible apply EVT.a1a);walk_at "x";exact rfl;walk_at "h";walk_at "z")
 | ((with_reducible apply EVT.a2s);walk_at "x";walk_at "x";exact rfl;walk_at "c";walk_at "c";walk_at "h";walk_at "z")
 | ((with_reducible apply EVT.a2t);walk_at "x";walk_at "x";exact rfl;walk_at "c";walk_at "h";walk_at "z";walk_at "z")
 | ((with_reducible apply EVT.vg);walk_at "h")
 | ((with_reducible apply du);walk_at "x";walk_at "x";walk_at "l")
 | ((with_reducible apply af6);walk_at "x";walk_at "l")
 | ((with_reducible apply PAP.aof);walk_at "x";walk_at "l")
 | ((with_reducible apply PAP.gf);walk_at "x";walk_at "x")
 | ((with_reducible apply a5p);walk_at "x";walk_at "x";walk_at "x";walk_at "l")
 | ((with_reducible apply a5e);walk_at "x")
 | ((with_reducible apply tof);walk_at "x")
 | ((with_reducible apply o6);walk_at "x";walk_at "l")
 | ((with_reducible apply a0x);walk_at "x") | ((with_reducible apply a3q);walk_at "x")
 | ((with_reducible apply a3g);walk_at "x";walk_at "x") | ((with_reducible apply a6w);walk_at "x")
 | ((with_reducible apply orT);walk_at "x") | ((with_reducible apply orF);walk_at "x";walk_at "x"))
local macro_rules | `(tactic| walk_at "l") => `(tactic| first | (with_reducible exact SHD.ix0) | (with_reducible exact SHD.ix1) | (with_reducible exact SHD.ix2) | (with_reducible exact SHD.ix3) | (with_reducible exact SHD.ai1) | ((with_reducible apply SHD.a5q);exact (by decide)) | (with_reducible exact SHD.ahj) | ((with_reducible apply SHD.ahi);exact (by decide)) | (with_reducible exact SHD.abl) | (with_reducible exact SHD.yp))
noncomputable def j4:SF:=ou (xq (bw 11) dq) 5
theorem a0l{tg w:List Nat}{s:Sh}{p:D}(hw:w.length<=1000000)(ks:a3c tg 5 s)(g:Gd p):Pu j4 3 [sd s, .str (S w),p] (.bl true):=by
 refine pu1 rfl (a0k (sy s) (dw _) g.clo) (xx _) ?_;unfold j4;rw [jj];show toR (xq (bw 11) dq [some (sd s),some (.str (S w)),some p,none,none] [])=_;unfold xq;have e1:=a0j (tg:=tg) 5 11 (by decide) (by decide) s p ks g []
 have e2:=a5k hw ks g [];refine Eq.trans (congrArg toR (nq (qw (bu rfl) (bu rfl) e1))) ?_;refine Eq.trans (congrArg toR (nq (a5o (bu rfl) (bu rfl) (bu rfl) e2))) ?_;have eb:∀ b:Bool,hEq (.bl b) (.bl b) [] = .ok (.bl true) []:=λb=>by rw [abd,beq_self_eq_true]
 refine congrArg toR (iw (a9j (qw (bu rfl) (cj _ _ _) PAP.an4) (du (bu rfl) (?_:_=R.ok (.bl (decide (wk 5 s p=some w))) []) (eb _))))
 cases hx:wk 5 s p with
 | none =>
  rw [decide_eq_false (by simp)]
  exact PAP.ae1 (du (bu rfl) (cj _ _ _) rfl)
 | some x =>
  have:decide (some x=some w)=decide (x=w):=decide_eq_decide.mpr (by simp)
  rw [this];exact a9j (du (bu rfl) (cj _ _ _) rfl) (du (bu rfl) (bu rfl) ((ady _ _).trans (by rw [akn])))
section
noncomputable abbrev B0:=a4q (gj 5) (dh 5) PN.lz j4 (ig 5) (dj 5) PN.jf PN.gw PN.ao (bw 11) dq
noncomputable abbrev B1:=a4r (gj 5) (dh 5) PN.lz j4 (ig 5) (dj 5) PN.jf PN.gw PN.ao (bw 11) dq
variable{tg:List Nat}
theorem anc(t1:1<=tg.length)(t6:tg.length<=6){s:Sh}{p:Pa}{w:List Nat}{sc fd:D}{t4 t8 t9 t10 t11:Option D}{o:O}{N:Nat}{hs:Hd}(ks:a3c tg 5 s)(kp:POk tg 5 p)(hw:w.length<=100000)(P:PN.Pen o N)(hN:N<=600000000) :
  ∃ t9' t10' o',B0 [some sc,some (.ref 0),some (.str (S tg)),some fd,t4,some (sd s),some (pd p),some (.str (S w)),t8,t9,t10,t11] (o::hs) = .nx [some sc,some (.ref 0),some (.str (S tg)),some fd,t4,some (sd s),some (pd p),some (.str (S w)),t8,t9',t10',t11] (o'::hs)/\PN.Pen o' (N+50):=by
 obtain ⟨r,o1,e1,g,P1⟩:=a6u t1 t6 5 5 (by decide) (by decide) p kp o N P (by omega)
 refine ⟨some r,some (oW (wk 5 s r)),o1,?_,P1⟩;unfold B0 a4q;have h16:(w.take 16).length<=1000000:=by rw [List.length_take];omega
 have to16:∀ h,a3b (.str (S w)) none (some 16) h = .ok (.str (S (w.take 16))) h:=λh=>alp 16 (j7 (by omega))
 refine Eq.trans (nq (a5o (bu rfl) (bu rfl) (bu rfl) (e1 0 _ rfl))) ?_;refine Eq.trans (nq (qw (bu rfl) (bu rfl) (a0j (tg:=tg) 5 11 (by decide) (by decide) s r ks g _))) ?_
 refine Eq.trans (ifN (orF (a0x (o6 (a5o (bu rfl) (a5p (bu rfl) EVT.a6r (a5e (cj _ _ _)) (to16 _)) (bu rfl) (a0l h16 ks g _)) (je _))) (a0x (o6 (a5o (bu rfl) (a5p (bu rfl) EVT.a6r (a5e (cj _ _ _)) (to16 _)) (bu rfl) (a0l h16 ks (a2x kp) _)) (je _))))) ?_
 cases hx:wk 5 s r with
 | none=>exact ifF (a6w (tof (du (bu rfl) (cj _ _ _) rfl)))
 | some x =>
  have lx:x.length<=1000000:=Nat.le_trans (a3t g hx) (by decide)
  by_cases h17:x.length<17
  ·have e3:=a5k lx ks g;rw [hx,decide_eq_true rfl] at e3;exact ifF (a3g (tof (du (bu rfl) (cj _ _ _) rfl)) (a3g (tof (du (qi (bu rfl) (a2m (j7 lx))) (cj _ _ _) (ac4 (by omega)))) (tof (du (a5o (bu rfl) (bu rfl) (bu rfl) (e3 _)) (cj _ _ _) rfl))))
  ·exact ifF (a3g (tof (du (bu rfl) (cj _ _ _) rfl)) (a6w (tof (du (qi (bu rfl) (a2m (j7 lx))) (cj _ _ _) (abg (by omega))))))
theorem ane(t1:1<=tg.length)(t6:tg.length<=6)(nd:tg.Nodup){f:Sh}{sc:D}{t4 t5 t6' t7 t8 t9 t10 t11:Option D}{o:O}{N:Nat}{hs:Hd}(kf:a3c tg 5 f)(ch:∀ u∈hs,qp 0 u)(P:PN.Pen o N)(hN:N<=500000000) :
  ∃ s u5 u6 u7 u8 u9 u10 u11 o' hs',B1 [some sc,some (.ref 0),some (.str (S tg)),some (sd f),t4,t5,t6',t7,t8,t9,t10,t11] (o::hs) = .nx [some sc,some (.ref 0),some (.str (S tg)),some (sd s),t4,u5,u6,u7,u8,u9,u10,u11] (o'::hs')/\a3c tg 5 s/\(∀ u∈hs',qp 0 u)/\PN.Pen o' (N+10000000):=by
 have b5:bnd 5=3361400:=by decide
 obtain ⟨q,o1,e1,q0,q1,P1⟩:=PN.m7 (m:=3) P (by omega) (by decide) (by decide)
 obtain ⟨q,rfl⟩:=Int.eq_ofNat_of_zero_le q0;have x3:∃ m:Int,0<=m/\m<=23/\gIx (.rol [.int 5, .int 9, .int 23]) (.int (q:Nat)) (o1::hs) = .ok (.int m) (o1::hs):=by
  rcases q with _ | _ | _ | q
  ·exact ⟨5,by decide,by decide,rfl⟩
  ·exact ⟨9,by decide,by decide,rfl⟩
  ·exact ⟨23,by decide,by decide,rfl⟩
  ·omega
 obtain ⟨m,m0,m1,x3⟩:=x3;have co:∀ u∈o::hs,qp 0 u:=λu hu=>by rcases List.mem_cons.mp hu with rfl | hu;exact P.clo;exact ch u hu
 obtain ⟨s,o2,m',ks,e2,P2,m0',m1'⟩:=a8l t1 t6 nd 4 4 (by decide) (by decide) o1 (N+1) m P1 (by rw [b5];omega) m0 m1
 obtain ⟨p,o3,e3,kp,wp,P3⟩:=a8o (tg:=tg) 5 5 (by decide) s ks o2 _ P2 (by rw [b5];omega)
 have e4:=a7h (tg:=tg) 5 5 (by decide) (by decide) p kp
 have lw:(sw p).length<=7776:=a8p kp
 let hs1:Hd:=hs++[.lst [.int m']]
 have ch1:∀ u∈hs1,qp 0 u:=λu hu=>by
  rcases List.mem_append.mp hu with hu | hu
  ·exact ch u hu
  ·rw [List.mem_singleton.mp hu];exact yo _
 have dr:jt false 4 (dj 5) [.ref 0, .ref (o1::hs).length,jo 5, .str (S tg)] ((o1::hs)++[.lst [.int m]]) = .ok (sd s) (o2::hs1):=by
  refine (e2 0 (o1::hs).length ((o1::hs)++[.lst [.int m]]) (by simp) rfl (by rw [List.getElem?_append_right (Nat.le_refl _),Nat.sub_self];rfl)).trans ?_
  congr 1
  rw [List.cons_append,List.set_cons_zero,List.length_cons,List.set_cons_succ,List.set_append_right _ _ (Nat.le_refl _),Nat.sub_self];rfl
 have st5:sA (jt false 4 (dj 5)) (aj (sV 1) (aj (sA MI.w6 (aj (s2 gIx (sZ (sA MI.w6 (aj (sC (.int 5)) (aj (sC (.int 9)) (aj (sC (.int 23)) cu))))) (sA (jt false 2 PN.ao) (aj (sV 1) (aj (sC (.int 3)) cu)))) cu)) (aj (sC (.int 5)) (aj (sV 2) cu)))) [some sc,some (.ref 0),some (.str (S tg)),some (sd f),t4,t5,t6',t7,t8,t9,t10,t11] (o::hs) = .ok (sd s) (o2::hs1):=by
  have dz:sZ (sA MI.w6 (aj (sC (.int 5)) (aj (sC (.int 9)) (aj (sC (.int 23)) cu)))) [some sc,some (.ref 0),some (.str (S tg)),some (sd f),t4,t5,t6',t7,t8,t9,t10,t11] (o::hs) = .ok (.rol [.int 5, .int 9, .int 23]) (o::hs):=yq (PAP.gf (cj _ _ _) (PAP.gf (cj _ _ _) (PAP.gf (cj _ _ _) EVT.vo))) (bf (.int _) (bf (.int _) (bf (.int _) jq))) co (by decide)
  have lst1:MI.w6 [.int m] (o1::hs) = .ok (.ref (o1::hs).length) ((o1::hs)++[.lst [.int m]]):=if_pos (j7 (by simp))
  exact PAP.aof (PAP.gf (bu rfl) (PAP.gf (PAP.aof (PAP.gf (du dz (qw (bu rfl) (cj _ _ _) (e1 0 _ rfl)) x3) EVT.vo) lst1) (PAP.gf (cj _ _ _) (PAP.gf (bu rfl) EVT.vo)))) dr
 have lp:=a4o (g:=kN 8) (b:=B0) jo (λpre τ h=>∃ (t8 t9 t10:Option D) (o':O),τ=[some sc,some (.ref 0),some (.str (S tg)),some (sd f),t4,some (sd s),some (pd p),some (.str (S (sw p))),t8,t9,t10,t11]/\h=o'::hs1/\PN.Pen o' (N+1+bnd 5+bnd 5+pre.length*50)) (List.range 3) [some sc,some (.ref 0),some (.str (S tg)),some (sd f),t4,some (sd s),some (pd p),some (.str (S (sw p))),t8,t9,t10,t11] (o3::hs1) ?_ ⟨t8,t9,t10,o3,rfl,rfl,by simpa using P3⟩
 ·obtain ⟨τ',h',e5,v8,v9,v10,o4,rfl,rfl,P4⟩:=lp;rw [List.length_range] at P4;have ht:0<tg.length:=by omega
  let nr:List Nat:=((sw p).drop 1++[tg[0]]).take 16
  refine ⟨s,some (sd s),some (pd p),some (.str (S (sw p))),v8,v9,v10,some (.str (S nr)),o4,hs1,?_,ks,ch1,P4.up (by rw [b5];omega)⟩
  have x0:∀ h,gIx (.str (S tg)) (.int 0) h = .ok (.str (S [tg[0]])) h:=λh=>alo (i:=0) (j7 (by omega)) (List.getElem?_eq_getElem ht)
  have f1:∀ h,a3b (.str (S (sw p))) (some 1) none h = .ok (.str (S ((sw p).drop 1))) h:=λh=>af5 1 (j7 (by omega))
  have l1:((sw p).drop 1++[tg[0]]).length<=7777:=by rw [List.length_append,List.length_drop,List.length_singleton];omega
  have ad:∀ h,jb (.str (S ((sw p).drop 1))) (.str (S [tg[0]])) h = .ok (.str (S ((sw p).drop 1++[tg[0]]))) h:=λh=>a9f (j7 (by rw [List.length_drop,List.length_singleton];omega))
  have to1:∀ h,a3b (.str (S ((sw p).drop 1++[tg[0]]))) none (some 16) h = .ok (.str (S nr)) h:=λh=>alp 16 (j7 (by omega))
  have to2:∀ h,a3b (.str (S (sw p))) none (some 16) h = .ok (.str (S ((sw p).take 16))) h:=λh=>alp 16 (j7 (by omega))
  have ln:nr.length<=1000000:=by show (List.take 16 _).length<=_;rw [List.length_take];omega
  have l16:((sw p).take 16).length<=1000000:=by rw [List.length_take];omega
  unfold B1 a4r;refine Eq.trans (nq st5) ?_;refine Eq.trans (nq (qw (bu rfl) (bu rfl) (e3 0 _ rfl))) ?_;refine Eq.trans (nq (qi (bu rfl) (e4 _))) ?_;refine Eq.trans (ahb (a5c (n:=3) (cj _ _ _) (j7 (by decide)))) ?_
  refine Eq.trans (congrArg (λz=>MI.thn z _) e5) ?_;rw [a1k];refine Eq.trans (nq (a5p (du (a5p (bu rfl) (a5e (cj _ _ _)) EVT.a6r (f1 _)) (du (bu rfl) (cj _ _ _) (x0 _)) (ad _)) EVT.a6r (a5e (cj _ _ _)) (to1 _))) ?_;refine Eq.trans (ifN (orF (a0x (o6 (a5o (bu rfl) (bu rfl) (bu rfl) (a0l ln ks (a2x kp) _)) (je _))) (a0x (o6 (a5o (bu rfl) (a5p (bu rfl) EVT.a6r (a5e (cj _ _ _)) (to2 _)) (bu rfl) (a0l l16 kf (a2x kp) _)) (je _))))) ?_
  by_cases h17:(sw p).length<17
  ·have e6:=a5k (w:=sw p) (by omega) ks (a2x kp)
   rw [wp,decide_eq_true rfl] at e6;exact Eq.trans (ifN (a3g (tof (du (qi (bu rfl) (a2m (j7 (by omega)))) (cj _ _ _) (ac4 (by omega)))) (tof (du (a5o (bu rfl) (bu rfl) (bu rfl) (e6 _)) (cj _ _ _) rfl)))) (alx (bu rfl))
  ·exact Eq.trans (ifN (a6w (tof (du (qi (bu rfl) (a2m (j7 (by omega)))) (cj _ _ _) (abg (by omega)))))) (alx (bu rfl))
 ·rintro pre i post τ h al ⟨v8,v9,v10,o',rfl,rfl,P'⟩
  have hl:pre.length<3:=by
   have:=congrArg List.length al
   simp at this;omega
  obtain ⟨v9',v10',o'',e,P''⟩:=anc (w:=sw p) (sc:=sc) (fd:=sd f) (t4:=t4) (t8:=some (jo i)) (t9:=v9) (t10:=v10) (t11:=t11) (hs:=hs1) t1 t6 ks kp (by omega) P' (by rw [b5];omega)
  refine ⟨_,_,rfl,_,_,e,some (jo i),v9',v10',o'',rfl,rfl,?_⟩;rw [List.length_append,List.length_singleton,Nat.succ_mul];exact P''.up (by omega)
end
noncomputable def aee:SF:=ou (adx (gj 5) (dh 5) PN.lz j4 (ig 5) (dj 5) PN.jf PN.gw PN.ao (bw 11) dq) 12
theorem al7(ns:List Int):∃ h',aee [.scr (ns.map D.int)] [] = .ok (.bl true) h':=by
 obtain ⟨o0,P0,e0⟩:=PN.akx ns [];obtain ⟨q,o1,e1,q0,q1,P1⟩:=PN.m7 (m:=4) P0 (by omega) (by decide) (by decide)
 obtain ⟨q,rfl⟩:=Int.eq_ofNat_of_zero_le q0;have x3:∃ m:Nat,1<=m/\m<=6/\gIx (.rol [.int 3, .int 3, .int 3, .int 6]) (.int (q:Nat)) [o1] = .ok (jo m) [o1]:=by
  rcases q with _ | _ | _ | _ | q
  ·exact ⟨3,by decide,by decide,rfl⟩
  ·exact ⟨3,by decide,by decide,rfl⟩
  ·exact ⟨3,by decide,by decide,rfl⟩
  ·exact ⟨6,by decide,by decide,rfl⟩
  ·omega
 obtain ⟨m,m0,m1,x3⟩:=x3;obtain ⟨tg,o2,t1,t6,nd,sb,e2,P2⟩:=PN.abj (most:=m) (all:=sig) P1 (by omega) m0 (by rw [abe];omega) (by rw [abe];omega) akp
 have t6:tg.length<=6:=by omega
 let sc:D:=.scr (ns.map D.int)
 have kr:a3c tg 5 (.row []):=⟨by simp,by simp⟩
 have rd:sd (.row []) = .tup [.str "row", .tup []]:=by rw [sd,sds]
 have lp:=a4o (g:=kN 4) (b:=B1) jo (λpre τ h=>∃ (s:Sh) (t4 t5 t6 t7 t8 t9 t10 t11:Option D) (o':O) (hs:Hd),τ=[some sc,some (.ref 0),some (.str (S tg)),some (sd s),t4,t5,t6,t7,t8,t9,t10,t11]/\h=o'::hs/\a3c tg 5 s/\(∀ u∈hs,qp 0 u)/\PN.Pen o' (10+pre.length*10000000)) (List.range 3) [some sc,some (.ref 0),some (.str (S tg)),some (.tup [.str "row", .tup []]),none,none,none,none,none,none,none,none] [o2] ?_ ⟨.row [],none,none,none,none,none,none,none,none,o2,[],by rw [rd],rfl,kr,by simp,P2.up (by omega)⟩
 ·obtain ⟨τ',h',e3,s,t4,t5,t6',t7,t8,t9,t10,t11,o',hs,rfl,rfl,ks,ch,P'⟩:=lp;refine ⟨o'::hs,?_⟩;unfold aee;rw [jj];show toR (adx (gj 5) (dh 5) PN.lz j4 (ig 5) (dj 5) PN.jf PN.gw PN.ao (bw 11) dq [some sc,none,none,none,none,none,none,none,none,none,none,none] [])=_;unfold adx;refine Eq.trans (congrArg toR (nq (qi (bu rfl) e0))) ?_;have c0:∀ u∈[o0],qp 0 u:=EVT.vp P0.clo;have dz:sZ (sA MI.w6 (aj (sC (.int 3)) (aj (sC (.int 3)) (aj (sC (.int 3)) (aj (sC (.int 6)) cu))))) [some sc,some (.ref 0),none,none,none,none,none,none,none,none,none,none] [o0] = .ok (.rol [.int 3, .int 3, .int 3, .int 6]) [o0]:=yq (PAP.gf (cj _ _ _) (PAP.gf (cj _ _ _) (PAP.gf (cj _ _ _) (PAP.gf (cj _ _ _) EVT.vo)))) (bf (.int _) (bf (.int _) (bf (.int _) (bf (.int _) jq)))) c0 (by decide)
  refine Eq.trans (congrArg toR (nq (a5o (bu rfl) (akr (PN.a5b _)) (du dz (qw (bu rfl) (cj _ _ _) (e1 0 _ rfl)) x3) (e2 0 _ rfl)))) ?_;refine Eq.trans (congrArg toR (nq (qw (cj _ _ _) (akr PAP.a6q) a6x))) ?_;refine Eq.trans (congrArg toR (ahb (a5c (n:=3) (cj _ _ _) (j7 (by decide))))) ?_
  refine Eq.trans (congrArg toR (congrArg (λz=>MI.thn z _) e3)) ?_;rw [a1k];have r:=a0l (w:=[]) (s:=s) (p:=.tup [.str "row", .tup []]) (by simp) ks (.tup _ (by simp) (bf (.str _ (by decide)) (bf (.tup _ (by simp) jq) jq))) (o'::hs)
  exact congrArg toR (iw (a5o (bu rfl) (cj _ _ _) (qw (cj _ _ _) (akr PAP.a6q) a6x) r))
 ·rintro pre i post τ h al ⟨s,t4,t5,t6',t7,t8,t9,t10,t11,o',hs,rfl,rfl,ks,ch,P'⟩
  have hl:pre.length<3:=by
   have:=congrArg List.length al
   simp at this;omega
  obtain ⟨s',u5,u6,u7,u8,u9,u10,u11,o'',hs',e,ks',ch',P''⟩:=ane (sc:=sc) (t4:=some (jo i)) (t5:=t5) (t6':=t6') (t7:=t7) (t8:=t8) (t9:=t9) (t10:=t10) (t11:=t11) t1 t6 nd ks ch P' (by omega)
  refine ⟨_,_,rfl,_,_,e,s',_,_,_,_,_,_,_,_,o'',hs',rfl,rfl,ks',ch',?_⟩;rw [List.length_append,List.length_singleton,Nat.succ_mul];exact P''.up (by omega)
end K10
namespace L2
open PySem PySem.Spec PySem.W PyProof.Rows
end L2
namespace K10
open PySem PySem.Spec L2 MI
section
variable{P:Program}{w:World}{K:PySem.W.Frag}{mg:Str->Option Value}{base:Heap}{f:Addr}{fd:FuncData}
theorem d_4{f_4:Addr}{e_4:FuncData}(Fu_4:Fun K "end_of" "end_of" (top 6) f_4 e_4)(mk_4:mg "end_of" = some (.ref f_4))(kp_4:PySem.W.keepIn K (.ref f_4)=true)(bd_4:Binds K e_4 ["shape", "word", "at", "paper"] []){f_7:Addr}{e_7:FuncData}(Fu_7:Fun K "end_in_turn" "end_in_turn" (top 9) f_7 e_7)(mk_7:mg "end_in_turn" = some (.ref f_7))(kp_7:PySem.W.keepIn K (.ref f_7)=true)(bd_7:Binds K e_7 ["parts", "word", "at", "papers"] [])(M:Nm mg){a_5:Addr}{d_5:FuncData}(D_5:Dn P w K mg base 1 "end_of_one" ["signs", "word", "at", "sign"] (nj K 4 (K10.n6)) a_5 d_5){a_1:Addr}{d_1:FuncData}(D_1:Dn P w K mg base 2 "is_number_from" ["thing", "low", "high"] (nj K 3 (K10.j5)) a_1 d_1){a_2:Addr}{d_2:FuncData}(D_2:Dn P w K mg base 1 "is_row" ["thing", "low", "high"] (nj K 3 (K10.rz)) a_2 d_2){a_6:Addr}{d_6:FuncData}(D_6:Dn P w K mg base 1 "parts_for" ["shape", "count"] (nj K 2 (K10.m8)) a_6 d_6):∀ n:Nat,Dn P w K mg base (n+2) "end_of" ["shape", "word", "at", "paper"] (nj K 4 (K10.jr n)) f_4 e_4/\Dn P w K mg base (n+2) "end_in_turn" ["parts", "word", "at", "papers"] (nj K 4 (K10.jx n)) f_7 e_7:=by
 intro n
 induction n with
 | zero=>exact ⟨⟨a6c (ps:=["shape", "word", "at", "paper"]),mk_4,kp_4,bd_4⟩,⟨a6c (ps:=["parts", "word", "at", "papers"]),mk_7,kp_7,bd_7⟩⟩
 | succ n ih =>
  have e:n+1+2=n+2+1:=by omega
  rw [e];obtain ⟨s_end_of,s_end_in_turn⟩:=ih;exact ⟨⟨o8 Fu_4 ao4 (m_4 M s_end_in_turn (by omega) s_end_of (by omega) D_5 (by omega) D_1 (by omega) D_2 (by omega) D_6 (by omega)),mk_4,kp_4,bd_4⟩,⟨o8 Fu_7 ao7 (m_7 M s_end_of (by omega)),mk_7,kp_7,bd_7⟩⟩
theorem al8{f_12:Addr}{e_12:FuncData}(Fu_12:Fun K "_law_shape" "_law_shape" (top 15) f_12 e_12)(mk_12:mg "_law_shape" = some (.ref f_12))(kp_12:PySem.W.keepIn K (.ref f_12)=true)(bd_12:Binds K e_12 ["_law_pen_here", "_law_purse", "_law_deep", "_law_tongue"] [])(M:Nm mg){a_11:Addr}{d_11:FuncData}(D_11:Dn P w K mg base 2 "_law_some" ["_law_pen_here", "_law_rest", "_law_most"] (nj K 3 (PN.gw)) a_11 d_11){a_9:Addr}{d_9:FuncData}(D_9:Dn P w K mg base 1 "_law_take" ["_law_pen_here", "_law_many"] (nj K 2 (PN.ao)) a_9 d_9):∀ n:Nat,Dn P w K mg base (n+2) "_law_shape" ["_law_pen_here", "_law_purse", "_law_deep", "_law_tongue"] (nj K 4 (SHD.dj n)) f_12 e_12:=by
 intro n
 induction n with
 | zero=>exact ⟨a6c (ps:=["_law_pen_here", "_law_purse", "_law_deep", "_law_tongue"]),mk_12,kp_12,bd_12⟩
 | succ n ih =>
  have e:n+1+2=n+2+1:=by omega
  rw [e];have s_law_shape:=ih;exact ⟨o8 Fu_12 akc (ap3 M s_law_shape (by omega) D_11 (by omega) D_9 (by omega)),mk_12,kp_12,bd_12⟩
theorem al9{f_13:Addr}{e_13:FuncData}(Fu_13:Fun K "_law_paper" "_law_paper" (top 16) f_13 e_13)(mk_13:mg "_law_paper" = some (.ref f_13))(kp_13:PySem.W.keepIn K (.ref f_13)=true)(bd_13:Binds K e_13 ["_law_pen_here", "_law_shape_here"] [])(M:Nm mg){a_9:Addr}{d_9:FuncData}(D_9:Dn P w K mg base 1 "_law_take" ["_law_pen_here", "_law_many"] (nj K 2 (PN.ao)) a_9 d_9):∀ n:Nat,Dn P w K mg base (n+1) "_law_paper" ["_law_pen_here", "_law_shape_here"] (nj K 2 (SHD.dh n)) f_13 e_13:=by
 intro n
 induction n with
 | zero=>exact ⟨a6c (ps:=["_law_pen_here", "_law_shape_here"]),mk_13,kp_13,bd_13⟩
 | succ n ih =>
  have e:n+1+1=n+1+1:=by omega
  rw [e];have s_law_paper:=ih;exact ⟨o8 Fu_13 akd (ap4 M s_law_paper (by omega) D_9 (by omega)),mk_13,kp_13,bd_13⟩
theorem ala{f_14:Addr}{e_14:FuncData}(Fu_14:Fun K "_law_said" "_law_said" (top 17) f_14 e_14)(mk_14:mg "_law_said" = some (.ref f_14))(kp_14:PySem.W.keepIn K (.ref f_14)=true)(bd_14:Binds K e_14 ["_law_paper_here"] [])  : ∀ n:Nat,Dn P w K mg base (n+0) "_law_said" ["_law_paper_here"] (nj K 1 (SHD.ig n)) f_14 e_14:=by
 intro n
 induction n with
 | zero=>exact ⟨a6c (ps:=["_law_paper_here"]),mk_14,kp_14,bd_14⟩
 | succ n ih =>
  have e:n+1+0=n+0+1:=by omega
  rw [e];have s_law_said:=ih;exact ⟨o8 Fu_14 ake (ap5 s_law_said (by omega)),mk_14,kp_14,bd_14⟩
theorem anf{f_16:Addr}{e_16:FuncData}(Fu_16:Fun K "_law_many_walked" "_law_many_walked" (top 19) f_16 e_16)(mk_16:mg "_law_many_walked" = some (.ref f_16))(kp_16:PySem.W.keepIn K (.ref f_16)=true)(bd_16:Binds K e_16 ["_law_parts", "_law_papers"] []){f_17:Addr}{e_17:FuncData}(Fu_17:Fun K "_law_walked" "_law_walked" (top 20) f_17 e_17)(mk_17:mg "_law_walked" = some (.ref f_17))(kp_17:PySem.W.keepIn K (.ref f_17)=true)(bd_17:Binds K e_17 ["_law_shape_here", "_law_paper_here"] [])(M:Nm mg){a_15:Addr}{d_15:FuncData}(D_15:Dn P w K mg base 1 "_law_number" ["_law_thing"] (nj K 1 (SHD.m5)) a_15 d_15):∀ n:Nat,Dn P w K mg base (n+1) "_law_many_walked" ["_law_parts", "_law_papers"] (nj K 2 (SHD.j6 n)) f_16 e_16/\Dn P w K mg base (n+1) "_law_walked" ["_law_shape_here", "_law_paper_here"] (nj K 2 (SHD.bw n)) f_17 e_17:=by
 intro n
 induction n with
 | zero=>exact ⟨⟨a6c (ps:=["_law_parts", "_law_papers"]),mk_16,kp_16,bd_16⟩,⟨a6c (ps:=["_law_shape_here", "_law_paper_here"]),mk_17,kp_17,bd_17⟩⟩
 | succ n ih =>
  have e:n+1+1=n+1+1:=by omega
  rw [e];obtain ⟨s_law_many_walked,s_law_walked⟩:=ih;exact ⟨⟨o8 Fu_16 akg (ap7 M s_law_walked (by omega)),mk_16,kp_16,bd_16⟩,⟨o8 Fu_17 akh (ap8 M s_law_many_walked (by omega) D_15 (by omega) s_law_walked (by omega)),mk_17,kp_17,bd_17⟩⟩
theorem alb{f_20:Addr}{e_20:FuncData}(Fu_20:Fun K "_law_forged" "_law_forged" (top 23) f_20 e_20)(mk_20:mg "_law_forged" = some (.ref f_20))(kp_20:PySem.W.keepIn K (.ref f_20)=true)(bd_20:Binds K e_20 ["_law_pen_here", "_law_some_here", "_law_paper_here"] [])(M:Nm mg){a_19:Addr}{d_19:FuncData}(D_19:Dn P w K mg base 3 "_law_bent" ["_law_pen_here", "_law_some_here", "_law_paper_here"] (nj K 3 (K10.lq)) a_19 d_19){a_9:Addr}{d_9:FuncData}(D_9:Dn P w K mg base 1 "_law_take" ["_law_pen_here", "_law_many"] (nj K 2 (PN.ao)) a_9 d_9):∀ n:Nat,Dn P w K mg base (n+3) "_law_forged" ["_law_pen_here", "_law_some_here", "_law_paper_here"] (nj K 3 (K10.gj n)) f_20 e_20:=by
 intro n
 induction n with
 | zero=>exact ⟨a6c (ps:=["_law_pen_here", "_law_some_here", "_law_paper_here"]),mk_20,kp_20,bd_20⟩
 | succ n ih =>
  have e:n+1+3=n+3+1:=by omega
  rw [e];have s_law_forged:=ih;exact ⟨o8 Fu_20 akk (apb M D_19 (by omega) s_law_forged (by omega) D_9 (by omega)),mk_20,kp_20,bd_20⟩
end
def aef(K:PySem.W.Frag):Sp:=λvs H Q _=>∃ (a:Addr) (ns:List Int),vs=[.ref a]/\SqF K H a (ns.map V.int)/\ns.length<=63/\∀ H',Q (.bl true) H'
theorem a6v{K:PySem.W.Frag}{ι:List Addr}{H:Hp}:∀ ns:List Int,Reps K ι H (ns.map V.int) (ns.map D.int)
 | []=>.nil
 | n::ns=>.cons (.int n) (a6v ns)
theorem alc{K:PySem.W.Frag}(vs:List V)(H:Hp)(Q:VK)(E:XK)(h:aef K vs H Q E):nj K 1 K10.aee vs H Q E:=by
 obtain ⟨a,ns,rfl,hS,hl,q⟩:=h;obtain ⟨h',e⟩:=K10.al7 ns;refine ⟨rfl,[],[.scr (ns.map D.int)],[], .cons (.scr hS (a6v ns)) .nil,⟨List.nodup_nil,rfl,λi a o z=>by simp at z⟩,?_⟩
 rw [e]
 intro ι' H' b g r hr
 cases r
 exact q H'
theorem ald{K:PySem.W.Frag}{H:Hp}{a:Addr}{vs:List V}(hO:Only H)(hS:SqL K H a vs):SqF K H a vs:=by
 rcases hS with r | r
 ·rcases r with r | ⟨o,r⟩
  ·rcases hO a with z | ⟨o,xs,z⟩<;>rw [z] at r<;>cases r
  ·exact .inl ⟨o,r⟩
 ·exact .inr (.inr r)
abbrev fo(x:Str)(t:Stmt)(kV dc pm:Value)(an:Option Addr)(cd ct:Value):=PySem.W.fnOf x x (a0o t) (jd t) (bc t) .none kV dc pm an cd ct
def Df(K:PySem.W.Frag)(f:Addr)(nm:Str)(i:Nat):Prop:=∃ oc od kV dc pm an cd ct sl,PySem.W.nsIn K mainGlobals nm=some (some (.ref f))/\K.lookup f=some ⟨oc,od, .func (fo nm (top i) kV dc pm an cd ct),sl⟩/\PySem.W.codeIn K cd nm=true/\PySem.W.keepIn K (.ref f)=true
theorem df{K:PySem.W.Frag}{f:Addr}{nm:Str}{i:Nat}(d:Df K f nm i):∃ e,PySem.W.nsIn K mainGlobals nm=some (some (.ref f))/\Fun K nm nm (top i) f e:=by
 obtain ⟨_,_,_,_,_,_,_,_,_,a,l,c,k⟩:=d;exact ⟨_,a,aj4 l c k⟩
theorem ale{l:PySem.W.OpenLaw}{w:World}{K:PySem.W.Frag}{h:Heap}{mg:Str->Option Value}{fa f1 f2 f3 f4 f5 f6 f7 f8 f9 f10 f11 f12 f13 f14 f15 f16 f17 f18 f19 f20 f21 f22 f23:Addr}(X:K.In h)(G:h.Ns mainGlobals mg)(hfa:mg "law" = some (.ref fa))
  (d1:Df K f1 "is_number" 1)
  (d2:Df K f2 "is_number_from" 2)
  (d3:Df K f3 "is_row" 3)
  (d4:Df K f4 "taking_holds" 5)
  (d5:Df K f5 "end_of" 6)
  (d6:Df K f6 "end_of_one" 7)
  (d7:Df K f7 "parts_for" 8)
  (d8:Df K f8 "end_in_turn" 9)
  (d9:Df K f9 "_law_pen" 11)
  (d10:Df K f10 "_law_take" 12)
  (d11:Df K f11 "_law_signs" 13)
  (d12:Df K f12 "_law_some" 14)
  (d13:Df K f13 "_law_shape" 15)
  (d14:Df K f14 "_law_paper" 16)
  (d15:Df K f15 "_law_said" 17)
  (d16:Df K f16 "_law_number" 18)
  (d17:Df K f17 "_law_many_walked" 19)
  (d18:Df K f18 "_law_walked" 20)
  (d19:Df K f19 "_law_bent_papers" 21)
  (d20:Df K f20 "_law_bent" 22)
  (d21:Df K f21 "_law_forged" 23)
  (d22:Df K f22 "_law_right" 24)
  (d23:Df K f23 "law" 25)
  (z1:PySem.W.nsIn K mainGlobals "abs" = some none) (z2:PySem.W.nsIn K mainGlobals "bool" = some none) (z3:PySem.W.nsIn K mainGlobals "int" = some none) (z4:PySem.W.nsIn K mainGlobals "isinstance" = some none) (z5:PySem.W.nsIn K mainGlobals "len" = some none) (z6:PySem.W.nsIn K mainGlobals "list" = some none) (z7:PySem.W.nsIn K mainGlobals "max" = some none) (z8:PySem.W.nsIn K mainGlobals "min" = some none) (z9:PySem.W.nsIn K mainGlobals "range" = some none) (z10:PySem.W.nsIn K mainGlobals "str" = some none) (z11:PySem.W.nsIn K mainGlobals "tuple" = some none) (z12:PySem.W.nsIn K mainGlobals "zip" = some none)  :
  ∃ fd:FuncData,(∀ (s:Shared) (v:Value),BindsTo s fd ⟨[v],[]⟩ [("_law_script",v)])/\∀ base:Heap,K.In base->base.Ns mainGlobals mg->FnOk l.prog w K mg base CX0 16 fa fd ["_law_script"] (aef K):=by
 obtain ⟨_,a1,F1⟩:=df d1;have b1:=F1.binds (ps:=["thing"]) λ_ _ _ _ _ _ us hl=>match us,hl with | [_],_=>rfl
 obtain ⟨_,a2,F2⟩:=df d2;have b2:=F2.binds (ps:=["thing", "low", "high"]) λ_ _ _ _ _ _ us hl=>match us,hl with | [_,_,_],_=>rfl
 obtain ⟨_,a3,F3⟩:=df d3;have b3:=F3.binds (ps:=["thing", "low", "high"]) λ_ _ _ _ _ _ us hl=>match us,hl with | [_,_,_],_=>rfl
 obtain ⟨_,a4,F4⟩:=df d4;have b4:=F4.binds (ps:=["shape", "word", "paper"]) λ_ _ _ _ _ _ us hl=>match us,hl with | [_,_,_],_=>rfl
 obtain ⟨_,a5,F5⟩:=df d5;have b5:=F5.binds (ps:=["shape", "word", "at", "paper"]) λ_ _ _ _ _ _ us hl=>match us,hl with | [_,_,_,_],_=>rfl
 obtain ⟨_,a6,F6⟩:=df d6;have b6:=F6.binds (ps:=["signs", "word", "at", "sign"]) λ_ _ _ _ _ _ us hl=>match us,hl with | [_,_,_,_],_=>rfl
 obtain ⟨_,a7,F7⟩:=df d7;have b7:=F7.binds (ps:=["shape", "count"]) λ_ _ _ _ _ _ us hl=>match us,hl with | [_,_],_=>rfl
 obtain ⟨_,a8,F8⟩:=df d8;have b8:=F8.binds (ps:=["parts", "word", "at", "papers"]) λ_ _ _ _ _ _ us hl=>match us,hl with | [_,_,_,_],_=>rfl
 obtain ⟨_,a9,F9⟩:=df d9;have b9:=F9.binds (ps:=["_law_script"]) λ_ _ _ _ _ _ us hl=>match us,hl with | [_],_=>rfl
 obtain ⟨_,a10,F10⟩:=df d10;have b10:=F10.binds (ps:=["_law_pen_here", "_law_many"]) λ_ _ _ _ _ _ us hl=>match us,hl with | [_,_],_=>rfl
 obtain ⟨_,a11,F11⟩:=df d11;have b11:=F11.binds (ps:=[]) λ_ _ _ _ _ _ us hl=>match us,hl with | [],_=>rfl
 obtain ⟨_,a12,F12⟩:=df d12;have b12:=F12.binds (ps:=["_law_pen_here", "_law_rest", "_law_most"]) λ_ _ _ _ _ _ us hl=>match us,hl with | [_,_,_],_=>rfl
 obtain ⟨_,a13,F13⟩:=df d13;have b13:=F13.binds (ps:=["_law_pen_here", "_law_purse", "_law_deep", "_law_tongue"]) λ_ _ _ _ _ _ us hl=>match us,hl with | [_,_,_,_],_=>rfl
 obtain ⟨_,a14,F14⟩:=df d14;have b14:=F14.binds (ps:=["_law_pen_here", "_law_shape_here"]) λ_ _ _ _ _ _ us hl=>match us,hl with | [_,_],_=>rfl
 obtain ⟨_,a15,F15⟩:=df d15;have b15:=F15.binds (ps:=["_law_paper_here"]) λ_ _ _ _ _ _ us hl=>match us,hl with | [_],_=>rfl
 obtain ⟨_,a16,F16⟩:=df d16;have b16:=F16.binds (ps:=["_law_thing"]) λ_ _ _ _ _ _ us hl=>match us,hl with | [_],_=>rfl
 obtain ⟨_,a17,F17⟩:=df d17;have b17:=F17.binds (ps:=["_law_parts", "_law_papers"]) λ_ _ _ _ _ _ us hl=>match us,hl with | [_,_],_=>rfl
 obtain ⟨_,a18,F18⟩:=df d18;have b18:=F18.binds (ps:=["_law_shape_here", "_law_paper_here"]) λ_ _ _ _ _ _ us hl=>match us,hl with | [_,_],_=>rfl
 obtain ⟨_,a19,F19⟩:=df d19;have b19:=F19.binds (ps:=["_law_pen_here", "_law_papers"]) λ_ _ _ _ _ _ us hl=>match us,hl with | [_,_],_=>rfl
 obtain ⟨_,a20,F20⟩:=df d20;have b20:=F20.binds (ps:=["_law_pen_here", "_law_some_here", "_law_paper_here"]) λ_ _ _ _ _ _ us hl=>match us,hl with | [_,_,_],_=>rfl
 obtain ⟨_,a21,F21⟩:=df d21;have b21:=F21.binds (ps:=["_law_pen_here", "_law_some_here", "_law_paper_here"]) λ_ _ _ _ _ _ us hl=>match us,hl with | [_,_,_],_=>rfl
 obtain ⟨_,a22,F22⟩:=df d22;have b22:=F22.binds (ps:=["_law_shape_here", "_law_word", "_law_paper_here"]) λ_ _ _ _ _ _ us hl=>match us,hl with | [_,_,_],_=>rfl
 obtain ⟨_,a23,F23⟩:=df d23;have e:=hfa.symm.trans (PySem.W.mg_of X G a23);cases e
 obtain ⟨oc,od,kV23,dc23,pm23,an23,cd23,ct23,sl,rfl,lk,hc⟩:=id F23.ex;have b23:=F23.binds (ps:=["_law_script"]) λ_ _ _ _ _ _ us hl=>match us,hl with | [_],_=>rfl
 have M:Nm mg:=⟨PySem.W.mg_none_of X G z1,PySem.W.mg_none_of X G z2,PySem.W.mg_none_of X G z3,PySem.W.mg_none_of X G z4,PySem.W.mg_none_of X G z5,PySem.W.mg_none_of X G z6,PySem.W.mg_none_of X G z7,PySem.W.mg_none_of X G z8,PySem.W.mg_none_of X G z9,PySem.W.mg_none_of X G z10,PySem.W.mg_none_of X G z11,PySem.W.mg_none_of X G z12⟩;refine ⟨PySem.W.fnOf "law" "law" (a0o (top 25)) (jd (top 25)) (bc (top 25)) .none kV23 dc23 pm23 an23 cd23 ct23,λs v=>.of_eq rfl,λbase _ _=>?_⟩;have D_0:Dn l.prog w K mg base 1 "is_number" ["thing"] (nj K 1 (K10.qx)) _ _:=⟨o8 F1 ao0 (m_0 M),PySem.W.mg_of X G a1,F1.kp,b1⟩
 have D_1:Dn l.prog w K mg base 2 "is_number_from" ["thing", "low", "high"] (nj K 3 (K10.j5)) _ _:=⟨o8 F2 ao1 (m_1 D_0 (by decide)),PySem.W.mg_of X G a2,F2.kp,b2⟩
 have D_2:Dn l.prog w K mg base 1 "is_row" ["thing", "low", "high"] (nj K 3 (K10.rz)) _ _:=⟨o8 F3 ao2 (m_2 M),PySem.W.mg_of X G a3,F3.kp,b3⟩;have D_5:Dn l.prog w K mg base 1 "end_of_one" ["signs", "word", "at", "sign"] (nj K 4 (K10.n6)) _ _:=⟨o8 F6 ao5 (m_5 M),PySem.W.mg_of X G a6,F6.kp,b6⟩;have D_6:Dn l.prog w K mg base 1 "parts_for" ["shape", "count"] (nj K 2 (K10.m8)) _ _:=⟨o8 F7 ao6 (m_6 M),PySem.W.mg_of X G a7,F7.kp,b7⟩;obtain ⟨D_4,D_7⟩:=d_4 (P:=l.prog) (w:=w) (base:=base) F5 (PySem.W.mg_of X G a5) F5.kp b5 F8 (PySem.W.mg_of X G a8) F8.kp b8 M D_5 D_1 D_2 D_6 11
 have D_3:Dn l.prog w K mg base 14 "taking_holds" ["shape", "word", "paper"] (nj K 3 (K10.dq)) _ _:=⟨o8 F4 ao3 (m_3 M D_4 (by decide)),PySem.W.mg_of X G a4,F4.kp,b4⟩
 have D_8:Dn l.prog w K mg base 1 "_law_pen" ["_law_script"] (nj K 1 (PN.lz)) _ _:=⟨o8 F9 ao8 (m_8 ),PySem.W.mg_of X G a9,F9.kp,b9⟩;have D_9:Dn l.prog w K mg base 1 "_law_take" ["_law_pen_here", "_law_many"] (nj K 2 (PN.ao)) _ _:=⟨o8 F10 ao9 (m_9 M),PySem.W.mg_of X G a10,F10.kp,b10⟩;have D_10:Dn l.prog w K mg base 1 "_law_signs" [] (nj K 0 (PN.jf)) _ _:=⟨o8 F11 aka (ap1 ),PySem.W.mg_of X G a11,F11.kp,b11⟩;have D_11:Dn l.prog w K mg base 2 "_law_some" ["_law_pen_here", "_law_rest", "_law_most"] (nj K 3 (PN.gw)) _ _:=⟨o8 F12 akb (ap2 M D_9 (by decide)),PySem.W.mg_of X G a12,F12.kp,b12⟩
 have D_12:=al8 (P:=l.prog) (w:=w) (base:=base) F13 (PySem.W.mg_of X G a13) F13.kp b13 M D_11 D_9 5;have D_13:=al9 (P:=l.prog) (w:=w) (base:=base) F14 (PySem.W.mg_of X G a14) F14.kp b14 M D_9 5;have D_14:=ala (P:=l.prog) (w:=w) (base:=base) F15 (PySem.W.mg_of X G a15) F15.kp b15  5;have D_15:Dn l.prog w K mg base 1 "_law_number" ["_law_thing"] (nj K 1 (SHD.m5)) _ _:=⟨o8 F16 akf (ap6 M),PySem.W.mg_of X G a16,F16.kp,b16⟩;obtain ⟨D_16,D_17⟩:=anf (P:=l.prog) (w:=w) (base:=base) F17 (PySem.W.mg_of X G a17) F17.kp b17 F18 (PySem.W.mg_of X G a18) F18.kp b18 M D_15 11
 have D_18:Dn l.prog w K mg base 2 "_law_bent_papers" ["_law_pen_here", "_law_papers"] (nj K 2 (K10.gm)) _ _:=⟨o8 F19 aki (ap9 M D_9 (by decide)),PySem.W.mg_of X G a19,F19.kp,b19⟩
 have D_19:Dn l.prog w K mg base 3 "_law_bent" ["_law_pen_here", "_law_some_here", "_law_paper_here"] (nj K 3 (K10.lq)) _ _:=⟨o8 F20 akj (apa M D_18 (by decide) D_9 (by decide)),PySem.W.mg_of X G a20,F20.kp,b20⟩
 have D_20:=alb (P:=l.prog) (w:=w) (base:=base) F21 (PySem.W.mg_of X G a21) F21.kp b21 M D_19 D_9 5;have D_21:Dn l.prog w K mg base 15 "_law_right" ["_law_shape_here", "_law_word", "_law_paper_here"] (nj K 3 (K10.j4)) _ _:=⟨o8 F22 akl (apc M D_17 (by decide) D_3 (by decide)),PySem.W.mg_of X G a22,F22.kp,b22⟩
 have D_22:Dn l.prog w K mg base 16 "law" ["_law_script"] (nj K 1 (K10.aee)) _ _:=⟨o8 F23 akm (apd M D_20 (by decide) D_13 (by decide) D_8 (by decide) D_21 (by decide) D_14 (by decide) D_12 (by decide) D_10 (by decide) D_11 (by decide) D_9 (by decide) D_17 (by decide) D_3 (by decide)),PySem.W.mg_of X G a23,F23.kp,b23⟩
 exact D_22.ok.imp alc
theorem walk{l:PySem.W.OpenLaw}{q:Program}{loose:List Str}{XP:(Str->Option Value)->Heap->Prop}{YP:World->Heap->Prop}{d:DefRec}{K:Params->PySem.W.Frag}(hn:l.most=some 63)(hdf:d.params.defaults=[])
  (hY:∀ (w:World) (h:Heap),YP w h->(K w.params).In h)
  (F:∀ (w:World) (mg:Str->Option Value) (fa:Addr) (h:Heap),(K w.params).In h->h.Ns mainGlobals mg->mg d.name=some (.ref fa)->
   ∃ fd:FuncData,(∀ (s:Shared) (u:Value),BindsTo s fd ⟨[u],[]⟩ [("_law_script",u)])/\∀ base:Heap,(K w.params).In base->base.Ns mainGlobals mg->FnOk l.prog w (K w.params) mg base CX0 16 fa fd ["_law_script"] (aef (K w.params))) :
  PySem.W.WalkO q loose XP YP l.row.toRowW d [] (λf vs=>PySem.call f vs) :=
 L2.ag5 (n:=63) (k:=16) (x := "_law_script") (CX:=λ_=>CX0) (sp:=λw=>aef (K w.params)) hn (by decide) hdf ⟨rfl,by decide,by decide,rfl⟩ hY F (λ_ _ a ns hl hO hS=>⟨a,ns,rfl,ald hO hS,hl,λ_=>rfl⟩) λ_ _ _ _ _ z=>z
end K10
open PySem PySem.W PyProof.Rows
theorem K10.said:PySem.Challenge.rw_nearreach_k10_takings_forged.wellSaid=true:=by kernel_rfl
noncomputable def K10.hq:Program:=view PySem.Challenge.pw_nearreach_k10_takings_forged [PySem.Challenge.pw_nearreach_k10_takings_forged.main.body.length - 1]
noncomputable def K10.hl:List Str:=PySem.Challenge.pw_nearreach_k10_takings_forged.boundNames
local macro_rules | `(tactic| o_head $H) => `(tactic| refine PySem.W.holds_open (q:=K10.hq) (loose:=K10.hl) (Xt:=fun _=>true) (XP:=fun _ _=>True) (Yf:=Hook.obs $H) (Ya:=Hook.val $H) (YP:=Hook.says $H) (N:=20000) ?hl (Hook.of $H) (Hook.keeps $H) (fun _ _=>trivial) (fun _ _ _ _ _=>trivial) (by rfl) (by rfl) (by rfl) (fun _ _=>recFacts_nil rfl) (by rfl) (by assumption) (by decide +kernel) ⟨rfl,rfl,rfl,rfl,rfl,by decide +kernel⟩ ?hw ?hc)
set_option maxRecDepth 100000 in
set_option maxHeartbeats 0 in
theorem PySem.Challenge.cw_nearreach_k10_takings_forged_holds : PySem.Challenge.rw_nearreach_k10_takings_forged.Holds := by
 w_on;refine holds_law K10.said fun said=>?_;k_head
 (case hw=>w_witness2)
 (case hl=>intro w;kernel_rfl)
 k_fill
 refine K10.walk (l:=PySem.Challenge.rw_nearreach_k10_takings_forged) rfl rfl (fun w h Y=>PySem.W.kIn_of Y) ?F
 case F =>
  intro w mg fa h KX G hmg
  refine' K10.ale KX G hmg ?_ ?_ ?_ ?_ ?_ ?_ ?_ ?_ ?_ ?_ ?_ ?_ ?_ ?_ ?_ ?_ ?_ ?_ ?_ ?_ ?_ ?_ ?_ ?_ ?_ ?_ ?_ ?_ ?_ ?_ ?_ ?_ ?_ ?_ ?_
  all_goals first | k_is | exact ⟨_,_,_,_,_,_,_,_,_,by k_is,by k_is,by k_is,by k_is⟩ | skip
